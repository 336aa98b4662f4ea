import PyProof.Rows.All
import Wide.All
import OpenK.AllK
import Wide.FinOn
import Lean
import PyProof.EqAt
import PyProof.EqKinds
import PyProof.TupleCall
import PySem.Challenge.RW_sideloom_k68_woven_trees
set_option Elab.async false
set_option linter.all false
set_option autoImplicit true
set_option maxRecDepth 100000
def O{a:α}:a=a:=rfl
def Z{p:Prop}(h:p:=by lia):p:=h
def ca{p:Prop}(h:p:=by decide):p:=h
def on{p:Prop}(h:p:=by simp):p:=h
def pv:True:=trivial
def XU:=@absurd
def XT:=@if_pos
def XR:=@if_neg
set_option tactic.hygienic false
abbrev VS:=PySem.Value->PySem.Shared->Prop
abbrev LL:=List (List Int)
abbrev LI:=List Int
abbrev LO:=List (PySem.Addr×PySem.Obj)
abbrev LA:=List (PySem.Str×PySem.Addr)
abbrev SV:=PySem.Str->Option PySem.Value
abbrev LV:=List PySem.Value
abbrev FG:=PySem.W.Frag
abbrev AV:=Array (Option PySem.Value)
abbrev OA:=Option PySem.Addr
open Pure renaming pure->OF
open PySem.Builtin.Range renaming rangeSize->OG,small->Pj
open PySem.Str renaming ofString->OI
open PySem.Value renaming ref->OL,none->OW,type->Pq,bool->PB,int->QY,isStrOf->Sw,str->Td
open PySem.PyData renaming keyHash->ON
open PySem.Builtin.Tuple renaming tupleExact->OO,tupleItemsOf->Qt,tupleTooMany->Qu,tupleIsExact->Sn
open PySem.NameKind renaming free->OT,cell->Su
open PySem.Builtin.List renaming listExtendWith->OU,listTooLong->Pb,listSameRef->Pi,listFitsIndex->Pm,listLengthHint->Qq,listItems->Tb
open False renaming elim->OV
open Sum renaming inr->Pf,inl->Qj
open PySem.Builtin.Slice renaming slicePlaces->Po,sliceAdjust->PF,sliceApplied->Qs,slicePartIndex->RU,sliceFields->SI
open PySem.Builtin.SmallTypes renaming nextOf->Pp,newRecord->RV
open MonadExcept renaming tryCatch->PQ
open PySem.SeqAt renaming EqAt->PV
open ForInStep renaming yield->Qg
open ToString renaming toString->Qm
open List renaming length_map->ag,getD_eq_getElem?_getD->aP,mem_of_getElem?->aE,getElem?_eq_some_iff->aY,length_append->aF,getElem?_eq_getElem->bc,mem_singleton->aI,mem_cons->aB,mem_cons_of_mem->aW,map_append->aG,length_take->aQ,size_toArray->aZ,mem_cons_self->bg,getElem?_map->bh,mem_append_right->bK,not_mem_nil->bf,getElem?_append_right->cM,getElem?_append_left->cN,take_of_length_le->cq,length_drop->bO,take_length->bR,mem_map->bq,length_replicate->dC,mem_append->bY,getElem?_eq_none_iff->fD,map_map->bJ,getElem?_set->cW,getElem?_replicate->fI,eraseIdx_eq_take_drop_succ->jx,replicate_succ->eR,map_cons->cO,all_cons->cP,mem_append_left->fH,lookup_cons->dR,length_range->eI,length_set->dE,length_singleton->gJ,append_nil->ef,flatten_cons->gk,getElem?_set_self->iR,all_eq_true->gq,eq_nil_of_length_eq_zero->lX,getElem?_eq_none->jr,mem_filter->fZ,nodup_cons->gi,set_eq_take_append_cons_drop->oT,append_assoc->im,length_reverse->jp,mem_or_eq_of_mem_set->mF,length_filter_le->kQ,getElem?_set_ne->jK,take_add_one->jB,foldl_cons->ip,getElem?_reverse->lO,getElem?_of_mem->mx,length_eraseIdx->mO,getElem?_take_of_lt->ny,reverse_cons->jT,foldl_append->kH,getElem_mem->kj,take_append_of_le_length->so,pairwise_cons->lV,prefix_append->mQ,getElem?_toArray->nN,mem_iff_getElem?->nV,getElem?_mapIdx->oo,mem_range->jJ,drop_eq_getElem_cons->rO,take_zero->kP,getElem?_range->oj,length_pos_iff->pO,of_mem_zip->ly,forIn_cons->lQ,length_mapIdx->pN,flatten_replicate_singleton->yA,length_pos_of_mem->tT,eraseIdxIfInBounds_toArray->uX,take_append_drop->sH,cons_append->nT,any_eq_true->nY,mem_of_mem_drop->sK,any_cons->lE,filterMap_cons->pU,nil_append->nE,map_congr_left->rH,perm_append_singleton->xU,map_replicate->sV,getElem?_zip_eq_some->wG,set_eq_of_length_le->yN,filter_cons_of_pos->xw,filter_cons_of_neg->xx,length_eq_zero_iff->AS,drop_length->rP,isEmpty_iff->rQ,prefix_refl->tO,range_succ_eq_map->wa,drop_of_length_le->yq,dropLast_eq_take->xa,getElem_toArray->s0a,mem_of_mem_take->s0d,take_left->s0i,mem_filterMap->s0s,zip_cons_cons->s1c,getElem?_take->s1d,map_set->s1m,replicate->Os,range->OB,length_cons->OM,map->Pc,length->Ph,find?_cons->Pl,lookup->Px,foldl->QO,ext_getElem?->Re,take_sublist->Rf,map_reverse->Ro,perm_middle->Rs,all_append->RD,length_nil->RE,range_succ->RF,drop_zero->RW,map_drop->So,map_take->Sq,all_map->SM,map_nil->SN,zipWith->SQ
open PySem renaming wpAny_bind->ae,wpAny_pure->au,wpAny_newObj_type->dg,mem_of_lookup->dQ,builtinLookup_eq_fast->eV,typeLookup_type->eU,wpAny_call_entry->fJ,wpAny_mono->cz,wpAny_truthy_bool->ga,wpAny_callSpecial?_slot->ja,wpAny_holding->eK,wpAny_field->dD,plainId_quiet->fN,codeAny_builtin->gK,wpAny_of_eq->eW,wpAny_specialOf->iu,wpAny_Call_Name_kw->jP,call_meets->fK,isSubtype_type->jf,wpAny_seqItems->jg,wpAny_typeOf->ig,wpAny_updateSeq->jV,wpAny_standAt->iS,wpAny_tryCatch->jZ,wpAny_isInstance->lK,wpAny_passesOwn->lg,wpAny_pyIter_tuple->nQ,wpAny_pyIter_enum->nR,wpAny_setField->lM,codeAny_extend_loopS->qK,wpAny_attempt->lL,wpAny_execs_nil->mV,sizeLine_eq->jO,wpAny_letOwnedTupleGo_enum->vG,codeAny_mono->lx,wpAny_binaryOp_repeat_ref->uZ,arm_evalThenUse_ListComp->vL,wpAny_pyNext_enum_itemD->vF,noFill_tuple_add->qr,wpAny_pyNext_range_end->uk,wpAny_pyIter_rangeiter->um,wpAny_storeName_local->tW,name_of_addr->nr,codeAny_call_function->uE,concat_meets->nz,exec_Assign_Name_used->vK,typeIs_int->lG,wpAny_rule->lN,wpAny_storeName_cell->tX,fitsIndex_both->s0f,wpAny_letGo->s0n,wpAny_pyIter_range->s0r,seq_tuple_add->s0u,nums_intItems->s1a,wpAny_load->s1g,seqIndex_neg->s1i,seqIndex_of->s1o,numAt_eq->s1r,Addr->On,Shared->Oo,wpAny->Op,sizeLine->Oq,model->Ou,Program->Ov,World->Ow,Stmt->Ox,Around->Oy,Heap->Oz,mainGlobals->OC,NameKind->OD,starEach->OE,cellsFrom->OH,rawInt->OJ,FuncData->OP,compareOp->OR,closureFor->OS,binaryOp->OX,relabel->OY,foldedSetIterable->OZ,Arguments->Pa,bindArgs->Pe,backTo->Pk,pyNext->Pn,typeLookup->Ps,codeAny->Pt,cLine->Pu,Paired->Pv,letOwnedTupleGo->Pw,bootBuiltins->Py,holding->Pz,sliceBounds->PD,wpAny_loadPart'->PH,assign->PJ,seqItems?->PL,swapsWith->PP,updateSeq->PR,builtinsNs->PX,defaultsOf->PY,getItem->PZ,IsPart->Qa,bindC->Qb,bindL->Qc,InCallC->Qd,Keyword->Qf,assignEach->Qh,GenState->Qi,callerA->Qk,firstArgMember->Ql,valueAt->Qn,CmpOp->Qo,TriplesOk->Qr,behindInMarks->Qw,sysModules->Qy,standAt->Qz,argsOk->QC,seqIndex?->QG,storeName->QH,IsRangeIter->QI,subscripted->QJ,BindsTo->QK,ItemsOf->QL,newList->QM,IntMulOk->QN,Operator->QP,qualnameIn->QR,ExceptHandler->QS,attributeBase->QT,comprehension->QU,swappedStores->QV,swapsWithSole->QW,Result->QX,WalksS->QZ,cellOf->Ra,execs->Rb,field->Rc,list_append->Rh,init_tuple_lookup->Ri,object_init_meets->Rj,wpAny_pyIter_list->Rk,wpAny_sequenceKey->Rl,keywordEach->Rm,seqSlot_of->Ru,annTrees->Rv,checkBuiltinCall->Rw,compPost->Rx,entryFor_of_tree->Ry,rule->Rz,wpAny_execs_cons->RA,BoolOp->RB,Meets->RG,Moved->RH,call->RJ,again->RL,atKey->RM,codeAny_of_tree->RN,pushCells_keeps->RO,pyIter->RP,theTreesLotGoes->RQ,typeIs_str->RR,wpAny_Name->RS,wpAny_call->RT,callType_codes->RY,codeAmong_snoc->RZ,collect->Sa,isSubtype_stop->Sb,madeHere_tuple->Sc,newFunctionEnv->Sd,recursionLimit->Se,sub_tuple_self->Sg,wpAny_runValue->Sh,firstIter->Si,lastMarks->Sj,noteFrame->Sk,call_list_seq->Sy,evalPart_none->Sz,eval_ListComp->SB,intBits_le_64->SD,wpAny_handled->SH,Drawn->SJ,IsEnum->SL,backToKw->SR,compEnvC->SU,entryFor->SW,newExc->SX,newTuple->SY,revObj->SZ
open PySem.Heap renaming get?_push_of_some->aO,get?_push_size->bn,lt_size->aM,get?_update_other->eQ,get?_update_self->ik,size_push->jc
open Nat renaming le_refl->ao,lt_of_lt_of_le->bG,le_of_ble_eq_true->cG,ne_of_lt->be,zero_le->bP,lt_succ_of_lt->eh,le_trans->cL,min_eq_left->eE,lt_irrefl->dM,le_of_lt->dN,lt_succ_self->jd,sub_self->gS,succ_le_succ->lH,zero_lt_succ->oa,lt_of_le_of_lt->qD,succ_ne_self->qP,lt_or_ge->pH,ne_of_gt->s1h,mul_comm->s1j,lt_trans->s1k,le_of_eq->s1l
open Bool renaming and_eq_true->bp,false_ne_true->bN,or_eq_true->iF,and_eq_true_iff->mi,false_eq_true->lT,false_or->jt,eq_iff_iff->lr,not_eq_true'->oz,eq_false_iff->pJ,and_false->lW,false_and->s0e,not_eq_false'->s1f,true->Oi,false->Ol,noConfusion->Om,true_and->Sm
open Option.some renaming inj->bv,injEq->oF
open PyProof.Rows renaming callWith_type1->gh,slot_tuple_getitem->nA,subscriptTail_builtinR->uO,entry_tuple_getitem->s0k,args_tuple_getitem->s0v,len_tuple->s0w,boot_reversed->s0y,envOfC->Pg,AllBare->PU,IntsAre->Qe,IsTup->Qp,subscriptTail->Qx,Call_->QD,callWith_builtin1->RI,Subscript_->RK,boot_enumerate->RX,slicePart_none->Sf,getItem_tuple->SC,tupleItemsOf_->SE,seqObj->Ta
open Int renaming emod_lt_of_pos->fY,emod_nonneg->fX,mul_le_mul_of_nonneg_left->mE,toNat_of_nonneg->iH,mul_le_mul_of_nonneg_right->oX,fdiv_eq_ediv_of_nonneg->ng,le_trans->kK,le_refl->ka,fmod_eq_emod_of_nonneg->uo,mul_comm->oR,mul_ediv_self_le->s0c,mul_le_mul->s0h,mul_one->s0j,one_mul->s0o,natCast_nonneg->s0t,mul_assoc->s1e,toNat_natCast->Ot,ofNat->QE,ediv_le_self->Rn,ediv_nonneg->RC,ediv_one->SK
open PySem.Around renaming under_plainId->gM,frames_deeper->uC
open Option renaming isSome_iff_exists->iY,map_eq_some_iff->kE,some->Oh,none->Oj,map_some->QF,getD_none->Rt
open PySem.F renaming plainAttrs_list->jy,plain_max_loop->jm,slot_tuple_iterator_next->nO,args_object_init_2->nI,args_tuple_add_2->qv,slot_list_extend->rX,entry_tuple_add->qu,slot_tuple_add->qt,entry_max_loop->qS,plain_list_iadd->nL,plain_tuple_new->nM,args_tuple_iterator_next_1->vA,slot_int_rmul->nG,plain_extend_loop->qJ,entry_tuple_iterator_next->vz,args_tuple_mul_2->re,entry_tuple_mul->rb,slot_list_append->xh,type_list_append->xj,type_list_extend->xk,slot_tuple_mul->qZ,entry_proto_collect->vx,plain_proto_collect->vy,slot_enumerate_next->vE,slot_list_pop->xc,type_list_pop->xg,args_list_append_2->uW,entry_list_append->s0l,entry_object_init->s0m,slot_list_append->s0x,typeCall_tuple_1->s0z
open PySem.Obj renaming data_mapFields->jU,isFreed_of_fields->qH,mapSeq->Pd,mapFields->Qv,cls_mapFields->Rg
open Ne renaming symm->cy
open PySem.W renaming cellsFrom_some->jQ,Frag->QB
open Array renaming getElem?_eq_getElem->qL,getElem?_toList->qA,getElem?_eq_some_iff->vt,toArray_toList->s0b,length_toList->OQ,toList->QA,ext->Tc
open PySem.AutoSeq1 renaming wpAny_loadPart'->qO,idx_int->qN
open And renaming intro->gP
open LawfulBEq renaming eq_of_beq->ij
open PySem.Heap.SameBut renaming update->qG
open PySem.PassesOwn renaming never->oM
open PySem.Calls renaming Name_function_global->tY,spliced_cons->qk,spliced_nil->qj,callWith_builtin->uR
open PyProof renaming noPylong_of_log2->vh
open List.cons renaming inj->nW
open Prod.mk renaming injEq->oG
open PySem.SeqAt.EqAt renaming same->qz,int_str->s0p,str_int->s0q,of_refs->s1b
open PySem.Moved renaming drop_new->s0g
open Sum.inr renaming inj->s1n
open PySem.ItemsOf renaming nil->s1p
open LawfulMonad renaming pure_bind->s1q
def aC:=@of_decide_eq_true
def bD:=@decide_eq_false
def dh:=@decide_eq_true_eq
def cn:=@decide_eq_true
def bd:=@or_false
def fW:=@of_decide_eq_false
def bw:=@congrArg
def jW:=@beq_self_eq_true
def pR:=@beq_eq_false_iff_ne
def eO:=@if_true
def wF:=@decide_eq_false_iff_not
def qi:=@decide_eq_decide
def iZ:=@if_false
section
set_option compiler.extract_closed false
set_option hygiene false

set_option hygiene true
noncomputable section
namespace _L
open PySem PySem.Spec PyProof.Rows
noncomputable abbrev TM:=Sum Int Str
noncomputable def mS:TM->Value->Bool
 |.inl k,v=>Value.isInt k v
 |.inr x,v=>Sw x v
noncomputable def AW(w:Ow):TM->Int
 |.inl k=>hashInt k
 |.inr x=>hashStr w x
theorem gF:∀ {k:TM}{v:Value},mS k v=Oi->(∃i t,k=Qj i/\v=QY i t)\/(∃x t,k=Pf x/\v=Td x t)
 |.inl i,v,h=>by
  obtain⟨t,e⟩:=Value.isInt_shape (k:=i) (v:=v) h;exact .inl ⟨i,t,O,e⟩
 |.inr x,v,h=>by
  obtain⟨t,e⟩:=Value.isStrOf_shape (x:=x) (v:=v) h;exact .inr ⟨x,t,O,e⟩
def pQ(x:Str)(t:Tok):mS (.inr x) (.str x t)=Oi:=by simp[mS,Sw]
def AX(a b:Int):decide ((Qj a:TM)=Qj b)=(a == b):=by
 by_cases e:a=b
 .subst e;simp
 .have h:¬(Qj a:TM)=Qj b:=λ q=>e (Sum.inl.inj q);rw[bD h];exact(pR.mpr e).symm
def AY(a b:Str):decide ((Pf a:TM)=Pf b)=decide (a=b):=by
 by_cases e:a=b
 .subst e;simp
 .have h:¬(Pf a:TM)=Pf b:=λ q=>e (s1n q);rw[bD h,bD e]
def AZ(a:Int)(b:Str):decide ((Qj a:TM)=Pf b)=Ol:=bD (λ q=>nomatch q)
def Ba(a:Str)(b:Int):decide ((Pf a:TM)=Qj b)=Ol:=bD (λ q=>nomatch q)
noncomputable def pS(prog:Ov)(w:Ow):PySem.KeyKind prog w TM where
 is:=mS
 hash:=AW w
 inj:=λ v a b ha hb=>by
  rcases gF ha with ⟨i,t,rfl,rfl⟩|⟨x,t,rfl,rfl⟩
  .rcases gF hb with ⟨j,u,rfl,e⟩|⟨y,u,rfl,e⟩
   .injection e with e1 _;rw[e1]
   .exact nomatch e
  .rcases gF hb with ⟨j,u,rfl,e⟩|⟨y,u,rfl,e⟩
   .exact nomatch e
   .injection e with e1 _;rw[e1]
 byValue:=λ k v h=>by
  rcases gF h with ⟨i,t,rfl,rfl⟩|⟨x,t,rfl,rfl⟩<;>rfl
 pyHash:=λ hv h=>by
  rcases gF hv with ⟨i,t,rfl,rfl⟩|⟨x,t,rfl,rfl⟩
  .exact wpAny_pyHash_int h
  .exact wpAny_pyHash_str h
 eqBool:=λ hu hv h=>by
  rcases gF hu with ⟨i,t,rfl,rfl⟩|⟨x,t,rfl,rfl⟩
  .rcases gF hv with ⟨j,u,rfl,rfl⟩|⟨y,u,rfl,rfl⟩
   .rw[AX] at h;exact wpAny_eqBool_int h
   .rw[AZ] at h;exact s0p i t y u _ _ _ _ h
  .rcases gF hv with ⟨j,u,rfl,rfl⟩|⟨y,u,rfl,rfl⟩
   .rw[Ba] at h;exact s0q x t j u _ _ _ _ h
   .rw[AY] at h;exact wpAny_eqBool_str h
 «strs»:=λ k x t v h=>by
  rcases gF h with ⟨i,u,rfl,e⟩|⟨y,u,rfl,e⟩
  .exact nomatch e
  .injection e with e1 _
   subst e1;cases v<;>rfl
inductive V where
 |non|bl (b:Bool)|int (i:Int)|str (x:Str)|byt (b:Array UInt8)|flt (b:UInt64)|ref (a:On)|ty (n:String)
 deriving DecidableEq
noncomputable def RelV:V->Value->Prop
 |.non,u=>u=OW
 |.bl b,u=>u=PB b
 |.int i,u=>∃t,u=QY i t
 |.str x,u=>∃t,u=Td x t
 |.byt b,u=>∃t,u=Value.bytes b t
 |.flt b,u=>∃t,u=Value.float b t
 |.ref a,u=>u=OL a
 |.ty n,u=>u=Pq n
noncomputable abbrev Vals:List V->LV->Prop:=Pv RelV
def Vals.length(r:Vals xs us):xs.length=us.length:=Paired.length r
theorem Vals.get:∀ {xs:List V}{us:LV}{i:Nat}{x:V},Vals xs us->xs[i]?=Oh x->∃u,us[i]?=Oh u/\RelV x u
 |_,_,_,_,.nil,e=>by simp at e
 |_,_,0,_,.cons r _,e=>by simp at e;subst e;exact⟨_,rfl,r⟩
 |_,_,i+1,x,.cons _ t,e=>by
  obtain⟨u,h1,h2⟩:=Vals.get (i:=i) (x:=x) t (by simpa using e);exact⟨u,by simpa using h1,h2⟩
theorem Vals.set(r:RelV x u):∀ {xs:List V}{us:LV}(i:Nat),Vals xs us->Vals (xs.set i x) (us.set i u)
 |_,_,_,.nil=>.nil
 |_,_,0,.cons _ t=>.cons r t
 |_,_,i+1,.cons q t=>.cons q (Vals.set r i t)
theorem Vals.append:∀ {xs ys:List V}{us ws:LV},Vals xs us->Vals ys ws->Vals (xs++ys) (us++ws)
 |_,_,_,_,.nil,s=>s
 |_,_,_,_,.cons r t,s=>.cons r (Vals.append t s)
theorem Vals.take:∀ {xs:List V}{us:LV}(n:Nat),Vals xs us->Vals (xs.take n) (us.take n)
 |_,_,0,_=>.nil
 |_,_,_+1,.nil=>.nil
 |_,_,n+1,.cons r t=>.cons r (Vals.take n t)
theorem Vals.drop:∀ {xs:List V}{us:LV}(n:Nat),Vals xs us->Vals (xs.drop n) (us.drop n)
 |_,_,0,r=>r
 |_,_,_+1,.nil=>.nil
 |_,_,n+1,.cons _ t=>Vals.drop n t
noncomputable def RelO:Option V->Option Value->Prop
 |some v,Oh u=>RelV v u
 |none,Oj=>True
 |_,_=>False
noncomputable def KV{κ:Type}:List (κ×V)->List (κ×Value)->Prop:=Pv λ(p:κ×V) (q:κ×Value)=>p.1=q.1/\RelV p.2 q.2
noncomputable def kV:TM->V
 |.inl i=>.int i
 |.inr x=>.str x
set_option genInjectivity false in
inductive HO where
 |lst (xs:List V)
 |tup (xs:List V)
 |dK (kvs:List (TM×V))|dT (kvs:List (List TM×V))
 |set (S:Int->Bool) (n:Nat)
 |ins (C dx:On) (fs:List (Str×V))
 |own (x:On)
 |xd (fs:List (Str×V))
 |met (f x:On)
 |rng (lo hi:Int)
 |frz (o:Obj) (u:HO)
 |tbl (ps:Array Value)
 |ext (φ:Oz->Prop)
noncomputable abbrev Hp:=On->Option HO
noncomputable def Ti(H:Hp)(a:On)(o:HO):Hp:=λ b=>if b=a then Oh o else H b
def bU:Ti H a o a=Oh o:=by unfold Ti;rw[XT rfl]
def aA{a b:On}(h:b≠a):Ti H a o b=H b:=by unfold Ti;rw[XR h]
def iQ{H:Hp}(h:H a=Oh o)(h':H b=Oj):a≠b:=by
 intro e;subst e;rw[h] at h';cases h'
noncomputable def TupO(h:Oz)(a:On)(its:Array Value):Prop:=∃o,h.get? a=Oh o/\(o.cls=.type "tuple" /\ ∃n,o.data=.seq its n)/\o.dict=Oj
def TupO.new(h:Oz)(its:Array Value):TupO (h.push { cls:=.type "tuple",data:=.seq its }) h.objs.size its:=⟨_,bn _ rfl,⟨rfl,0,rfl⟩,rfl⟩
def TupO.tup(t:TupO h a its):Qp h a its:=let ⟨o,e,⟨c,n,d⟩,_⟩:=t;⟨o,e,c,n,d⟩
def TupO.lt(t:TupO h a its):a<h.objs.size:=t.tup.lt
section
variable (P:Ov)(w:Ow)
noncomputable def ObjOk(H:Hp)(h:Oz)(a:On):HO->Prop
 |.lst xs=>xs.length<=Oq/\∃(its:LV) (n:Nat),Vals xs its/\h.get? a=Oh { cls:=.type "list",data:=.seq its.toArray n }
 |.tup xs=>xs.length<=Oq/\∃its:LV,Vals xs its/\TupO h a its.toArray
 |.dK kvs=>kvs.length<=Oq/\(a == Qy)=Ol/\∃vs,KV kvs vs/\h.DictOf (pS P w) a vs
 |.dT kvs=>kvs.length<=Oq/\(a == Qy)=Ol/\∃xs:List (List TM×On×Value),
   Pv (λ(p:List TM×V) (q:List TM×On×Value)=>p.1=q.1/\H q.2.1=Oh (.tup (p.1.map kV))/\RelV p.2 q.2.2) kvs xs /\
   ∃o es ep,h.get? a=Oh o/\o.ExactDict/\o.data=.dict es ep/\es.toList=xs.map (entryOfKey (tupleKind (pS P w)))/\(xs.map (·.1)).Nodup
 |.set S n=>h.SetOf (intKind P w) a S n
 |.ins C dx fs=>H dx=Oh (.own a)/\fs.length<=1000/\dx≠a/\h.get? a=Oh (W.instObj C dx) /\
   ∃mA,h.Ns1 dx mA/\(∀f,RelO (fs.lookup f) (mA f))/\PySem.Within mA (fs.map (·.1))
 |.own _=>∃o,h.get? a=Oh o
 |.xd fs=>∃mA,h.Ns1 a mA/\∀f,RelO (fs.lookup f) (mA f)
 |.rng lo hi=>∃t u v,h.get? a=Oh { cls:=.type "range",data:=.fields #[.int lo t,.int hi u,.int 1 v] }
 |.frz o u=>h.get? a=Oh o/\ObjOk H h a u
 |.tbl ps=>h.get? a=Oh { cls:=.none,data:=.fields ps }
 |.met f x=>h.get? a=Oh (W.methodObj (.ref f) (.ref x))
 |.ext φ=>φ h/\(∃o,h.get? a=Oh o)/\∀h1 h2:Oz,φ h1->(∀o,h1.get? a=Oh o->h2.get? a=Oh o)->φ h2
noncomputable def HOk(H:Hp)(h:Oz):Prop:=∀a o,H a=Oh o->ObjOk P w H h a o
end
section
variable {P:Ov}{w:Ow}{H H':Hp}{h h':Oz}{a:On}{o:HO}
def ObjOk.lt(x:ObjOk P w H h a o):a<h.objs.size:=by
 cases o with
 |lst xs=>obtain⟨_,_,_,_,e⟩:=x;exact aM e
 |tup xs=>obtain⟨_,_,_,p⟩:=x;exact p.lt
 |dK kvs|dT kvs=>obtain⟨_,_,_,_,o,_,_,e,_⟩:=x;exact aM e
 |set S n=>obtain⟨o,_,_,_,e,_⟩:=x;exact aM e
 |ins C dx fs=>obtain⟨_,_,_,e,_⟩:=x;exact aM e
 |own y=>obtain⟨_,e⟩:=x;exact aM e
 |xd fs=>obtain⟨_,⟨_,_,_,e,_⟩,_⟩:=x;exact aM e
 |rng lo hi=>obtain⟨_,_,_,e⟩:=x;exact aM e
 |frz ob u=>obtain⟨e,_⟩:=x;exact aM e
 |tbl ps|met f y=>exact aM (show h.get? a=Oh _ from x)
 |ext φ=>obtain⟨_,⟨_,e⟩,_⟩:=x;exact aM e
theorem Paired.mapP{α β:Type}{F G:α->β->Prop}:∀ {l₁:List α}{l₂:List β},Pv F l₁ l₂->(∀a b,F a b->G a b)->Pv G l₁ l₂
 |_,_,.nil,_=>.nil
 |_,_,.cons r t,f=>.cons (f _ _ r) (Paired.mapP t f)
theorem ObjOk.stay(x:ObjOk P w H h a o)(k:∀b u,(b=a\/H b=Oh (.own a))->h.get? b=Oh u->h'.get? b=Oh u)
  (ho:∀b,H b=Oh (.own a)->H' b=Oh (.own a)) (ht:∀b xs,H b=Oh (.tup xs)->H' b=Oh (.tup xs)):ObjOk P w H' h' a o:=by
 induction o with
 |lst xs=>obtain⟨z,its,n,r,e⟩:=x;exact⟨z,its,n,r,k _ _ (.inl rfl) e⟩
 |tup xs=>obtain⟨z,its,r,ob,e,c⟩:=x;exact⟨z,its,r,ob,k _ _ (.inl rfl) e,c⟩
 |dK kvs=>obtain⟨z,y,vs,r,ob,es,ep,e,c⟩:=x;exact⟨z,y,vs,r,ob,es,ep,k _ _ (.inl rfl) e,c⟩
 |dT kvs=>
  obtain⟨z,y,xs,r,ob,es,ep,e,c⟩:=x;exact⟨z,y,xs,Paired.mapP r λ p q z=>⟨z.1,ht _ _ z.2.1,z.2.2⟩,ob,es,ep,k _ _ (.inl rfl) e,c⟩
 |set S n=>obtain⟨ob,es,ep,t,e,c⟩:=x;exact⟨ob,es,ep,t,k _ _ (.inl rfl) e,c⟩
 |ins C dx fs=>
  obtain⟨d,z,ne,e,mA,⟨od,es,ep,e2,c⟩,r⟩:=x;exact⟨ho _ d,z,ne,k _ _ (.inl rfl) e,mA,⟨od,es,ep,k _ _ (.inr d) e2,c⟩,r⟩
 |own y=>obtain⟨ob,e⟩:=x;exact⟨ob,k _ _ (.inl rfl) e⟩
 |xd fs=>obtain⟨mA,⟨od,es,ep,e,c⟩,r⟩:=x;exact⟨mA,⟨od,es,ep,k _ _ (.inl rfl) e,c⟩,r⟩
 |rng lo hi=>obtain⟨t,u,v,e⟩:=x;exact⟨t,u,v,k _ _ (.inl rfl) e⟩
 |frz ob u ih=>obtain⟨e,q⟩:=x;exact⟨k _ _ (.inl rfl) e,ih q⟩
 |tbl ps=>
  have e:h.get? a=Oh { cls:=.none,data:=.fields ps }:=x;show h'.get? a=Oh { cls:=.none,data:=.fields ps };exact k a _ (.inl rfl) e
 |met f y=>
  have e:h.get? a=Oh (W.methodObj (.ref f) (.ref y)):=x;show h'.get? a=Oh (W.methodObj (.ref f) (.ref y));exact k a _ (.inl rfl) e
 |ext φ=>obtain⟨p,⟨o,e⟩,st⟩:=x;exact⟨st _ _ p λ o q=>k _ _ (.inl rfl) q,⟨o,k _ _ (.inl rfl) e⟩,st⟩
def HOk.lt(x:HOk P w H h)(e:H a=Oh o):a<h.objs.size:=(x a o e).lt
def HOk.fresh(x:HOk P w H h)(e:h.objs.size<=a):H a=Oj:=by
 cases q:H a with
 |none=>rfl
 |some u=>exact XU (bG (x.lt q) e) (dM _)
def HOk.kept(x:HOk P w H h)(k:∀b u,h.get? b=Oh u->h'.get? b=Oh u):HOk P w H h':=λ a o e=>
 (x a o e).stay (λ b u _ q=>k b u q) (λ _ q=>q) λ _ _ q=>q
def HOk.laid(x:HOk P w H h)(k:∀b u,h.get? b=Oh u->h'.get? b=Oh u)(hp:h.objs.size<=a)(new:ObjOk P w (Ti H a o) h' a o):HOk P w (Ti H a o) h':=λ b u e=>by
 have hn:=x.fresh hp;by_cases hb:b=a
 .subst hb;rw[bU] at e;cases e;exact new
 .rw[aA hb] at e;exact(x b u e).stay (λ c v _ q=>k c v q) (λ c q=>by rw[aA (iQ q hn)];exact q) λ c xs q=>by rw[aA (iQ q hn)];exact q
end
noncomputable def Rd(H:Hp)(a:On)(u:HO):Prop:=H a=Oh u\/∃o,H a=Oh (.frz o u)
def Rd.ok(r:Rd H a u)(x:HOk P w H h):ObjOk P w H h a u:=by
 rcases r with r|⟨o,r⟩
 .exact x a u r
 .obtain⟨_,q⟩:=x a _ r;exact q
noncomputable def VT:Option HO->Prop
 |some (.lst _)=>True
 |some (.dK _)=>True
 |some (.dT _)=>True
 |some (.set _ _)=>True
 |some (.ins _ _ _)=>True
 |some (.ext _)=>True
 |_=>False
section
variable {P:Ov}{w:Ow}{H:Hp}{h h':Oz}{x e:On}{o':HO}
theorem HOk.write(ok:HOk P w H h)(mu:VT (H x))(he:e=x\/H e=Oh (.own x))(k:∀b u,b≠e->h.get? b=Oh u->h'.get? b=Oh u)(heo:∃u,h'.get? e=Oh u)
  (new:ObjOk P w (Ti H x o') h' x o'):HOk P w (Ti H x o') h':=λ b u q=>by
 have nown:∀c y,H c=Oh (.own y)->c≠x:=λ c y r z=>by subst z;rw[r] at mu;exact mu
 have ntup:∀c xs,H c=Oh (.tup xs)->c≠x:=λ c xs r z=>by subst z;rw[r] at mu;exact mu
 by_cases hb:b=x
 .subst hb;rw[bU] at q;cases q;exact new
 .rw[aA hb] at q;by_cases hbe:b=e
  .have q':H b=Oh (.own x):=by
    rcases he with z|z
    .exact XU (hbe.trans z) hb
    .rw[hbe];exact z
   rw[q] at q';cases q';obtain⟨v,hv⟩:=heo;exact⟨v,by rw[hbe];exact hv⟩
  .refine(ok b u q).stay (λ c v hc r=>k c v ?_ r) (λ c r=>by rw[aA (nown c b r)];exact r) λ c xs r=>by rw[aA (ntup c xs r)];exact r
   rcases hc with rfl|hc
   .exact hbe
   .rintro rfl
    rcases he with z|z
    .exact nown c b hc z
    .rw[hc] at z;cases z;exact hb rfl
end
structure Un (fs ex:List On)(H H':Hp)(h h':Oz):Prop where
 keep:∀b o,h.get? b=Oh o->H b=Oj->b ∉ fs->b ∉ ex->h'.get? b=Oh o
 slot:∀b o,h.get? b=Oh o->H b=Oj->b∈fs->b ∉ ex->∃sl,h'.get? b=Oh { o with slots:=sl }
 free:∀b o,h.get? b=Oh o->H b=Oj->b ∉ ex->H' b=Oj
 there:∀b o,h.get? b=Oh o->b ∉ ex->∃o',h'.get? b=Oh o'
 tups:∀b xs,H b=Oh (.tup xs)->H' b=Oh (.tup xs)
 frzs:∀b o u,H b=Oh (.frz o u)->H' b=Oh (.frz o u)
 tbls:∀b ps,H b=Oh (.tbl ps)->∃more,H' b=Oh (.tbl (ps++more))
section
variable {fs fs' ex ex':List On}{H H1 H2:Hp}{h h1 h2 h':Oz}{a x e:On}{o:HO}
def Un.any(u:Un fs ex H H1 h h1){b:On}(q:h.get? b=Oh ob)(n:H b=Oj)(hx:b ∉ ex):∃sl,h1.get? b=Oh { ob with slots:=sl }:=by
 by_cases hb:b∈fs
 .exact u.slot b ob q n hb hx
 .exact⟨ob.slots,u.keep b ob q n hb hx⟩
def Un.kept(k:∀b u,h.get? b=Oh u->h'.get? b=Oh u):Un fs ex H H h h' :=
 ⟨λ b ob q _ _ _=>k b ob q,λ b ob q _ _ _=>⟨ob.slots,k b ob q⟩,λ _ _ _ n _=>n,λ b ob q _=>⟨ob,k b ob q⟩,λ _ _ q=>q,λ _ _ _ q=>q,λ _ ps q=>⟨#[],by rw[q];simp⟩⟩
def Un.refl:Un fs ex H H h h:=Un.kept λ _ _ q=>q
theorem Un.laid(k:∀b u,h.get? b=Oh u->h'.get? b=Oh u)(hp:h.objs.size<=a)(hn:H a=Oj):Un fs ex H (Ti H a o) h h' where
 keep:=λ b u q _ _ _=>k b u q
 slot:=λ b u q _ _ _=>⟨u.slots,k b u q⟩
 free:=λ b u q n _=>by rw[aA (be (bG (aM q) hp))];exact n
 there:=λ b u q _=>⟨u,k b u q⟩
 tups:=λ b xs q=>by rw[aA (iQ q hn)];exact q
 frzs:=λ b u xs q=>by rw[aA (iQ q hn)];exact q
 tbls:=λ b ps q=>⟨#[],by rw[aA (iQ q hn),q];simp⟩
def Un.write(mu:VT (H x))(he:e=x\/H e=Oh (.own x))(k:∀b u,b≠e->h.get? b=Oh u->h'.get? b=Oh u)(heo:∃u,h'.get? e=Oh u):Un fs ex H (Ti H x o) h h':=by
 have hx:∀b,H b=Oj->b≠x:=λ b n z=>by subst z;rw[n] at mu;exact mu
 have hb:∀b,H b=Oj->b≠e:=λ b n z=>by
  subst z
  rcases he with r|r
  .exact hx b n r
  .rw[n] at r;cases r
 have hm:∀b u,H b=Oh u->¬VT (Oh u)->b≠x:=λ b u q nm z=>by subst z;rw[q] at mu;exact nm mu
 refine⟨λ b u q n _ _=>k b u (hb b n) q,λ b u q n _ _=>⟨u.slots,k b u (hb b n) q⟩,λ b u q n _=>by rw[aA (hx b n)];exact n,λ b u q _=>?_,
  λ b xs q=>by rw[aA (hm b _ q λ z=>z)];exact q,λ b u xs q=>by rw[aA (hm b _ q λ z=>z)];exact q,λ b ps q=>⟨#[],by rw[aA (hm b _ q λ z=>z),q];simp⟩⟩
 by_cases hbe:b=e
 .subst hbe;exact heo
 .exact⟨u,k b u hbe q⟩
end
noncomputable def Uv(h:Oz)(H:Hp):List On:=(OB h.objs.size).filter λ a=>(H a).isSome
noncomputable def fG(h:Oz)(H:Hp):Oz:=W.hideAll h (Uv h H)
def Bb(h:Oz)(H:Hp):(fG h H).objs.size=h.objs.size:=W.hideAll_size _ _
def Bc{h:Oz}{H:Hp}{b:On}(e:h.get? b=Oh o)(n:H b=Oj):(fG h H).get? b=Oh o :=
 W.hideAll_get _ e λ hm=>by
  have q:(H b).isSome=Oi:=(fZ.mp hm).2;rw[n] at q;simp at q
def tU{b:On}(e:(fG h H).get? b=Oh o):h.get? b=Oh o/\H b=Oj:=by
 have e':h.get? b=Oh o:=W.of_hideAll (Uv h H) e;refine⟨e',?_⟩
 cases q:H b with
 |none=>rfl
 |some x=>
  have hm:b∈Uv h H:=fZ.mpr ⟨jJ.mpr (aM e'),by simp[q]⟩;have z:(fG h H).get? b=Oj:=W.hideAll_none (Uv h H) hm;rw[z] at e;cases e
noncomputable def Bd(g h:Oz)(L:On):LO:=(OB h.objs.size).filterMap λ a=>if a=L\/(g.get? a).isSome=Oi then Oj else (h.get? a).map λ o=>(a,o)
noncomputable def Tg(g h:Oz)(L d:On):LO:=(Bd g h L).filter λ p=>decide (p.1≠d)
structure Mod (K:FG)(mg:SV)(base:Oz):Prop where
 kin:K.In base
 glob:base.Ns OC mg
 blt:∃mb,base.Ns PX mb/\∀x:Str,x ≠ "__name__" -> mb x=Py x
 nolimit:base.NoLimit
structure Cx where
 prog:Ov
 w:Ow
 K:FG
 mg:SV
 base:Oz
 A:Oy
 N:List Str
 s₀:Oo
 H₀:Hp
 env:Env
 outer:List Env
 stack:List Env
 ex:List On
 fn:Str->Bool
 calm:Bool
 pn:LO
 xe:VS
noncomputable def Uu(l:List Env):List On:=l.filterMap (·.frame)
noncomputable abbrev Cx.fs(X:Cx):List On:=Uu X.outer
noncomputable def Vz(sc:Scope)(x:Str):Prop:=sc.names.lookup x=Oh .local\/sc.names.lookup x=Oh .cell\/sc.names.lookup x=Oh .free
noncomputable def UH(sc:Scope)(x:Str):Prop:=sc.names.lookup x=Oh .local\/sc.names.lookup x=Oh .cell
noncomputable def Be(env:Env)(h:Oz)(m:SV)(x:Str)(u:Value):Prop :=
 (env.kindOf x=Oh .local/\m x=Oh u)\/((env.kindOf x=Oh .cell\/env.kindOf x=Oh .free)/\∃c,env.cells.lookup x=Oh c/\h.IsCell c (Oh u))
structure Cx.Ok (X:Cx):Prop where
 mod:Mod X.K X.mg X.base
 kind:X.env.scope.kind=.function
 glob:X.env.globals=OC
 blt:X.env.builtins=PX
 above:X.s₀.heap.objs.size<=X.env.locals
 inj:∀x y c,X.env.cells.lookup x=Oh c->X.env.cells.lookup y=Oh c->x=y
 has:∀x,(X.env.kindOf x=Oh .cell\/X.env.kindOf x=Oh .free)->∃c,X.env.cells.lookup x=Oh c
 cab:∀x c,X.fn x=Oi->X.env.cells.lookup x=Oh c->X.s₀.heap.objs.size<=c
 hd:X.calm=Oi->X.A.handled=Oj
 frames:X.A.frames=Oh X.stack
 stk:X.stack=X.outer\/(X.stack=X.env::X.outer/\X.env.frame=Oh X.env.locals)
 exf:∀b∈X.ex,b≠X.env.locals/\∀x c,X.env.cells.lookup x=Oh c->c≠b
 bs:∀b o,X.base.get? b=Oh o->X.s₀.heap.get? b=Oh o/\X.H₀ b=Oj
 bsz:X.base.objs.size<=X.s₀.heap.objs.size
 noex:∀b o,X.base.get? b=Oh o->b ∉ X.ex
 exfs:∀b∈X.ex,b ∉ X.fs
 funs:X.s₀.heap.FunFrames X.base X.outer
 frf:∀b∈X.fs,X.H₀ b=Oj
structure Inv (X:Cx)(Te:LO)(σ:List (Option V))(H:Hp)(s:Oo):Prop where
 ok:X.Ok
 os:s.os=X.s₀.os
 bare:PU s.gens
 base:Un X.fs X.ex X.H₀ H X.s₀.heap s.heap
 loc:∃m,s.heap.Ns X.env.locals m/\∀(i:Nat) (x:Str) (v:V),X.N[i]?=Oh x->σ[i]?=Oh (Oh v)->Vz X.env.scope x->∃u,RelV v u/\Be X.env s.heap m x u
 cell:∀x c,X.env.cells.lookup x=Oh c->∃v,s.heap.IsCell c v
 free:H X.env.locals=Oj
 freeC:∀x c,X.env.cells.lookup x=Oh c->H c=Oj
 pin:∀p∈X.pn++Te,s.heap.get? p.1=Oh p.2/\H p.1=Oj/\p.1≠X.env.locals/\p.1 ∉ X.fs/\∀v,p.2.data≠.cell v
 hok:HOk X.prog X.w H s.heap
 len:σ.length=X.N.length
variable {X:Cx}
section
variable {Te:LO}{σ:List (Option V)}{H H':Hp}{s:Oo}{h':Oz}
def Cx.Ok.nofr(ok:X.Ok){b:On}(e:X.base.get? b=Oh o):b ∉ X.fs:=λ hb=>by
 have:=(ok.funs.mem hb).1;rw[e] at this;cases this
def Inv.bs(I:Inv X Te σ H s):∀b o,X.base.get? b=Oh o->s.heap.get? b=Oh o/\H b=Oj:=λ b o e=>
 ⟨I.base.keep b o (I.ok.bs b o e).1 (I.ok.bs b o e).2 (I.ok.nofr e) (I.ok.noex b o e),I.base.free b o (I.ok.bs b o e).1 (I.ok.bs b o e).2 (I.ok.noex b o e)⟩
def Inv.bk(I:Inv X Te σ H s):∀b o,X.base.get? b=Oh o->s.heap.get? b=Oh o:=λ b o e=>(I.bs b o e).1
def Inv.mod(I:Inv X Te σ H s):Mod X.K X.mg X.base:=I.ok.mod
def Inv.kIn(I:Inv X Te σ H s):X.K.In s.heap:=I.ok.mod.kin.keeps I.bk
def Inv.lt(I:Inv X Te σ H s):X.env.locals<s.heap.objs.size:=let ⟨_,hn,_⟩:=I.loc;hn.lt
def Inv.sz(I:Inv X Te σ H s):X.s₀.heap.objs.size<=s.heap.objs.size:=cL I.ok.above (dN I.lt)
def Inv.nofs(I:Inv X Te σ H s){a:On}(h:s.heap.objs.size<=a):a ∉ X.fs:=λ hb=>by
 obtain⟨_,o,ho,_⟩:=I.ok.funs.mem hb;exact XU (bG (aM ho) (cL I.sz h)) (dM _)
def Inv.cne(I:Inv X Te σ H s):∀x c,X.env.cells.lookup x=Oh c->c≠X.env.locals:=λ x c e z=>by
 obtain⟨v,o,ho,hd⟩:=I.cell x c e;obtain⟨m,⟨o',es,ep,ho',hd',_⟩,_⟩:=I.loc;rw[z,ho'] at ho;cases ho;rw[hd'] at hd;cases hd
def Inv.funs(I:Inv X Te σ H s):s.heap.FunFrames X.base X.outer:=by
 have all:∀(l:List Env),(∀b∈Uu l,b∈X.fs)->X.s₀.heap.FunFrames X.base l->s.heap.FunFrames X.base l:=by
  intro l
  induction l with
  |nil=>intro _ _;trivial
  |cons env r ih=>
   intro hs hl;obtain⟨hk,⟨L,o,hf,hn,ho,hd⟩,hr⟩:=hl;have hL:L∈X.fs:=hs L (by unfold Uu;rw[pU,hf];exact bg);obtain⟨sl,e⟩:=I.base.slot L o ho (I.ok.frf L hL) hL λ z=>I.ok.exfs L z hL;exact⟨hk,⟨L,_,hf,hn,e,hd⟩,ih (λ b hb=>hs b (by unfold Uu;rw[pU,hf];exact aW _ hb)) hr⟩
 exact all X.outer (λ _ hb=>hb) I.ok.funs
def Inv.stack(I:Inv X Te σ H s):s.heap.FunFrames X.base X.stack:=by
 rcases I.ok.stk with e|⟨e,hf⟩
 .rw[e];exact I.funs
 .rw[e];obtain⟨m,hn,_⟩:=I.loc;refine .cons (by rw[I.ok.kind];decide) hf hn ?_ I.funs;exact Heap.get?_none_of_le (cL I.ok.bsz I.ok.above)
def Inv.stkSub(I:Inv X Te σ H s):∀b∈Uu X.stack,b∈X.env.locals::X.fs:=λ b hb=>by
 rcases I.ok.stk with e|⟨e,hf⟩
 .rw[e] at hb;exact aW _ hb
 .rw[e] at hb;unfold Uu at hb;rw[pU,hf] at hb;exact hb
def Inv.stkFree(I:Inv X Te σ H s):∀b∈Uu X.stack,H b=Oj:=λ b hb=>by
 rcases aB.mp (I.stkSub b hb) with e|hb
 .rw[e];exact I.free
 .obtain⟨_,o,ho,_⟩:=I.ok.funs.mem hb;exact I.base.free b o ho (I.ok.frf b hb) λ z=>I.ok.exfs b z hb
theorem Inv.step{t':Nat}{d':SJ}{ch:List On}(I:Inv X Te σ H s)
  (hch:∀b∈ch,(b∈X.ex\/X.s₀.heap.objs.size<=b)/\b≠X.env.locals/\(∀x c,X.env.cells.lookup x=Oh c->c≠b)/\∀p∈X.pn++Te,p.1≠b)
  (keep:∀b o,b≠X.env.locals->b ∉ X.fs->b ∉ ch->s.heap.get? b=Oh o->H b=Oj->h'.get? b=Oh o)
  (slot:∀b o,b≠X.env.locals->b∈X.fs->b ∉ ch->s.heap.get? b=Oh o->H b=Oj->∃sl,h'.get? b=Oh { o with slots:=sl }) (free:∀b o,b ∉ ch->s.heap.get? b=Oh o->H b=Oj->H' b=Oj)
  (there:∀b o,b ∉ ch->s.heap.get? b=Oh o->∃o',h'.get? b=Oh o')
  (tups:∀b xs,H b=Oh (.tup xs)->H' b=Oh (.tup xs)) (frzs:∀b o u,H b=Oh (.frz o u)->H' b=Oh (.frz o u)) (tbls:∀b ps,H b=Oh (.tbl ps)->∃more,H' b=Oh (.tbl (ps++more)))
  (ns:∀m,s.heap.Ns X.env.locals m->h'.Ns X.env.locals m) (hok:HOk X.prog X.w H' h') (hg:PU g') :
  Inv X Te σ H' { s with heap:=h',gens:=g',drawn:=d',toks:=t' }:=by
 have neL:∀b o,X.s₀.heap.get? b=Oh o->b≠X.env.locals:=λ b o e=>be (bG (aM e) I.ok.above)
 have neC:∀b o,X.s₀.heap.get? b=Oh o->b ∉ X.ex->b ∉ ch:=λ b o e hx hb=>by
  rcases(hch b hb).1 with z|z
  .exact hx z
  .exact XU (bG (aM e) z) (dM _)
 have cellK:∀x c,X.env.cells.lookup x=Oh c->∀v,s.heap.IsCell c v->h'.IsCell c v:=λ x c e v ⟨o,ho,hd⟩=>by
  have nch:c ∉ ch:=λ z=>(hch c z).2.2.1 x c e rfl;by_cases hc:c∈X.fs
  .obtain⟨sl,q⟩:=slot c o (I.cne x c e) hc nch ho (I.freeC x c e);exact⟨_,q,hd⟩
  .exact⟨o,keep c o (I.cne x c e) hc nch ho (I.freeC x c e),hd⟩
 refine⟨I.ok,I.os,hg,⟨λ b o e n hb hx=>?_,λ b o e n hb hx=>?_,λ b o e n hx=>?_,λ b o e hx=>?_,λ b xs e=>tups b xs (I.base.tups b xs e),λ b o xs e=>frzs b o xs (I.base.frzs b o xs e),λ b ps e=>?_⟩,?_,λ x c e=>?_,?_,λ x c e=>?_,λ p hp=>?_,hok,I.len⟩
 .exact keep b o (neL b o e) hb (neC b o e hx) (I.base.keep b o e n hb hx) (I.base.free b o e n hx)
 .obtain⟨sl,e1⟩:=I.base.slot b o e n hb hx;obtain⟨sl',e2⟩:=slot b _ (neL b o e) hb (neC b o e hx) e1 (I.base.free b o e n hx);exact⟨sl',e2⟩
 .obtain⟨o',e1⟩:=I.base.there b o e hx;exact free b o' (neC b o e hx) e1 (I.base.free b o e n hx)
 .obtain⟨o',e1⟩:=I.base.there b o e hx;exact there b o' (neC b o e hx) e1
 .obtain⟨m1,e1⟩:=I.base.tbls b ps e;obtain⟨m2,e2⟩:=tbls b _ e1;exact⟨m1++m2,by rw[e2,Array.append_assoc]⟩
 .obtain⟨m,hn,hl⟩:=I.loc;refine⟨m,ns m hn,λ i x v e1 e2 e3=>?_⟩;obtain⟨u,r,l⟩:=hl i x v e1 e2 e3;refine⟨u,r,?_⟩
  rcases l with l|⟨k,c,e,z⟩
  .exact .inl l
  .exact .inr ⟨k,c,e,cellK x c e _ z⟩
 .obtain⟨v,z⟩:=I.cell x c e;exact⟨v,cellK x c e v z⟩
 .obtain⟨m,⟨o,_,_,ho,_⟩,_⟩:=I.loc;exact free _ o (λ z=>(hch _ z).2.1 rfl) ho I.free
 .obtain⟨v,o,ho,hd⟩:=I.cell x c e;exact free c o (λ z=>(hch c z).2.2.1 x c e rfl) ho (I.freeC x c e)
 .obtain⟨e,n,ne,nf,d⟩:=I.pin p hp;have nch:p.1 ∉ ch:=λ z=>(hch p.1 z).2.2.2 p hp rfl;exact⟨keep p.1 p.2 ne nf nch e n,free p.1 p.2 nch e n,ne,nf,d⟩
def Inv.un{t':Nat}(I:Inv X Te σ H s)(u:Un X.fs [] H H' s.heap h')(hok:HOk X.prog X.w H' h'):Inv X Te σ H' { s with heap:=h',toks:=t' }:=by
 obtain⟨m,⟨o,es,ep,ho,r⟩,_⟩:=id I.loc;obtain⟨sl,hL⟩:=u.any ho I.free on
 exact I.step (g':=s.gens) (d':=s.drawn) (ch:=[]) (λ _ z=>nomatch z) (λ b o _ hb _ e n=>u.keep b o e n hb on) (λ b o _ hb _ e n=>u.slot b o e n hb on) (λ b o _ e n=>u.free b o e n on) (λ b o _ e=>u.there b o e on) u.tups u.frzs u.tbls (λ m' hm=>by
  obtain⟨o',es',ep',ho',r'⟩:=hm;rw[ho] at ho';cases ho'
  exact⟨_,es',ep',hL,r'⟩) hok I.bare
theorem Inv.call{t':Nat}{d':SJ}(I:Inv X Te σ H s)(u:Un (Uu X.stack) ch H H' s.heap h')(hok:HOk X.prog X.w H' h')(hg:PU g')
  (hch:∀b∈ch,(b∈X.ex\/X.s₀.heap.objs.size<=b)/\b≠X.env.locals/\(∀x c,X.env.cells.lookup x=Oh c->c≠b)/\∀p∈X.pn++Te,p.1≠b) :
  Inv X Te σ H' { s with heap:=h',gens:=g',drawn:=d',toks:=t' }:=by
 obtain⟨m,⟨o,es,ep,ho,r⟩,_⟩:=id I.loc;obtain⟨sl,hL⟩:=u.any ho I.free λ z=>(hch _ z).2.1 rfl
 exact I.step (ch:=ch) hch (λ b o hL hb hc e n=>u.keep b o e n (λ z=>(aB.mp (I.stkSub b z)).elim hL hb) hc) (λ b o _ _ hc e n=>u.any e n hc) (λ b o hc e n=>u.free b o e n hc) (λ b o hc e=>u.there b o e hc) u.tups u.frzs u.tbls (λ m' hm=>by
  obtain⟨o',es',ep',ho',r'⟩:=hm;rw[ho] at ho';cases ho'
  exact⟨_,es',ep',hL,r'⟩) hok hg
theorem Inv.turned{t':Nat}{it:On}(I:Inv X Te σ H s)(k:∀b o,b≠it->s.heap.get? b=Oh o->h'.get? b=Oh o)(hn:H it=Oj)(hL:it≠X.env.locals)
  (h1:it∈X.ex\/X.s₀.heap.objs.size<=it) (h2:∀x c,X.env.cells.lookup x=Oh c->c≠it) (h3:∀p∈X.pn++Te,p.1≠it):Inv X Te σ H { s with heap:=h',toks:=t' }:=by
 have nit:∀b u,H b=Oh u->b≠it:=λ b u e z=>by rw[z,hn] at e;cases e
 refine I.step (g':=s.gens) (d':=s.drawn) (ch:=[it]) (λ b hb=>?_) (λ b o _ _ hc e _=>k b o (λ z=>hc (by simp[z])) e) (λ b o _ _ hc e _=>⟨o.slots,k b o (λ z=>hc (by simp[z])) e⟩) (λ _ _ _ _ n=>n)
  (λ b o hc e=>⟨o,k b o (λ z=>hc (by simp[z])) e⟩) (λ _ _ e=>e) (λ _ _ _ e=>e) (λ b ps e=>⟨#[],by rw[e];simp⟩) (λ m hm=>?_) (λ b u e=>?_) I.bare
 .have e:b=it:=by simpa using hb
  subst e;exact⟨h1,hL,h2,h3⟩
 .obtain⟨o,es,ep,ho,r⟩:=hm;exact⟨o,es,ep,k _ o (cy hL) ho,r⟩
 .refine(I.hok b u e).stay (λ c v hc q=>k c v ?_ q) (λ _ q=>q) λ _ _ q=>q
  rcases hc with z|z
  .rw[z];exact nit b u e
  .exact nit c _ z
def Inv.tok(I:Inv X Te σ H s)(t:Nat):Inv X Te σ H { s with toks:=t }:=I.un (h':=s.heap) (t':=t) Un.refl I.hok
def Inv.kept{t':Nat}(I:Inv X Te σ H s)(k:∀b u,s.heap.get? b=Oh u->h'.get? b=Oh u):Inv X Te σ H { s with heap:=h',toks:=t' }:=I.un (Un.kept k) (I.hok.kept k)
theorem Inv.laid{a:On}{t':Nat}(I:Inv X Te σ H s)(k:∀b u,s.heap.get? b=Oh u->h'.get? b=Oh u)(hp:s.heap.objs.size<=a)(new:ObjOk X.prog X.w (Ti H a o) h' a o) :
  Inv X Te σ (Ti H a o) { s with heap:=h',toks:=t' }:=I.un (Un.laid k hp (I.hok.fresh hp)) (I.hok.laid k hp new)
theorem Inv.write{x e:On}{t':Nat}(I:Inv X Te σ H s)(mu:VT (H x))(he:e=x\/H e=Oh (.own x))(k:∀b u,b≠e->s.heap.get? b=Oh u->h'.get? b=Oh u)(heo:∃u,h'.get? e=Oh u)
  (new:ObjOk X.prog X.w (Ti H x o) h' x o):Inv X Te σ (Ti H x o) { s with heap:=h',toks:=t' }:=I.un (Un.write mu he k heo) (I.hok.write mu he k heo new)
def Inv.pins_of{pins':LO}(I:Inv X Te σ H s)(h:∀p∈pins',s.heap.get? p.1=Oh p.2/\H p.1=Oj/\p.1≠X.env.locals/\p.1 ∉ X.fs/\∀v,p.2.data≠.cell v):Inv X pins' σ H s :=
 ⟨I.ok,I.os,I.bare,I.base,I.loc,I.cell,I.free,I.freeC,λ p hp=>(bY.mp hp).elim (λ z=>I.pin p (fH _ z)) (h p),I.hok,I.len⟩
def tV{N:List Str}(hN:N.Nodup){i j:Nat}(a:N[i]?=Oh x)(b:N[j]?=Oh x):i=j:=by
 obtain⟨h1,e1⟩:=aY.mp a;obtain⟨h2,e2⟩:=aY.mp b;exact(List.getElem_inj hN).mp (e1.trans e2.symm)
theorem pV{i:Nat}{Q:Unit->Oo->Prop}(I:Inv X Te σ H s)(hN:X.N.Nodup)(hi:X.N[i]?=Oh x)(hx:UH X.env.scope x)(r:RelV v u)
  (h:∀s',Inv X Te (σ.set i (Oh v)) H s'->(∃a,Heap.SameBut a s.heap s'.heap/\(a=X.env.locals\/X.env.cells.lookup x=Oh a))->Q () s') (hf:X.fn x=Oi\/X.env.scope.names.lookup x=Oh .local:=by first|exact .inl rfl|exact .inr rfl|assumption):Op M A (QH X.env x u) Q E s:=by
 obtain⟨m,hn,hl⟩:=id I.loc;have hcls:(X.env.scope.kind == .class || (X.env.scope.kind == .module&&X.env.locals != X.env.globals))=Ol:=by rw[I.ok.kind];rfl
 have hiσ:i<σ.length:=by rw[I.len];exact(aY.mp hi).1
 have cne:=I.cne
 have tracked:∀ {a:On}{h':Oz},(∃o,s.heap.get? a=Oh o/\H a=Oj)->Heap.SameBut a s.heap h'->HOk X.prog X.w H h':=λ {a h'} ha hs b ob e=>by
  obtain⟨_,_,hfree⟩:=ha;refine(I.hok b ob e).stay (λ c w' hc q=>(hs.2 c ?_).trans q) (λ _ q=>q) λ _ _ q=>q;rintro rfl
  rcases hc with rfl|hc
  .rw[hfree] at e;cases e
  .rw[hfree] at hc;cases hc
 rcases hx with hk|hk
 .refine tW hk hn (λ h' hn' hs=>?_) hcls;obtain⟨oL,_,_,hoL,_⟩:=id hn;refine h _ ⟨I.ok,I.os,I.bare,⟨λ b o e n hb hx=>?_,λ b o e n hb hx=>?_,I.base.free,λ b o e hx=>?_,I.base.tups,I.base.frzs,I.base.tbls⟩,⟨_,hn',λ j y v' e1 e2 e3=>?_⟩,λ y c e=>?_,I.free,I.freeC,λ p hp=>?_,tracked ⟨oL,hoL,I.free⟩ hs,by simpa using I.len⟩ ⟨_,hs,.inl rfl⟩
  .exact(hs.2 b (be (bG (aM e) I.ok.above))).trans (I.base.keep b o e n hb hx)
  .obtain⟨sl,e1⟩:=I.base.slot b o e n hb hx;exact⟨sl,(hs.2 b (be (bG (aM e) I.ok.above))).trans e1⟩
  .obtain⟨o',e1⟩:=I.base.there b o e hx;exact⟨o',(hs.2 b (be (bG (aM e) I.ok.above))).trans e1⟩
  .by_cases hj:j=i
   .subst hj;rw[hi] at e1;cases e1;rw[iR hiσ] at e2;cases e2;exact⟨u,r,.inl ⟨hk,on⟩⟩
   .rw[jK (cy hj)] at e2;obtain⟨u',r',q⟩:=hl j y v' e1 e2 e3;refine⟨u',r',?_⟩
    rcases q with ⟨k,e⟩|⟨k,c,e,z⟩
    .refine .inl ⟨k,?_⟩;have:y≠x:=λ e=>hj (tV hN e1 (e ▸ hi));simp[this,e]
    .exact .inr ⟨k,c,e,z.sameBut hs (cne y c e)⟩
  .obtain⟨w',z⟩:=I.cell y c e;exact⟨w',z.sameBut hs (cne y c e)⟩
  .obtain⟨e,n,ne,nf,d⟩:=I.pin p hp;exact⟨(hs.2 p.1 ne).trans e,n,ne,nf,d⟩
 .have hfn:X.fn x=Oi:=by
   rcases hf with z|z
   .exact z
   .rw[z] at hk;cases hk
  obtain⟨c,hc⟩:=I.ok.has x (.inl hk);obtain⟨w',z⟩:=I.cell x c hc;refine tX I.ok.kind hk hc z (λ h' hc' hs=>?_);obtain⟨oc,hoc,hocd⟩:=id z;refine h { s with heap:=h' } ⟨I.ok,I.os,I.bare,⟨λ b o e n hb hx=>?_,λ b o e n hb hx=>?_,I.base.free,λ b o e hx=>?_,I.base.tups,I.base.frzs,I.base.tbls⟩,⟨m,hn.sameBut hs (cy (cne x c hc)),λ j y v' e1 e2 e3=>?_⟩,λ y c' e=>?_,I.free,I.freeC,λ p hp=>?_,tracked ⟨oc,hoc,I.freeC x c hc⟩ hs,by simpa using I.len⟩ ⟨c,hs,.inr hc⟩
  .exact(hs.2 b (be (bG (aM e) (I.ok.cab x c hfn hc)))).trans (I.base.keep b o e n hb hx)
  .obtain⟨sl,e1⟩:=I.base.slot b o e n hb hx;exact⟨sl,(hs.2 b (be (bG (aM e) (I.ok.cab x c hfn hc)))).trans e1⟩
  .obtain⟨o',e1⟩:=I.base.there b o e hx;exact⟨o',(hs.2 b (be (bG (aM e) (I.ok.cab x c hfn hc)))).trans e1⟩
  .by_cases hj:j=i
   .subst hj;rw[hi] at e1;cases e1;rw[iR hiσ] at e2;cases e2;exact⟨u,r,.inr ⟨.inl hk,c,hc,hc'⟩⟩
   .rw[jK (cy hj)] at e2;obtain⟨u',r',q⟩:=hl j y v' e1 e2 e3;refine⟨u',r',?_⟩
    rcases q with q|⟨k,c',e,z'⟩
    .exact .inl q
    .refine .inr ⟨k,c',e,z'.sameBut hs ?_⟩;rintro rfl;exact hj (tV hN e1 (I.ok.inj _ _ _ e hc ▸ hi))
  .by_cases hcc:c'=c
   .subst hcc;exact⟨_,hc'⟩
   .obtain⟨w2,z2⟩:=I.cell y c' e;exact⟨w2,z2.sameBut hs hcc⟩
  .obtain⟨e,n,ne,nf,d⟩:=I.pin p hp;refine⟨(hs.2 p.1 ?_).trans e,n,ne,nf,d⟩;intro q;rw[q,hoc] at e;have q':oc=p.2:=bv e;exact d w' (by rw[<- q'];exact hocd)
theorem pW{i:Nat}{Q:Unit->Oo->Prop}(I:Inv X Te σ H s)(hN:X.N.Nodup)(hi:X.N[i]?=Oh x)(hx:UH X.env.scope x)(r:RelV v u)
  (h:∀s',Inv X Te (σ.set i (Oh v)) H s'->Q () s') (hf:X.fn x=Oi\/X.env.scope.names.lookup x=Oh .local:=by first|exact .inl rfl|exact .inr rfl|assumption):Op M A (QH X.env x u) Q E s :=
 pV I hN hi hx r (λ s' I' _=>h s' I') hf
theorem Inv.call'{s':Oo}(I:Inv X Te σ H s)(ho:s'.os=s.os)(u:Un (Uu X.stack) ch H H' s.heap s'.heap)(hok:HOk X.prog X.w H' s'.heap)(hg:PU s'.gens)
  (hch:∀b∈ch,(b∈X.ex\/X.s₀.heap.objs.size<=b)/\b≠X.env.locals/\(∀x c,X.env.cells.lookup x=Oh c->c≠b)/\∀p∈X.pn++Te,p.1≠b):Inv X Te σ H' s':=by
 obtain⟨h',g',d',t',o'⟩:=s';have e:o'=s.os:=ho;subst e;exact I.call (g':=g') (t':=t') (d':=d') u hok hg hch
end
noncomputable abbrev XK:=Value->OA->Hp->Prop
noncomputable abbrev St:=List (Option V)
noncomputable abbrev VK:=V->Hp->Prop
noncomputable abbrev TE:=St->Hp->VK->Prop
noncomputable abbrev TT:=St->Hp->(Bool->Hp->Prop)->Prop
noncomputable abbrev TA:=St->Hp->(List V->Hp->Prop)->Prop
structure UI where
 nx:St->Hp->Prop
 rt:VK
 bk:St->Hp->Prop:=λ _ _=>False
 ct:St->Hp->Prop:=λ _ _=>False
noncomputable abbrev TS:=UI->St->Hp->Prop
noncomputable def EP(X:Cx)(Te:LO)(σ:St)(Q:VK)(u:Value)(s':Oo):Prop:=∃v H',Inv X Te σ H' s'/\RelV v u/\Q v H'
noncomputable def TP(X:Cx)(Te:LO)(σ:St)(Q:Bool->Hp->Prop)(b:Bool)(s':Oo):Prop:=∃H',Inv X Te σ H' s'/\Q b H'
noncomputable def AP(X:Cx)(Te:LO)(σ:St)(Q:List V->Hp->Prop)(us:LV)(s':Oo):Prop:=∃vs H',Inv X Te σ H' s'/\Vals vs us/\Q vs H'
noncomputable def SP(X:Cx)(Te:LO)(D:UI)(f:Flow)(s':Oo):Prop :=
 match f with
 |.next=>∃σ' H',Inv X Te σ' H' s'/\D.nx σ' H'
 |.brk=>∃σ' H',Inv X Te σ' H' s'/\D.bk σ' H'
 |.cont=>∃σ' H',Inv X Te σ' H' s'/\D.ct σ' H'
 |.ret u=>∃v σ' H',Inv X Te σ' H' s'/\RelV v u/\D.rt v H'
noncomputable def PE(X:Cx)(e:Expr)(t:TE):Prop :=
 ∀(Te:LO) (s:Oo) (σ:St) (H:Hp) (Q:VK),Inv X Te σ H s->t σ H Q->Op (Ou X.prog X.w) X.A (eval e X.env) (EP X Te σ Q) X.xe s
noncomputable def PT(X:Cx)(e:Expr)(t:TT):Prop :=
 ∀(Te:LO) (s:Oo) (σ:St) (H:Hp) (Q:Bool->Hp->Prop),Inv X Te σ H s->t σ H Q->Op (Ou X.prog X.w) X.A (isTrue e X.env (eval e X.env)) (TP X Te σ Q) X.xe s
noncomputable def PW(X:Cx)(e:Expr)(t:TT):Prop :=
 ∀(whole:Sem Value) (Te:LO) (s:Oo) (σ:St) (H:Hp) (Q:Bool->Hp->Prop),Inv X Te σ H s->t σ H Q->Op (Ou X.prog X.w) X.A (isTrue e X.env whole) (TP X Te σ Q) X.xe s
def PW.pt(h:PW X e t):PT X e t:=h _
noncomputable def PA(X:Cx)(es:List Expr)(t:TA):Prop :=
 ∀(pos:Pos) (Te:LO) (s:Oo) (σ:St) (H:Hp) (Q:List V->Hp->Prop),Inv X Te σ H s->t σ H Q->Op (Ou X.prog X.w) X.A (spliced (Pk pos (OE es X.env))) (AP X Te σ Q) X.xe s
noncomputable def PS(X:Cx)(st:Ox)(t:TS):Prop :=
 ∀(Te:LO) (s:Oo) (σ:St) (H:Hp) (D:UI),Inv X Te σ H s->t D σ H->Op (Ou X.prog X.w) X.A (exec st X.env) (SP X Te D) X.xe s
noncomputable def PSs(X:Cx)(st:List Ox)(t:TS):Prop :=
 ∀(Te:LO) (s:Oo) (σ:St) (H:Hp) (D:UI),Inv X Te σ H s->t D σ H->Op (Ou X.prog X.w) X.A (Rb st X.env) (SP X Te D) X.xe s
def To{α:Type}{t:Sem α}{Q Q':α->Oo->Prop}(h:Op M A t Q E s)(hQ:∀a s,Q a s->Q' a s):Op M A t Q' E s:=cz h hQ λ _ _ x=>x
section
theorem bin(ha:PE X a ta)(hb:PE X b tb){R:V->V->Hp->Prop}(I:Inv X Te σ H s)(h:ta σ H λ x H1=>tb σ H1 λ y H2=>R x y H2)
  {α:Type}{Q:α->Oo->Prop}{f:Value->Value->Sem α}
  (hf:∀v u s2 x y H2,Inv X Te σ H2 s2->RelV x v->RelV y u->R x y H2->Op (Ou X.prog X.w) X.A (f v u) Q X.xe s2) :
  Op (Ou X.prog X.w) X.A (eval a X.env) (λ v s₁=>Op (Ou X.prog X.w) X.A (eval b X.env) (λ u s₂=>Op (Ou X.prog X.w) X.A (f v u) Q X.xe s₂) X.xe s₁) X.xe s:=by
 refine To (ha Te s σ H _ I h) λ v s1 ⟨x,H1,I1,r1,q1⟩=>?_;refine To (hb Te s1 σ H1 _ I1 q1) λ u s2 ⟨y,H2,I2,r2,q2⟩=>?_;exact hf v u s2 x y H2 I2 r1 r2 q2
noncomputable def isB(x:V)(P:Bool->Prop):Prop:=match x with|.bl k=>P k|_=>False
noncomputable def isI(x:V)(P:Int->Prop):Prop:=match x with|.int k=>P k|_=>False
noncomputable def pX(x y:V)(P:Int->Int->Prop):Prop:=match x,y with|.int i,.int j=>P i j|_,_=>False
def jL(h:isB x P):∃k,x=.bl k/\P k:=by cases x<;>first|exact⟨_,rfl,h⟩|exact h.elim
def Bf(h:isI x P):∃k,x=.int k/\P k:=by cases x<;>first|exact⟨_,rfl,h⟩|exact h.elim
def pY(h:pX x y P):∃i j,x=.int i/\y=.int j/\P i j:=by cases x<;>cases y<;>first|exact⟨_,_,rfl,rfl,h⟩|exact h.elim
noncomputable def cj(i:Nat):TE:=λ σ H Q=>match σ[i]? with|some (Oh v)=>Q v H|_=>False
set_option tactic.hygienic true in
def Bg(h:cj i σ H Q):∃v,σ[i]?=Oh (Oh v)/\Q v H:=by
 unfold cj at h;split at h
 .rename_i v e;exact⟨v,e,h⟩
 .exact h.elim
noncomputable def tC(v:V):TE:=λ _ H Q=>Q v H
def gG{i:Nat}(hN:X.N[i]?=Oh x)(hv:Vz X.env.scope x)(hd:(x == ("__debug__" : Str))=Ol:=by decide)(hcd:(x == ("__classdict__" : Str))=Ol:=by decide):PE X (.Name x pos) (cj i):=by
 intro Te s σ H Q I h;obtain⟨v,e,h⟩:=Bg h;obtain⟨m,hn,hl⟩:=I.loc;obtain⟨u,r,l⟩:=hl i x v hN e hv;have fin:EP X Te σ Q u s:=⟨v,H,I,r,h⟩
 rcases l with ⟨hk,hm⟩|⟨hk,c,hc,hcell⟩
 .exact RS (wpAny_loadName_local I.ok.kind hk hn hm fin) hd
 .rcases hk with hk|hk
  .exact RS (wpAny_loadName_cell I.ok.kind hk hc hcell fin) hd
  .exact RS (wpAny_loadName_free I.ok.kind hk hc hcell fin hcd) hd
def pe_int{i j pos}:PE X (.Constant (.int i) j pos) (tC (.int i)):=λ _ _ _ H _ I h=>wpAny_Constant_int ⟨.int i,H,I.tok _,⟨_,rfl⟩,h⟩
def pe_bl{b j pos}:PE X (.Constant (.bool b) j pos) (tC (.bl b)):=λ _ _ _ H _ I h=>Constant_bool ⟨.bl b,H,I,rfl,h⟩
def pe_non{j pos}:PE X (.Constant .none j pos) (tC .non):=λ _ _ _ H _ I h=>Constant_none ⟨.non,H,I,rfl,h⟩
def pe_str{x j pos}:PE X (.Constant (.str x) j pos) (tC (.str x)):=λ _ _ _ H _ I h=>Calls.Constant_str ⟨.str x,H,I.tok _,⟨_,rfl⟩,h⟩
noncomputable def Gl(X:Cx)(x:Str):Prop:=X.env.kindOf x=Oh .globalImplicit
theorem mU{Q:VS}(I:Inv X Te σ H s)(hg:Gl X x)(hm:X.mg x=Oh u)(h:Q u s)
  (hd:(x == ("__debug__" : Str))=Ol:=by decide):Op (Ou X.prog X.w) X.A (eval (.Name x pos) X.env) Q E s :=
 tY I.ok.kind hg (Calls.loadGlobal_global (by rw[I.ok.glob];exact I.mod.glob.keeps I.bk) hm h) hd
theorem dZ{Q:VS}(I:Inv X Te σ H s)(hg:Gl X x)(hm:X.mg x=Oj)(hv:Py x=Oh u)(h:Q u s)
  (hn:x ≠ "__name__" := by decide) (hd:(x == ("__debug__" : Str))=Ol:=by decide):Op (Ou X.prog X.w) X.A (eval (.Name x pos) X.env) Q E s:=by
 obtain⟨mb,h1,h2⟩:=I.mod.blt;exact tY I.ok.kind hg (Calls.loadGlobal_builtin (by rw[I.ok.glob];exact I.mod.glob.keeps I.bk) hm (by rw[I.ok.blt];exact h1.keeps I.bk) ((h2 x hn).trans hv) h) hd
def Bh(hg:Gl X x)(hm:X.mg x=Oh u)(r:RelV v u)(hd:(x == ("__debug__" : Str))=Ol:=by decide):PE X (.Name x pos) (tC v) :=
 λ _ _ _ H _ I h=>mU I hg hm ⟨v,H,I,r,h⟩ hd
variable {a b:Expr}{ta tb:TE}{pos:Pos}
noncomputable def tB(t:TE):TT:=λ σ H Q=>t σ H λ x H1=>isB x λ c=>Q c H1
def Bi(h:PE X e t)(he:∀whole,isTrue e X.env whole=(do let v <- whole;Qz e.pos;Pz [v] (truthy v)):=by intro _;rfl):PT X e (tB t):=by
 intro Te s σ H Q I hw;refine isTrue_plain (To (h Te s σ H _ I hw) λ v s1 ⟨x,H1,I1,r1,q1⟩=>?_) (he _);obtain⟨d,rfl,q⟩:=jL q1;cases r1;exact ga ⟨H1,I1,q⟩
variable {tA tB':TT}{Tg:List Expr}
noncomputable def Bj(t u:TT):TT:=λ σ H Q=>t σ H λ c H1=>if c=Oi then u σ H1 Q else Q Ol H1
noncomputable def tOr(t u:TT):TT:=λ σ H Q=>t σ H λ c H1=>if c=Oi then Q Oi H1 else u σ H1 Q
noncomputable def Bk(t:TT):TT:=λ σ H Q=>t σ H λ c H1=>Q (!c) H1
def Bl(ha:PT X a tA):PW X (.BoolOp .And [a] pos) tA:=by
 intro wh Te s σ H Q I h;refine isTrue_and (To (ha Te s σ H Q I h) λ c s1 e=>?_)
 cases c with
 |true=>exact isTrue_and_nil e
 |false=>exact e
def Bm(ha:PT X a tA):PW X (.BoolOp .Or [a] pos) tA:=by
 intro wh Te s σ H Q I h;refine isTrue_or (To (ha Te s σ H Q I h) λ c s1 e=>?_)
 cases c with
 |false=>exact isTrue_or_nil e
 |true=>exact e
def Bn(ha:PT X a tA)(hb:PW X (.BoolOp .And (b::Tg) pos) tB'):PW X (.BoolOp .And (a::b::Tg) pos) (Bj tA tB'):=by
 intro wh Te s σ H Q I h;refine isTrue_and (To (ha Te s σ H _ I h) λ c s1 ⟨H1,I1,q1⟩=>?_)
 cases c with
 |true=>exact hb wh Te s1 σ H1 Q I1 q1
 |false=>exact⟨H1,I1,q1⟩
def Bo(ha:PT X a tA)(hb:PW X (.BoolOp .Or (b::Tg) pos) tB'):PW X (.BoolOp .Or (a::b::Tg) pos) (tOr tA tB'):=by
 intro wh Te s σ H Q I h;refine isTrue_or (To (ha Te s σ H _ I h) λ c s1 ⟨H1,I1,q1⟩=>?_)
 cases c with
 |true=>exact⟨H1,I1,q1⟩
 |false=>exact hb wh Te s1 σ H1 Q I1 q1
def Bp(ha:PT X a tA):PT X (.UnaryOp .Not a pos) (Bk tA):=by
 intro Te s σ H Q I h;exact isTrue_not (ha Te s σ H (λ c H1=>Q (!c) H1) I h)
noncomputable def Bq(ta tb:TE):TE:=λ σ H Q=>ta σ H λ x H1=>isB x λ c=>if c=Oi then tb σ H1 Q else Q (.bl Ol) H1
noncomputable def Br(ta tb:TE):TE:=λ σ H Q=>ta σ H λ x H1=>isB x λ c=>if c=Oi then Q (.bl Oi) H1 else tb σ H1 Q
noncomputable def Bt(ta:TE):TE:=λ σ H Q=>ta σ H λ x H1=>∃c,x=.bl c/\Q (.bl (!c)) H1
def tZ{op}(h:PE X a t):PE X (.BoolOp op [a] pos) t:=λ Te s σ H Q I hw=>BoolOp_one (h Te s σ H Q I hw)
def Bu(ha:PE X a ta)(hb:PE X (.BoolOp .And (b::Tg) pos) tb):PE X (.BoolOp .And (a::b::Tg) pos) (Bq ta tb):=by
 intro Te s σ H Q I h;refine BoolOp_and (To (ha Te s σ H _ I h) λ v s1 ⟨x,H1,I1,r1,q1⟩=>?_);obtain⟨c,rfl,q1⟩:=jL q1;cases r1;refine ga ?_
 cases c with
 |true=>exact hb Te s1 σ H1 Q I1 q1
 |false=>exact⟨.bl Ol,H1,I1,rfl,q1⟩
def Bv(ha:PE X a ta)(hb:PE X (.BoolOp .Or (b::Tg) pos) tb):PE X (.BoolOp .Or (a::b::Tg) pos) (Br ta tb):=by
 intro Te s σ H Q I h;refine BoolOp_or (To (ha Te s σ H _ I h) λ v s1 ⟨x,H1,I1,r1,q1⟩=>?_);obtain⟨c,rfl,q1⟩:=jL q1;cases r1;refine ga ?_
 cases c with
 |false=>exact hb Te s1 σ H1 Q I1 q1
 |true=>exact⟨.bl Oi,H1,I1,rfl,q1⟩
def Bw(ha:PE X a ta):PE X (.UnaryOp .Not a pos) (Bt ta):=by
 intro Te s σ H Q I h;refine UnaryOp_ (To (ha Te s σ H _ I h) λ v s1 ⟨x,H1,I1,r1,q1⟩=>?_);obtain⟨c,rfl,q1⟩:=q1;cases r1;exact not_of (ga ⟨.bl (!c),H1,I1,O,q1⟩)
noncomputable def tIf(t:TT)(ta tb:TE):TE:=λ σ H Q=>t σ H λ c H1=>if c=Oi then ta σ H1 Q else tb σ H1 Q
def Bx(hc:PT X c tA)(ha:PE X a ta)(hb:PE X b tb):PE X (.IfExp c a b pos) (tIf tA ta tb):=by
 intro Te s σ H Q I h;refine wpAny_IfExp (To (hc Te s σ H _ I h) λ d s1 ⟨H1,I1,q1⟩=>?_)
 cases d with
 |true=>exact ha Te s1 σ H1 Q I1 q1
 |false=>exact hb Te s1 σ H1 Q I1 q1
end
noncomputable def SqL(K:FG)(H:Hp)(a:On)(xs:List V):Prop :=
 Rd H a (.lst xs) \/
  ∃(o:Obj) (its:Array Value) (n:Nat),K.lookup a=Oh o/\o.cls=.type "list" /\ o.dict=Oj/\o.data=.seq its n/\its.size<=Oq/\Vals xs its.toList
noncomputable def SqT(K:FG)(H:Hp)(a:On)(xs:List V):Prop :=
 Rd H a (.tup xs) \/
  ∃(o:Obj) (its:Array Value) (n:Nat),K.lookup a=Oh o/\o.cls=.type "tuple" /\ o.dict=Oj/\o.data=.seq its n/\its.size<=Oq/\Vals xs its.toList
noncomputable def By:Value->Option V
 |.none=>Oh .non
 |.bool b=>Oh (.bl b)
 |.int i _=>Oh (.int i)
 |.str x _=>Oh (.str x)
 |.bytes b _=>Oh (.byt b)
 |.float b _=>Oh (.flt b)
 |.ref a=>Oh (.ref a)
 |.type n=>Oh (.ty n)
 |_=>Oj
def RelV.abs(r:RelV x u):By u=Oh x:=by
 cases x with
 |non|bl _|ref _|ty _=>cases r;rfl
 |int _|str _|byt _|flt _=>obtain⟨t,rfl⟩:=r;rfl
def RelV.inj(r:RelV x u)(q:RelV y u):x=y:=bv (r.abs.symm.trans q.abs)
theorem Vals.inj:∀ {xs ys:List V}{us:LV},Vals xs us->Vals ys us->xs=ys
 |_,_,_,.nil,.nil=>rfl
 |_,_,_,.cons r t,.cons r' t'=>by rw[r.inj r',Vals.inj t t']
section
variable {Te:LO}{σ:St}{H:Hp}{s:Oo}{a:On}{xs ys:List V}
def SqL.of{K:FG}(h:H a=Oh (.lst xs)):SqL K H a xs:=.inl (.inl h)
def SqT.of{K:FG}(h:H a=Oh (.tup xs)):SqT K H a xs:=.inl (.inl h)
def Inv.list(I:Inv X Te σ H s)(h:SqL X.K H a xs):∃its:LV,Vals xs its/\PlainL s.heap a its.toArray/\xs.length<=Oq:=by
 rcases h with h|⟨o,its,n,hk,hc,hd,hs,hz,r⟩
 .obtain⟨z,its,n,r,e⟩:=h.ok I.hok;exact⟨its,r,⟨_,n,e,O,O,O⟩,z⟩
 .refine⟨its.toList,r,⟨o,n,I.kIn a o hk,hc,hd,by simpa using hs⟩,?_⟩;have e:=r.length;simp only[OQ] at e;lia
def Inv.tuple(I:Inv X Te σ H s)(h:SqT X.K H a xs):∃its:LV,Vals xs its/\Qp s.heap a its.toArray/\xs.length<=Oq:=by
 rcases h with h|⟨o,its,n,hk,hc,_,hs,hz,r⟩
 .obtain⟨z,its,r,p⟩:=h.ok I.hok;exact⟨its,r,p.tup,z⟩
 .refine⟨its.toList,r,⟨o,I.kIn a o hk,hc,n,by simpa using hs⟩,?_⟩;have e:=r.length;simp only[OQ] at e;lia
def Inv.list_inj(I:Inv X Te σ H s)(h:SqL X.K H a xs)(h':SqL X.K H a ys):xs=ys:=by
 obtain⟨its,r,⟨o,n,e,_,_,d⟩,_⟩:=I.list h;obtain⟨its',r',⟨o',n',e',_,_,d'⟩,_⟩:=I.list h';rw[e] at e';cases e';rw[d] at d'
 injection d' with d1 _
 have:its=its':=by simpa using bw QA d1
 subst this;exact r.inj r'
def Inv.tuple_inj(I:Inv X Te σ H s)(h:SqT X.K H a xs)(h':SqT X.K H a ys):xs=ys:=by
 obtain⟨its,r,⟨o,e,_,n,d⟩,_⟩:=I.tuple h;obtain⟨its',r',⟨o',e',_,n',d'⟩,_⟩:=I.tuple h';rw[e] at e';cases e';rw[d] at d'
 injection d' with d1 _
 have:its=its':=by simpa using bw QA d1
 subst this;exact r.inj r'
end
noncomputable abbrev Cx.wish(X:Cx)(E:VS):Cx:={ X with xe:=E }
noncomputable abbrev Cx.nox(X:Cx):Cx:=X.wish λ _ _=>False
def Cx.Ok.wish{X:Cx}(ok:X.Ok)(E:VS):(X.wish E).Ok :=
 ⟨ok.mod,ok.kind,ok.glob,ok.blt,ok.above,ok.inj,ok.has,ok.cab,ok.hd,ok.frames,ok.stk,ok.exf,ok.bs,ok.bsz,ok.noex,ok.exfs,ok.funs,ok.frf⟩
def Cx.Ok.unwish{X:Cx}(ok:(X.wish E).Ok):X.Ok :=
 ⟨ok.mod,ok.kind,ok.glob,ok.blt,ok.above,ok.inj,ok.has,ok.cab,ok.hd,ok.frames,ok.stk,ok.exf,ok.bs,ok.bsz,ok.noex,ok.exfs,ok.funs,ok.frf⟩
section
variable {Te:LO}{σ:St}{H:Hp}{s:Oo}{E:VS}
def Inv.wish(I:Inv X Te σ H s)(E:VS):Inv (X.wish E) Te σ H s:=⟨I.ok.wish E,I.os,I.bare,I.base,I.loc,I.cell,I.free,I.freeC,I.pin,I.hok,I.len⟩
def Inv.unwish(I:Inv (X.wish E) Te σ H s):Inv X Te σ H s:=⟨I.ok.unwish,I.os,I.bare,I.base,I.loc,I.cell,I.free,I.freeC,I.pin,I.hok,I.len⟩
def SP.unwish(h:SP (X.wish E) Te D f s'):SP X Te D f s':=by
 cases f with
 |next|brk|cont=>obtain⟨σ',H',I,q⟩:=h;exact⟨σ',H',I.unwish,q⟩
 |ret u=>obtain⟨v,σ',H',I,r,q⟩:=h;exact⟨v,σ',H',I.unwish,r,q⟩
def PSs.nox{st:List Ox}(h:PSs X.nox st t):PSs X st t:=λ Te s σ H D I hw=>
 cz (h Te s σ H D (I.wish _) hw) (λ _ _ q=>q.unwish) λ _ _ z=>OV z
end
section
variable {st:Ox}{Tg:List Ox}{t u:TS}{e:Expr}{te:TE}{pos:Pos}
noncomputable def Bz:TS:=λ D σ H=>D.nx σ H
noncomputable def ua(t u:TS):TS:=λ D σ H=>t { D with nx:=u D } σ H
def pss_nil:PSs X [] Bz:=λ _ _ σ H _ I h=>mV ⟨σ,H,I,h⟩
def dO(h1:PS X st t)(h2:PSs X Tg u):PSs X (st::Tg) (ua t u):=by
 intro Te s σ H D I h;refine RA (To (h1 Te s σ H { D with nx:=u D } I h) λ f s1 q=>?_)
 cases f with
 |next=>
  obtain⟨σ',H',I',q⟩:=q;exact h2 Te s1 σ' H' D I' q
 |ret v|brk|cont=>exact q
def uc(h1:PS X st t):PSs X [st] t:=by
 intro Te s σ H D I h;refine RA (To (h1 Te s σ H D I h) λ f s1 q=>?_)
 cases f with
 |next=>exact mV q
 |ret v|brk|cont=>exact q
def Inv.quiet(I:Inv X Te σ H s):interactive X.env=Ol:=by simp[interactive,I.ok.kind]
noncomputable def BA(te:TE):TS:=λ D σ H=>te σ H λ _ H1=>D.nx σ H1
def mW(he:PE X e te)(hs:PP e Oj pos.line X.env=OF Ol:=by rfl):PS X (.Expr e pos) (BA te):=by
 intro Te s σ H D I h;exact wpAny_Expr_any (To (he Te s σ H _ I h) λ v s1 ⟨x,H1,I1,r1,q1⟩=>⟨σ,H1,I1,q1⟩) I.quiet hs
noncomputable def BB(te:TE):TS:=λ D σ H=>te σ H D.rt
def pZ(he:PE X e te):PS X (.Return (Oh e) pos) (BB te):=by
 intro Te s σ H D I h;exact wpAny_Return_some (To (he Te s σ H _ I h) λ v s1 ⟨x,H1,I1,r1,q1⟩=>⟨x,σ,H1,I1,r1,q1⟩)
noncomputable def BC(c:TT)(t u:TS):TS:=λ D σ H=>c σ H λ b H1=>if b=Oi then t D σ H1 else u D σ H1
def ud(hc:PT X c tc)(ha:PSs X a t)(hb:PSs X b u):PS X (.If c a b pos) (BC tc t u):=by
 intro Te s σ H D I h;refine wpAny_If (To (hc Te s σ H _ I h) λ d s1 ⟨H1,I1,q1⟩=>?_)
 cases d with
 |true=>exact ha Te s1 σ H1 D I1 q1
 |false=>exact hb Te s1 σ H1 D I1 q1
noncomputable def BD:TS:=λ _ _ _=>False
def pss_never:PSs X sts BD:=λ _ _ _ _ _ _ h=>h.elim
end
noncomputable abbrev TG:=V->St->Hp->(St->Hp->Prop)->Prop
noncomputable abbrev VA:=List V->St->Hp->(St->Hp->Prop)->Prop
noncomputable def PG(X:Cx)(target:Expr)(t:TG):Prop :=
 ∀(Te:LO) (s:Oo) (σ:St) (H:Hp) (v:V) (u:Value) (Q:St->Hp->Prop),Inv X Te σ H s->RelV v u->t v σ H Q ->
  Op (Ou X.prog X.w) X.A (PJ target X.env u) (λ _ s'=>∃σ' H',Inv X Te σ' H' s'/\Q σ' H') X.xe s
noncomputable def VU(X:Cx)(ts:List Expr)(t:VA):Prop :=
 ∀(Te:LO) (s:Oo) (σ:St) (H:Hp) (vs:List V) (us:LV) (Q:St->Hp->Prop),Inv X Te σ H s->Vals vs us->t vs σ H Q ->
  Op (Ou X.prog X.w) X.A (assignInOrder ((Qh ts X.env).map (·.2)) us) (λ _ s'=>∃σ' H',Inv X Te σ' H' s'/\Q σ' H') X.xe s
noncomputable abbrev ue:=V->V->V->Hp->(Hp->Prop)->Prop
noncomputable def uf(X:Cx)(t:ue):Prop :=
 ∀(Te:LO) (s:Oo) (σ:St) (H:Hp) (o i v:V) (ov iv u:Value) (Q:Hp->Prop),Inv X Te σ H s->RelV o ov->RelV i iv->RelV v u->t o i v H Q ->
  Op (Ou X.prog X.w) X.A (setItem ov iv u) (λ _ s'=>∃H',Inv X Te σ H' s'/\Q H') X.xe s
section
variable {pos:Pos}
noncomputable def cV(i:Nat):TG:=λ v σ H Q=>Q (σ.set i (Oh v)) H
def ug{i:Nat}(hN:X.N.Nodup)(hi:X.N[i]?=Oh x)(hx:UH X.env.scope x)(hf:X.fn x=Oi\/X.env.scope.names.lookup x=Oh .local:=by first|exact .inl rfl|exact .inr rfl|assumption):PG X (.Name x pos) (cV i):=by
 intro Te s σ H v u Q I r h;exact wpAny_assign_Name (pW I hN hi hx r (λ s' I'=>⟨_,H,I',h⟩) hf)
noncomputable def mX:VA:=λ vs σ H Q=>vs=[]/\Q σ H
noncomputable def gc(t:TG)(u:VA):VA:=λ vs σ H Q=>∃v r,vs=v::r/\t v σ H λ σ' H'=>u r σ' H' Q
def qd:VU X [] mX:=by
 intro Te s σ H vs us Q I r h;obtain⟨e,h⟩:=h;subst e;cases r;exact assignInOrder_nil ⟨σ,H,I,h⟩
theorem gH(h1:PG X e t)(h2:VU X es u)
  (hs:(Qh (e::es) X.env).map (·.2)=PJ e X.env::(Qh es X.env).map (·.2):=by rfl):VU X (e::es) (gc t u):=by
 intro Te s σ H vs us Q I r h;obtain⟨v,vr,e1,h⟩:=h;subst e1
 cases r with
 |cons r rr=>
  rw[hs];refine assignInOrder_cons (To (h1 Te s σ H _ _ _ I r h) λ _ s1 ⟨σ1,H1,I1,q1⟩=>?_);exact h2 Te s1 σ1 H1 _ _ Q I1 rr q1
noncomputable def mY(K:FG)(n:Nat)(t:VA):TG:=λ v σ H Q=>∃a xs,v=.ref a/\SqT K H a xs/\xs.length=n/\t xs σ H Q
theorem qg{n:Nat}(hc:X.calm=Oi)(h:VU X es t)
  (hn:(Qh es X.env).length=n:=by rfl) (hst:(Qh es X.env).findIdx? (·.1)=Oj:=by rfl):PG X (.Tuple es k pos) (mY X.K n t):=by
 intro Te s σ H v u Q I r hw;obtain⟨a,xs,e1,hq,hl,hw⟩:=hw;subst e1;cases r;obtain⟨its,rv,ht,hz⟩:=I.tuple hq;refine assign_Tuple_tuple (I.ok.hd hc) ht (by simp[hn,<- hl,rv.length]) hst λ h' hx=>?_;have I1:Inv X Te σ H { s with heap:=h' }:=I.kept (t':=s.toks) λ b o e=>hx b o (be (aM e)) e;exact h Te _ σ H xs _ Q I1 (by simpa using rv) hw
noncomputable def BE(to ti:TE)(t:ue):TG:=λ v σ H Q=>to σ H λ o H1=>ti σ H1 λ i H2=>t o i v H2 λ H3=>Q σ H3
theorem BF(ho:PE X o to)(hi:PE X i ti)(hs:uf X t)
  (ha:∀v,PJ (.Subscript o i pos) X.env v=(do
   let ov <- Pz [v] (eval o X.env)
   let iv <- Pz [v,ov] (eval i X.env)
   Qz pos
   Pz [v,ov,iv] (setItem ov iv v)
   release [v,ov,iv] []):=by intro _;rfl):PG X (.Subscript o i pos) (BE to ti t):=by
 intro Te s σ H v u Q I r h;rw[ha];refine ae (eK (To (ho Te s σ H _ I h) λ ov s1 ⟨x,H1,I1,r1,q1⟩=>?_));refine ae (eK (To (hi Te s1 σ H1 _ I1 q1) λ iv s2 ⟨y,H2,I2,r2,q2⟩=>?_));refine ae (iS (ae (eK (To (hs Te s2 σ H2 x y v ov iv u _ I2 r1 r2 r q2) λ _ s3 ⟨H3,I3,q3⟩=>?_))));exact wpAny_release ⟨σ,H3,I3,q3⟩
noncomputable def iT(te:TE)(g:TG):TS:=λ D σ H=>te σ H λ x H1=>g x σ H1 D.nx
theorem uh(he:PE X e te)(hg:PG X tg g)(hs:QW [tg] e pos.line X.env=OF Ol:=by rfl)(hw:QV [tg] e X.env=OF Oj:=by rfl)
  (h1:(Qh [tg] X.env).map (·.2)=[PJ tg X.env]:=by rfl):PS X (.Assign [tg] e pos) (iT te g):=by
 intro Te s σ H D I h;refine wpAny_Assign_stores (To (he Te s σ H _ I h) λ v s1 ⟨x,H1,I1,r1,q1⟩=>?_) hs hw;rw[h1];exact To (hg Te s1 σ H1 x v _ I1 r1 q1) λ _ s2 q=>q
theorem uj{i:Nat}(hN:X.N.Nodup)(hi:X.N[i]?=Oh x)(hx:UH X.env.scope x)(he:PE X e te)(hs:PP e (Oh (.Name x pos')) pos.line X.env=OF Ol:=by rfl)(hf:X.fn x=Oi\/X.env.scope.names.lookup x=Oh .local:=by first|exact .inl rfl|exact .inr rfl|assumption) :
  PS X (.Assign [.Name x pos'] e pos) (iT te (cV i)):=by
 intro Te s σ H D I h;refine wpAny_Assign_Name (To (he Te s σ H _ I h) λ v s1 ⟨y,H1,I1,r1,q1⟩=>?_) hs;exact pW I1 hN hi hx r1 (λ s2 I2=>⟨_,H1,I2,q1⟩) hf
end
section
variable {pos:Pos}
end
structure It where
 go:Nat->Hp->Prop
 yld:Nat->Hp->V->Hp->Prop
 stop:Nat->Hp->Prop
noncomputable def hZ(X:Cx)(Te:LO)(H:Hp)(b:On):Prop :=
 H b=Oj/\b≠X.env.locals/\b ∉ X.fs/\(b∈X.ex\/X.s₀.heap.objs.size<=b)/\(∀x c,X.env.cells.lookup x=Oh c->c≠b)/\∀p∈X.pn++Te,p.1≠b
def Inv.fpOk{H H':Hp}{b:On}(I:Inv X Te σ H s)(hb:s.heap.objs.size<=b)(hn:H' b=Oj):hZ X Te H' b:=by
 refine⟨hn,s1h (bG I.lt hb),I.nofs hb,.inr (cL I.sz hb),λ x c e z=>?_,λ p hp z=>?_⟩
 .obtain⟨v,q⟩:=I.cell x c e;exact XU (bG q.lt (by rw[z];exact hb)) (dM _)
 .exact XU (bG (aM (I.pin p hp).1) (by rw[z];exact hb)) (dM _)
structure Uz (P:Ov)(w:Ow)(K:FG)(tg:Expr)(J:It)(fp:List On)(it:On)(tn:Nat->Oz->Prop):Prop where
 mem:it∈fp
 obj:∀i h,tn i h->∀b∈fp,∃o,h.get? b=Oh o/\∀v,o.data≠.cell v
 keep:∀i h h',tn i h->(∀b∈fp,∀o,h.get? b=Oh o->h'.get? b=Oh o)->tn i h'
 item:∀(X:Cx),X.prog=P->X.w=w->X.K=K->X.calm=Oi->∀(i:Nat) (Te:LO) (s:Oo) (σ:St) (H:Hp) (E:VS),Inv X Te σ H s->(∀b∈fp,hZ X Te H b)->tn i s.heap->J.go i H ->
  Op (Ou P w) X.A (Pn (.ref it)) (λ r s1=>∃u,r=Oh u /\
   Op (Ou P w) X.A (Pw tg (.ref it) u) (λ _ s2=>∃x H',Inv X Te σ H' s2/\RelV x u/\J.yld i H x H'/\tn (i+1) s2.heap/\∀b∈fp,H' b=Oj) E s1) E s
 done:∀(X:Cx),X.prog=P->X.w=w->X.K=K->X.calm=Oi->∀(i:Nat) (Te:LO) (s:Oo) (σ:St) (H:Hp) (E:VS),Inv X Te σ H s->(∀b∈fp,hZ X Te H b)->tn i s.heap->J.stop i H ->
  Op (Ou P w) X.A (Pn (.ref it)) (λ r s1=>r=Oj/\Inv X Te σ H s1) E s
 self:∀(A:Oy) (i:Nat) (s:Oo) (Q:VS) (E:VS),tn i s.heap->Q (.ref it) s->Op (Ou P w) A (RP (.ref it)) Q E s
noncomputable abbrev TI:=St->Hp->(It->Hp->Prop)->Prop
noncomputable def WU(X:Cx)(Te:LO)(σ:St)(tg:Expr)(R:It->Hp->Prop)(itv:Value)(s2:Oo):Prop :=
 ∃(it:On) (fp:List On) (tn:Nat->Oz->Prop) (J:It) (H':Hp),itv=.ref it/\Inv X Te σ H' s2/\Uz X.prog X.w X.K tg J fp it tn/\tn 0 s2.heap/\(∀b∈fp,hZ X Te H' b)/\R J H'
noncomputable def PI(X:Cx)(tg iter:Expr)(wi:TI):Prop :=
 ∀(Te:LO) (s:Oo) (σ:St) (H:Hp) (R:It->Hp->Prop),Inv X Te σ H s->wi σ H R ->
  Op (Ou X.prog X.w) X.A (eval iter X.env) (λ v s1=>Op (Ou X.prog X.w) X.A (RP v) (WU X Te σ tg R) X.xe s1) X.xe s
theorem kZ{s:Oo}{it:On}{vs:Array Value}{Q:Unit->Oo->Prop}(ho:s.heap.get? it=Oh o)(hc:o.cls=.type n)(hd:o.data=.fields vs)
    (hn:["enumerate","zip","dict_itemiterator","dict_reverseitemiterator","odict_iterator","itertools.zip_longest","itertools.pairwise"].contains n=Ol) (hQ:Q () s):Op M A (Pw tg (.ref it) u) Q E s:=by
  unfold Pw
  cases tg<;>first
    |exact au hQ
    | (cases u<;>first
        |exact au hQ
        | (refine ae (s1g ho ?_)
           rw[hc,hd];show Op M A (if (["enumerate","zip","dict_itemiterator","dict_reverseitemiterator","odict_iterator","itertools.zip_longest","itertools.pairwise"].contains n&&vs[0]? == Oh (OJ _))=Oi then _ else _) Q E s;rw[XR (by intro h;rw[hn,s0e] at h;cases h)]
           exact au hQ))
noncomputable def Ww(K:FG)(a:On):It :=
 ⟨λ i H=>∃xs x,SqL K H a xs/\xs[i]?=Oh x,λ i H x H'=>H'=H/\∀xs,SqL K H a xs->xs[i]?=Oh x,λ i H=>∃xs,SqL K H a xs/\xs.length<=i⟩
noncomputable def Wx(K:FG)(a:On):It :=
 ⟨λ i H=>∃xs x,SqT K H a xs/\xs[i]?=Oh x,λ i H x H'=>H'=H/\∀xs,SqT K H a xs->xs[i]?=Oh x,λ i H=>∃xs,SqT K H a xs/\xs.length<=i⟩
noncomputable def VW(lo:Int)(n:Nat):It:=⟨λ i _=>i<n,λ i H x H'=>H'=H/\x=.int (lo+i),λ i _=>n<=i⟩
theorem BG{K:FG}(a it:On):Uz P w K tg (Ww K a) [it] it (λ i h=>h.IsListIter it a i) where
 mem:=on
 obj:=λ i h st b hb=>by
  have e:b=it:=by simpa using hb
  subst e;obtain⟨o,e,c,d⟩:=st;exact⟨o,e,λ v z=>by rw[d] at z;cases z⟩
 keep:=λ i h h' st k=>st.at λ o e=>k it on o e
 item:=by
  intro X hP hw hK hc i Te s σ H E I hf st hg;subst hP hw hK;obtain⟨xs,x,hq,hx⟩:=hg;obtain⟨its,rv,p,hz⟩:=I.list hq;obtain⟨u,hu,ru⟩:=rv.get hx;obtain⟨f0,f1,f2,f3,f4,f5⟩:=hf it on;refine wpAny_pyNext_list_item st p.isList (x:=u) (by simpa using hu) λ h' st' sb=>?_;have I1:Inv X Te σ H { s with heap:=h' }:=I.turned (t':=s.toks) (λ b o hb e=>(sb.2 b hb).trans e) f0 f1 f3 f4 f5;obtain⟨o,e,c,d⟩:=id st';exact⟨u,O,kZ (s:={ s with heap:=h' }) e c d ca ⟨x,H,I1,ru,⟨O,λ ys hy=>by rw[I.list_inj hy hq];exact hx⟩,st',λ b hb=>(hf b hb).1⟩⟩
 done:=by
  intro X hP hw hK hc i Te s σ H E I hf st hg;subst hP hw hK;obtain⟨xs,hq,hx⟩:=hg;obtain⟨its,rv,p,hz⟩:=I.list hq;obtain⟨f0,f1,f2,f3,f4,f5⟩:=hf it on;have hl:=rv.length;exact wpAny_pyNext_list_end (I.ok.hd hc) st p.isList (by simp;lia) λ h' eb=>⟨O,I.turned (t':=s.toks) (λ b o hb e=>eb b o hb e) f0 f1 f3 f4 f5⟩
 self:=λ _ _ _ _ _ st h=>wpAny_pyIter_listiter st h
theorem BH{K:FG}(a it:On):Uz P w K tg (Wx K a) [it] it (λ i h=>h.IsTupleIter it a i) where
 mem:=on
 obj:=λ i h st b hb=>by
  have e:b=it:=by simpa using hb
  subst e;obtain⟨o,e,c,d⟩:=st;exact⟨o,e,λ v z=>by rw[d] at z;cases z⟩
 keep:=λ i h h' st k=>st.at λ o e=>k it on o e
 item:=by
  intro X hP hw hK hc i Te s σ H E I hf st hg;subst hP hw hK;obtain⟨xs,x,hq,hx⟩:=hg;obtain⟨its,rv,p,hz⟩:=I.tuple hq;obtain⟨u,hu,ru⟩:=rv.get hx;obtain⟨f0,f1,f2,f3,f4,f5⟩:=hf it on;refine wpAny_pyNext_tuple_item st (show s.heap.IsTuple a its.toArray from p) (x:=u) (by simpa using hu) λ h' st' sb=>?_;have I1:Inv X Te σ H { s with heap:=h' }:=I.turned (t':=s.toks) (λ b o hb e=>(sb.2 b hb).trans e) f0 f1 f3 f4 f5;obtain⟨o,e,c,d⟩:=id st';exact⟨u,O,kZ (s:={ s with heap:=h' }) e c d ca ⟨x,H,I1,ru,⟨O,λ ys hy=>by rw[I.tuple_inj hy hq];exact hx⟩,st',λ b hb=>(hf b hb).1⟩⟩
 done:=by
  intro X hP hw hK hc i Te s σ H E I hf st hg;subst hP hw hK;obtain⟨xs,hq,hx⟩:=hg;obtain⟨its,rv,p,hz⟩:=I.tuple hq;obtain⟨f0,f1,f2,f3,f4,f5⟩:=hf it on;have hl:=rv.length;exact wpAny_pyNext_tuple_end (I.ok.hd hc) st (show s.heap.IsTuple a its.toArray from p) (by simp;lia) λ h' eb=>⟨O,I.turned (t':=s.toks) (λ b o hb e=>eb b o hb e) f0 f1 f3 f4 f5⟩
 self:=λ _ _ _ _ _ st h=>wpAny_pyIter_tupleiter st h
theorem BJ{K:QB}(it:On)(lo:Int)(n:Nat):Uz P w K tg (VW lo n) [it] it (λ i h=>QI h it (lo+(i:Nat)*1) ((n:Int)-(i:Nat)) 1) where
 mem:=on
 obj:=λ i h st b hb=>by
  have e:b=it:=by simpa using hb
  subst e
  exact⟨_,st,λ v z=>by
   have z':Data.fields _=Data.cell v:=z
   cases z'⟩
 keep:=λ i h h' st k=>k it on _ st
 item:=by
  intro X hP hw hK hc i Te s σ H E I hf st hg;subst hP hw hK;obtain⟨f0,f1,f2,f3,f4,f5⟩:=hf it on;have W:=Walks.range (prog:=X.prog) (w:=X.w) (I.ok.hd hc) it lo 1 n;refine W.item i s _ _ hg st λ v h' tk hv st' kk=>?_;obtain⟨t,rfl⟩:=hv;have I1:Inv X Te σ H { s with heap:=h',toks:=tk }:=I.turned (λ b o hb e=>kk b o (by simpa using hb) e) f0 f1 f3 f4 f5;refine⟨_,O,kZ (s:={ s with heap:=h',toks:=tk }) (n := "range_iterator") st' rfl rfl ca ⟨.int (lo+i),H,I1,⟨t,?_⟩,⟨O,O⟩,st',λ b hb=>(hf b hb).1⟩⟩;rw[s0j]
 done:=by
  intro X hP hw hK hc i Te s σ H E I hf st hg;subst hP hw hK;obtain⟨f0,f1,f2,f3,f4,f5⟩:=hf it on;exact uk (I.ok.hd hc) st (by have:n<=i:=hg;lia) λ h' eb=>⟨O,I.turned (t':=s.toks) (λ b o hb e=>eb b o hb e) f0 f1 f3 f4 f5⟩
 self:=λ _ _ _ _ _ st h=>um st h
section
variable {tg:Expr}
theorem BK{R:It->Hp->Prop}{lo hi:Int}{tk:Nat}(I:Inv X Te σ H s)(h1:-(2 ^ 62)<=lo)(h2:lo<2 ^ 62)(h3:-(2 ^ 62)<=hi)(h4:hi<2 ^ 62)
  (q:R (VW lo (hi-lo).toNat) H):Op (Ou X.prog X.w) X.A (RP (.ref s.heap.objs.size)) (WU X Te σ tg R) E { s with heap:=s.heap.push { cls:=.type "range",data:=.fields #[.int lo t,.int hi u,.int 1 v] },toks:=tk }:=by
 refine s0r (IsRange.new ..) (small_one h1 h2 h3 h4) ?_;have I1:Inv X Te σ H { s with heap:=s.heap.push { cls:=.type "range",data:=.fields #[.int lo t,.int hi u,.int 1 v] },toks:=tk }:=I.kept λ b o e=>aO _ e
 refine⟨(s.heap.push { cls:=.type "range",data:=.fields #[.int lo t,.int hi u,.int 1 v] }).objs.size,[(s.heap.push { cls:=.type "range",data:=.fields #[.int lo t,.int hi u,.int 1 v] }).objs.size],_,_,H,O,
  I1.kept (t':=tk) λ b o e=>aO _ e,BJ _ lo (hi-lo).toNat,?_,λ b hb=>?_,q⟩
 .have e1:lo+((0:Nat):Int)*1=lo:=by simp
  have e2:(((hi-lo).toNat:Nat):Int)-((0:Nat):Int)=OG lo hi 1:=by rw[rangeSize_one];split<;>lia
  show QI _ _ (lo+((0:Nat):Int)*1) ((((hi-lo).toNat:Nat):Int)-((0:Nat):Int)) 1;rw[e1,e2];exact bn _ rfl
 .have e:b=(s.heap.push { cls:=.type "range",data:=.fields #[.int lo t,.int hi u,.int 1 v] }).objs.size:=by simpa using hb
  subst e;exact I1.fpOk (ao _) (I1.hok.fresh (ao _))
noncomputable def BL(ta:TA):TI:=λ σ H R=>ta σ H λ vs H1=>∃j:Int,vs=[.int j]/\-(2 ^ 62)<=j/\j<2 ^ 62/\R (VW 0 j.toNat) H1
def BM{a:Expr}{p pos:Pos}(hg:Gl X "range")(hm:X.mg "range"=Oj)(ha:PA X [a] ta)(hs:OE [a] X.env=[(Ol,eval a X.env)]:=by rfl):PI X tg (.Call (.Name "range" p) [a] [] pos) (BL ta):=by
 intro Te s σ H R I h;refine QD (dZ I hg hm boot_range (gh (To (ha pos Te s σ H _ I h) λ us s1 ⟨vs,H1,I1,r1,q1⟩=>?_) hs rfl));obtain⟨j,e,q1,q2,q⟩:=q1;subst e
 cases r1 with
 |cons r rr=>
  cases rr;obtain⟨t,rfl⟩:=r;exact call_range_1 (BK I1 Z Z q1 q2 (by simpa using q))
noncomputable def BO(wi:TI)(g:TG)(tb:TS):TS:=λ D σ H=>wi σ H λ J H1=>∃W:Nat->Nat->St->Hp->Prop,(∃m,W 0 m σ H1)/\∀i m σ H,W i m σ H ->
 (J.stop i H/\D.nx σ H)\/(J.go i H/\∃N:St->Hp->Prop,(∀σ' H',N σ' H'->∃m',m'<m/\W (i+1) m' σ' H')/\∀x H',J.yld i H x H'->g x σ H' λ σ2 H2=>tb { D with nx:=N,ct:=N,bk:=D.nx } σ2 H2)
noncomputable def mZ(fp:List On)(h:Oz):LO:=fp.filterMap λ b=>(h.get? b).map λ o=>(b,o)
def jM{fp:List On}{h:Oz}{b:On}(hb:b∈fp)(e:h.get? b=Oh o):(b,o)∈mZ fp h:=s0s.mpr ⟨b,hb,by rw[e];rfl⟩
def BP{fp:List On}{h:Oz}{p:On×Obj}(hp:p∈mZ fp h):p.1∈fp/\h.get? p.1=Oh p.2:=by
 obtain⟨b,hb,e⟩:=s0s.mp hp
 cases q:h.get? b with
 |none=>rw[q] at e;cases e
 |some o=>
  rw[q] at e;have e':(b,o)=p:=bv e;subst e';exact⟨hb,q⟩
def Inv.pinned{fp:List On}(I:Inv X Te σ H s)(hf:∀b∈fp,hZ X Te H b)(ho:∀b∈fp,∃o,s.heap.get? b=Oh o/\∀v,o.data≠.cell v):Inv X (Te++mZ fp s.heap) σ H s :=
 I.pins_of λ p hp=>(bY.mp hp).elim (λ z=>I.pin p (bK _ z)) λ z=>by
  obtain⟨hb,e⟩:=BP z;obtain⟨f0,f1,f2,_⟩:=hf p.1 hb;obtain⟨o,e',d⟩:=ho p.1 hb;rw[e] at e';cases e';exact⟨e,f0,f1,f2,d⟩
def Inv.unpinned{Te pl:LO}(I:Inv X (Te++pl) σ H s):Inv X Te σ H s:=I.pins_of λ p hp=>I.pin p (bK _ (fH _ hp))
theorem BQ{iter:Expr}(hp:PassesOwn (Ou X.prog X.w) X.A X.env X.xe)(hc:X.calm=Oi)(hi:PI X tg iter wi)(hg:PG X tg g)(hb:PSs X body tb)
  (hs:∀x,OZ iter X.env x=OF x:=by intro _;rfl):PS X (.For tg iter body [] pos) (BO wi g tb):=by
 intro Te s σ H D I h;refine wpAny_For (To (hi Te s σ H _ I h) λ v s1 h1=>To h1 λ itv s2 h2=>?_) hs;obtain⟨it,fp,tn,J,H2,e,I2,T,st2,f2,W,⟨m0,w0⟩,turn⟩:=h2;subst e;have stat:∀ {H':Hp},(∀b∈fp,H' b=Oj)->∀b∈fp,hZ X Te H' b:=λ hn b hb=>⟨hn b hb,(f2 b hb).2⟩;refine codeAny_forLoop_any (λ n s'=>∃i σ' H',Inv X Te σ' H' s'/\tn i s'.heap/\(∀b∈fp,H' b=Oj)/\W i n σ' H') ?_ m0 ⟨0,σ,H2,I2,st2,λ b hb=>(f2 b hb).1,w0⟩;rintro n s3 ⟨i,σ3,H3,I3,st3,fr3,w3⟩
 rcases turn i n σ3 H3 w3 with ⟨stop,qn⟩|⟨go,N,hN,step⟩
 .refine lg hp (To (T.done X rfl rfl rfl hc i Te s3 σ3 H3 X.xe I3 (stat fr3) st3 stop) λ r s4 ⟨hr,I4⟩=>?_);subst hr;exact mV ⟨σ3,H3,I4,qn⟩
 .refine lg hp (To (T.item X rfl rfl rfl hc i Te s3 σ3 H3 X.xe I3 (stat fr3) st3 go) λ r s4 ⟨u,hr,h4⟩=>?_);subst hr;refine lg hp (To h4 λ _ s5 ⟨x,H5,I5,r5,y5,st5,fr5⟩=>?_);have I5':=I5.pinned (stat fr5) (T.obj _ _ st5);refine lg hp (To (hg _ s5 σ3 H5 x u _ I5' r5 (step x H5 y5)) λ _ s6 ⟨σ6,H6,I6,q6⟩=>?_);refine lg hp (To (hb _ s6 σ6 H6 _ I6 q6) λ f s7 q7=>?_)
  have RL:∀ {σ7:St}{H7:Hp},Inv X (Te++mZ fp s5.heap) σ7 H7 s7->N σ7 H7->∃m,m<n/\∃i σ' H',Inv X Te σ' H' s7/\tn i s7.heap/\(∀b∈fp,H' b=Oj)/\W i m σ' H':=λ {σ7 H7} I7 n7=>by
   obtain⟨m',hm,w7⟩:=hN σ7 H7 n7;refine⟨m',hm,i+1,σ7,H7,I7.unpinned,T.keep _ _ _ st5 λ b hb o e=>(I7.pin (b,o) (bK _ (bK _ (jM hb e)))).1,λ b hb=>?_,w7⟩;obtain⟨o,e,d⟩:=T.obj _ _ st5 b hb;exact(I7.pin (b,o) (bK _ (bK _ (jM hb e)))).2.1
  cases f with
  |next|cont=>obtain⟨σ7,H7,I7,n7⟩:=q7;exact RL I7 n7
  |brk=>obtain⟨σ7,H7,I7,q7⟩:=q7;exact⟨σ7,H7,I7.unpinned,q7⟩
  |ret v=>obtain⟨x7,σ7,H7,I7,r7,q7⟩:=q7;exact⟨x7,σ7,H7,I7.unpinned,r7,q7⟩
end
noncomputable abbrev R2:=V->V->Hp->VK->Prop
noncomputable def TC(X:Cx)(f:Value->Value->Sem Value)(r:R2):Prop :=
 ∀(Te:LO) (s:Oo) (σ:St) (H:Hp) (x y:V) (v u:Value) (Q:VK),Inv X Te σ H s->RelV x v->RelV y u->r x y H Q ->
  Op (Ou X.prog X.w) X.A (f v u) (EP X Te σ Q) X.xe s
noncomputable def Wy(X:Cx)(f:Value->Sem Value)(r:V->Hp->VK->Prop):Prop :=
 ∀(Te:LO) (s:Oo) (σ:St) (H:Hp) (x:V) (v:Value) (Q:VK),Inv X Te σ H s->RelV x v->r x H Q ->
  Op (Ou X.prog X.w) X.A (f v) (EP X Te σ Q) X.xe s
noncomputable def bZ(X:Cx)(f:Value)(r:List V->Hp->VK->Prop):Prop :=
 ∀(Te:LO) (s:Oo) (σ:St) (H:Hp) (xs:List V) (us:LV) (Q:VK),Inv X Te σ H s->Vals xs us->r xs H Q ->
  Op (Ou X.prog X.w) X.A (call f us) (EP X Te σ Q) X.xe s
noncomputable def Vr(r:R2)(ta tb:TE):TE:=λ σ H Q=>ta σ H λ x H1=>tb σ H1 λ y H2=>r x y H2 Q
noncomputable def tUn(r:V->Hp->VK->Prop)(ta:TE):TE:=λ σ H Q=>ta σ H λ x H1=>r x H1 Q
noncomputable def rI(C:Int->Int->Prop)(g:Int->Int->V):R2:=λ x y H Q=>pX x y λ i j=>C i j/\Q (g i j) H
noncomputable def UP(g:Int->Int->V):R2:=λ x y H Q=>pX x y λ i j=>Q (g i j) H
noncomputable def rU(g:Int->V):V->Hp->VK->Prop:=λ x H Q=>isI x λ i=>Q (g i) H
section
variable {a b c:Expr}{ta tb tc:TE}{pos:Pos}
theorem qh(ha:PE X a ta)(hb:PE X b tb){R:V->V->Hp->Prop}(I:Inv X Te σ H s)
  (h:ta σ H λ x H1=>tb σ H1 λ y H2=>R x y H2){f:Value->Value->Sem Value}
  (hf:∀v u s2 x y H2,Inv X Te σ H2 s2->RelV x v->RelV y u->R x y H2->Op (Ou X.prog X.w) X.A (f v u) Q X.xe s2) :
  Op (Ou X.prog X.w) X.A (eval a X.env) (λ v s₁=>Op (Ou X.prog X.w) X.A (eval b X.env) (λ u s₂=>Op (Ou X.prog X.w) X.A (f v u) Q X.xe s₂) X.xe s₁) X.xe s:=by
 refine To (ha Te s σ H _ I h) λ v s1 ⟨x,H1,I1,r1,q1⟩=>?_;refine To (hb Te s1 σ H1 _ I1 q1) λ u s2 ⟨y,H2,I2,r2,q2⟩=>?_;exact hf v u s2 x y H2 I2 r1 r2 q2
def BR(ho:TC X (OX op) r)(ha:PE X a ta)(hb:PE X b tb):PE X (.BinOp a op b pos) (Vr r ta tb):=by
 intro Te s σ H Q I h;exact wpAny_BinOp (qh ha hb I h λ v u s2 x y H2 I2 rx ry q=>ho Te s2 σ H2 x y v u Q I2 rx ry q)
def BS(ho:Wy X (unaryOp op) r)(ha:PE X a ta):PE X (.UnaryOp op a pos) (tUn r ta):=by
 intro Te s σ H Q I h;exact UnaryOp_ (To (ha Te s σ H _ I h) λ v s1 ⟨x,H1,I1,r1,q1⟩=>ho Te s1 σ H1 x v Q I1 r1 q1)
theorem Vl{f:Value->Value->Sem Value}{C:Int->Int->Prop}{g:Int->Int->Int}
  (Rz:∀(i j:Int) (t u:Tok) (s:Oo) (Q:VS) (E:VS),C i j->Q (.int (g i j) s.toks) { s with toks:=s.toks+1 }->Op (Ou X.prog X.w) X.A (f (.int i t) (.int j u)) Q E s) :
  TC X f (rI C λ i j=>.int (g i j)):=by
 intro Te s σ H x y v u Q I rx ry h;obtain⟨i,j,rfl,rfl,hc,q⟩:=pY h;obtain⟨t,rfl⟩:=rx;obtain⟨t',rfl⟩:=ry;exact Rz i j t t' s _ _ hc ⟨.int (g i j),H,I.tok _,⟨_,O⟩,q⟩
theorem lh{f:Value->Value->Sem Value}{g:Int->Int->Int}
  (Rz:∀(i j:Int) (t u:Tok) (s:Oo) (Q:VS) (E:VS),Q (.int (g i j) s.toks) { s with toks:=s.toks+1 }->Op (Ou X.prog X.w) X.A (f (.int i t) (.int j u)) Q E s) :
  TC X f (UP λ i j=>.int (g i j)):=by
 intro Te s σ H x y v u Q I rx ry h;obtain⟨i,j,rfl,rfl,q⟩:=pY h;obtain⟨t,rfl⟩:=rx;obtain⟨t',rfl⟩:=ry;exact Rz i j t t' s _ _ ⟨.int (g i j),H,I.tok _,⟨_,O⟩,q⟩
theorem nc{f:Value->Value->Sem Value}{g:Int->Int->Bool}
  (Rz:∀(i j:Int) (t u:Tok) (s:Oo) (Q:VS) (E:VS),Q (.bool (g i j)) s->Op (Ou X.prog X.w) X.A (f (.int i t) (.int j u)) Q E s) :
  TC X f (UP λ i j=>.bl (g i j)):=by
 intro Te s σ H x y v u Q I rx ry h;obtain⟨i,j,rfl,rfl,q⟩:=pY h;obtain⟨t,rfl⟩:=rx;obtain⟨t',rfl⟩:=ry;exact Rz i j t t' s _ _ ⟨.bl (g i j),H,I,O,q⟩
noncomputable def lj(i j:Int):Prop:=0<=j/\j<=1000000/\i.natAbs<2 ^ 64
noncomputable def CMul(i j:Int):Prop:=(-(2 ^ 64)<i/\i<2 ^ 64)\/(-(2 ^ 64)<j/\j<2 ^ 64)
def CMul.ok(h:CMul i j):QN i j:=by
 rcases h with ⟨h1,h2⟩|⟨h1,h2⟩
 .exact .of_left (SD h1 h2)
 .exact .of_right (SD h1 h2)
def BU(k:Nat):(0:Int)<=2 ^ k:=by
 rw[two_pow_cast];exact s0t _
def BV:TC X (OX .Add) (UP λ i j=>.int (i+j)):=lh λ _ _ _ _ _ _ _ q=>add_int q
def BW:TC X (OX .Sub) (UP λ i j=>.int (i-j)):=lh λ _ _ _ _ _ _ _ q=>sub_int q
def BX:TC X (OX .Mod) (rI (λ _ j=>0<j) λ i j=>.int (i%j)):=Vl λ i j _ _ _ _ _ hc q=>by
 have h1:(0:Int)<j:=hc;exact mod_int' Z (by rw[uo i Z];exact q)
def BY:TC X (OX .Mod) (rI (λ _ j=>j≠0) λ i j=>.int (i.fmod j)):=Vl λ _ _ _ _ _ _ _ hc q=>mod_int' hc q
def BZ:TC X (OX .Pow) (rI lj λ i j=>.int (i ^ j.toNat)):=Vl λ _ _ _ _ _ _ _ hc q=>pow_int_small hc.1 hc.2.1 hc.2.2 q
def Ca:TC X (OX .RShift) (rI (λ _ j=>0<=j) λ i j=>.int (i/2 ^ j.toNat)):=Vl λ i j _ _ _ _ _ hc q=>
 rshift_int hc (by rw[ng i (BU _)];exact q)
def Cb:TC X (OX .BitAnd) (UP λ i j=>.int (Builtin.bitAnd i j)):=lh λ _ _ _ _ _ _ _ q=>and_int q
def Cc:TC X (OX .BitOr) (UP λ i j=>.int (Builtin.bitOr i j)):=lh λ _ _ _ _ _ _ _ q=>or_int q
def Ce:TC X (OX .BitXor) (UP λ i j=>.int (Builtin.bitXor i j)):=lh λ _ _ _ _ _ _ _ q=>xor_int q
theorem unI{f:Value->Sem Value}{g:Int->Int}
  (Rz:∀(i:Int) (t:Tok) (s:Oo) (Q:VS) (E:VS),Q (.int (g i) s.toks) { s with toks:=s.toks+1 }->Op (Ou X.prog X.w) X.A (f (.int i t)) Q E s) :
  Wy X f (rU λ i=>.int (g i)):=by
 intro Te s σ H x v Q I rx h;obtain⟨i,rfl,q⟩:=Bf h;obtain⟨t,rfl⟩:=rx;exact Rz i t s _ _ ⟨.int (g i),H,I.tok _,⟨_,O⟩,q⟩
def Cf:Wy X (unaryOp .USub) (rU λ i=>.int (-i)):=unI λ _ _ _ _ _ q=>neg_int q
end
noncomputable def du:V->V->Bool
 |.non,.non=>Oi|.non,.int _=>Oi|.int _,.non=>Oi|.non,.bl _=>Oi|.bl _,.non=>Oi|.non,.str _=>Oi|.str _,.non=>Oi
 |.int _,.int _=>Oi|.bl _,.bl _=>Oi|.str _,.str _=>Oi|.byt _,.byt _=>Oi
 |.int _,.str _=>Oi|.str _,.int _=>Oi|.bl _,.str _=>Oi|.str _,.bl _=>Oi
 |_,_=>Ol
noncomputable def Wz:R2:=λ x y H Q=>match x,y with
 |.int i,.int j=>Q (.bl (decide (i=j))) H
 |.str i,.str j=>Q (.bl (decide (i=j))) H
 |x,y=>du x y=Oi/\Q (.bl (decide (x=y))) H
def WV(i j:Int):decide (V.int i=V.int j)=decide (i=j):=qi.mpr ⟨λ h=>V.int.inj h,λ h=>h ▸ rfl⟩
def WW(i j:Str):decide (V.str i=V.str j)=decide (i=j):=qi.mpr ⟨λ h=>V.str.inj h,λ h=>h ▸ rfl⟩
def nh(p:Prop):p=(Oi=Oi/\p):=propext ⟨λ h=>⟨rfl,h⟩,λ h=>h.2⟩
def rEq_ex:Wz x y H Q=(du x y=Oi/\Q (.bl (decide (x=y))) H):=by
 cases x<;>cases y<;>first|rfl|(rw[WV];exact nh _)|(rw[WW];exact nh _)
def Cg(h:Wz x y H Q):du x y=Oi/\Q (.bl (decide (x=y))) H:=rEq_ex.mp h
noncomputable def WA:R2:=λ x y H Q=>match x,y with
 |.int i,.int j=>Q (.bl (!decide (i=j))) H
 |.str i,.str j=>Q (.bl (!decide (i=j))) H
 |x,y=>du x y=Oi/\Q (.bl (!decide (x=y))) H
def rNe_ex:WA x y H Q=(du x y=Oi/\Q (.bl (!decide (x=y))) H):=by
 cases x<;>cases y<;>first|rfl|(rw[WV];exact nh _)|(rw[WW];exact nh _)
def Ch(h:WA x y H Q):du x y=Oi/\Q (.bl (!decide (x=y))) H:=rNe_ex.mp h
def uq:decide (V.int i=V.int j)=(i == j):=by
 rw[lr];simp
def ur:decide (V.bl i=V.bl j)=(i == j):=by
 rw[lr];simp
def ut:decide (V.str i=V.str j)=(i == j):=by
 rw[lr];simp
def uu:decide (V.byt i=V.byt j)=(i.toList == j.toList):=by
 rw[lr];cases i;cases j;simp
section
variable {a b c:Expr}{ta tb tc:TE}{pos:Pos}
def bx{Q:VK}{k k':Bool}(I:Inv X Te σ H s)(q:Q (.bl k) H)(e:k=k'):EP X Te σ Q (.bool k') s:=by
 subst e;exact⟨.bl k,H,I,O,q⟩
def iU:TC X (OR .Eq) Wz:=by
 intro Te s σ H x y v u Q I rx ry h;obtain⟨hs,q⟩:=Cg h
 cases x with
 |non=>
  cases rx
  cases y with
  |non=>cases ry;exact PySem.EqNone.eq_none_none (bx I q on)
  |bl j=>cases ry;exact PySem.EqNone.eq_none_bool (bx I q on)
  |int j=>obtain⟨t',rfl⟩:=ry;exact PySem.EqNone.eq_none_int (bx I q on)
  |str j=>obtain⟨t',rfl⟩:=ry;exact PySem.EqNone.eq_none_str (bx I q on)
  |_=>exact XU (show Ol=Oi from hs) bN
 |bl i=>
  cases rx
  cases y with
  |non=>cases ry;exact PySem.EqNone.eq_bool_none (bx I q on)
  |bl j=>cases ry;exact eq_bool (bx I q ur)
  |str j=>obtain⟨t',rfl⟩:=ry;exact PySem.EqMixed.eq_bool_str (bx I q on)
  |_=>exact XU (show Ol=Oi from hs) bN
 |int i=>
  obtain⟨t,rfl⟩:=rx
  cases y with
  |non=>cases ry;exact PySem.EqNone.eq_int_none (bx I q on)
  |int j=>obtain⟨t',rfl⟩:=ry;exact eq_int (bx I q uq)
  |str j=>obtain⟨t',rfl⟩:=ry;exact PySem.EqMixed.eq_int_str (bx I q on)
  |_=>exact XU (show Ol=Oi from hs) bN
 |str i=>
  obtain⟨t,rfl⟩:=rx
  cases y with
  |non=>cases ry;exact PySem.EqNone.eq_str_none (bx I q on)
  |bl j=>cases ry;exact PySem.EqMixed.eq_str_bool (bx I q on)
  |int j=>obtain⟨t',rfl⟩:=ry;exact PySem.EqMixed.eq_str_int (bx I q on)
  |str j=>obtain⟨t',rfl⟩:=ry;exact eq_str (bx I q ut)
  |_=>exact XU (show Ol=Oi from hs) bN
 |byt i=>
  obtain⟨t,rfl⟩:=rx
  cases y with
  |byt j=>obtain⟨t',rfl⟩:=ry;exact W.eq_bytes (bx I q uu)
  |_=>exact XU (show Ol=Oi from hs) bN
 |_=>cases y<;>exact XU (show Ol=Oi from hs) bN
def iV:TC X (OR .NotEq) WA:=by
 intro Te s σ H x y v u Q I rx ry h;obtain⟨hs,q⟩:=Ch h
 cases x with
 |non=>
  cases rx
  cases y with
  |non=>cases ry;exact PySem.EqNone.ne_none_none (bx I q on)
  |bl j=>cases ry;exact PySem.EqNone.ne_none_bool (bx I q on)
  |int j=>obtain⟨t',rfl⟩:=ry;exact PySem.EqNone.ne_none_int (bx I q on)
  |str j=>obtain⟨t',rfl⟩:=ry;exact PySem.EqNone.ne_none_str (bx I q on)
  |_=>exact XU (show Ol=Oi from hs) bN
 |bl i=>
  cases rx
  cases y with
  |non=>cases ry;exact PySem.EqNone.ne_bool_none (bx I q on)
  |bl j=>cases ry;exact ne_bool (bx I q (bw not ur))
  |str j=>obtain⟨t',rfl⟩:=ry;exact PySem.EqMixed.ne_bool_str (bx I q on)
  |_=>exact XU (show Ol=Oi from hs) bN
 |int i=>
  obtain⟨t,rfl⟩:=rx
  cases y with
  |non=>cases ry;exact PySem.EqNone.ne_int_none (bx I q on)
  |int j=>obtain⟨t',rfl⟩:=ry;exact ne_int (bx I q (bw not uq))
  |str j=>obtain⟨t',rfl⟩:=ry;exact PySem.EqMixed.ne_int_str (bx I q on)
  |_=>exact XU (show Ol=Oi from hs) bN
 |str i=>
  obtain⟨t,rfl⟩:=rx
  cases y with
  |non=>cases ry;exact PySem.EqNone.ne_str_none (bx I q on)
  |bl j=>cases ry;exact PySem.EqMixed.ne_str_bool (bx I q on)
  |int j=>obtain⟨t',rfl⟩:=ry;exact PySem.EqMixed.ne_str_int (bx I q on)
  |str j=>obtain⟨t',rfl⟩:=ry;exact ne_str (bx I q (bw not ut))
  |_=>exact XU (show Ol=Oi from hs) bN
 |byt i=>
  obtain⟨t,rfl⟩:=rx
  cases y with
  |byt j=>obtain⟨t',rfl⟩:=ry;exact W.ne_bytes (bx I q (bw not uu))
  |_=>exact XU (show Ol=Oi from hs) bN
 |_=>cases y<;>exact XU (show Ol=Oi from hs) bN
def Ci:TC X (OR .Lt) (UP λ i j=>.bl (decide (i<j))):=nc λ _ _ _ _ _ _ _ q=>lt_int q
def Cj:TC X (OR .LtE) (UP λ i j=>.bl (decide (i<=j))):=nc λ _ _ _ _ _ _ _ q=>le_int q
def Ck:TC X (OR .Gt) (UP λ i j=>.bl (decide (j<i))):=nc λ _ _ _ _ _ _ _ q=>gt_int q
def Cm:TC X (OR .GtE) (UP λ i j=>.bl (decide (j<=i))):=nc λ _ _ _ _ _ _ _ q=>ge_int q
def Cn:TC X (OR .Is) (λ x y H Q=>y=.non/\Q (.bl (decide (x=.non))) H):=by
 intro Te s σ H x y v u Q I rx ry h;obtain⟨rfl,q⟩:=h;cases ry;refine is_none_gen (bx I q ?_)
 cases x<;>first
  |(cases rx;rfl)
  |(obtain⟨t,rfl⟩:=rx;rfl)
def Co:TC X (OR .IsNot) (λ x y H Q=>y=.non/\Q (.bl (!decide (x=.non))) H):=by
 intro Te s σ H x y v u Q I rx ry h;obtain⟨rfl,q⟩:=h;cases ry;refine isnot_none_gen (bx I q ?_)
 cases x<;>first
  |(cases rx;rfl)
  |(obtain⟨t,rfl⟩:=rx;rfl)
def Cp(ho:TC X (OR op) r)(ha:PE X a ta)(hb:PE X b tb)(hm:Qw op b=Ol):PE X (.Compare a [op] [b] pos) (Vr r ta tb):=by
 intro Te s σ H Q I h;exact wpAny_Compare1 (qh ha hb I h λ v u s2 x y H2 I2 rx ry q=>ho Te s2 σ H2 x y v u Q I2 rx ry q) hm
noncomputable def uv(t:TE):TT:=λ σ H Q=>t σ H λ x H'=>isB x λ k=>Q k H'
def Cq(ho:TC X (OR op) r)(ha:PE X a ta)(hb:PE X b tb)(hm:Qw op b=Ol):PT X (.Compare a [op] [b] pos) (uv (Vr r ta tb)):=by
 intro Te s σ H Q I h
 refine wpAny_isTrue_Compare1 (To (ha Te s σ H _ I h) λ v s1 ⟨x,H1,I1,r1,q1⟩=>To (hb Te s1 σ H1 _ I1 q1) λ u s2 ⟨y,H2,I2,r2,q2⟩ =>
  To (ho Te s2 σ H2 x y v u _ I2 r1 r2 q2) λ c s3 ⟨z,H3,I3,r3,q3⟩=>?_) hm
 obtain⟨k,e,q3⟩:=jL q3;subst e;cases r3;exact ga ⟨H3,I3,q3⟩
noncomputable def uw(r r':R2)(ta tb tc:TE):TE:=λ σ H Q=>ta σ H λ x H1=>tb σ H1 λ y H2=>r x y H2 λ z H3=>∃k,z=.bl k /\
 (if k=Oi then tc σ H3 λ w' H4=>r' y w' H4 Q else Q (.bl Ol) H3)
theorem Cs(ho:TC X (OR op) r)(ho':TC X (OR op') r')(ha:PE X a ta)(hb:PE X b tb)(hc:PE X c tc)
  (hm:Sj [op,op'] [b,c]=Ol:=by with_unfolding_all rfl):PE X (.Compare a [op,op'] [b,c] pos) (uw r r' ta tb tc):=by
 intro Te s σ H Q I h
 refine Compare_chain (To (ha Te s σ H _ I h) λ v s1 ⟨x,H1,I1,r1,q1⟩=>chain_link (To (hb Te s1 σ H1 _ I1 q1) λ u s2 ⟨y,H2,I2,r2,q2⟩ =>
  To (ho Te s2 σ H2 x y v u _ I2 r1 r2 q2) λ d s3 ⟨z,H3,I3,r3,k,e,q3⟩=>?_)) hm
 subst e;cases r3;refine ga ?_
 cases k with
 |false=>exact ite_ff ⟨.bl Ol,H3,I3,rfl,q3⟩
 |true=>exact ite_tt (chain_last (To (hc Te s3 σ H3 _ I3 q3) λ w' s4 ⟨z',H4,I4,r4,q4⟩=>ho' Te s4 σ H4 y z' u w' Q I4 r2 r4 q4))
theorem Cu(ho:TC X (OR op) r)(ho':TC X (OR op') r')(ha:PE X a ta)(hb:PE X b tb)(hc:PE X c tc)
  (hm:Sj [op,op'] [b,c]=Ol:=by with_unfolding_all rfl):PT X (.Compare a [op,op'] [b,c] pos) (uv (uw r r' ta tb tc)):=by
 intro Te s σ H Q I h
 refine isTrue_chain (To (ha Te s σ H _ I h) λ v s1 ⟨x,H1,I1,r1,q1⟩=>test_link (To (hb Te s1 σ H1 _ I1 q1) λ u s2 ⟨y,H2,I2,r2,q2⟩ =>
  To (ho Te s2 σ H2 x y v u _ I2 r1 r2 q2) λ d s3 ⟨z,H3,I3,r3,k,e,q3⟩=>?_)) hm
 subst e;cases r3;refine ga ?_
 cases k with
 |false=>
  obtain⟨k',e',q'⟩:=jL (show isB (V.bl Ol) (λ k=>Q k H3) from q3);cases e';exact ite_ff ⟨H3,I3,q'⟩
 |true=>
  refine ite_tt (test_last (To (hc Te s3 σ H3 _ I3 q3) λ w' s4 ⟨z',H4,I4,r4,q4⟩=>To (ho' Te s4 σ H4 y z' u w' _ I4 r2 r4 q4) λ d' s5 ⟨z2,H5,I5,r5,q5⟩=>?_));obtain⟨k2,e2,q5⟩:=jL q5;subst e2;cases r5;exact ga ⟨H5,I5,q5⟩
def jN:(Oq:Nat)<2 ^ 63:=by rw[jO];decide
def cB{x:V}(r:Vals [x] us):∃u,us=[u]/\RelV x u:=by
 cases r with
 |cons r1 r2=>cases r2;exact⟨_,rfl,r1⟩
def nj{x y:V}(r:Vals [x,y] us):∃u w',us=[u,w']/\RelV x u/\RelV y w':=by
 cases r with
 |cons r1 r2=>
  cases r2 with
  |cons r3 r4=>cases r4;exact⟨_,_,rfl,r1,r3⟩
def Cv:bZ X (.builtin "abs") (λ xs H Q=>∃i,xs=[.int i]/\Q (.int (if i<0 then -i else i)) H):=by
 intro Te s σ H xs us Q I r h;obtain⟨i,rfl,q⟩:=h;obtain⟨u,rfl,t,rfl⟩:=cB r;exact call_abs_int λ u tk=>⟨.int (if i<0 then -i else i),H,I.tok _,⟨_,O⟩,q⟩
def Cw(hc:X.calm=Oi):bZ X (.builtin "max") (λ xs H Q=>∃i j,xs=[.int i,.int j]/\Q (.int (if j > i then j else i)) H):=by
 intro Te s σ H xs us Q I r h;obtain⟨i,j,rfl,q⟩:=h;obtain⟨u,w',rfl,⟨t,rfl⟩,⟨t',rfl⟩⟩:=nj r;refine max_two_ints (I.ok.hd hc) λ h' tk k=>⟨_,H,I.kept k,?_,q⟩;by_cases hj:j > i
 .rw[XT hj,XT hj];exact⟨_,rfl⟩
 .rw[XR hj,XR hj];exact⟨_,rfl⟩
def Cy(hc:X.calm=Oi):bZ X (.builtin "min") (λ xs H Q=>∃i j,xs=[.int i,.int j]/\Q (.int (if j<i then j else i)) H):=by
 intro Te s σ H xs us Q I r h;obtain⟨i,j,rfl,q⟩:=h;obtain⟨u,w',rfl,⟨t,rfl⟩,⟨t',rfl⟩⟩:=nj r;refine min_two_ints (I.ok.hd hc) λ h' tk k=>⟨_,H,I.kept k,?_,q⟩;by_cases hj:j<i
 .rw[XT hj,XT hj];exact⟨_,rfl⟩
 .rw[XR hj,XR hj];exact⟨_,rfl⟩
def uy:bZ X (.type "int") (λ xs H Q=>(∃i,xs=[.int i]/\Q (.int i) H)\/∃k,xs=[.bl k]/\Q (.int (if k then 1 else 0)) H):=by
 intro Te s σ H xs us Q I r h
 rcases h with ⟨i,rfl,q⟩|⟨k,rfl,q⟩
 .obtain⟨u,rfl,t,rfl⟩:=cB r;exact call_int_int ⟨.int i,H,I,⟨_,O⟩,q⟩
 .obtain⟨u,rfl,r1⟩:=cB r;cases r1;exact call_int_bool ⟨.int (if k then 1 else 0),H,I.tok _,⟨_,O⟩,q⟩
end
section
variable {prog:Ov}{w:Ow}{A:Oy}{E:VS}{s:Oo}{K:FG}{x dx C f:On}{mA:SV}{name:Str}{v:Value}
end
section
variable {P:Ov}{w:Ow}{H H':Hp}{h h':Oz}{a C dx:On}{fs fs':List (Str×V)}
end
section
variable {Te:LO}{σ:St}{H:Hp}{s:Oo}{a C dx:On}{fs:List (Str×V)}{f:Str}{v:V}{A:Oy}{E:VS}
end
section
variable {o e value:Expr}{f:Str}{pos pos' tpos:Pos}{ta tv:TE}
end
section
variable {Te:LO}{σ:St}{H:Hp}{s:Oo}{A:Oy}{E:VS}{Q:VS}{c:Value}{b:Bool}
end
structure Room (k:Nat)(A:Oy):Prop where
 hd:A.handled=Oj
 dp:A.depth+3*k+5<Se
 un:A.units+16*k+200<Pu
def Room.mono{j k:Nat}(r:Room k A)(h:j<=k):Room j A:=⟨r.hd,by have:=r.dp;lia,by have:=r.un;lia⟩
def Room.deeper{k:Nat}(r:Room (k+1) A)(env:Env):Room k (A.deeper env) :=
 ⟨r.hd,by have:=r.dp;show A.depth+1+3*k+5<_;lia,by have:=r.un;show A.units+3+16*k+200<_;lia⟩
def Room.depth(r:Room k A):A.depth<Se:=by have:=r.dp;lia
noncomputable def iW:TA:=λ _ H Q=>Q [] H
noncomputable def Cz(ta:TE)(tr:TA):TA:=λ σ H Q=>ta σ H λ x H1=>tr σ H1 λ xs H2=>Q (x::xs) H2
section
variable {e:Expr}{es:List Expr}{te:TE}{t:TA}{pos:Pos}
def pa_nil:PA X [] iW:=λ _ _ _ _ H Q I h=>qj ⟨[],H,I,.nil,h⟩
def da(ha:PE X e te)(hr:PA X es t)(hs:OE (e::es) X.env=(Ol,eval e X.env)::OE es X.env:=by rfl):PA X (e::es) (Cz te t):=by
 intro pos Te s σ H Q I h;rw[hs];show Op _ _ (spliced ((Ol,eval e X.env)::Pk pos (OE es X.env))) _ _ s;refine qk (To (ha Te s σ H _ I h) λ u s1 ⟨x,H1,I1,r1,q1⟩=>?_);exact To (hr pos Te s1 σ H1 _ I1 q1) λ us s2 ⟨xs,H2,I2,r2,q2⟩=>⟨x::xs,H2,I2,.cons r1 r2,q2⟩
noncomputable def CA(t:TA):TE:=λ σ H Q=>t σ H λ xs H1=>xs.length<=Oq/\∀p,H1 p=Oj->Q (.ref p) (Ti H1 p (.tup xs))
noncomputable def iX(t:TA):TE:=λ σ H Q=>t σ H λ xs H1=>xs.length<=Oq/\∀p,H1 p=Oj->Q (.ref p) (Ti H1 p (.lst xs))
def CB{x1}(h:PA X es t):PE X (.Tuple es x1 pos) (CA t):=by
 intro Te s σ H Q I hq;refine wpAny_Tuple_spliced (To (h pos Te s σ H _ I hq) λ us s1 ⟨xs,H1,I1,r,z,q⟩=>⟨by rw[<- r.length];exact z,?_⟩);have hf:H1 s1.heap.objs.size=Oj:=I1.hok.fresh (ao _);refine⟨.ref s1.heap.objs.size,Ti H1 s1.heap.objs.size (.tup xs),I1.laid (t':=s1.toks) (λ b u e=>aO _ e) (ao _) ?_,O,q _ hf⟩;exact⟨z,us,r,⟨_,bn _ rfl,⟨O,_,O⟩,O⟩⟩
def qm(h:PA X es t):PE X (.List es pos) (iX t):=by
 intro Te s σ H Q I hq;refine wpAny_List_spliced (To (h pos Te s σ H _ I hq) λ us s1 ⟨xs,H1,I1,r,z,q⟩=>⟨by rw[<- r.length];exact z,?_⟩);have hf:H1 s1.heap.objs.size=Oj:=I1.hok.fresh (ao _);refine⟨.ref s1.heap.objs.size,Ti H1 s1.heap.objs.size (.lst xs),I1.laid (t':=s1.toks) (λ b u e=>aO _ e) (ao _) ?_,O,q _ hf⟩;exact⟨z,us,0,r,bn _ rfl⟩
end
noncomputable abbrev Sp:=List V->Hp->VK->XK->Prop
noncomputable abbrev UE:=List Env->Hp->Oo->XK->VS
structure UA (P:Ov)(w:Ow)(K:FG)(mg:SV)(base:Oz)(A:Oy)(outer:List Env)(s:Oo)(H:Hp):Prop where
 frames:A.frames=Oh outer
 mod:Mod K mg base
 bs:∀b o,base.get? b=Oh o->s.heap.get? b=Oh o/\H b=Oj
 bsz:base.objs.size<=s.heap.objs.size
 funs:s.heap.FunFrames base outer
 frf:∀b∈Uu outer,H b=Oj
 hok:HOk P w H s.heap
 bare:PU s.gens
noncomputable def CE(outer:List Env)(P:Ov)(w:Ow)(H:Hp)(s:Oo)(Q:VK)(u:Value)(s':Oo):Prop :=
 ∃v H',s'.os=s.os/\PU s'.gens/\Un (Uu outer) [] H H' s.heap s'.heap/\HOk P w H' s'.heap/\RelV v u/\Q v H'
noncomputable def CR(CX:UE)(outer:List Env)(P:Ov)(w:Ow)(H:Hp)(s:Oo)(Q:VK)(E:XK)(r:QX)(s':Oo):Prop :=
 match r with
 |.ok (.ret u)=>CE outer P w H s Q u s'
 |.ok _=>False
 |.error e=>CX outer H s E e s'
structure FnOk (P:Ov)(w:Ow)(K:FG)(mg:SV)(base:Oz)(CX:UE)(k:Nat)(f:On)(fd:OP)(ps:List Str)(sp:Sp):Prop where
 len:∀vs H Q E,sp vs H Q E->vs.length=ps.length
 run:∀(A:Oy) (outer:List Env) (s:Oo) (H:Hp) (args:Args) (us:LV) (vs:List V) (Q:VK) (E:XK),Room k A->UA P w K mg base A outer s H->QK s fd args (ps.zip us)->Vals vs us->sp vs H Q E ->
  Pt (Ou P w) A (.call (.ref f) args) (CR CX outer P w H s Q E) s
theorem FnOk.mono{K:FG}{j k:Nat}(F:FnOk P w K mg base CX j f fd ps sp)(h:j<=k) :
  FnOk P w K mg base CX k f fd ps sp:=⟨F.len,λ A outer s H args us vs Q E hr=>F.run A outer s H args us vs Q E (hr.mono h)⟩
theorem FnOk.imp{K:FG}{sp sp':Sp}(F:FnOk P w K mg base CX k f fd ps sp)
  (h:∀vs H Q E,sp' vs H Q E->sp vs H Q E):FnOk P w K mg base CX k f fd ps sp' :=
 ⟨λ vs H Q E q=>F.len vs H Q E (h _ _ _ _ q),λ A outer s H args us vs Q E hr he hb hv hs=>F.run A outer s H args us vs Q E hr he hb hv (h _ _ _ _ hs)⟩
section
variable {Te:LO}{σ:St}{H:Hp}{s s':Oo}
def Inv.env0(I:Inv X Te σ H s):UA X.prog X.w X.K X.mg X.base X.A X.stack s H :=
 ⟨I.ok.frames,I.ok.mod,I.bs,cL I.ok.bsz I.sz,I.stack,I.stkFree,I.hok,I.bare⟩
def Inv.after(I:Inv X Te σ H s)(h:CE X.stack X.prog X.w H s Q u s'):EP X Te σ Q u s':=by
 obtain⟨v,H',os,bare,un,hok,r,q⟩:=h;obtain⟨hh,g,d,t,os'⟩:=s';obtain rfl:os'=s.os:=os;exact⟨v,H',I.call (h':=hh) (g':=g) (d':=d) (t':=t) (ch:=[]) un hok bare (λ b z=>XU z on),r,q⟩
end
noncomputable def uz(sp:Sp)(dvs:List V)(E:XK)(t:TA):TE:=λ σ H Q=>t σ H λ vs H1=>sp (vs++dvs) H1 Q E
noncomputable def Binds(K:FG)(fd:OP)(ps:List Str)(ds:LV):Prop :=
 ∀(s:Oo) (us:LV),K.In s.heap->(us++ds).length=ps.length->QK s fd ⟨us,[]⟩ (ps.zip (us++ds))
def Binds.all{K:FG}{ps:List Str}(h:∀us:LV,us.length=ps.length->Pe fd ⟨us,[]⟩=OF (ps.zip us)):Binds K fd ps []:=λ s us _ hl=>by
 rw[ef] at hl ⊢;exact .of_eq (h us hl)
noncomputable def nq(CX:UE)(X:Cx)(E:XK):Prop:=∀(Te:LO) (σ:St) (H:Hp) (s:Oo) (e:Value) (s':Oo),Inv X Te σ H s->CX X.stack H s E e s'->X.xe e s'
section
variable {CX:UE}{k:Nat}{f C:On}{fd:OP}{ps:List Str}{sp:Sp}{dvs:List V}{ds:LV}{E:XK}{x m:Str}{p pos apos:Pos}{e o:Expr}{es:List Expr}{ta:TE}{t:TA}
theorem CC{vs:List V}(F:FnOk X.prog X.w X.K X.mg X.base CX k f fd ps sp)(hr:Room k X.A)(hb:Binds X.K fd ps ds)(hd:Vals dvs ds)(hx:nq CX X E)
  (I:Inv X Te σ H s) (r:Vals vs us) (h:sp (vs++dvs) H Q E):Op (Ou X.prog X.w) X.A (call (.ref f) us) (EP X Te σ Q) X.xe s:=by
 have r2:Vals (vs++dvs) (us++ds):=r.append hd;have hl:(us++ds).length=ps.length:=by rw[<- r2.length];exact F.len _ _ _ _ h
 refine RT (lx (F.run X.A X.stack s H ⟨us,[]⟩ (us++ds) (vs++dvs) Q E hr I.env0 (hb s us I.kIn hl) r2 h) λ r s' hq=>?_)
 cases r with
 |error e=>exact hx Te σ H s e s' I hq
 |ok fl=>
  cases fl with
  |ret u=>exact I.after hq
  |next|brk|cont=>exact OV hq
theorem CD(F:FnOk X.prog X.w X.K X.mg X.base CX k f fd ps sp)(hr:Room k X.A)(hg:Gl X x)(hm:X.mg x=Oh (.ref f))(hk:W.keepIn X.K (.ref f)=Oi)(hb:Binds X.K fd ps ds)(hd:Vals dvs ds)(hx:nq CX X E)
  (ha:PA X (e::es) t) (hdb:(x == ("__debug__" : Str))=Ol:=by decide) (he:OE (e::es) X.env=(Ol,eval e X.env)::OE es X.env:=by rfl) (hpl:(Pk pos (OE es X.env)).any (·.1)=Ol:=by rfl) :
  PE X (.Call (.Name x p) (e::es) [] pos) (uz sp dvs E t):=by
 intro Te s σ H Q I h;refine jP (mU I hg hm ?_ hdb);refine W.callWith_K (h₀:=X.base) I.ok.mod.kin hk (To (ha pos Te s σ H _ I h) λ us s1 ⟨vs,H1,I1,r,q⟩=>⟨I1.kIn,?_⟩) he hpl;exact CC F hr hb hd hx I1 r q
end
section
variable {CX:UE}{k:Nat}{f C:On}{fd:OP}{ps ks:List Str}{sp:Sp}{E:XK}{x m:Str}{p pos apos kpos:Pos}{e o:Expr}{es:List Expr}{kws:List Qf}{te ta:TE}{t tk:TA}{nm:Option Str}
variable {g:LV->LV->LV}{gV:List V->List V->List V}
end
structure Tw (N P:List Str)(sc:Scope):Prop where
 kind:sc.kind=.function
 co:sc.isCoroutine=Ol
 gen:sc.isGenerator=Ol
 nd:N.Nodup
 pre:N.take P.length=P
 par:∀x∈P,sc.names.lookup x=Oh .local\/sc.names.lookup x=Oh .cell
 nofree:∀y∈sc.names,y.2≠.free
theorem uA{kindOf:Str->Option OD}{x:Str}:∀ {binds:List (Str×Value)}{m:SV},(∀v,(x,v) ∉ binds)->Qc kindOf binds m x=m x
 |[],_,_=>rfl
 |(n,v)::r,m,h=>by
  unfold Qc;rw[uA λ w hw=>h w (aW _ hw)];split
  .have:x≠n:=by rintro rfl;exact h v bg
   simp[this]
  .rfl
theorem uB{kindOf:Str->Option OD}{x:Str}:∀ {binds:List (Str×Value)}{m:SV},(∀v,(x,v) ∉ binds)->Qb kindOf binds m x=m x
 |[],_,_=>rfl
 |(n,v)::r,m,h=>by
  unfold Qb;rw[uB λ w hw=>h w (aW _ hw)];split
  .rfl
  .have:x≠n:=by rintro rfl;exact h v bg
   simp[this]
theorem qo{kindOf:Str->Option OD}:∀ {P:List Str}{vs:LV}{i:Nat}{m:SV},P.Nodup->P[i]?=Oh x->vs[i]?=Oh v->kindOf x=Oh .local ->
  Qc kindOf (P.zip vs) m x=Oh v
 |[],_,_,_,_,h,_,_=>by simp at h
 |_::_,[],_,_,_,_,h,_=>by simp at h
 |p::P,w::vs,0,m,nd,h1,h2,hk=>by
  simp at h1 h2;subst h1;subst h2;show Qc kindOf ((p,w)::P.zip vs) m p=_;unfold Qc;rw[uA λ v hv=>(gi.mp nd).1 (ly hv).1,XT hk];simp
 |p::P,w::vs,i+1,m,nd,h1,h2,hk=>by
  show Qc kindOf ((p,w)::P.zip vs) m x=_;unfold Qc;exact qo (i:=i) (gi.mp nd).2 (by simpa using h1) (by simpa using h2) hk
theorem qp{kindOf:Str->Option OD}:∀ {P:List Str}{vs:LV}{i:Nat}{m:SV},P.Nodup->P[i]?=Oh x->vs[i]?=Oh v->kindOf x≠Oh .local ->
  Qb kindOf (P.zip vs) m x=Oh v
 |[],_,_,_,_,h,_,_=>by simp at h
 |_::_,[],_,_,_,_,h,_=>by simp at h
 |p::P,w::vs,0,m,nd,h1,h2,hk=>by
  simp at h1 h2;subst h1;subst h2;show Qb kindOf ((p,w)::P.zip vs) m p=_;unfold Qb;rw[uB λ v hv=>(gi.mp nd).1 (ly hv).1,XR hk];simp
 |p::P,w::vs,i+1,m,nd,h1,h2,hk=>by
  show Qb kindOf ((p,w)::P.zip vs) m x=_;unfold Qb;exact qp (i:=i) (gi.mp nd).2 (by simpa using h1) (by simpa using h2) hk
noncomputable def Tn(N:List Str)(vs:List V):St:=vs.map Oh++Os (N.length-vs.length) Oj
noncomputable def dP(CX:UE)(P:Ov)(w:Ow)(K:FG)(mg:SV)(base:Oz)(N:List Str)(qual:Str)(scope:Scope)(f:On)(cd:Value)(A:Oy)(outer:List Env)(s:Oo)(H:Hp)(E:XK):Cx where
 prog:=P
 w:=w
 K:=K
 mg:=mg
 base:=base
 A:=A.deeper (Pg qual scope s.heap.objs.size f cd)
 N:=N
 s₀:=s
 H₀:=H
 env:=Pg qual scope s.heap.objs.size f cd
 outer:=outer
 stack:=Pg qual scope s.heap.objs.size f cd::outer
 ex:=[]
 calm:=Oi
 fn:=λ _=>Oi
 pn:=[]
 xe:=λ e s'=>Op (Ou P w) (A.deeper (Pg qual scope s.heap.objs.size f cd)) (leaving (Pg qual scope s.heap.objs.size f cd) e) (λ _ s''=>CX outer H s E e s'') (λ e' s''=>CX outer H s E e' s'') s'
def lA{sc:Scope}(h:sc.names.lookup x=Oh .cell):∃c,(OH n sc.names []).lookup x=Oh c:=by
 have q:=jQ sc.names n [] (.inl h);exact iY.mp q
theorem CF{K:FG}{A:Oy}{s s1:Oo}{vs:List V}
  (S:Tw N ps scope) (hd:A.handled=Oj) (e0:UA P w K mg base A outer s H) (hl:vs.length=ps.length) (r:Vals vs us)
  (x:Qd s s.heap.objs.size (Qc (Pg qual scope s.heap.objs.size f cd).kindOf (ps.zip us) λ _=>Oj) (OH (s.heap.objs.size+1) scope.names []) (Qb (Pg qual scope s.heap.objs.size f cd).kindOf (ps.zip us) λ _=>Oj) s1) :
  Inv (dP CX P w K mg base N qual scope f cd A outer s H E) [] (Tn N vs) H s1:=by
 have hpl:ps.length<=N.length:=by have:=bw Ph S.pre;rw[aQ] at this;lia
 obtain⟨h1,tk,rfl,hk⟩:=x.done;have noA:∀b:On,b ∉ (dP CX P w K mg base N qual scope f cd A outer s H E).ex:=λ b z=>XU (show b∈([]:List On) from z) on
 refine⟨⟨e0.mod,S.kind,O,O,ao _,λ y z c h1 h2=>?_,λ y hy=>?_,λ y c _ h=>?_,λ _=>hd,uC e0.frames,.inr ⟨O,O⟩,λ b z=>XU z (noA b),e0.bs,e0.bsz,λ b _ _=>noA b,λ b z=>XU z (noA b),e0.funs,e0.frf⟩,
  rfl,e0.bare,Un.kept hk,⟨_,x.toInCall.ns,λ i y v h1 h2 h3=>?_⟩,λ y c h=>⟨_,x.cell y c h⟩,e0.hok.fresh (ao _),λ y c h=>?_,λ p hp=>XU (show p∈([]:LO) from hp) on,e0.hok.kept hk,?_⟩
 .exact nr x.apart (dQ h1) (dQ h2)
 .have hy:scope.names.lookup y=Oh .cell\/scope.names.lookup y=Oh .free:=hy
  rcases hy with hy|hy
  .exact lA hy
  .exact XU rfl (S.nofree _ (dQ hy))
 .exact dN (x.above y c (dQ h))
 .have hi:i<vs.length:=by
   unfold Tn at h2;by_cases hi:i<vs.length
   .exact hi
   .rw[cM (by simpa using hi)] at h2;rw[fI] at h2;split at h2<;>cases h2
  have ha:vs[i]?=Oh v:=by
   unfold Tn at h2;rw[cN (by simpa using hi),bh] at h2
   cases e:vs[i]? with
   |none=>rw[e] at h2;cases h2
   |some a=>rw[e] at h2;cases h2;rfl
  obtain⟨u,hu,rv⟩:=r.get ha
  have hp:ps[i]?=Oh y:=by
   rw[<- S.pre,ny Z];exact h1
  have ndP:ps.Nodup:=by rw[<- S.pre];exact S.nd.sublist (Rf _ _)
  refine⟨u,rv,?_⟩
  rcases S.par y (aE hp) with k|k
  .exact .inl ⟨k,qo ndP hp hu k⟩
  .obtain⟨c,e⟩:=lA (n:=s.heap.objs.size+1) k;refine .inr ⟨.inl k,c,e,?_⟩;have q:=x.cell y c e;rw[qp ndP hp hu (by show scope.names.lookup y≠_;rw[k];decide)] at q;exact q
 .exact e0.hok.fresh (dN (x.above y c (dQ h)))
 .unfold Tn;show _=N.length;rw[aF,ag,dC];lia
theorem uD{K:FG}{dV kV doc pm cdv ct oc:Value}{an od:OA}
  {osl:AV}{sp:Sp}(lk:K.lookup f=Oh ⟨oc,od,.func (W.fnOf name qual params body scope dV kV doc pm an cdv ct),osl⟩) (hcd:W.codeIn K cdv qual=Oi) (S:Tw N ps scope)
  (len:∀vs H Q E,sp vs H Q E->vs.length=ps.length)
  (hbody:∀(A:Oy) (outer:List Env) (s:Oo) (H:Hp) (vs:List V) (Q:VK) (E:XK),Room k (A.deeper (Pg qual scope s.heap.objs.size f cdv))->sp vs H Q E ->
   ∃t,PSs (dP CX P w K mg base N qual scope f cdv A outer s H E) body t/\t { nx:=λ _ H'=>Q .non H',rt:=Q } (Tn N vs) H) :
  FnOk P w K mg base CX (k+1) f (W.fnOf name qual params body scope dV kV doc pm an cdv ct) ps sp:=by
 refine⟨len,λ A outer s H args us vs Q E hr e0 hb r hsp=>?_⟩;have hl:=len _ _ _ _ hsp;have KX:K.In s.heap:=e0.mod.kin.keeps λ b o e=>(e0.bs b o e).1;have lim:s.heap.NoLimit:=e0.mod.nolimit.keeps λ b o e=>(e0.bs b o e).1
 have Tp:∀y∈ps.zip us,scope.names.lookup y.1=Oh .local\/(scope.names.lookup y.1=Oh .cell/\((OH (s.heap.objs.size+1) scope.names []).lookup y.1).isSome=Oi):=λ⟨n,v⟩ hy=>by
  rcases S.par n (ly hy).1 with q|q
  .exact .inl q
  .exact .inr ⟨q,jQ _ _ _ (.inl q)⟩
 refine uE hr.depth (KX _ _ lk) rfl S.co S.gen rfl (W.codeRec_of KX hcd) (hb _ _ _ _ ?_);refine wpAny_newFunctionEnv_cells S.kind Tp λ env he s1 x=>?_;subst he;refine⟨lim.keeps x.toInCall.keep,codeAny_func ?_⟩;obtain⟨t,ht,hq⟩:=hbody A outer s H vs Q E (hr.deeper _) hsp;have I:Inv (dP CX P w K mg base N qual scope f cdv A outer s H E) [] (Tn N vs) H s1:=CF S hr.hd e0 hl r x;refine cz (ht [] s1 (Tn N vs) H _ I hq) (λ fl s' hs=>?_) λ e s' hs=>hs
 have fin:∀ {σ':St}{H':Hp}{v:V}{u:Value},Inv (dP CX P w K mg base N qual scope f cdv A outer s H E) [] σ' H' s'->RelV v u->Q v H'->CE outer P w H s Q u s' :=
  λ {σ' H' v u} J rv q=>⟨v,H',J.os,J.bare,J.base,J.hok,rv,q⟩
 cases fl with
 |ret u=>
  obtain⟨v,σ',H',J,rv,q⟩:=hs;exact fin J rv q
 |next=>
  obtain⟨σ',H',J,q⟩:=hs;exact fin (v:=V.non) (u:=OW) J rfl q
 |brk|cont=>
  obtain⟨_,_,_,q⟩:=hs;exact OV q
section
variable {x:Str}{p pos:Pos}{e:Expr}{es:List Expr}{t:TA}{id T:String}{r:List V->Hp->VK->Prop}
noncomputable def WX(r:List V->Hp->VK->Prop)(t:TA):TE:=λ σ H Q=>t σ H λ vs H1=>r vs H1 Q
theorem CG(hc:bZ X (.builtin id) r)(hg:Gl X x)(hm:X.mg x=Oj)(hv:Py x=Oh (.builtin id))(ha:PA X (e::es) t)(hn:x ≠ "__name__" := by decide)(hdb:(x == ("__debug__" : Str))=Ol:=by decide)
  (he:OE (e::es) X.env=(Ol,eval e X.env)::OE es X.env:=by rfl) (hpl:(Pk pos (OE es X.env)).any (·.1)=Ol:=by rfl):PE X (.Call (.Name x p) (e::es) [] pos) (WX r t):=by
 intro Te s σ H Q I h;refine jP (dZ I hg hm hv ?_ hn hdb);exact RI (To (ha pos Te s σ H _ I h) λ us s1 ⟨vs,H1,I1,r1,q1⟩=>hc Te s1 σ H1 vs us Q I1 r1 q1) he hpl
theorem qq(hc:bZ X (.type T) r)(hg:Gl X x)(hm:X.mg x=Oj)(hv:Py x=Oh (.type T))(ha:PA X (e::es) t)(hn:x ≠ "__name__" := by decide)(hdb:(x == ("__debug__" : Str))=Ol:=by decide)
  (he:OE (e::es) X.env=(Ol,eval e X.env)::OE es X.env:=by rfl) (hpl:(Pk pos (OE es X.env)).any (·.1)=Ol:=by rfl):PE X (.Call (.Name x p) (e::es) [] pos) (WX r t):=by
 intro Te s σ H Q I h;refine jP (dZ I hg hm hv ?_ hn hdb);exact gh (To (ha pos Te s σ H _ I h) λ us s1 ⟨vs,H1,I1,r1,q1⟩=>hc Te s1 σ H1 vs us Q I1 r1 q1) he hpl
end
end _L
namespace _H
open PySem PyProof.Rows
section
open PySem.SeqAt
open PySem.AutoSeq1 (wpAny_loadPart')
open PySem.MeetsSeq PySem.MeetsSeq2 PySem.MeetsSeq3
end
section
variable {prog:Ov}{w:Ow}{A:Oy}{E:VS}{s:Oo}
theorem cat_tup{vs ws:LV}{Q:VS}(ht:Qp s.heap t vs.toArray)(hb:Qp s.heap b ws.toArray)(hv:vs≠[])
  (h1:ws=[]->Q (.ref t) s) (h2:ws≠[]->Q (.ref s.heap.objs.size) { s with heap:=s.heap.push { cls:=.type "tuple",data:=.seq (vs++ws).toArray } })
  (hsz:vs.length+ws.length<=Oq):Op (Ou prog w) A (OX .Add (.ref t) (.ref b)) Q E s:=by
 obtain⟨⟨cls,dd,data,sl⟩,ho,hc,n,hd⟩:=id ht;obtain⟨⟨cls2,dd2,data2,sl2⟩,ho2,hc2,n2,hd2⟩:=id hb;simp only at hc hd hc2 hd2;subst hc hd hc2 hd2;have e:vs.toArray++ws.toArray=(vs++ws).toArray:=on;by_cases hw:ws=[]
 .exact nz ⟨_,ho,O⟩ ⟨_,ho2,O⟩ qr s0u qt qu (qv _ _)
   (tuple_addW1 t b vs.toArray ws.toArray n n2 dd dd2 sl sl2 (by simpa using hv) (by simp[hw])) ⟨ho,ho2,h1 hw⟩
 .refine nz ⟨_,ho,O⟩ ⟨_,ho2,O⟩ qr s0u qt qu (qv _ _)
   (tuple_addW2 t b vs.toArray ws.toArray n n2 dd dd2 sl sl2 (by simpa using hv) (by simpa using hw) (by rw[aZ,aZ];exact hsz)) ⟨ho,ho2,?_⟩
  rw[e];exact h2 hw
noncomputable def sIx(n d:Nat):Option Int->Nat
 |none=>d
 |some v=>if v<0 then (v+(n:Int)).toNat else min v.toNat n
def CH(n d:Nat)(hd:d<=n)(o:Option Int):sIx n d o<=n:=by
 cases o with
 |none=>exact hd
 |some v=>
  show(if v<0 then (v+(n:Int)).toNat else min v.toNat n)<=n;by_cases hv:v<0
  .rw[XT hv];lia
  .rw[XR hv];exact Nat.min_le_right _ _
def uF(v:Int)(n d:Nat):(if v<0 then max (v+(n:Int)) 0 else min v (n:Int))=((sIx n d (Oh v):Nat):Int):=by
 show(if v<0 then max (v+(n:Int)) 0 else min v (n:Int))=(((if v<0 then (v+(n:Int)).toNat else min v.toNat n):Nat):Int);by_cases hv:v<0
 .simp only[XT hv];lia
 .simp only[XR hv];lia
def CI(lo hi:Option Int)(n:Nat):PF lo hi 1 (n:Int)=(((sIx n 0 lo:Nat):Int),((sIx n n hi:Nat):Int)):=by
 have h1:¬((1:Int)<0):=Z;unfold PF;simp only[h1,iZ];refine Prod.ext ?_ ?_
 .cases lo with
  |none=>rfl
  |some v=>exact uF v n 0
 .cases hi with
  |none=>rfl
  |some v=>exact uF v n n
def CJ(i j:Nat):Po (i:Int) (j:Int) 1=j-i:=by
 unfold Po;have h1:(1:Int) > 0:=Z;simp only[h1,eO,SK];split<;>lia
def uG{Q:Option Int->Oo->Prop}(p:Qa v o)(h:Q o s):Op (Ou prog w) A (RU v) Q E s:=by
 cases p with
 |none=>exact Sf h
 |int i t=>exact slicePart_int h
theorem uH{lo hi:Option Int}{Q:Int×Int×Nat->Oo->Prop}(hs:s.heap.IsSliceOf sl vl vu .none)(pl:Qa vl lo)(pu:Qa vu hi)
  (h:Q (((sIx n 0 lo:Nat):Int),1,sIx n n hi-sIx n 0 lo) s):Op (Ou prog w) A (Qs (.ref sl) (OF (n:Int))) Q E s:=by
 obtain⟨os,hos,hcs,hds⟩:=id hs;unfold Qs SI;refine ae (ae (dD hos hds (x:=vl) rfl (ae (dD hos hds (x:=vu) rfl (ae (dD hos hds (x:=.none) rfl (au ?_)))))));refine ae (Sf ?_);show Op _ _ (if ((1:Int) == 0)=Oi then _ else _) _ _ s;rw[XR ca];refine ae (uG pl (ae (uG pu (ae (au ?_)))));show Op _ _ (match PF lo hi 1 (n:Int) with|(lo,hi)=>OF (lo,(1:Int),Po lo hi 1)) _ _ s;rw[CI lo hi n];show Op _ _ (OF (((sIx n 0 lo:Nat):Int),(1:Int),Po ((sIx n 0 lo:Nat):Int) ((sIx n n hi:Nat):Int) 1)) _ _ s;rw[CJ];exact au h
def CK(xs:Array Value)(i k:Nat):((OB k).filterMap λ(m:Nat)=>xs[((i:Int)+(m:Int)*1).toNat]?).toArray=((xs.toList.drop i).take k).toArray:=by
 have e:(λ(m:Nat)=>xs[((i:Int)+(m:Int)*1).toNat]?)=λ m=>xs[i+m]?:=by
  funext m;have:((i:Int)+(m:Int)*1).toNat=i+m:=Z;rw[this]
 rw[e];have:=pick_run xs i k;rw[List.filterMap_map] at this;have e2:((λ x=>xs[x]?) ∘ λ x=>i+x)=λ m=>xs[i+m]?:=rfl;rw[e2] at this;rw[this]
theorem getItem_tuple_cut{lo hi:Option Int}{Q:VS}(ht:Qp s.heap t items)(hs:s.heap.IsSliceOf sl vl vu .none)(pl:Qa vl lo)(pu:Qa vu hi)
  (hw:¬(sIx items.size 0 lo=0/\sIx items.size items.size hi=items.size))
  (h:Q (.ref s.heap.objs.size) { s with heap:=s.heap.push { cls:=.type "tuple",data:=.seq ((items.toList.drop (sIx items.size 0 lo)).take (sIx items.size items.size hi-sIx items.size 0 lo)).toArray } })
  (hsz:items.size<=Oq):Op (Ou prog w) A (PZ (.ref t) (.ref sl)) Q E s:=by
 have htake:sizeOk (.seq ((items.toList.drop (sIx items.size 0 lo)).take (sIx items.size items.size hi-sIx items.size 0 lo)).toArray):=by
  show((items.toList.drop (sIx items.size 0 lo)).take (sIx items.size items.size hi-sIx items.size 0 lo)).toArray.size<=Oq;rw[aZ,aQ,bO,OQ];omega
 have hj:sIx items.size items.size hi<=items.size:=CH _ _ (ao _) hi;obtain⟨os,hos,hcs,hds⟩:=id hs;have hTs:s.TypeIs (.ref sl) "slice" := ⟨os,hos,hcs⟩;unfold PZ;try with_reducible refine eK ?_
 first|refine ae (au ?_)|skip
 refine ae (Rl ht.typeIs ca ?_)
 refine ae (ja (name:=OI "__getitem__") ht.typeIs nA
  (fJ nA ht.typeIs s0k ?_ (s0v _ _)))
 show Op _ _ (Qt (.ref t) >>= _) _ _ s;refine ae (SE ht ?_);refine ae (ig hTs ?_);rw[XT ca];refine ae (uH hs pl pu ?_)
 have hno:¬((((sIx items.size 0 lo:Nat):Int) == 0&&(1:Int) == 1&&(sIx items.size items.size hi-sIx items.size 0 lo) == items.size)=Oi):=by
  intro q;rw[bp,bp] at q;have q1:((sIx items.size 0 lo:Nat):Int)=0:=ij q.1.1;have q2:sIx items.size items.size hi-sIx items.size 0 lo=items.size:=ij q.2;exact hw ⟨by omega,by omega⟩
 show Op _ _ (if (((sIx items.size 0 lo:Nat):Int) == 0&&(1:Int) == 1&&(sIx items.size items.size hi-sIx items.size 0 lo) == items.size)=Oi then _ else _) _ _ s;rw[XR hno,CK]
 first
  |exact ae (m:=OO _) (dg (au ⟨_,rfl,au h⟩) htake)
  |exact ae (m:=OO _) (dg (ae (au (au ⟨_,rfl,au h⟩))) htake)
  |exact ae (ae (m:=OO _) (dg (au (au ⟨_,rfl,au h⟩)) htake))
  |exact ae (ae (m:=OO _) (dg (au ⟨_,rfl,au h⟩) htake))
end
end _H
namespace _L
open PySem PySem.Spec PyProof.Rows
noncomputable abbrev TO:=St->Hp->(Option Int->Hp->Prop)->Prop
noncomputable def PO(X:Cx)(e:Option Expr)(t:TO):Prop :=
 ∀(Te:LO) (s:Oo) (σ:St) (H:Hp) (Q:Option Int->Hp->Prop),Inv X Te σ H s->t σ H Q ->
  Op (Ou X.prog X.w) X.A (evalPart e X.env) (λ u s'=>∃o H',Inv X Te σ H' s'/\Qa u o/\Q o H') X.xe s
noncomputable def CL:TO:=λ _ H Q=>Q Oj H
def lB{ns:LI}:∀ {us:LV},Vals (ns.map V.int) us->Qe us ns:=by
 induction ns with
 |nil=>intro us r;rw[SN] at r;cases r;exact .nil
 |cons n ns ih=>
  intro us r;rw[cO] at r
  cases r with
  |cons r1 r2=>
   obtain⟨t,e⟩:=r1;subst e;exact .cons n t (ih r2)
variable {X:Cx}
section
variable {e:Expr}{te:TE}{lo hi:Option Expr}{tl th:TO}{pos p2:Pos}
def CN:PO X Oj CL:=by
 intro Te s σ H Q I h;rw[Sz];exact au ⟨Oj,H,I,.none,h⟩
noncomputable def VB(X:Cx)(r:V->Option Int->Option Int->Hp->VK->Prop):Prop :=
 ∀(Te:LO) (s:Oo) (σ:St) (H:Hp) (x:V) (v vl vu:Value) (lo hi:Option Int) (sl:On) (Q:VK),Inv X Te σ H s->RelV x v->s.heap.IsSliceOf sl vl vu .none->Qa vl lo->Qa vu hi->r x lo hi H Q ->
  ∃T id,Ps (.type T) "__getitem__"=OF (Oh (.builtin id))/\s.TypeIs v T/\Op (Ou X.prog X.w) X.A (PZ v (.ref sl)) (EP X Te σ Q) X.xe s
noncomputable def tSl(r:V->Option Int->Option Int->Hp->VK->Prop)(te:TE)(tl th:TO):TE:=λ σ H Q=>te σ H λ x H1=>tl σ H1 λ l H2=>th σ H2 λ u H3=>r x l u H3 Q
def CO(hr:VB X r)(he:PE X e te)(hl:PO X lo tl)(hu:PO X hi th):PE X (.Subscript e (.Slice lo hi Oj p2) pos) (tSl r te tl th):=by
 intro Te s σ H Q I h;refine RK (To (he Te s σ H _ I h) λ v s1 ⟨x,H1,I1,r1,q1⟩=>?_);refine wpAny_Slice (To (hl Te s1 σ H1 _ I1 q1) λ vl s2 ⟨l,H2,I2,pl,q2⟩=>To (hu Te s2 σ H2 _ I2 q2) λ vu s3 ⟨u,H3,I3,pu,q3⟩=>?_);rw[Sz];refine au ?_;have I4:Inv X Te σ H3 { s3 with heap:=s3.heap.push { cls:=.type "slice",data:=.fields #[vl,vu,.none] } }:=I3.kept (t':=s3.toks) λ b ob q=>aO _ q;obtain⟨T,id,hT,ht,hg⟩:=hr Te { s3 with heap:=s3.heap.push { cls:=.type "slice",data:=.fields #[vl,vu,.none] } } σ H3 x v vl vu l u s3.heap.objs.size Q I4 r1 (Heap.IsSliceOf.new ..) pl pu q3;show Op (Ou X.prog X.w) X.A (Qx e (.Slice lo hi Oj p2) v (.ref s3.heap.objs.size)) (EP X Te σ Q) X.xe { s3 with heap:=s3.heap.push { cls:=.type "slice",data:=.fields #[vl,vu,.none] } };exact tail_any (ops:=[.ref s3.heap.objs.size,v]) ht hT hg (by with_unfolding_all rfl)
noncomputable def gI(xs:List V)(lo hi:Option Int):List V:=(xs.drop (_H.sIx xs.length 0 lo)).take (_H.sIx xs.length xs.length hi-_H.sIx xs.length 0 lo)
def uI(xs:List V)(lo hi:Option Int):(gI xs lo hi).length<=xs.length:=by
 unfold gI;rw[aQ,bO];lia
noncomputable def CP(K:FG):V->Option Int->Option Int->Hp->VK->Prop:=λ x lo hi H Q=>∃a xs,x=.ref a/\SqT K H a xs /\
 ¬(_H.sIx xs.length 0 lo=0/\_H.sIx xs.length xs.length hi=xs.length)/\∀p,H p=Oj->Q (.ref p) (Ti H p (.tup (gI xs lo hi)))
def CQ:VB X (CP X.K):=by
 intro Te s σ H x v vl vu lo hi sl Q I rx hs pl pu h;obtain⟨a,xs,rfl,hx,hw,q⟩:=h;cases rx;obtain⟨its,r,ht,hz⟩:=I.tuple hx;have Tj:its.toArray.size=xs.length:=by rw[aZ];exact r.length.symm
 refine⟨"tuple",_,PyProof.Rows.slot_tuple_getitem.lookup,ht.typeIs,?_⟩;refine _H.getItem_tuple_cut ht hs pl pu (by rw[Tj];exact hw) ?_ (by rw[Tj];exact hz);rw[Tj];refine⟨.ref s.heap.objs.size,_,I.laid (t':=s.toks) (o:=.tup (gI xs lo hi)) (λ b ob q=>aO _ q) (ao _) ?_,O,q _ (I.hok.fresh (ao _))⟩;exact⟨cL (uI xs lo hi) hz,_,(r.drop (_H.sIx xs.length 0 lo)).take (_H.sIx xs.length xs.length hi-_H.sIx xs.length 0 lo),TupO.new _ _⟩
noncomputable def CS(K:FG):R2:=λ x y H Q=>∃a b xs ys,x=.ref a/\y=.ref b/\SqT K H a xs/\SqT K H b ys/\xs≠[]/\xs.length+ys.length<=Oq /\
 (ys=[]->Q (.ref a) H)/\(ys≠[]->∀p,H p=Oj->Q (.ref p) (Ti H p (.tup (xs++ys))))
def Vals.nil_iff(r:Vals xs us):us=[] ↔ xs=[]:=by
 cases r with
 |nil|cons _ _=>simp
def CT:TC X (OX .Add) (CS X.K):=by
 intro Te s σ H x y v u Q I rx ry h;obtain⟨a,b,xs,ys,rfl,rfl,ha,hb,hx,hz,q1,q2⟩:=h;cases rx;cases ry;obtain⟨its,r1,p1,_⟩:=I.tuple ha;obtain⟨its2,r2,p2,_⟩:=I.tuple hb;refine _H.cat_tup p1 p2 (λ z=>hx (r1.nil_iff.mp z)) (λ z=>⟨.ref a,H,I,O,q1 (r2.nil_iff.mp z)⟩) (λ z=>?_) (by rw[<- r1.length,<- r2.length];exact hz);refine⟨.ref s.heap.objs.size,_,I.laid (t':=s.toks) (o:=.tup (xs++ys)) (λ b ob q=>aO _ q) (ao _) ?_,O,q2 (λ w=>z (r2.nil_iff.mpr w)) _ (I.hok.fresh (ao _))⟩;exact⟨by rw[aF];exact hz,_,r1.append r2,TupO.new _ _⟩
end
noncomputable def UQ(n:Nat)(i:Int):Option Nat:=if 0<=i then (if i<n then Oh i.toNat else Oj) else if -(n:Int)<=i then Oh (i+n).toNat else Oj
noncomputable def TW{α:Type}(xs:List α)(i:Int):Option α:=(UQ xs.length i).bind λ j=>xs[j]?
def uJ(h:UQ n i=Oh j):QG i n=Oh j/\j<n/\-(n:Int)<=i/\i<n:=by
 unfold UQ at h;by_cases h0:0<=i
 .rw[XT h0] at h;by_cases h1:i<n
  .rw[XT h1] at h;have e:i.toNat=j:=bv h;exact⟨by rw[s1o h0 h1,e],Z,Z,h1⟩
  .rw[XR h1] at h;cases h
 .rw[XR h0] at h;by_cases h1:-(n:Int)<=i
  .rw[XT h1] at h;have e:(i+n).toNat=j:=bv h;exact⟨by rw[s1i Z h1,e],Z,h1,Z⟩
  .rw[XR h1] at h;cases h
def qw{α:Type}{xs:List α}{v:α}(h:TW xs i=Oh v):∃j,QG i xs.length=Oh j/\xs[j]?=Oh v/\j<xs.length/\-(xs.length:Int)<=i/\i<xs.length:=by
 unfold TW at h
 cases e:UQ xs.length i with
 |none=>rw[e] at h;cases h
 |some j=>
  rw[e] at h;obtain⟨h1,h2,h3,h4⟩:=uJ e;exact⟨j,h1,h,h2,h3,h4⟩
def jR{α:Type}{xs:List α}{j:Nat}{v:α}(h:xs[j]?=Oh v):TW xs (j:Int)=Oh v:=by
 have hj:j<xs.length:=(aY.mp h).1
 have e:UQ xs.length (j:Int)=Oh j:=by
  unfold UQ;rw[XT Z,XT Z];simp
 unfold TW;rw[e];exact h
noncomputable def uK(b:Expr):Prop:=∀o i,QJ b Ol o i=operate [o,i] (PZ o i)
noncomputable def IxR(X:Cx)(r:R2):Prop :=
 ∀(value slice:Expr) (Te:LO) (s:Oo) (σ:St) (H:Hp) (x y:V) (v u:Value) (Q:VK),Inv X Te σ H s->RelV x v->RelV y u->r x y H Q ->
  QJ slice Ol v u=operate [v,u] (PZ v u)->Op (Ou X.prog X.w) X.A (Qx value slice v u) (EP X Te σ Q) X.xe s
noncomputable def VC(X:Cx)(id:String)(r:V->List V->Hp->VK->Prop):Prop :=
 ∀(Te:LO) (s:Oo) (σ:St) (H:Hp) (x:V) (xs:List V) (v:Value) (us:LV) (Q:VK),Inv X Te σ H s->RelV x v->Vals xs us->r x xs H Q ->
  Op (Ou X.prog X.w) X.A (call (.builtin id) (v::us)) (EP X Te σ Q) X.xe s
section
variable {a b:Expr}{ta tb:TE}{pos:Pos}
def IxR.or(h:IxR X r)(h':IxR X r'):IxR X (λ x y H Q=>r x y H Q\/r' x y H Q):=by
 intro value slice Te s σ H x y v u Q I rx ry q hs
 rcases q with q|q
 .exact h value slice Te s σ H x y v u Q I rx ry q hs
 .exact h' value slice Te s σ H x y v u Q I rx ry q hs
def uL(hr:IxR X r)(ha:PE X a ta)(hb:PE X b tb)(hs:uK b):PE X (.Subscript a b pos) (Vr r ta tb):=by
 intro Te s σ H Q I h;exact RK (qh ha hb I h λ v u s2 x y H2 I2 rx ry q=>hr a b Te s2 σ H2 x y v u Q I2 rx ry q (hs _ _))
noncomputable def qx(K:FG):R2:=λ x y H Q=>∃p xs i v,x=.ref p/\y=.int i/\SqL K H p xs/\TW xs i=Oh v/\Q v H
noncomputable def uM(K:FG):R2:=λ x y H Q=>∃p xs i v,x=.ref p/\y=.int i/\SqT K H p xs/\TW xs i=Oh v/\Q v H
noncomputable def uN:R2:=λ x y H Q=>∃z i c,x=.str z/\y=.int i/\z.length<=Oq/\TW z.cps.toList i=Oh c/\Q (.str ⟨#[c]⟩) H
def ix_list:IxR X (qx X.K):=by
 intro value slice Te s σ H x y v u Q I rx ry h hs;obtain⟨p,xs,i,z,rfl,rfl,hq,he,q⟩:=h;cases rx;obtain⟨t,rfl⟩:=ry;obtain⟨its,r,pl,hz⟩:=I.list hq;obtain⟨j,h1,h2,h3,h4,h5⟩:=qw he;obtain⟨w,ew,rw'⟩:=r.get h2;have hl:=r.length;have hn:=jN;have fin:EP X Te σ Q w s:=⟨z,H,I,rw',q⟩;by_cases h0:0<=i
 .have hj:i.toNat=j:=by
   rw[s1o h0 h5] at h1;exact bv h1
  exact item_listR pl.isList h0 Z (by rw[hj];simpa using ew) fin hs
 .have hj:(i+(its.toArray.size:Int)).toNat=j:=by
   rw[s1i Z h4] at h1;rw[aZ,<- hl];exact bv h1
  exact uO (x:=w) pl.isList.typeIs slot_list_getitem.lookup
   (wpAny_getItem_list_neg (Q:=λ r s'=>r=w/\EP X Te σ Q r s') pl.isList Z (by rw[aZ]<;>lia) Z (by rw[hj];simpa using ew) ⟨rfl,fin⟩) hs
def ix_tup:IxR X (uM X.K):=by
 intro value slice Te s σ H x y v u Q I rx ry h hs;obtain⟨p,xs,i,z,rfl,rfl,hq,he,q⟩:=h;cases rx;obtain⟨t,rfl⟩:=ry;obtain⟨its,r,pl,hz⟩:=I.tuple hq;obtain⟨j,h1,h2,h3,h4,h5⟩:=qw he;obtain⟨w,ew,rw'⟩:=r.get h2;have hl:=r.length;have hn:=jN;have fin:EP X Te σ Q w s:=⟨z,H,I,rw',q⟩
 exact uO (x:=w) pl.typeIs slot_tuple_getitem.lookup
  (SC (j:=j) (Q:=λ r s'=>r=w/\EP X Te σ Q r s') pl Z Z (by rw[aZ,<- hl];exact h1) (by simpa using ew) ⟨rfl,fin⟩) hs
def CU:IxR X uN:=by
 intro value slice Te s σ H x y v u Q I rx ry h hs;obtain⟨z,i,c,rfl,rfl,hz,he,q⟩:=h;obtain⟨t,rfl⟩:=rx;obtain⟨t',rfl⟩:=ry;obtain⟨j,h1,h2,h3,h4,h5⟩:=qw he;have hl:z.cps.toList.length=z.length:=by simp[Str.length]
 rw[hl] at h1 h4 h5;have hn:=jN
 exact tail_any (RR s z t) slot_str_getitem.lookup (getItem_str (c:=c) (by
  have e1:decide (i < -(2 ^ 63:Int))=Ol:=bD Z;have e2:decide (i ≥ 2 ^ 63)=Ol:=bD Z
  rw[e1,e2,Bool.or_false]) (by rw[h1];simpa using h2) ⟨.str ⟨#[c]⟩,H,I.tok _,⟨_,rfl⟩,q⟩) hs
noncomputable def rIx(K:FG):R2:=λ x y H Q=>qx K x y H Q\/uM K x y H Q\/uN x y H Q
def qy:IxR X (rIx X.K):=ix_list.or (ix_tup.or CU)
def CV(its:LV)(n j:Nat)(u:Value):Pd (·.setIfInBounds j u) { cls:=.type "list",data:=.seq its.toArray n }={ cls:=.type "list",data:=.seq (its.set j u).toArray n }:=by
 simp[Pd]
theorem Inv.lst(I:Inv X Te σ H s)(h:H p=Oh (.lst xs)) :
  ∃(its:LV) (n:Nat),Vals xs its/\s.heap.get? p=Oh { cls:=.type "list",data:=.seq its.toArray n }/\xs.length<=Oq:=by
 obtain⟨z,its,n,r,e⟩:=I.hok p _ h;exact⟨its,n,r,e,z⟩
theorem Inv.lstUpd{its its':LV}{f:Obj->Obj}(I:Inv X Te σ H s)(h:H p=Oh (.lst xs))
  (ho:s.heap.get? p=Oh { cls:=.type "list",data:=.seq its.toArray n }) (hf:f { cls:=.type "list",data:=.seq its.toArray n }={ cls:=.type "list",data:=.seq its'.toArray n' }) (r:Vals ys its') (hz:ys.length<=Oq) (t:Nat) :
  Inv X Te σ (Ti H p (.lst ys)) { s with heap:=s.heap.update p f,toks:=t }:=by
 have e:(s.heap.update p f).get? p=Oh { cls:=.type "list",data:=.seq its'.toArray n' }:=by
  rw[ik f ho (by rw[hf]<;>rfl),hf]
 refine I.write (x:=p) (e:=p) (by rw[h];trivial) (.inl rfl) (λ b u hb q=>(eQ _ _ (cy hb)).trans q) ⟨_,e⟩ ?_;exact⟨hz,its',n',r,e⟩
noncomputable def CW:V->V->V->Hp->(Hp->Prop)->Prop:=λ o i v H Q=>∃p xs k j,o=.ref p/\i=.int k/\H p=Oh (.lst xs)/\UQ xs.length k=Oh j/\Q (Ti H p (.lst (xs.set j v)))
def CY:uf X CW:=by
 intro Te s σ H o i v ov iv u Q I ro ri rv h;obtain⟨p,xs,k,j,rfl,rfl,hp,hj,q⟩:=h;cases ro;obtain⟨t,rfl⟩:=ri;obtain⟨its,n,r,ho,hz⟩:=I.lst hp;obtain⟨h1,h2,h3,h4⟩:=uJ hj;have hl:=r.length;have hn:=jN
 have I':Inv X Te σ (Ti H p (.lst (xs.set j v))) { s with heap:=s.heap.update p (Pd (·.setIfInBounds j u)) } :=
  I.lstUpd hp ho (CV its n j u) (r.set rv j) (by rw[dE];exact hz) s.toks
 by_cases h0:0<=k
 .have hk:k.toNat=j:=by
   rw[s1o h0 h4] at h1;exact bv h1
  exact W.ki_setAt ho h0 Z (by rw[aZ,<- hl];exact h4) (by rw[hk];exact⟨_,I',q⟩)
 .have hk:(k+(its.toArray.size:Int)).toNat=j:=by
   rw[s1i Z h3] at h1;rw[aZ,<- hl];exact bv h1
  exact W.ki_setBack ho Z (by rw[aZ,<- hl];exact h3) Z (by rw[hk];exact⟨_,I',q⟩)
def CZ(lo hi:Option Int)(n:Nat):(PD lo hi Oj n).1=((_H.sIx n 0 lo:Nat):Int)/\(PD lo hi Oj n).2.1=((_H.sIx n n hi:Nat):Int)/\(PD lo hi Oj n).2.2=1:=by
 refine⟨?_,?_,O⟩
 .cases lo with
  |none=>simp[PD,_H.sIx]
  |some i=>
   simp only[PD,_H.sIx,Rt,show(1:Int) > 0 by decide,eO];by_cases h:i<0
   .simp only[h,eO]<;>lia
   .simp only[h,iZ]<;>lia
 .cases hi with
  |none=>simp[PD,_H.sIx]
  |some i=>
   simp only[PD,_H.sIx,Rt,show(1:Int) > 0 by decide,eO];by_cases h:i<0
   .simp only[h,eO]<;>lia
   .simp only[h,iZ]<;>lia
def Da(its:LV)(lo hi:Option Int):slicePick its.toArray lo hi Oj=((its.drop (_H.sIx its.length 0 lo)).take (_H.sIx its.length its.length hi-_H.sIx its.length 0 lo)).toArray:=by
 obtain⟨h1,h2,h3⟩:=CZ lo hi its.toArray.size;unfold slicePick;rw[h1,h2,h3];simp only[sliceRange_one,pick_run,aZ]<;>rfl
noncomputable def Db(K:FG):V->Option Int->Option Int->Hp->VK->Prop:=λ x lo hi H Q=>∃a xs,x=.ref a/\SqL K H a xs/\∀p,H p=Oj->Q (.ref p) (Ti H p (.lst (gI xs lo hi)))
def Dc:VB X (Db X.K):=by
 intro Te s σ H x v vl vu lo hi sl Q I rx hs pl pu h;obtain⟨a,xs,rfl,hx,q⟩:=h;cases rx;obtain⟨its,r,ht,hz⟩:=I.list hx;have Tj:=r.length;refine⟨"list",_,slot_list_getitem.lookup,ht.isList.typeIs,?_⟩;refine wpAny_getItem_list_slice ht.isList hs pl pu .none on ?_ (by rw[aZ]<;>lia);rw[Da,<- Tj];refine⟨.ref s.heap.objs.size,_,I.laid (t':=s.toks) (o:=.lst (gI xs lo hi)) (λ b ob q=>aO _ q) (ao _) ?_,O,q _ (I.hok.fresh (ao _))⟩;exact⟨cL (uI xs lo hi) hz,_,0,(r.drop (_H.sIx xs.length 0 lo)).take (_H.sIx xs.length xs.length hi-_H.sIx xs.length 0 lo),bn _ rfl⟩
noncomputable def gj:V->Bool
 |.non=>Oi
 |.bl _=>Oi
 |.int _=>Oi
 |.str _=>Oi
 |_=>Ol
noncomputable def Va:V->V->Bool
 |.non,.non=>Oi
 |.bl a,.bl b=>a == b
 |.bl a,.int b=>(if a then 1 else 0) == b
 |.int a,.bl b=>a == (if b then 1 else 0)
 |.int a,.int b=>a == b
 |.str a,.str b=>a == b
 |_,_=>Ol
def lC(ry:RelV y u)(rx:RelV x v)(fy:gj y=Oi)(fx:gj x=Oi):PV A s u v (Va y x):=by
 cases y with
 |non=>
  cases ry
  cases x with
  |non=>cases rx;exact qz _
  |bl b=>cases rx;exact SeqAt.EqAt.none_bool b
  |int b=>obtain⟨t,rfl⟩:=rx;exact SeqAt.EqAt.none_int b t
  |str b=>obtain⟨t,rfl⟩:=rx;exact SeqAt.EqAt.none_str b t
  |_=>exact XU (show Ol=Oi from fx) bN
 |bl a=>
  cases ry
  cases x with
  |non=>cases rx;exact SeqAt.EqAt.bool_none a
  |bl b=>cases rx;exact SeqAt.EqAt.bool_bool a b
  |int b=>obtain⟨t,rfl⟩:=rx;exact SeqAt.EqAt.bool_int a b t
  |str b=>obtain⟨t,rfl⟩:=rx;exact SeqAt.EqAt.bool_str a b t
  |_=>exact XU (show Ol=Oi from fx) bN
 |int a=>
  obtain⟨t',rfl⟩:=ry
  cases x with
  |non=>cases rx;exact SeqAt.EqAt.int_none a t'
  |bl b=>cases rx;exact SeqAt.EqAt.int_bool a t' b
  |int b=>obtain⟨t,rfl⟩:=rx;exact SeqAt.EqAt.int_int a t' b t
  |str b=>obtain⟨t,rfl⟩:=rx;exact s0p a t' b t
  |_=>exact XU (show Ol=Oi from fx) bN
 |str a=>
  obtain⟨t',rfl⟩:=ry
  cases x with
  |non=>cases rx;exact SeqAt.EqAt.str_none a t'
  |bl b=>cases rx;exact SeqAt.EqAt.str_bool a t' b
  |int b=>obtain⟨t,rfl⟩:=rx;exact s0q a t' b t
  |str b=>obtain⟨t,rfl⟩:=rx;exact SeqAt.EqAt.str_str a t' b t
  |_=>exact XU (show Ol=Oi from fx) bN
 |_=>exact XU (show Ol=Oi from fy) bN
noncomputable def UB(x:V)(u:Value):Bool:=match u with
 |.none=>Va .non x
 |.bool b=>Va (.bl b) x
 |.int i _=>Va (.int i) x
 |.str z _=>Va (.str z) x
 |_=>Ol
def uP(r:RelV y u)(f:gj y=Oi):UB x u=Va y x:=by
 cases y with
 |non|bl b=>cases r;rfl
 |int i|str z=>obtain⟨t,rfl⟩:=r;rfl
 |_=>exact XU (show Ol=Oi from f) bN
theorem lD:∀ {xs:List V}{us:LV},Vals xs us->xs.all gj=Oi->us.any (UB x)=xs.any λ y=>Va y x
 |_,_,.nil,_=>rfl
 |y::xs,u::us,.cons r t,f=>by
  rw[cP,bp] at f;rw[lE,lE,uP r f.1,lD t f.2]
theorem lF(rx:RelV x v)(fx:gj x=Oi):∀ {xs:List V}{us:LV},Vals xs us->xs.all gj=Oi->∀u∈us,PV A s u v (UB x u)
 |_,_,.nil,_=>λ u hu=>by cases hu
 |y::xs,u::us,.cons r t,f=>λ u' hu=>by
  rw[cP,bp] at f
  rcases aB.mp hu with rfl|hu
  .rw[uP r f.1];exact lC r rx f.1 fx
  .exact lF rx fx t f.2 u' hu
noncomputable def VX(x:V)(xs:List V):Bool:=xs.any λ y=>Va y x
noncomputable def WY(K:FG)(neg:Bool):R2:=λ x y H Q=>∃p xs,y=.ref p/\(SqL K H p xs\/SqT K H p xs)/\gj x=Oi/\xs.all gj=Oi/\Q (.bl (if neg then !VX x xs else VX x xs)) H
def Dd:TC X (OR .In) (WY X.K Ol):=by
 intro Te s σ H x y v u Q I rx ry h;obtain⟨p,xs,rfl,hq,fx,fs,q⟩:=h;cases ry
 rcases hq with hq|hq
 .obtain⟨its,r,pl,hz⟩:=I.list hq;refine SeqAt.in_listAt (UB x) pl.isList (λ w hw=>lF rx fx r fs w (by simpa using hw)) ⟨.bl _,H,I,O,?_⟩;rw[show its.toArray.any (UB x)=its.any (UB x) by simp,lD r fs];exact q
 .obtain⟨its,r,pl,hz⟩:=I.tuple hq;refine SeqAt.in_tupleAt (UB x) pl (λ w hw=>lF rx fx r fs w (by simpa using hw)) ⟨.bl _,H,I,O,?_⟩;rw[show its.toArray.any (UB x)=its.any (UB x) by simp,lD r fs];exact q
def De:TC X (OR .NotIn) (WY X.K Oi):=by
 intro Te s σ H x y v u Q I rx ry h;obtain⟨p,xs,rfl,hq,fx,fs,q⟩:=h;cases ry
 rcases hq with hq|hq
 .obtain⟨its,r,pl,hz⟩:=I.list hq;refine SeqAt.notIn_listAt (UB x) pl.isList (λ w hw=>lF rx fx r fs w (by simpa using hw)) ⟨.bl _,H,I,O,?_⟩;rw[show its.toArray.any (UB x)=its.any (UB x) by simp,lD r fs];exact q
 .obtain⟨its,r,pl,hz⟩:=I.tuple hq;refine SeqAt.notIn_tupleAt (UB x) pl (λ w hw=>lF rx fx r fs w (by simpa using hw)) ⟨.bl _,H,I,O,?_⟩;rw[show its.toArray.any (UB x)=its.any (UB x) by simp,lD r fs];exact q
def Df:bZ X (.builtin "len") (λ xs H Q=>∃p ys,xs=[.ref p]/\(SqL X.K H p ys\/SqT X.K H p ys)/\Q (.int ys.length) H):=by
 intro Te s σ H xs us Q I r h;obtain⟨p,ys,rfl,hq,q⟩:=h;obtain⟨u,rfl,rx⟩:=cB r;cases rx;have hn:=jN
 rcases hq with hq|hq
 .obtain⟨its,r',pl,hz⟩:=I.list hq;have Tj:=r'.length;exact Calls.call_len_list pl.isList (by simp only[aZ]<;>lia) ⟨.int ys.length,H,I.tok _,⟨s.toks+1,by rw[aZ,Tj]⟩,q⟩
 .obtain⟨its,r',pl,hz⟩:=I.tuple hq;have Tj:=r'.length;exact s0w pl (by simp only[aZ]<;>lia) ⟨.int ys.length,H,I.tok _,⟨s.toks+1,by rw[aZ,Tj]⟩,q⟩
def Dg:bZ X (.builtin "len") (λ xs H Q=>∃z,xs=[.str z]/\z.length<=Oq/\Q (.int z.length) H):=by
 intro Te s σ H xs us Q I r h;obtain⟨z,rfl,hz,q⟩:=h;obtain⟨u,rfl,t,rfl⟩:=cB r;have hn:=jN;exact len_str Z ⟨.int z.length,H,I.tok _,⟨_,O⟩,q⟩
def Dh:bZ X (.type "list") (λ xs H Q=>∃p ys,xs=[.ref p]/\(SqL X.K H p ys\/SqT X.K H p ys)/\∀l,H l=Oj->Q (.ref l) (Ti H l (.lst ys))):=by
 intro Te s σ H xs us Q I r h;obtain⟨p,ys,rfl,hq,q⟩:=h;obtain⟨u,rfl,rx⟩:=cB r;cases rx
 have fin:∀(its:LV),Vals ys its->ys.length<=Oq->∀(h':Oz) (c':Nat),(∀b o',s.heap.get? b=Oh o'->h'.get? b=Oh o') ->
   h'.get? s.heap.objs.size=Oh { cls:=.type "list",dict:=Oj,data:=.seq its.toArray c',slots:=#[] }->EP X Te σ Q (.ref s.heap.objs.size) { s with heap:=h' }:=λ its r' hz h' c' kp e=>
  ⟨.ref s.heap.objs.size,_,I.laid (t':=s.toks) kp (ao _) (show ObjOk X.prog X.w _ h' _ (.lst ys) from ⟨hz,its,c',r',e⟩),rfl,q _ (I.hok.fresh (ao _))⟩
 rcases hq with hq|hq
 .obtain⟨its,r',pl,hz⟩:=I.list hq;have Tj:=r'.length;obtain⟨o,ho,hc,n,hd⟩:=pl.isList;exact Sy p (.inl rfl) ho hc hd (λ h' c' kp e=>fin its r' hz h' c' kp e) (by simp only[aZ]<;>lia)
 .obtain⟨its,r',pl,hz⟩:=I.tuple hq;have Tj:=r'.length;obtain⟨o,ho,hc,n,hd⟩:=pl;exact Sy p (.inr rfl) ho hc hd (λ h' c' kp e=>fin its r' hz h' c' kp e) (by simp only[aZ]<;>lia)
def Di:bZ X (.type "tuple") (λ xs H Q=>∃p ys,xs=[.ref p]/\((SqL X.K H p ys/\∀l,H l=Oj->Q (.ref l) (Ti H l (.tup ys)))\/(SqT X.K H p ys/\Q (.ref p) H))):=by
 intro Te s σ H xs us Q I r h;obtain⟨p,ys,rfl,h⟩:=h;obtain⟨u,rfl,rx⟩:=cB r;cases rx
 rcases h with ⟨hq,q⟩|⟨hq,q⟩
 .obtain⟨its,r',pl,hz⟩:=I.list hq;have Tj:=r'.length;refine call_tuple_list pl.isList (λ h' kp=>?_) (by simp only[aZ]<;>lia);have I1:Inv X Te σ H { s with heap:=h' }:=I.kept (t':=s.toks) kp
  have I2:Inv X Te σ (Ti H h'.objs.size (.tup ys)) { s with heap:=h'.push { cls:=.type "tuple",data:=.seq its.toArray } } :=
   I1.laid (t':=s.toks) (λ b o e=>aO _ e) (ao _) (show ObjOk X.prog X.w _ _ _ (.tup ys) from ⟨hz,its,r',TupO.new _ _⟩)
  exact⟨.ref h'.objs.size,_,I2,O,q _ (I1.hok.fresh (ao _))⟩
 .obtain⟨its,r',pl,hz⟩:=I.tuple hq;exact call_tuple_same pl ⟨.ref p,H,I,O,q⟩
noncomputable def VY(K:FG)(T:String)(x:V)(H:Hp):Prop:=match x with
 |.str _=>T="str"
 |.int _=>T="int"
 |.ref p=>(T="list" /\ ∃xs,SqL K H p xs)\/(T="tuple" /\ ∃o,K.lookup p=Oh o/\o.cls=.type "tuple" /\ o.dict=Oj) \/
   (T="dict" /\ ((∃kvs,H p=Oh (.dK kvs))\/∃kvs,H p=Oh (.dT kvs)))\/(T="set" /\ ∃S n,H p=Oh (.set S n))
 |_=>False
theorem uQ(I:Inv X Te σ H s)(r:RelV x v)(ty:VY X.K T x H) :
  s.TypeIs v T/\∀a,v=.ref a->∃ob,s.heap.get? a=Oh ob/\ob.dict=Oj:=by
 cases x with
 |str z=>
  obtain⟨t,rfl⟩:=r;cases (show T="str" from ty);exact⟨RR s z t,λ _ e=>nomatch e⟩
 |int i=>
  obtain⟨t,rfl⟩:=r;cases (show T="int" from ty);exact⟨lG s i t,λ _ e=>nomatch e⟩
 |ref p=>
  cases r
  rcases ty with ⟨rfl,xs,hq⟩|⟨rfl,o,hk,hc,hd⟩|⟨rfl,hk⟩|⟨rfl,S,n,hk⟩
  .obtain⟨its,_,pl,_⟩:=I.list hq;refine⟨pl.isList.typeIs,λ a e=>?_⟩;cases e;obtain⟨o,n,e,c,hd,_⟩:=pl;exact⟨o,e,hd⟩
  .refine⟨⟨o,I.kIn p o hk,hc⟩,λ a e=>?_⟩;cases e;exact⟨o,I.kIn _ o hk,hd⟩
  .have z:∃o,s.heap.get? p=Oh o/\o.ExactDict:=by
    rcases hk with ⟨kvs,hk⟩|⟨kvs,hk⟩
    .obtain⟨_,_,_,_,o,_,_,e,ex,_⟩:=I.hok p _ hk;exact⟨o,e,ex⟩
    .obtain⟨_,_,_,_,o,_,_,e,ex,_⟩:=I.hok p _ hk;exact⟨o,e,ex⟩
   obtain⟨o,e,ex⟩:=z;refine⟨⟨o,e,ex.1⟩,λ a e2=>?_⟩;cases e2;exact⟨o,e,ex.2.1⟩
  .obtain⟨o,_,_,_,e,ex,_⟩:=I.hok p _ hk;refine⟨⟨o,e,ex.1⟩,λ a e2=>?_⟩;cases e2;exact⟨o,e,ex.2.1⟩
 |_=>exact OV ty
noncomputable def Dj(K:FG)(T:String)(r:V->List V->Hp->VK->Prop)(to:TE):TE:=λ σ H Q=>to σ H λ x H1=>VY K T x H1/\r x [] H1 Q
noncomputable def WB(K:FG)(T:String)(r:V->List V->Hp->VK->Prop)(to:TE)(t:TA):TE:=λ σ H Q=>to σ H λ x H1=>VY K T x H1/\t σ H1 λ xs H2=>r x xs H2 Q
variable {o e:Expr}{es:List Expr}{to:TE}{t:TA}{name:Str}{apos cpos:Pos}{T id:String}{r:V->List V->Hp->VK->Prop}
theorem Dk(pa:PlainAttrs T)(slot:Slot T name id)(hty:typeOf (.builtin id)=OF (.type "method_descriptor"))(hm:VC X id r)(ho:PE X o to)
  (hbase:QT o name X.env (eval o X.env)=eval o X.env:=by rfl) (hline:(apos.endLine == cpos.line)=Oi:=by rfl):PE X (.Call (.Attribute o name apos) [] [] cpos) (Dj X.K T r to):=by
 intro Te s σ H Q I h;refine wpAny_Call_method0_late hbase hline (To (ho Te s σ H _ I h) λ v s1 ⟨x,H1,I1,r1,ty,q1⟩=>?_);obtain⟨h1,h2⟩:=uQ I1 r1 ty;exact⟨T,id,pa,slot,hty,h1,h2,uR rfl (PySem.evalArgs_none (hm Te s1 σ H1 x [] v [] Q I1 r1 .nil q1))⟩
theorem jS(pa:PlainAttrs T)(slot:Slot T name id)(hty:typeOf (.builtin id)=OF (.type "method_descriptor"))(hm:VC X id r)(ho:PE X o to)(ha:PA X (e::es) t)
  (hbase:QT o name X.env (eval o X.env)=eval o X.env:=by rfl)
  (hfew:((Pk cpos (OE (e::es) X.env)).all (λ x=>!x.1) && (SR cpos (Rm [] X.env)).all (λ x=>x.1.isSome)
   && decide ((e::es).length+([]:List Qf).length+(if ([]:List Qf).isEmpty then 0 else 1)<30))=Oi:=by rfl)
  (hline:(apos.endLine == cpos.line)=Oi:=by rfl) (hs:OE (e::es) X.env=(Ol,eval e X.env)::OE es X.env:=by rfl) (hplain:(Pk cpos (OE es X.env)).any (·.1)=Ol:=by rfl) :
  PE X (.Call (.Attribute o name apos) (e::es) [] cpos) (WB X.K T r to t):=by
 intro Te s σ H Q I h;refine wpAny_Call_method_late hbase hfew hline rfl (To (ho Te s σ H _ I h) λ v s1 ⟨x,H1,I1,r1,ty,q1⟩=>?_);obtain⟨h1,h2⟩:=uQ I1 r1 ty;refine⟨T,id,pa,slot,hty,h1,h2,?_⟩;have hA:=ha cpos Te s1 σ H1 _ I1 q1;rw[hs] at hA ⊢;refine uR (by show(Ol || (Pk cpos (OE es X.env)).any (·.1))=Ol;rw[hplain]<;>rfl) (Calls.evalArgs_plain ?_);exact To hA λ us s2 ⟨vs,H2,I2,r2,q2⟩=>hm Te s2 σ H2 x vs v us Q I2 r1 r2 q2
end
noncomputable def WC(X:Cx)(id:String)(r:V->List V->Hp->VK->Prop):Prop :=
 ∀(Te:LO) (s:Oo) (σ:St) (H:Hp) (x:V) (xs:List V) (v:Value) (us:LV) (Q:VK),Inv X Te σ H s->RelV x v->Vals xs us->r x xs H Q ->
  Op (Ou X.prog X.w) X.A (call (.builtin id) (v::us)) (EP X Te σ Q) X.xe s
theorem Vals.one:∀ {x:V}{us:LV},Vals [x] us->∃u,us=[u]/\RelV x u
 |_,_,.cons r .nil=>⟨_,rfl,r⟩
theorem Vals.zero:∀ {us:LV},Vals [] us->us=[]
 |_,.nil=>rfl
def Vals.dropLast(h:Vals xs us):Vals xs.dropLast us.dropLast:=by
 induction h with
 |nil=>exact .nil
 |cons r t ih=>
  cases t with
  |nil=>exact .nil
  |cons q t'=>exact .cons r ih
theorem Vals.eraseIdx:∀ {xs:List V}{us:LV}(i:Nat),Vals xs us->Vals (xs.eraseIdx i) (us.eraseIdx i)
 |_,_,_,.nil=>.nil
 |_,_,0,.cons _ t=>t
 |_,_,i+1,.cons r t=>.cons r (Vals.eraseIdx i t)
def Vals.reverse(h:Vals xs us):Vals xs.reverse us.reverse:=by
 induction h with
 |nil=>exact .nil
 |cons r t ih=>rw[jT,jT];exact Vals.append ih (.cons r .nil)
theorem Vals.rep(h:Vals xs us):∀k:Nat,Vals (Os k xs).flatten (Os k us).flatten
 |0=>.nil
 |k+1=>by
  rw[eR,eR,gk,gk];exact Vals.append h (Vals.rep h k)
def Dl{α:Type}(l:List α):l.eraseIdx (l.length-1)=l.dropLast:=by
 induction l with
 |nil=>rfl
 |cons a r ih=>
  cases r with
  |nil=>rfl
  |cons b r=>
   have e:(a::b::r).length-1=((b::r).length-1)+1:=by
    have h1:(a::b::r).length=r.length+2:=rfl;have h2:(b::r).length=r.length+1:=rfl;lia
   rw[e,List.eraseIdx_cons_succ,ih];all_goals rfl
theorem uS{α:Type}:∀(l:List α) (i:Nat),(l.eraseIdx i).length<=l.length
 |[],_=>ao _
 |_::_,0=>Nat.le_succ _
 |_::r,i+1=>lH (uS r i)
theorem uT(its:LV):∀(k:Nat) (acc:LV),
  QO (λ x1 x2=>x1++x2) acc.toArray (Os k its.toArray)=(acc++(Os k its).flatten).toArray
 |0,acc=>by simp
 |k+1,acc=>by
  have e:acc.toArray++its.toArray=(acc++its).toArray:=on
  have e2:(acc++its)++(Os k its).flatten=acc++(Os (k+1) its).flatten:=by
   rw[eR,gk,im]
  rw[<- e2,<- uT its k (acc++its),<- e,eR,ip]
section
variable {Te:LO}{σ:St}{H:Hp}{s:Oo}{l b:On}{xs ys zs:List V}
theorem Inv.lset{its its':LV}{f:Array Value->Array Value}{t':Nat}(I:Inv X Te σ H s)(hH:H l=Oh (.lst xs))
  (e:s.heap.get? l=Oh { cls:=.type "list",data:=.seq its.toArray n }) (hf:f its.toArray=its'.toArray) (hv:Vals ys its') (hz:ys.length<=Oq) :
  Inv X Te σ (Ti H l (.lst ys)) { s with heap:=s.heap.update l (Pd f),toks:=t' }:=by
 have q:=PySem.IsL.update e f;rw[hf] at q;refine I.write (x:=l) (e:=l) (by rw[hH];exact trivial) (.inl rfl) (λ b' u hb hu=>(eQ s.heap (Pd f) (cy hb)).trans hu) ⟨_,q⟩ ?_;exact⟨hz,its',_,hv,q⟩
theorem Inv.lnew{t':Nat}(I:Inv X Te σ H s)(hv:Vals ys its)(hz:ys.length<=Oq) :
  Inv X Te σ (Ti H s.heap.objs.size (.lst ys)) { s with heap:=s.heap.push { cls:=.type "list",data:=.seq its.toArray },toks:=t' } :=
 I.laid (λ _ _ q=>aO _ q) (ao _) ⟨hz,its,0,hv,bn _ rfl⟩
def Inv.fresh(I:Inv X Te σ H s):H s.heap.objs.size=Oj:=I.hok.fresh (ao _)
def Inv.lstM(I:Inv X Te σ H s)(hH:H l=Oh (.lst xs)):xs.length<=Oq/\∃(its:LV) (n:Nat),Vals xs its/\xs.length=its.length/\s.heap.get? l=Oh { cls:=.type "list",data:=.seq its.toArray n }:=by
 obtain⟨z,its,n,r,e⟩:=I.hok l _ hH;exact⟨z,its,n,r,r.length,e⟩
def uU{n:Nat}(h:n<=Oq):Pb n=Ol:=by
 unfold Pb;exact bD Z
end
noncomputable def nC:V->List V->Hp->VK->Prop:=λ x vs H Q=>∃l xs y,x=.ref l/\vs=[y]/\H l=Oh (.lst xs)/\xs.length<Oq/\Q .non (Ti H l (.lst (xs++[y])))
def uV:WC X "list.append" nC:=by
 intro Te s σ H x vs v us Q I rx rv h;obtain⟨l,xs,y,rfl,rfl,hH,hz,q⟩:=h;cases rx;obtain⟨u,rfl,ru⟩:=rv.one;obtain⟨z,its,n,r,hl,e⟩:=I.lstM hH;refine fK s0x ⟨_,e,O⟩ s0l (uW _ _) (Rh l its.toArray n u (by rw[aZ];lia)) ⟨e,?_⟩;refine⟨.non,_,I.lset (its':=its++[u]) hH e on (r.append (.cons ru .nil)) ?_,O,q⟩;rw[aF,gJ];lia
noncomputable def nD:V->List V->Hp->VK->Prop:=λ x vs H Q=>∃l xs y,x=.ref l/\vs=[]/\H l=Oh (.lst xs)/\xs[xs.length-1]?=Oh y/\Q y (Ti H l (.lst xs.dropLast))
def Dm:WC X "list.pop" nD:=by
 intro Te s σ H x vs v us Q I rx rv h;obtain⟨l,xs,y,rfl,rfl,hH,hy,q⟩:=h;cases rx;have hus:=rv.zero;subst hus;obtain⟨z,its,n,r,hl,e⟩:=I.lstM hH;obtain⟨u,hu,ru⟩:=r.get hy
 have hy':its.toArray[its.toArray.size-1]?=Oh u:=by
  show its.toArray[its.length-1]?=Oh u;rw[<- qA,<- hl];exact hu
 refine fK F.slot_list_pop ⟨_,e,O⟩ F.entry_list_pop (F.args_list_pop_1 _) (MeetsSeq.list_pop_last l its.toArray n u hy' (by rw[aZ];lia)) ⟨e,?_⟩;refine⟨y,_,I.lset (its':=its.dropLast) hH e ?_ r.dropLast ?_,ru,q⟩
 .show its.toArray.eraseIdxIfInBounds (its.toArray.size-1)=its.dropLast.toArray;rw[aZ,uX,Dl]
 .rw[List.length_dropLast];lia
noncomputable def lJ:V->List V->Hp->VK->Prop:=λ x vs H Q=>∃l xs i k y,x=.ref l/\vs=[.int i]/\H l=Oh (.lst xs)/\-(2 ^ 63)<=i/\i<2 ^ 63/\QG i xs.length=Oh k/\xs[k]?=Oh y/\Q y (Ti H l (.lst (xs.eraseIdx k)))
def Dn:WC X "list.pop" lJ:=by
 intro Te s σ H x vs v us Q I rx rv h;obtain⟨l,xs,i,k,y,rfl,rfl,hH,h1,h2,hk,hy,q⟩:=h;cases rx;obtain⟨u,rfl,ru⟩:=rv.one;obtain⟨t,rfl⟩:=ru;obtain⟨z,its,n,r,hl,e⟩:=I.lstM hH;obtain⟨w,hw,rw'⟩:=r.get hy
 refine fK F.slot_list_pop ⟨_,e,O⟩ F.entry_list_pop (F.args_list_pop_2 _ _)
  (MeetsSeq.list_pop_at l its.toArray n i t k w (s0f h1 h2) (by rw[aZ,<- hl];exact hk) (by rw[<- qA];exact hw) (by rw[aZ];lia)) ⟨e,?_⟩
 refine⟨y,_,I.lset (its':=its.eraseIdx k) hH e ?_ (r.eraseIdx k) ?_,rw',q⟩
 .show its.toArray.eraseIdxIfInBounds k=(its.eraseIdx k).toArray;rw[uX]
 .have:=uS xs k;lia
noncomputable def Do:R2:=λ x y H Q=>∃l k xs,x=.ref l/\y=.int k/\H l=Oh (.lst xs)/\-(2 ^ 63)<=k/\k<2 ^ 63/\xs.length*k.toNat<=Oq /\
 ∀p,H p=Oj->Q (.ref p) (Ti H p (.lst (Os k.toNat xs).flatten))
def uY{α:Type}(xs:List α)(k:Nat):(Os k xs).flatten.length=k*xs.length:=by
 induction k with
 |zero=>simp
 |succ k ih=>rw[eR,gk,aF,ih,Nat.succ_mul,Nat.add_comm]
def Dp:TC X (OX .Mult) Do:=by
 intro Te s σ H x y v u Q I rx ry h;obtain⟨l,k,xs,rfl,rfl,hH,h1,h2,hz,q⟩:=h;cases rx;obtain⟨t,rfl⟩:=ry;obtain⟨z,its,n,r,hl,e⟩:=I.lstM hH;have Tj:its.toArray.size*k.toNat<=Oq:=by rw[aZ,<- hl];exact hz
 have hcap:¬its.toArray.size*k.toNat > (2 ^ 63-1)/8:=by
  have:(Oq:Nat)<=(2 ^ 63-1)/8:=ca;lia
 have hfit:¬(!Pm k)=Oi:=by
  rw[s0f h1 h2];exact bN
 have hlong:¬Pb (its.toArray.size*k.toNat)=Oi:=by
  rw[uU Tj];exact bN
 have hnew:QO (λ x1 x2=>x1++x2) #[] (Os (if its.toArray.isEmpty=Oi then 0 else k.toNat) its.toArray)=(Os k.toNat its).flatten.toArray:=by
  have f0:∀m:Nat,QO (λ x1 x2=>x1++x2) #[] (Os m its.toArray)=(Os m its).flatten.toArray:=λ m=>by
   have:=uT its m [];rw[nE] at this;exact this
  rw[f0]
  cases its with
  |nil=>simp
  |cons a r'=>rw[XR on]
 refine uZ (T := "list") (U := "int") ca ⟨_,e,O⟩ (λ s'=>lG s' k t) noFill_list_mul F.fills_int_mul nG repeat_list F.slot_int_index.lookup
  (fK nG (lG s k t) F.entry_int_rmul (F.args_int_rmul_2 _ _) (int___rmul___int_list k t l its.toArray n)
   ⟨e,rfl,⟨_,e,rfl⟩,fK F.slot_list_mul ⟨_,e,rfl⟩ F.entry_list_mul (F.args_list_mul_2 _ _) (AutoListH.list___mul___list_int_3 l its.toArray n k t hfit hcap hlong) ⟨e,?_⟩⟩)
 rw[hnew];exact⟨.ref _,_,I.lnew (t':=s.toks) (r.rep k.toNat) (by rw[uY,s1j];exact hz),O,q _ I.fresh⟩
section
variable {prog:Ov}{w:Ow}{A:Oy}{E:VS}{s:Oo}
end
end _L
namespace Att
open PySem PySem.W PySem.Calls PyProof.Rows
def Dq:∀(ns:LI) (vs:LV),WellAll P h vs (ns.map WData.int)->Qe vs ns:=by
 intro ns
 induction ns with
 |nil=>
  intro vs w;rw[SN] at w;cases w;exact .nil
 |cons n ns ih=>
  intro vs w;rw[cO] at w
  cases w with
  |cons a b=>
   cases a;exact .cons _ _ (ih _ b)
theorem Dr{l:OpenLaw}(hn:l.most=Oh n)
  (hpre:l.row.toRowW.claim.pre args=Oi) (hwl:WellAll P h vals args) :
  ∃a vs ns,vals=[OL a]/\args=[WData.list (ns.map WData.int)]/\h.get? a=Oh { cls:=.type "list",data:=.seq vs.toArray }/\Qe vs ns/\ns.length<=n:=by
 have hsh:WShape.hasAll [] args [.list .int]=Oi:=(pre_splitW hpre).1;have hc:l.pre.holds [] { args:=args }=Oi:=(pre_splitW hpre).2;obtain⟨d,r,rfl,h1,h2⟩:=hasAllW_cons hsh;obtain rfl:=hasAllW_nil h2;obtain⟨xs,rfl,h3⟩:=hasW_list h1;obtain⟨ns,rfl⟩:=items_int h3
 have Tj:ns.length<=n:=by
  unfold OpenLaw.pre at hc
  have h4:(WTm.not (.lt (.lit (.int (n:Int))) (.len (.arg 0)))).holds [] { args:=[.list (ns.map .int)] }=Oi:=by
   have h4:=(holds_andW hc).1;rw[hn] at h4;exact h4
  have h5:=condW_of h4 (w_not (w_lt w_lit (w_len_list (w_arg rfl))));rw[ag] at h5;refine Nat.le_of_not_lt λ q=>?_;have q':(n:Int)<((ns.length:Nat):Int):=Z
  first
   |(rw[cn q'] at h5;exact XU h5 ca)
   |(simp at h5;lia)
 cases hwl with
 |cons w1 w2=>
  cases w2
  cases w1 with
  |list ho hall=>exact⟨_,_,ns,rfl,rfl,ho,Dq ns _ hall,Tj⟩
def Ds(l:OpenLaw)(args:List WData):l.row.toRowW.claim.post args (.bool Oi) args=Oi :=
 postW_of (r:=l.row.toRowW) (X:=(Oi == Oi))
  (show WShape.has [] (.bool Oi) .bool=Oi by first|rfl|decide|simp[WShape.has,WShape.arms,WShape.armsAll])
  (show(WTm.eq .res (.lit (.bool Oi))).value [] { args:=args,res:=Oh (.bool Oi),after:=args }=Oh (.bool (Oi == Oi)) from w_eq_bool (w_res rfl) w_lit) rfl
theorem attach_call{l:OpenLaw}{YP:Ow->Oz->Prop}{d:DefRec}
  (hn:l.most=Oh n) (hdf:d.params.defaults=[])
  (call:∀(w:Ow) (s₀ s₁:Oo) (mg mb:SV) (fa:On) (o:Obj) (pm cd doc:Value) (a:On) (vs:LV) (ns:LI),
   Ground q loose [] XP w s₀ mg mb s₁.heap->YP w s₁.heap ->
   s₁.heap.get? fa=Oh o->o.data=.func (docDef d.name d.params d.body d.scope pm cd doc)->s₁.heap.CodeRec cd d.name->mg d.name=Oh (.ref fa) ->
   s₁.heap.get? a=Oh { cls:=.type "list",data:=.seq vs.toArray }->Qe vs ns->ns.length<=n->s₁.gens=#[] ->
   Pt (Ou l.prog w) Qk (.call (.ref fa) ⟨[.ref a],[]⟩) (λ r s'=>r=.ok (.ret (.bool Oi))/\OldK s₁.heap s'.heap/\s'.os=s₁.os/\PU s'.gens) s₁) :
  WalkO q loose XP YP l.row.toRowW d [] (λ f vs=>RJ f vs):=by
 intro w s₀ s₁ mg mb G Y fa o pm cd doc dV kV ho hd hcd hD hmg hg args vals as hpre hlay hrd hwl hlo;obtain rfl:dV=.none:=Dflts.none hD hdf;obtain rfl:kV=.none:=Dflts.noKw hD;obtain⟨a,vs,ns,rfl,rfl,hobj,hints,Tj⟩:=Dr hn hpre hwl;refine enter_call (lx (call w s₀ s₁ mg mb fa o pm cd doc a vs ns G Y ho (fd_plain hd) hcd hmg hobj hints Tj hg) λ r s' hq=>?_);obtain⟨rfl,h2,h3,h4⟩:=hq;exact⟨.inl ⟨.bool Oi,.bool Oi,[],O,λ _=>rfl,.bool Oi,Ds l _,λ _=>⟨List.Pairwise.nil,λ _ hm=>(nomatch hm)⟩⟩,h2,h3,h4⟩
section
variable {prog:Ov}{w:Ow}{A:Oy}{E:VS}{s:Oo}{K:Frag}
end
end Att
namespace _L
open PySem PySem.Spec PyProof.Rows
theorem qB:∀ {vs:LV}{ns:LI},Qe vs ns->Vals (ns.map V.int) vs
 |_,_,.nil=>.nil
 |_,_,.cons n t h=>.cons ⟨t,rfl⟩ (qB h)
noncomputable def gm(s:Ox):Pa:=match s with
 |.FunctionDef _ a _ _ _ _ _ _ _ _=>a
 |_=>{ posonlyargs:=[],args:=[],vararg:=Oj,kwonlyargs:=[],kw_defaults:=[],kwarg:=Oj,defaults:=[] }
noncomputable def aN(s:Ox):List Ox:=match s with
 |.FunctionDef _ _ b _ _ _ _ _ _ _=>b
 |_=>[]
noncomputable def aD(s:Ox):Scope:=match s with
 |.FunctionDef _ _ _ _ _ _ sc _ _ _=>sc
 |_=>{ kind:=.function,names:=[],isGenerator:=Ol,isCoroutine:=Ol }
noncomputable abbrev Tu:UE:=λ _ _ _ _ _ _=>False
noncomputable abbrev E0:XK:=λ _ _ _=>False
def qC:nq Tu X E0:=λ _ _ _ _ _ _ _ h=>h.elim
structure Fun (K:FG)(x qual:Str)(st:Ox)(f:On)(fd:OP):Prop where
 ex:∃(oc:Value) (od:OA) (kV doc pm:Value) (an:OA) (cdv ct:Value) (osl:AV),
  fd=W.fnOf x qual (gm st) (aN st) (aD st) .none kV doc pm an cdv ct/\K.lookup f=Oh ⟨oc,od,.func fd,osl⟩/\W.codeIn K cdv qual=Oi
 kp:W.keepIn K (.ref f)=Oi
section
variable {P:Ov}{w:Ow}{K:FG}{mg:SV}{base:Oz}
theorem Fun.ok{st:Ox}{sp:Sp}(F:Fun K x qual st f fd)(S:Tw N ps (aD st))(len:∀vs H Q E,sp vs H Q E->vs.length=ps.length)
  (hbody:∀(cdv:Value) (A:Oy) (outer:List Env) (s:Oo) (H:Hp) (vs:List V) (Q:VK) (E:XK),Room k (A.deeper (Pg qual (aD st) s.heap.objs.size f cdv))->sp vs H Q E ->
   ∃t,PSs (dP Tu P w K mg base N qual (aD st) f cdv A outer s H E).nox (aN st) t/\t { nx:=λ _ H'=>Q .non H',rt:=Q } (Tn N vs) H):FnOk P w K mg base Tu (k+1) f fd ps sp:=by
 obtain⟨oc,od,kV,doc,pm,an,cdv,ct,osl,rfl,lk,hcd⟩:=F.ex;refine uD lk hcd S len λ A outer s H vs Q E hr hsp=>?_;obtain⟨t,h,q⟩:=hbody cdv A outer s H vs Q E hr hsp;exact⟨t,h.nox,q⟩
theorem Fun.binds{st:Ox}{ps:List Str}(F:Fun K x qual st f fd)
  (h:∀(kV doc pm:Value) (an:OA) (cdv ct:Value) (us:LV),us.length=ps.length->Pe (W.fnOf x qual (gm st) (aN st) (aD st) .none kV doc pm an cdv ct) ⟨us,[]⟩=OF (ps.zip us)):Binds K fd ps []:=by
 obtain⟨oc,od,kV,doc,pm,an,cdv,ct,osl,rfl,lk,hcd⟩:=F.ex;exact .all (h kV doc pm an cdv ct)
theorem vc{st:Ox}{oc:Value}{od an:OA}{osl:AV}{kV doc pm cdv ct:Value}(l:K.lookup f=Oh ⟨oc,od,.func (W.fnOf x qual (gm st) (aN st) (aD st) .none kV doc pm an cdv ct),osl⟩)
  (c:W.codeIn K cdv qual=Oi) (k:W.keepIn K (.ref f)=Oi):Fun K x qual st f (W.fnOf x qual (gm st) (aN st) (aD st) .none kV doc pm an cdv ct):=⟨⟨oc,od,kV,doc,pm,an,cdv,ct,osl,rfl,l,c⟩,k⟩
end
def aL{n:Nat}(h:n<=1000):n<Oq:=qD h ca
variable {X:Cx}
end _L
set_option maxHeartbeats 4000000
namespace _L
open PySem PySem.Spec PyProof.Rows
section
variable {prog:Ov}{w:Ow}{A:Oy}{R:QX->Oo->Prop}{s:Oo}
theorem Dt{elt target iter:Expr}{it acc:Value}(I:Nat->Oo->Prop)
  (turn:∀n s,I n s->Op (Ou prog w) A (Pn it) (λ r s₁=>match r with
   |none=>R (.ok .next) s₁
   | Oh v=>Op (Ou prog w) A (Pw target it v) (λ _ s₀=>Op (Ou prog w) A (PJ target env v) (λ _ s₂=>Op (Ou prog w) A (eval elt env) (λ x s₃ =>
     Op (Ou prog w) A (call (.builtin "list.append") [acc,x]) (λ _ s₄=>∃m,m<n/\I m s₄) (λ _ _=>False) s₃)
     (λ _ _=>False) s₂) (λ _ _=>False) s₀) (λ _ _=>False) s₁) (λ _ _=>False) s)
  (n:Nat) (h:I n s) :
  Pt (Ou prog w) A (.compLoop (.ListComp elt [⟨target,iter,[],0⟩] scope pos) 0 it acc env) R s:=by
 refine codeAny_loop rfl I (λ n s hI=>?_) n h;show Op _ _ ((compTurn (.ListComp elt [⟨target,iter,[],0⟩] scope pos) 0 it acc env).onRaise (λ x=>do Sk x env;RQ x)) _ _ s;refine wpAny_noted ?_;rw[compTurn_list1];refine ae (iS (ae (cz (turn n s hI) (λ r s₁ h₁=>?_) λ _ _ h'=>h'.elim)))
 cases r with
 |none=>exact au h₁
 |some v=>
  refine ae (cz h₁ (λ _ s₀ h₀=>?_) λ _ _ h'=>h'.elim)
  exact ae (cz h₀ (λ _ s₂ h₂=>ae (ae (cz h₂ (λ x s₃ h₃=>ae (cz h₃
   (λ _ s₄ h₄=>au (au ⟨rfl,h₄⟩)) λ _ _ h'=>h'.elim)) λ _ _ h'=>h'.elim))) λ _ _ h'=>h'.elim)
end
noncomputable def bz(X:Cx)(N:List Str)(scope:Scope)(cl:LA)(C:On)(ex:List On)(s:Oo)(H:Hp):Cx where
 prog:=X.prog
 w:=X.w
 K:=X.K
 mg:=X.mg
 base:=X.base
 A:=X.A
 N:=N
 s₀:=s
 H₀:=H
 env:=SU scope cl C X.env
 outer:=X.stack
 stack:=X.stack
 ex:=ex
 fn:=λ _=>Ol
 calm:=X.calm
 pn:=X.pn
 xe:=λ _ _=>False
noncomputable def dw(k:Nat)(js:List Nat)(σ:St):St:=Os k Oj++js.map λ j=>(σ[j]?).join
noncomputable def gp(wi:TI)(k:Nat)(js:List Nat)(g:TG)(te:TE):TE:=λ σ H Q=>wi σ H λ J H1=>
 ∃W:Nat->Nat->List V->St->Hp->Prop,(∃m,W 0 m [] (dw k js σ) H1)/\∀i m ys σ' H',W i m ys σ' H' ->
  (J.stop i H'/\∀p,H' p=Oj->Q (.ref p) (Ti H' p (.lst ys))) \/
  (J.go i H'/\ys.length < Oq/\∃N:List V->St->Hp->Prop,(∀zs σ2 H2,N zs σ2 H2->∃m',m' < m/\W (i+1) m' zs σ2 H2) /\
   ∀x H2,J.yld i H' x H2->g x σ' H2 λ σ3 H3=>te σ3 H3 λ v H4=>N (ys++[v]) σ3 H4)
structure Vd (X:Cx)(scope:Scope)(cl:LA)(x:Str)(j:Nat):Prop where
 at_:X.N[j]?=Oh x
 out:X.env.scope.names.lookup x=Oh .cell\/X.env.scope.names.lookup x=Oh .free
 inn:(OY scope X.env).names.lookup x=Oh .cell\/(OY scope X.env).names.lookup x=Oh .free
def Du{σ:St}{j:Nat}(h:(σ[j]?).join=Oh v):σ[j]?=Oh (Oh v):=by
 cases e:σ[j]? with
 |none=>rw[e] at h;cases h
 |some o=>
  rw[e] at h
  cases o with
  |none=>cases h
  |some u=>cases h;rfl
noncomputable def jb(wi:TI)(k:Nat)(js:List Nat)(g:TG)(tc:TT)(te:TE):TE:=λ σ H Q=>wi σ H λ J H1=>
 ∃W:Nat->Nat->List V->St->Hp->Prop,(∃m,W 0 m [] (dw k js σ) H1)/\∀i m ys σ' H',W i m ys σ' H' ->
  (J.stop i H'/\∀p,H' p=Oj->Q (.ref p) (Ti H' p (.lst ys))) \/
  (J.go i H'/\ys.length < Oq/\∃N:List V->St->Hp->Prop,(∀zs σ2 H2,N zs σ2 H2->∃m',m' < m/\W (i+1) m' zs σ2 H2) /\
   ∀x H2,J.yld i H' x H2->g x σ' H2 λ σ3 H3=>tc σ3 H3 λ b H4=>if b=Oi then te σ3 H4 λ v H5=>N (ys++[v]) σ3 H5 else N ys σ3 H4)
noncomputable abbrev nH:=Ov->Ow->Oy->Env->(Bool->Oo->Prop)->Oo->Prop
noncomputable def qE(ifs:List Expr)(T:nH):Prop:=(∀ {prog:Ov}{w:Ow}{A:Oy}{R:QX->Oo->Prop}{s:Oo}{elt target iter:Expr}{scope:Scope}{pos:Pos}{it acc:Value}{env:Env}(I:Nat->Oo->Prop),
  (∀n s,I n s->Op (Ou prog w) A (Pn it) (λ r s₁=>match r with
   |none=>R (.ok .next) s₁
   | Oh v=>Op (Ou prog w) A (Pw target it v) (λ _ s₀=>Op (Ou prog w) A (PJ target env v) (λ _ s₂=>T prog w A env (λ b s₃ =>
     if b=Oi then Op (Ou prog w) A (eval elt env) (λ x s₄ =>
      Op (Ou prog w) A (call (.builtin "list.append") [acc,x]) (λ _ s₅=>∃m,m<n/\I m s₅) (λ _ _=>False) s₄) (λ _ _=>False) s₃
     else ∃m,m<n/\I m s₃) s₂) (λ _ _=>False) s₀) (λ _ _=>False) s₁) (λ _ _=>False) s)->∀n,I n s ->
  Pt (Ou prog w) A (.compLoop (.ListComp elt [⟨target,iter,ifs,0⟩] scope pos) 0 it acc env) R s) /\
 ∀ {p w A e k k' s},T p w A e k s->(∀b s,k b s->k' b s)->T p w A e k' s
noncomputable def vd:nH:=λ _ _ _ _ k s=>k Oi s
def Dv:qE [] vd:=⟨λ I t n h=>Dt I t n h,λ h m=>m _ _ h⟩
noncomputable def PM(X:Cx)(T:nH)(tc:TT):Prop:=∀(Te:LO) (s:Oo) (σ:St) (H:Hp) (K:Bool->Hp->Prop),Inv X Te σ H s->tc σ H K->T X.prog X.w X.A X.env (λ b s'=>∃H',Inv X Te σ H' s'/\K b H') s
theorem ve{X:Cx}{elt tg iter:Expr}{cl:LA}{own fv:List Str}{js:List Nat}
    (hc:X.calm=Oi) (hi:PI X tg iter wi) (hclos:OS scope X.env=OF cl) (hcell:∀y∈scope.names,y.2≠.cell) (Tp:scope.kind=.function)
    (hnames:∀y∈scope.names,y.2=.local->scope.names.lookup y.1=Oh .local)
    (hcl:∀x c,cl.lookup x=Oh c->X.env.cells.lookup x=Oh c)
    (hhas:∀x,((OY scope X.env).names.lookup x=Oh .cell\/(OY scope X.env).names.lookup x=Oh .free)->∃c,cl.lookup x=Oh c)
    (Tj:js.length=fv.length) (hcap:∀(i:Nat) x j,fv[i]?=Oh x->js[i]?=Oh j->Vd X scope cl x j)
    (hg:∀(C:On) (ex:List On) (s:Oo) (H:Hp),PG (bz X (own++fv) scope cl C ex s H) tg g)
    (he:∀(C:On) (ex:List On) (s:Oo) (H:Hp),PE (bz X (own++fv) scope cl C ex s H) elt te)
    (ht:∀(C:On) (ex:List On) (s:Oo) (H:Hp),PM (bz X (own++fv) scope cl C ex s H) T0 tc) (lp:qE ifs T0)
    (hs:∀x,OZ iter X.env x=OF x)(I:Inv X Te σ H s) (h:jb wi own.length js g tc te σ H Q)
    (fin:∀(a C:On) (s5:Oo) (H5:Hp) (fl:Flow),Inv X Te σ H5 s5->H5 C=Oj->C≠X.env.locals->X.s₀.heap.objs.size<=C->(∀x c,X.env.cells.lookup x=Oh c->c≠C)->(∀p∈X.pn++Te,p.1≠C)->(∃m,s5.heap.Ns C m)->Q (.ref a) H5->Rx (Ou X.prog X.w) X.A X.xe use QQ (.ref a) C (.ok fl) s5) :
    Op (Ou X.prog X.w) X.A (QU (.ListComp elt [⟨tg,iter,ifs,0⟩] scope pos) scope X.env fpos (QM []) Ol (Si [⟨tg,iter,ifs,0⟩] X.env) use) QQ X.xe s:=by
  refine wpAny_comprehension_free (use:=use) rfl hs hclos Tp hnames (To (hi Te s σ H _ I h) λ v s1 h1=>To h1 λ itv s2 h2=>?_);obtain⟨it,fp,tn,J,H2,e,I2,T,st2,f2,W,⟨m0,w0⟩,turn⟩:=h2;subst e;refine dg (wpAny_newFunctionEnv hcell (by intro y hy;simp at hy) (λ h₁ hns₁ hsb₁=>?_) Tp);dsimp only at hns₁ hsb₁ ⊢;generalize hHp:s2.heap.push { cls:=.type "list",dict:=Oj,data:=.seq ([]:LV).toArray }=hL at hns₁ hsb₁ ⊢;have hC:hL.objs.size=s2.heap.objs.size+1:=by rw[<- hHp,jc]
  have hDC:s2.heap.objs.size≠hL.objs.size:=by rw[hC];exact be (jd _)
  have ltC:∀b,b<s2.heap.objs.size->b≠hL.objs.size:=λ b hb=>by rw[hC];exact be (eh hb)
  have old:∀b o,s2.heap.get? b=Oh o->h₁.get? b=Oh o:=λ b o e=>hsb₁.extBut b o (ltC b (aM e)) (aO _ (hHp ▸ aO _ e));have hacc:h₁.get? s2.heap.objs.size=Oh { cls:=.type "list",data:=.seq ([]:LV).toArray 0 }:=hsb₁.extBut _ _ hDC (aO _ (hHp ▸ bn _ rfl));have hfresh:∀a,s2.heap.objs.size<=a->H2 a=Oj:=λ a ha=>I2.hok.fresh ha
  have fpL:∀b∈fp,b<s2.heap.objs.size:=λ b hb=>by
    obtain⟨o,e,_⟩:=T.obj _ _ st2 b hb;exact aM e
  have cellL:∀x c,cl.lookup x=Oh c->c<s2.heap.objs.size:=λ x c e=>by
    obtain⟨v,q⟩:=I2.cell x c (hcl x c e);exact q.lt
  have pinL:∀p∈X.pn++Te,p.1<s2.heap.objs.size:=λ p hp=>aM (I2.pin p hp).1;generalize hX:bz X (own++fv) scope cl hL.objs.size fp s2 H2=Y
  have ok:Y.Ok:=by
    subst hX
    refine⟨I2.ok.mod,Tp,I2.ok.glob,I2.ok.blt,by show s2.heap.objs.size≤hL.objs.size;lia,λ x y c h1 h2=>I2.ok.inj x y c (hcl x c h1) (hcl y c h2),λ x hx=>hhas x hx,
      λ x c hf=>XU hf (by show ¬(Ol=Oi);decide),I2.ok.hd,I2.ok.frames,.inl rfl,λ b hb=>⟨ltC b (fpL b hb),λ x c e=>(f2 b hb).2.2.2.2.1 x c (hcl x c e)⟩,I2.bs,cL I2.ok.bsz I2.sz,λ b o e hb=>?_,λ b hb hz=>?_,I2.stack,I2.stkFree⟩
    . rcases(f2 b hb).2.2.2.1 with z|z
      . exact I2.ok.noex b o e z
      . exact XU (bG (aM e) (cL I2.ok.bsz z)) (dM _)
    . rcases aB.mp (I2.stkSub b hz) with z|z
      . exact(f2 b hb).2.1 z
      . exact(f2 b hb).2.2.1 z
  have hYl:Y.env.locals=hL.objs.size:=by subst hX;rfl
  have hYs:Y.s₀=s2:=by subst hX;rfl
  have hYH:Y.H₀=H2:=by subst hX;rfl
  have hYx:Y.ex=fp:=by subst hX;rfl
  have hYf:Y.fs=Uu X.stack:=by subst hX;rfl
  have hYc:Y.env.cells=cl:=by subst hX;rfl
  have hYp:Y.pn=X.pn:=by subst hX;rfl
  have pinOk:∀p∈X.pn++Te,s2.heap.get? p.1=Oh p.2/\H2 p.1=Oj/\p.1≠hL.objs.size/\p.1 ∉ Uu X.stack/\∀v,p.2.data≠.cell v:=λ p hp=>by
    obtain⟨e,n,ne,nf,d⟩:=I2.pin p hp;refine⟨e,n,ltC _ (aM e),λ z=>?_,d⟩
    rcases aB.mp (I2.stkSub _ z) with q|q
    . exact ne q
    . exact nf q
  have stkL:∀b∈Uu X.stack,b<s2.heap.objs.size:=λ b hb=>by
    obtain⟨_,o,ho,_⟩:=I2.stack.mem hb;exact aM ho
  have I3:Inv Y (Te++[(s2.heap.objs.size,{ cls:=.type "list",data:=.seq ([]:LV).toArray 0 })]) (dw own.length js σ) H2 { s2 with heap:=h₁,toks:=s2.toks+([]:List (Str×Value)).length }:=by
    refine⟨ok,by subst hX;rfl,I2.bare,by rw[hYH,hYs];exact Un.kept old,⟨_,by rw[hYl];exact hns₁,λ i x v e1 e2 e3=>?_⟩,λ x c e=>?_,by rw[hYl];exact hfresh _ Z,λ x c e=>?_,λ p hp=>?_,by subst hX;exact I2.hok.kept old,?_⟩
    . subst hX;have e1:(own++fv)[i]?=Oh x:=e1;unfold dw at e2;by_cases hi:i<own.length
      . rw[cN (by simpa using hi),fI] at e2;split at e2<;>cases e2
      . rw[cM (by simpa using hi),dC,bh] at e2;rw[cM Z] at e1
        cases ej:js[i-own.length]? with
        |none=>rw[ej] at e2;cases e2
        |some j=>
          rw[ej] at e2;have cp:=hcap _ x j e1 ej;have e2':σ[j]?=Oh (Oh v):=Du (bv e2);obtain⟨m,hn,hl⟩:=I2.loc;obtain⟨u,r,l⟩:=hl j x v cp.at_ e2' (cp.out.elim (λ z=>.inr (.inl z)) λ z=>.inr (.inr z));refine⟨u,r,.inr ⟨cp.inn,?_⟩⟩;obtain⟨c,ec⟩:=hhas x cp.inn
          rcases l with ⟨k,_⟩|⟨_,c',ec',z⟩
          . have k:X.env.scope.names.lookup x=Oh .local:=k
            rcases cp.out with q|q<;>rw[q] at k<;>cases k
          . rw[hcl x c ec] at ec';cases ec';obtain⟨o,ho,hd⟩:=z;exact⟨c,ec,o,old _ _ ho,hd⟩
    . rw[hYc] at e;obtain⟨v,o,ho,hd⟩:=I2.cell x c (hcl x c e);exact⟨v,o,old _ _ ho,hd⟩
    . rw[hYc] at e;exact I2.freeC x c (hcl x c e)
    . rw[hYp] at hp;rw[hYl,hYf]
      rcases bY.mp hp with z|z
      . obtain⟨a,b,c,d,f⟩:=pinOk p (fH _ z);exact⟨old _ _ a,b,c,d,f⟩
      . rcases bY.mp z with z|z
        . obtain⟨a,b,c,d,f⟩:=pinOk p (bK _ z);exact⟨old _ _ a,b,c,d,f⟩
        . have e:p=_:=aI.mp z;subst e;exact⟨hacc,hfresh _ (ao _),hDC,λ z=>XU (stkL _ z) (dM _),λ v z=>by cases z⟩
    . subst hX;unfold dw;show _=(own++fv).length;simp[Tj]
  have hYprog:Y.prog=X.prog:=by subst hX;rfl
  have hYw:Y.w=X.w:=by subst hX;rfl
  have hYK:Y.K=X.K:=by subst hX;rfl
  have hYA:Y.A=X.A:=by subst hX;rfl
  have hYcalm:Y.calm=Oi:=by subst hX;exact hc
  have hYxe:Y.xe=λ _ _=>False:=by subst hX;rfl
  have hYenv:Y.env=SU scope cl hL.objs.size X.env:=by subst hX;rfl
  have hg':=hg hL.objs.size fp s2 H2;have he':=he hL.objs.size fp s2 H2;have ht':=ht hL.objs.size fp s2 H2;rw[hX] at hg' he' ht'
  have fpOk:∀ {H':Hp}{pn:LO},(∀b∈fp,H' b=Oj)->(∀p∈pn,p.1=s2.heap.objs.size\/p∈Te)->∀b∈fp,hZ Y pn H' b:=λ hn hp b hb=>by
    refine⟨hn b hb,by rw[hYl];exact ltC b (fpL b hb),?_,.inl (by rw[hYx];exact hb),λ x c e=>?_,λ p hq=>?_⟩
    . rw[hYf];intro hz
      rcases aB.mp (I2.stkSub b hz) with z|z
      . exact(f2 b hb).2.1 z
      . exact(f2 b hb).2.2.1 z
    . rw[hYc] at e;exact(f2 b hb).2.2.2.2.1 x c (hcl x c e)
    . rw[hYp] at hq
      rcases bY.mp hq with z|z
      . exact(f2 b hb).2.2.2.2.2 p (fH _ z)
      . rcases hp p z with q|q
        . rw[q];exact cy (be (fpL b hb))
        . exact(f2 b hb).2.2.2.2.2 p (bK _ q)
  have loop:∀s₃:Oo,s₃={ s2 with heap:=h₁,toks:=s2.toks+([]:List (Str×Value)).length } ->
      Pt (Ou X.prog X.w) X.A (.compLoop (.ListComp elt [⟨tg,iter,ifs,0⟩] scope pos) 0 (.ref it) (.ref s2.heap.objs.size) (SU scope cl hL.objs.size X.env))
        (Rx (Ou X.prog X.w) X.A X.xe use QQ (.ref s2.heap.objs.size) hL.objs.size) s₃:=by
    rintro s₃ rfl
    refine lp.1 (λ n s'=>∃i ys its k σ' H',Inv Y (Te++[(s2.heap.objs.size,{ cls:=.type "list",data:=.seq (its:LV).toArray k })]) σ' H' s'/\tn i s'.heap/\(∀b∈fp,H' b=Oj)/\Vals ys its/\ys.length<=Oq/\W i n ys σ' H') ?_ m0
      ⟨0,[],[],0,_,H2,I3,T.keep _ _ _ st2 λ b _ o e=>old b o e,λ b hb=>(f2 b hb).1,.nil,bP _,w0⟩
    rintro n s4 ⟨i,ys,its,k,σ4,H4,I4,st4,fr4,rv,hz,w4⟩
    have pinD:∀p∈(Te++[(s2.heap.objs.size,({ cls:=.type "list",data:=.seq (its:LV).toArray k }:Obj))]),p.1=s2.heap.objs.size\/p∈Te:=λ p hp=>by
      rcases bY.mp hp with z|z
      . exact .inr z
      . rw[aI.mp z];exact .inl rfl
    have F4:=fpOk (pn:=Te++[(s2.heap.objs.size,{ cls:=.type "list",data:=.seq (its:LV).toArray k })]) fr4 pinD
    rcases turn i n ys σ4 H4 w4 with ⟨stop,qn⟩|⟨go,hlt,N,hN,step⟩
    . have d:=T.done Y hYprog hYw hYK hYcalm i _ s4 σ4 H4 (λ _ _=>False) I4 F4 st4 stop;rw[hYA] at d;refine To d λ r s5 ⟨hr,I5⟩=>?_;subst hr;obtain⟨m,hn,_⟩:=id I5.loc;rw[hYl] at hn;have hD:=I5.pin (s2.heap.objs.size,{ cls:=.type "list",data:=.seq (its:LV).toArray k }) (bK _ (bK _ (aI.mpr rfl)));have hDn:H4 s2.heap.objs.size=Oj:=hD.2.1;have kp:∀b o,b≠hL.objs.size->s5.heap.get? b=Oh o->s5.heap.get? b=Oh o:=λ b o _ e=>e;have B:=I5.base;rw[hYH,hYs,hYx,hYf] at B;have s2C:∀b o,s2.heap.get? b=Oh o->b≠hL.objs.size:=λ b o e=>ltC b (aM e);have Uv:∀b u,H4 b=Oh u->b≠s2.heap.objs.size:=λ b u e z=>by rw[z,hDn] at e;cases e
      have trC:∀b u,H4 b=Oh u->b≠hL.objs.size:=λ b u e z=>by
        have:=I5.free;rw[hYl,<- z,e] at this;cases this
      have hH2:∀b u,H2 b=Oh u->b≠s2.heap.objs.size:=λ b u e z=>by rw[z,hfresh _ (ao _)] at e;cases e
      have IX:Inv X Te σ (Ti H4 s2.heap.objs.size (.lst ys)) s5:=by
       refine I2.call' (ch:=fp) (by show s5.os=s2.os;rw[I5.os,hYs]) ⟨λ b o e n hb hx=>kp b o (s2C b o e) (B.keep b o e n hb hx),λ b o e n hb hx=>?_,λ b o e n hx=>?_,λ b o e hx=>?_,λ b xs e=>?_,λ b o u e=>?_,λ b ps e=>?_⟩ ?_ I5.bare (λ b hb=>⟨(f2 b hb).2.2.2.1,(f2 b hb).2.1,(f2 b hb).2.2.2.2.1,(f2 b hb).2.2.2.2.2⟩)
       . obtain⟨sl,q⟩:=B.slot b o e n hb hx;exact⟨sl,kp b _ (s2C b o e) q⟩
       . rw[aA (be (aM e))];exact B.free b o e n hx
       . obtain⟨o',q⟩:=B.there b o e hx;exact⟨o',kp b o' (s2C b o e) q⟩
       . rw[aA (hH2 b _ e)];exact B.tups b xs e
       . rw[aA (hH2 b _ e)];exact B.frzs b o u e
       . obtain⟨more,q⟩:=B.tbls b ps e;exact⟨more,by rw[aA (hH2 b _ e)];exact q⟩
       . intro b u e;by_cases hb:b=s2.heap.objs.size
         . subst hb;rw[bU] at e;cases e;exact⟨hz,its,k,rv,kp _ _ hDC hD.1⟩
         . rw[aA hb] at e;have okb:=I5.hok b u e;rw[hYprog,hYw] at okb;refine okb.stay (λ c v hc q=>kp c v ?_ q) (λ c q=>by rw[aA (Uv c _ q)];exact q) λ c xs q=>by rw[aA (Uv c _ q)];exact q
           rcases hc with z|z
           . rw[z];exact trC b u e
           . exact trC c _ z
      have zC:Ti H4 s2.heap.objs.size (.lst ys) hL.objs.size=Oj:=by
        rw[aA (cy hDC)];have:=I5.free
        rwa [hYl] at this
      exact fin s2.heap.objs.size hL.objs.size s5 _ _ IX zC (cy (ltC _ I2.lt)) (by have:=I2.sz;lia) (λ x c e=>ltC c (by obtain⟨v,q⟩:=I2.cell x c e;exact q.lt)) (λ p hp=>ltC _ (pinL p hp)) ⟨m,hn⟩ (qn _ hDn)
    . have d:=T.item Y hYprog hYw hYK hYcalm i _ s4 σ4 H4 (λ _ _=>False) I4 F4 st4 go;rw[hYA] at d;refine To d λ r s5 ⟨u,hr,h5⟩=>?_;subst hr;refine To h5 λ _ s6 ⟨x,H6,I6,r6,y6,st6,fr6⟩=>?_;have I6':=I6.pinned (fpOk (pn:=Te++[(s2.heap.objs.size,{ cls:=.type "list",data:=.seq (its:LV).toArray k })]) fr6 pinD) (T.obj _ _ st6);have d7:=hg' _ s6 σ4 H6 x u _ I6' r6 (step x H6 y6);rw[hYprog,hYw,hYA,hYxe,hYenv] at d7;refine To d7 λ _ s7 ⟨σ7,H7,I7,q7⟩=>?_;have dt:=ht' _ s7 σ7 H7 _ I7 q7;rw[hYprog,hYw,hYA,hYenv] at dt;refine lp.2 dt λ bb s7 ⟨H7,I7,q7⟩=>?_
      cases bb with
      |false=>
        obtain⟨m',hm,w8⟩:=hN _ _ _ q7;have tn8:tn (i+1) s7.heap:=T.keep _ _ _ st6 λ b hb o e=>(I7.pin (b,o) (bK _ (bK _ (jM hb e)))).1
        have fr8:∀b∈fp,H7 b=Oj:=λ b hb=>by
          obtain⟨o,e,d⟩:=T.obj _ _ st6 b hb;exact(I7.pin (b,o) (bK _ (bK _ (jM hb e)))).2.1
        exact⟨m',hm,i+1,ys,its,k,σ7,H7,I7.unpinned,tn8,fr8,rv,hz,w8⟩
      |true=>
        have q7:te σ7 H7 _:=q7;show Op _ _ (eval elt _) _ _ s7;have d8:=he' _ s7 σ7 H7 _ I7 q7;rw[hYprog,hYw,hYA,hYxe,hYenv] at d8;refine To d8 λ u8 s8 ⟨v8,H8,I8,r8,n8⟩=>?_;obtain⟨m',hm,w8⟩:=hN _ _ _ n8;have pD:=I8.pin (s2.heap.objs.size,{ cls:=.type "list",data:=.seq (its:LV).toArray k }) (bK _ (fH _ (bK _ (aI.mpr rfl))));have tn8:tn (i+1) s8.heap:=T.keep _ _ _ st6 λ b hb o e=>(I8.pin (b,o) (bK _ (bK _ (jM hb e)))).1
        have fr8:∀b∈fp,H8 b=Oj:=λ b hb=>by
          obtain⟨o,e,d⟩:=T.obj _ _ st6 b hb;exact(I8.pin (b,o) (bK _ (bK _ (jM hb e)))).2.1
        have J8:Inv Y Te σ7 H8 s8:=I8.unpinned.unpinned;have eD:s8.heap.get? s2.heap.objs.size=Oh { cls:=.type "list",data:=.seq its.toArray k }:=pD.1;refine fK s0x ⟨_,eD,O⟩ s0l (uW _ _) (Rh _ its.toArray k u8 (by rw[aZ,<- rv.length];lia)) ⟨eD,?_⟩;have other:∀b o,b≠s2.heap.objs.size->s8.heap.get? b=Oh o->(s8.heap.update s2.heap.objs.size (Pd λ xs=>xs.push u8)).get? b=Oh o:=λ b o nb e=>(eQ s8.heap _ (cy nb)).trans e
        have J9:=J8.turned (t':=s8.toks) (it:=s2.heap.objs.size) (h':=s8.heap.update s2.heap.objs.size (Pd λ xs=>xs.push u8)) other pD.2.1 (by rw[hYl];exact hDC) (.inr (by rw[hYs];exact ao _))
          (λ x c e=>by rw[hYc] at e;exact be (cellL x c e)) (λ p hp=>by rw[hYp] at hp;exact be (pinL p hp))
        have ep:(its.toArray.push u8)=(its++[u8]).toArray:=on
        obtain⟨kk,upD⟩:∃kk,(s8.heap.update s2.heap.objs.size (Pd λ xs=>xs.push u8)).get? s2.heap.objs.size=Oh { cls:=.type "list",data:=.seq (its++[u8]).toArray kk }:=by
          have z:=PySem.IsL.update eD (λ xs=>xs.push u8);rw[ep] at z;exact⟨_,z⟩
        refine⟨m',hm,i+1,ys++[v8],its++[u8],kk,σ7,H8,J9.pins_of λ p hp=>?_,T.keep _ _ _ tn8 λ b hb o e=>other b o (be (fpL b hb)) e,fr8,rv.append (.cons r8 .nil),?_,w8⟩
        . rcases bY.mp hp with z|z
          . exact J9.pin p (bK _ z)
          . rw[aI.mp z];exact⟨upD,pD.2.1,by rw[hYl];exact hDC,by rw[hYf];exact λ z=>XU (stkL _ z) (dM _),λ v z=>by cases z⟩
        . rw[aF,gJ];lia
  exact codeAny_compStart_list (loop _ rfl) (T.self _ 0 _ _ _ (T.keep _ _ _ st2 λ b _ o e=>old b o e) (loop _ rfl))
def Dw:jb wi k js g (λ σ H K=>K Oi H) te=gp wi k js g te:=by
 unfold jb gp;simp only[eO]
def pm0:PM X vd (λ σ H K=>K Oi H):=λ _ _ _ H _ I k=>⟨H,I,k⟩
theorem vf{X:Cx}{elt tg iter:Expr}{cl:LA}{own fv:List Str}{js:List Nat}
  (hc:X.calm=Oi) (hi:PI X tg iter wi) (hclos:OS scope X.env=OF cl) (hcell:∀y∈scope.names,y.2≠.cell) (Tp:scope.kind=.function)
  (hnames:∀y∈scope.names,y.2=.local->scope.names.lookup y.1=Oh .local)
  (hcl:∀x c,cl.lookup x=Oh c->X.env.cells.lookup x=Oh c)
  (hhas:∀x,((OY scope X.env).names.lookup x=Oh .cell\/(OY scope X.env).names.lookup x=Oh .free)->∃c,cl.lookup x=Oh c)
  (Tj:js.length=fv.length) (hcap:∀(i:Nat) x j,fv[i]?=Oh x->js[i]?=Oh j->Vd X scope cl x j)
  (hg:∀(C:On) (ex:List On) (s:Oo) (H:Hp),PG (bz X (own++fv) scope cl C ex s H) tg g)
  (he:∀(C:On) (ex:List On) (s:Oo) (H:Hp),PE (bz X (own++fv) scope cl C ex s H) elt te)
  (hs:∀x,OZ iter X.env x=OF x)(I:Inv X Te σ H s) (h:gp wi own.length js g te σ H Q)
  (fin:∀(a C:On) (s5:Oo) (H5:Hp) (fl:Flow),Inv X Te σ H5 s5->H5 C=Oj->C≠X.env.locals->X.s₀.heap.objs.size<=C->(∀x c,X.env.cells.lookup x=Oh c->c≠C)->(∀p∈X.pn++Te,p.1≠C)->(∃m,s5.heap.Ns C m)->Q (.ref a) H5->Rx (Ou X.prog X.w) X.A X.xe use QQ (.ref a) C (.ok fl) s5) :
  Op (Ou X.prog X.w) X.A (QU (.ListComp elt [⟨tg,iter,[],0⟩] scope pos) scope X.env fpos (QM []) Ol (Si [⟨tg,iter,[],0⟩] X.env) use) QQ X.xe s :=
 ve hc hi hclos hcell Tp hnames hcl hhas Tj hcap hg he (λ _ _ _ _=>pm0) Dv hs I (by rw[Dw];exact h) fin
theorem vg{X:Cx}{elt tg iter:Expr}{cl:LA}{own fv:List Str}{js:List Nat}
  (hc:X.calm=Oi) (hi:PI X tg iter wi) (hclos:OS scope X.env=OF cl) (hcell:∀y∈scope.names,y.2≠.cell) (Tp:scope.kind=.function)
  (hnames:∀y∈scope.names,y.2=.local->scope.names.lookup y.1=Oh .local)
  (hcl:∀x c,cl.lookup x=Oh c->X.env.cells.lookup x=Oh c)
  (hhas:∀x,((OY scope X.env).names.lookup x=Oh .cell\/(OY scope X.env).names.lookup x=Oh .free)->∃c,cl.lookup x=Oh c)
  (Tj:js.length=fv.length) (hcap:∀(i:Nat) x j,fv[i]?=Oh x->js[i]?=Oh j->Vd X scope cl x j)
  (hg:∀(C:On) (ex:List On) (s:Oo) (H:Hp),PG (bz X (own++fv) scope cl C ex s H) tg g)
  (he:∀(C:On) (ex:List On) (s:Oo) (H:Hp),PE (bz X (own++fv) scope cl C ex s H) elt te)
  (hs:∀x,OZ iter X.env x=OF x:=by intro _;rfl) :
  PE X (.ListComp elt [⟨tg,iter,[],0⟩] scope pos) (gp wi own.length js g te):=by
 intro Te s σ H Q I h;rw[SB];refine vf (use:=Oj) (QQ:=EP X Te σ Q) hc hi hclos hcell Tp hnames hcl hhas Tj hcap hg he hs I h λ a C s5 H5 fl I5 zC zL zS zc zp ⟨m,hn⟩ q=>⟨m,hn,λ h' sc=>?_⟩;exact⟨.ref a,H5,I5.turned (t':=s5.toks) (it:=C) (λ d o nd e=>sc.extBut d o nd e) zC zL (.inr zS) zc zp,O,q⟩
section
variable {P:Ov}{w:Ow}{K:FG}{mg:SV}{base:Oz}{N:List Str}{qual:Str}{scope:Scope}{f:On}{cd:Value}{A:Oy}{outer:List Env}{s:Oo}{H:Hp}{E:XK}
end
section
variable {P:Ov}{w:Ow}{K:FG}{mg:SV}{base:Oz}
end
variable {X:Cx}
section
variable {Te:LO}{σ:St}{H:Hp}{s:Oo}
theorem Inv.track(I:Inv X Te σ H s)(hn:H a=Oj)(new:ObjOk X.prog X.w (Ti H a o) s.heap a o)(h1:a≠X.env.locals)(h2:∀x c,X.env.cells.lookup x=Oh c->c≠a)(h3:∀p∈X.pn++Te,p.1≠a)
  (h4:X.s₀.heap.get? a=Oj):Inv X Te σ (Ti H a o) s:=by
 have ne:∀b u,H b=Oh u->b≠a:=λ b u e z=>by rw[z,hn] at e;cases e
 have n0:∀b u,X.s₀.heap.get? b=Oh u->b≠a:=λ b u e z=>by rw[z,h4] at e;cases e
 refine⟨I.ok,I.os,I.bare,⟨I.base.keep,I.base.slot,λ b u e n hx=>?_,I.base.there,λ b xs e=>?_,λ b u v e=>?_,λ b ps e=>?_⟩,I.loc,I.cell,?_,λ x c e=>?_,λ p hp=>?_,λ b u e=>?_,I.len⟩
 .rw[aA (n0 b u e)];exact I.base.free b u e n hx
 .have q:=I.base.tups b xs e;rw[aA (ne b _ q)];exact q
 .have q:=I.base.frzs b u v e;rw[aA (ne b _ q)];exact q
 .obtain⟨more,q⟩:=I.base.tbls b ps e;exact⟨more,by rw[aA (ne b _ q)];exact q⟩
 .rw[aA (cy h1)];exact I.free
 .rw[aA (h2 x c e)];exact I.freeC x c e
 .obtain⟨e,n,ne,nf,d⟩:=I.pin p hp;exact⟨e,by rw[aA (h3 p hp)];exact n,ne,nf,d⟩
 .by_cases hb:b=a
  .subst hb;rw[bU] at e;cases e;exact new
  .rw[aA hb] at e;exact(I.hok b u e).stay (λ c v _ q=>q) (λ c q=>by rw[aA (ne c _ q)];exact q) λ c xs q=>by rw[aA (ne c _ q)];exact q
end
noncomputable abbrev Cx.more(X:Cx)(xe:VS)(pn:LO):Cx:={ X with xe:=xe,pn:=pn }
def Cx.Ok.more{X:Cx}(ok:X.Ok)(xe:VS)(pn:LO):(X.more xe pn).Ok :=
 ⟨ok.mod,ok.kind,ok.glob,ok.blt,ok.above,ok.inj,ok.has,ok.cab,ok.hd,ok.frames,ok.stk,ok.exf,ok.bs,ok.bsz,ok.noex,ok.exfs,ok.funs,ok.frf⟩
section
variable {CX:UE}{k:Nat}{f:On}{fd:OP}{ps:List Str}{sp:Sp}{dvs:List V}{ds:LV}{EE:St->XK}{x:Str}{p pos:Pos}{e:Expr}{es:List Expr}{t:TA}
end
structure Callee (P:Ov)(w:Ow)(K:FG)(mg:SV)(base:Oz)(CX:UE)(k:Nat)(x:Str)(ps:List Str)(sp:Sp):Prop where
 has:∃(f:On) (fd:OP),FnOk P w K mg base CX k f fd ps sp/\mg x=Oh (.ref f)/\W.keepIn K (.ref f)=Oi/\Binds K fd ps []
theorem Callee.mk'{K:FG}{mg:SV}{st:Ox}(F:Fun K x qual st f fd)(m:mg x=Oh (.ref f))(b:Binds K fd ps [])
  (ok:FnOk P w K mg base CX k f fd ps sp):Callee P w K mg base CX k x ps sp:=⟨⟨f,fd,ok,m,F.kp,b⟩⟩
def Callee.mono{K:FG}{j k:Nat}(c:Callee P w K mg base CX j x ps sp)(h:j<=k):Callee P w K mg base CX k x ps sp :=
 let ⟨f,fd,ok,m,kp,b⟩:=c.has;⟨⟨f,fd,ok.mono h,m,kp,b⟩⟩
section
variable {CX:UE}{k:Nat}{ps:List Str}{sp:Sp}{E:XK}{x:Str}{p pos:Pos}{e:Expr}{es:List Expr}{t:TA}
theorem qF(c:Callee X.prog X.w X.K X.mg X.base CX k x ps sp)(hr:Room k X.A)(hg:Gl X x)(hx:nq CX X E)(ha:PA X (e::es) t)(hdb:(x == ("__debug__" : Str))=Ol:=by decide)
  (he:OE (e::es) X.env=(Ol,eval e X.env)::OE es X.env:=by rfl) (hpl:(Pk pos (OE es X.env)).any (·.1)=Ol:=by rfl):PE X (.Call (.Name x p) (e::es) [] pos) (uz sp [] E t):=by
 obtain⟨f,fd,ok,m,kp,b⟩:=c.has;exact CD ok hr hg m kp b .nil hx ha hdb he hpl
end
noncomputable def Dx(i j:Int):Prop:=j≠0/\-18446744073709551616<j/\j<18446744073709551616
def Dy{y:Int}(h0:-18446744073709551616<y)(h1:y<18446744073709551616):y.natAbs.log2<9000:=by
 by_cases z:y.natAbs=0
 .rw[z];decide
 .exact bG ((Nat.log2_lt z).mpr (show y.natAbs<2 ^ 64 by lia)) ca
def Dz:TC X (OX .FloorDiv) (rI Dx λ i j=>.int (i.fdiv j)):=Vl λ _ _ _ _ _ _ _ hc q=>floordiv_int hc.1 q (.inl (vh (Dy hc.2.1 hc.2.2)))
section
variable {K:FG}
end
def small{n:Nat}(h:n<=1000):n<=Oq:=dN (aL h)
end _L
namespace _L
open PySem PySem.Spec PyProof.Rows PySem.W PySem.Calls
section
variable {prog:Ov}{w:Ow}{A:Oy}{E:VS}{K:FG}{h:Oz}{g:Array Qi}{d:SJ}{t:Nat}{os:OsState}{a C:On}{ox:Obj}
end
variable {X:Cx}
noncomputable def iq(t:On)(i:Int):Obj:={ cls:=.type "reversed",data:=.fields #[.ref t,OJ i] }
noncomputable def IsRv(h:Oz)(a t:On)(i:Int):Prop:=∃o,h.get? a=Oh o/\o.cls=.type "reversed" /\ o.data=.fields #[.ref t,OJ i]
def IsRv.typeIs{s:Oo}(x:IsRv s.heap a t i):s.TypeIs (.ref a) "reversed" := let ⟨o,ho,hc,_⟩:=x;⟨o,ho,hc⟩
def DA:Ps (.type "tuple") "__reversed__"=OF Oj:=by rw[eU,eV];kernel_rfl
def vj:Ps (.type "tuple") "__getitem__"=OF (Oh (.builtin "tuple.__getitem__")):=by rw[eU,eV];kernel_rfl
def DB:isSubtype (.type "tuple") (.type "dict")=OF Ol:=by rw[jf];kernel_rfl
def DC:Slot "reversed" "__init__" "object.__init__" :=
 .of (owner := "object") (n := "__init__") (by rw[eU,eV];kernel_rfl) (by decide +kernel) (by decide +kernel) (by decide +kernel) (.inl (by decide +kernel)) (by rw[jf];kernel_rfl)
def rv_next:Slot "reversed" "__next__" "reversed.__next__" :=
 .of (owner := "reversed") (n := "__next__") (by rw[eU,eV];kernel_rfl) (by decide +kernel) (by decide +kernel) (by decide +kernel) (.inl (by decide +kernel)) (by rw[jf];kernel_rfl)
def vk:Slot "reversed" "__iter__" "reversed.__iter__" :=
 .of (owner := "reversed") (n := "__iter__") (by rw[eU,eV];kernel_rfl) (by decide +kernel) (by decide +kernel) (by decide +kernel) (.inl (by decide +kernel)) (by rw[jf];kernel_rfl)
def vm:SW table "reversed.__next__"=Oh Builtin.«reversed.__next__»:=Ry (by kernel_rfl)
def DD:SW table "reversed.__iter__"=Oh Builtin.«dict_keyiterator.__iter__» :=
 entryFor_alias (id' := "dict_keyiterator.__iter__") (by kernel_rfl) (by first|rfl|decide +kernel) (by decide +kernel) (by kernel_rfl)
def vo(a:Value):QC "reversed.__next__" ⟨[a],[]⟩:=by unfold QC;kernel_rfl
def DE(a:Value):QC "reversed.__iter__" ⟨[a],[]⟩:=by unfold QC;kernel_rfl
def DF:TypeCalled "reversed" "reversed.__new__" "object.__init__" :=
 ⟨by decide +kernel,PySem.F.create_reversed,⟨_,_,PySem.F.mro_reversed⟩,PySem.F.made_reversed,PySem.F.plain_reversed_new,PySem.F.sub_reversed_self,DC⟩
theorem DG(t:On)(items:Array Value)(hz:(items.size:Int)<2 ^ 63):RG (Builtin.«reversed.__new__» ⟨[.type "reversed",.ref t],[]⟩)
  (λ _ R s=>Qp s.heap t items/\∀tk,R (.ok (.ret (.ref s.heap.objs.size))) { s with heap:=s.heap.push (iq t ((items.size:Int)-1)),toks:=tk }) :=
 .of_wp λ prog w A R s h=>by
  obtain⟨ht,h⟩:=h;have hT:s.TypeIs (.ref t) "tuple" := ht.typeIs;unfold Builtin.«reversed.__new__»;refine ae (eW (PySem.newClass_reversed _) ?_);try dsimp only
  refine ae (eW (a:=()) (by first|rfl|kernel_rfl) ?_);refine ae (eW (a:=()) (by first|rfl|kernel_rfl) ?_);try dsimp only
  refine ae (iu hT DA ?_);try dsimp only
  refine ae ?_
  k_delta "hasItemSlot"
  refine ae (lK (T := "tuple") (b:=Ol) hT DB ?_);rw[XR bN];refine ae (iu hT vj ?_);dsimp only;rw[XT (by decide +kernel)];refine au ?_;rw[XR ca];refine ae (s0w ht hz ?_);refine ae (eW (a:=Oh (items.size:Int)) rfl ?_);dsimp only;refine ae ?_;unfold RV;refine dg (au ⟨_,O,h _⟩)
section
variable {prog:Ov}{w:Ow}{A:Oy}{E:VS}{s:Oo}
theorem vp{Q:VS}(ht:Qp s.heap t items)(hz:(items.size:Int)<2 ^ 63)
  (h:∀tk,Q (.ref s.heap.objs.size) { s with heap:=s.heap.push (iq t ((items.size:Int)-1)),toks:=tk }):Op (Ou prog w) A (call (.type "reversed") [.ref t]) Q E s :=
 callType_new DF ca (PySem.F.typeCall_reversed_1 _) (PySem.F.newCall_reversed_1 _) (λ obj=>nI obj _) PySem.F.entry_reversed_new (DG t items hz)
  ⟨ht,λ tk=>⟨⟨_,bn _ rfl,rfl⟩,h tk⟩⟩
theorem vq{i:Nat}{Q:Option Value->Oo->Prop}(hit:IsRv s.heap it t (i:Int))(ht:Qp s.heap t items)(hx:items[i]?=Oh x)(hz:(items.size:Int)<2 ^ 63)
  (hQ:∀h' tk,IsRv h' it t ((i:Int)-1)->Heap.SameBut it s.heap h'->Q (Oh x) { s with heap:=h',toks:=tk }):Op (Ou prog w) A (Pn (.ref it)) Q E s:=by
 obtain⟨o,ho,hc,hd⟩:=id hit;have hT:s.TypeIs (.ref t) "tuple" := ht.typeIs;have hi:i<items.size:=(vt.mp hx).1;unfold Pn;refine ae (lL (ja (name:=OI "__next__") hit.typeIs rv_next (fJ rv_next hit.typeIs vm ?_ (vo _))));unfold Builtin.«reversed.__next__»;refine ae (eW (a:=(OL it,[])) rfl ?_);try dsimp only
 refine ae (dD ho hd (x:=.ref t) rfl ?_);refine ae (dD ho hd (x:=OJ (i:Int)) rfl ?_);show Op _ _ (if (i:Int)<0 then _ else _) _ _ s;rw[XR Z];refine ae (iu hT vj ?_);rw[XR ca];refine ae (wpAny_mkInt ?_);refine ae (lL (SC (k:=(i:Int)) (j:=i) ht Z Z (by simp[QG];lia) hx ?_));dsimp only;refine ae (dD ho hd (x:=OJ (i:Int)) rfl ?_);show Op _ _ (setField (.ref it) 1 (OJ ((i:Int)-1)) >>= _) _ _ _;refine ae (lM ho hd on ?_);refine au ⟨x,O,au (hQ _ _ ?_ (qG ..))⟩;exact⟨_,ik _ ho (qH (jU hd _)),(Rg ..).trans hc,by rw[jU hd];simp⟩
def vv{Q:Option Value->Oo->Prop}(hh:A.handled=Oj)(hit:IsRv s.heap it t (-1))(hQ:∀h' tk,Heap.ExtBut it s.heap h'->Q Oj { s with heap:=h',toks:=tk }):Op (Ou prog w) A (Pn (.ref it)) Q E s:=by
 obtain⟨o,ho,hc,hd⟩:=id hit;unfold Pn;refine ae (lL (ja (name:=OI "__next__") hit.typeIs rv_next (fJ rv_next hit.typeIs vm ?_ (vo _))));unfold Builtin.«reversed.__next__»;refine ae (eW (a:=(OL it,[])) rfl ?_);try dsimp only
 refine ae (dD ho hd (x:=.ref t) rfl ?_);refine ae (dD ho hd (x:=OJ (-1)) rfl ?_);show Op _ _ (if (-1:Int)<0 then _ else _) _ _ s;rw[XT ca];refine ae (lN ?_);refine ae ?_
 k_delta "reversedEnd"
 refine ae (lM ho hd on ?_);refine lM (ik _ ho (qH (jU hd _))) (jU hd _) on ?_;refine ae ?_
 have other:∀b u,b≠it->s.heap.get? b=Oh u->((s.heap.update it (Qv λ x=>x.setIfInBounds 1 (OJ (-1)))).update it (Qv λ x=>x.setIfInBounds 0 OW)).get? b=Oh u:=λ b u nb e=>by
  rw[eQ _ _ (cy nb),eQ _ _ (cy nb)];exact e
 generalize ((s.heap.update it (Qv λ x=>x.setIfInBounds 1 (OJ (-1)))).update it (Qv λ x=>x.setIfInBounds 0 OW))=hU at *;show Op _ _ (SX (.type "StopIteration") [] >>= _) _ _ _;refine ae ?_;simp only[SX,SY];refine ae (dg ?_ (by size_fits));refine ae (m:=Ql _ _) (eW (a:=OW) (by first|rfl|(simp only[Ql];rfl)) ?_);refine dg ?_ (by size_fits);simp only[raiseNew];refine ae (SH ?_);rw[show A.in1.handled=Oj from hh];refine ae (au (wpAny_throw ?_));refine ae (lK (T := "StopIteration") (b:=Oi) ⟨_,bn _ rfl,O⟩ Sb ?_);exact au (hQ _ _ λ b u nb e=>aO _ (aO _ (other b u nb e)))
def qI{Q:VS}(hit:IsRv s.heap it t i)(h:Q (.ref it) s):Op (Ou prog w) A (RP (.ref it)) Q E s:=by
 refine wpAny_pyIter_slot hit.typeIs vk (fJ vk hit.typeIs DD ?_ (DE _));show Op _ _ (ret (.ref it)) _ _ s;exact au ⟨_,O,"reversed",_,hit.typeIs,rv_next.lookup,h⟩
end
noncomputable def nJ(K:FG)(a:On)(n:Nat):It:=⟨λ i H=>∃xs,SqT K H a xs/\xs.length=n/\i<n,λ i H x H'=>H'=H/\∀xs,SqT K H a xs->xs[n-1-i]?=Oh x,λ i H=>∃xs,SqT K H a xs/\xs.length=n/\i=n⟩
def nK:(Oq:Int)<2 ^ 63:=by rw[jO];decide
theorem DH{K:FG}(a it:On)(n:Nat):Uz P w K tg (nJ K a n) [it] it (λ i h=>IsRv h it a ((n:Int)-1-(i:Int))) where
 mem:=on
 obj:=λ i h x b hb=>by
  have e:b=it:=by simpa using hb
  subst e;obtain⟨o,ho,_,hd⟩:=x;exact⟨o,ho,λ v q=>by rw[hd] at q;cases q⟩
 keep:=λ i h h' x k=>let ⟨o,ho,r⟩:=x;⟨o,k it on o ho,r⟩
 item:=by
  intro X hP hw hK hc i Te s σ H E I hf st hg;subst hP hw hK;obtain⟨xs,hq,hn,hi⟩:=hg;obtain⟨its,rv,p,hz⟩:=I.tuple hq;have hx:xs[n-1-i]?=Oh (xs[n-1-i]' Z):=bc Z;obtain⟨u,hu,ru⟩:=rv.get hx;obtain⟨f0,f1,f2,f3,f4,f5⟩:=hf it on;have e:(n:Int)-1-(i:Int)=((n-1-i:Nat):Int):=Z;rw[e] at st;have hl:=rv.length;have z63:=nK;refine vq st p (x:=u) (by simpa using hu) (by simp;lia) λ h' tk st' sb=>?_;have I1:Inv X Te σ H { s with heap:=h',toks:=tk }:=I.turned (t':=tk) (λ b o hb e=>(sb.2 b hb).trans e) f0 f1 f3 f4 f5;obtain⟨o,e,c,d⟩:=id st';have e2:((n-1-i:Nat):Int)-1=(n:Int)-1-((i+1:Nat):Int):=Z;rw[e2] at st';exact⟨u,O,kZ (s:={ s with heap:=h',toks:=tk }) e c d ca ⟨_,H,I1,ru,⟨O,λ ys hy=>by rw[I.tuple_inj hy hq];exact hx⟩,st',λ b hb=>(hf b hb).1⟩⟩
 done:=by
  intro X hP hw hK hc i Te s σ H E I hf st hg;subst hP hw hK;obtain⟨xs,hq,hn,hi⟩:=hg;obtain⟨f0,f1,f2,f3,f4,f5⟩:=hf it on;have e:(n:Int)-1-(i:Int)=-1:=Z;rw[e] at st;exact vv (I.ok.hd hc) st λ h' tk eb=>⟨O,I.turned (t':=tk) (λ b o hb e=>eb b o hb e) f0 f1 f3 f4 f5⟩
 self:=λ _ _ _ _ _ st h=>qI st h
section
variable {tg:Expr}
noncomputable def DI(K:FG)(te:TE):TI:=λ σ H R=>te σ H λ x H1=>∃a xs,x=.ref a/\SqT K H1 a xs/\R (nJ K a xs.length) H1
theorem DJ{p pos:Pos}(hg:Gl X "reversed")(hm:X.mg "reversed"=Oj)(he:PE X e te)(hs:OE [e] X.env=[(Ol,eval e X.env)]:=by rfl) :
  PI X tg (.Call (.Name "reversed" p) [e] [] pos) (DI X.K te):=by
 intro Te s σ H R I h;have hA:=(da he (pa_nil (X:=X)) hs) pos Te s σ H (λ vs H1=>match vs with|[x]=>∃a xs,x=.ref a/\SqT X.K H1 a xs/\R (nJ X.K a xs.length) H1|_=>False) I h;refine QD (dZ I hg hm s0y (gh (To hA λ us s1 ⟨vs,H1,I1,r1,q1⟩=>?_) hs rfl))
 match vs,q1 with
 |[x],⟨a,xs,e,hq,q⟩=>
  subst e;obtain⟨u,rfl,ru⟩:=cB r1;cases (show u=OL a from ru);obtain⟨its,rv,p,hz⟩:=I1.tuple hq;have hl:=rv.length;have z63:=nK;refine vp p (by simp;omega) λ tk=>?_;have I2:Inv X Te σ H1 { s1 with heap:=s1.heap.push (iq a ((its.toArray.size:Int)-1)),toks:=tk }:=I1.kept (t':=tk) λ b o e=>aO _ e
  have ir:IsRv (s1.heap.push (iq a ((its.toArray.size:Int)-1))) s1.heap.objs.size a ((xs.length:Int)-1-((0:Nat):Int)):=by
   refine⟨_,bn _ rfl,O,?_⟩;show Data.fields #[.ref a,OJ ((its.toArray.size:Int)-1)]=_;have e:((its.toArray.size:Nat):Int)-1=(xs.length:Int)-1-((0:Nat):Int):=by simp;omega
   rw[e]
  refine qI ir ⟨s1.heap.objs.size,[s1.heap.objs.size],_,_,H1,O,I2,DH a _ xs.length,ir,λ b hb=>?_,q⟩;have e:b=s1.heap.objs.size:=by simpa using hb
  subst e;exact I1.fpOk (ao _) (I1.hok.fresh (ao _))
end
def DK:Ps (.type "list_reverseiterator") "__len__"=OF Oj:=by rw[eU,eV];kernel_rfl
def DM:Ps (.type "list_reverseiterator") "__length_hint__"=OF (Oh (.builtin "list_reverseiterator.__length_hint__")):=by rw[eU,eV];kernel_rfl
section
variable {pg:Ov}{wd:Ow}{B:Oy}{X0:VS}{s0:Oo}{J:On}{fs ws:List On}{Gg:Array Qi->Array Qi->Prop}{m:Nat}{Pr:Nat->Value->Prop}{Sx:Nat->Oo->Prop}
theorem DN{R:LV->Oo->Prop}(wk:QZ pg wd B.in1 J fs ws Gg m Pr Sx)(ty:∀j z,Sx j z->z.TypeIs (.ref J) "list_reverseiterator")(z0:Sx 0 s0)(lt:∀b∈fs,b<s0.heap.objs.size)(mJ:J∈fs)(sm:m<=Oq)
  (fin:∀z' ac,RH ws Gg s0 z'->QL Pr ac m->R ac.toList z'):Op (Ou pg wd) B (Sa (.ref J)) R X0 s0:=by
 have out:s0.heap.objs.size ∉ fs:=λ q=>XU (lt _ q) (dM _);have neJ:s0.heap.objs.size≠J:=by rintro rfl;exact out mJ
 let nu:Obj:={ cls:=.type "list",data:=.seq ([]:LV).toArray }
 unfold Sa;refine ae (Sh (gK vx ?_));rw[gM vy _];show Op _ B.in1 (QM [] >>= λ q=>RL (.builtin "list.__iadd__" ⟨[q,.ref J],[]⟩)) _ _ s0;refine ae (dg ?_);refine au ⟨fN nL _,gK F.entry_list_iadd ?_⟩;rw[gM nL _];have z1:=wk.frame 0 s0 (s0.heap.push nu) s0.toks z0 (ao _) λ b _ o e=>aO _ e;have at1:(s0.heap.push nu).get? s0.heap.objs.size=Oh nu:=bn _ rfl;have dif:Pi (.ref s0.heap.objs.size) (.ref J)=Ol:=by simp[Pi,neJ]
 show Op _ B.in1 (OU (.ref s0.heap.objs.size) (.ref J) (.ref s0.heap.objs.size)) _ _ _;unfold OU;refine ae (ig (ty 0 _ z1) ?_);rw[XR (by rw[dif];decide)];refine ae (wk.self 0 _ _ _ z1 ?_);refine ae (eK ?_);unfold Qq;refine ae (iu (ty 0 _ z1) DK ?_);show Op _ B.in1 (specialOf (OL J) (OI "__length_hint__") >>= _) _ _ _;refine ae (iu (ty 0 _ z1) DM ?_)
 (generalize hid:("list_reverseiterator.__length_hint__" : String)=id0;wp_delta;rw[show splitId id0=Oh ("list_reverseiterator","__length_hint__") from by subst hid;decide +kernel];subst hid)
 refine ae (lK (b:=Oi) (ty 0 _ z1) (by rw[jf];kernel_rfl) ?_);refine au ?_;rw[XR ca];refine au ⟨fN qJ _,qK wk sm _ out _ m 0 _ _ _ rfl (bP _) z1 at1 (s1p Pr) λ z' ac cc mv at2 its=>?_⟩;show Op _ B (load s0.heap.objs.size >>= _) _ _ z';exact ae (s1g at2 (au (fin z' ac (s0g (o:=nu) (tk:=s0.toks) mv (ao _)) its)))
theorem DO{R:VS}(wk:QZ pg wd B.in1.in1 J fs ws Gg m Pr Sx)(ty:∀j z,Sx j z->z.TypeIs (.ref J) "list_reverseiterator")(z0:Sx 0 s0)(lt:∀b∈fs,b<s0.heap.objs.size)(mJ:J∈fs)(sm:m<=Oq)
  (fin:∀z' ac,RH ws Gg s0 z'->QL Pr ac m->R (.ref z'.heap.objs.size) { z' with heap:=z'.heap.push { cls:=.type "tuple",data:=.seq ac } }) :
  Pt (Ou pg wd) B (.call (.builtin "tuple.__new__") ⟨[.type "tuple",.ref J],[]⟩) (wants R X0) s0:=by
 refine RN ?_;show Op _ B.in1 (do Rw "tuple.__new__" ⟨[.type "tuple",.ref J],[]⟩;RL (.builtin "tuple.__new__" ⟨[.type "tuple",.ref J],[]⟩)) _ _ s0;refine ae (eW (F.newCall_tuple_1 _) (au ⟨fN nM _,gK F.entry_tuple_new ?_⟩));rw[gM nM _];have q1:=Sg;have q2:=Ri;have q3:=Sc;have q4:=ty 0 s0 z0;wp_walk using ig q4,DN (sm:=sm) wk ty z0 lt mJ;intro z' ac mv its;show Op _ _ (OO ac.toList.toArray >>= λ q=>ret q) _ _ _;have e:ac.toList.toArray=ac:=on;rw[e];unfold OO;exact ae (dg (au (fin z' ac mv its)) (by show ac.size<=Oq;rw[its.1];exact sm))
theorem DP{R:VS}(wk:QZ pg wd B.in1.in1.in1 J fs ws Gg m Pr Sx)(ty:∀j z,Sx j z->z.TypeIs (.ref J) "list_reverseiterator")(z0:Sx 0 s0)(lt:∀b∈fs,b<s0.heap.objs.size)(mJ:J∈fs)(sm:m<=Oq)
  (fin:∀z' ac,RH ws Gg s0 z'->QL Pr ac m->R (.ref z'.heap.objs.size) { z' with heap:=z'.heap.push { cls:=.type "tuple",data:=.seq ac } }) :
  Op (Ou pg wd) B (call (.type "tuple") [.ref J]) R X0 s0 :=
 RY (Q₁:=λ ob z=>z.TypeIs ob "tuple" /\ R ob z) F.called_tuple (s0z _) s0m
  (DO (sm:=sm) wk ty z0 lt mJ λ z' ac mv its=>⟨⟨_,bn _ rfl,rfl⟩,fin z' ac mv its⟩)
  λ ob z q=>⟨q.1,nI ob _,Rj F.called_tuple.init.lookup F.called_tuple.made ca pg wd B.in1 _ z ⟨q.1,rfl,q.2⟩⟩
end
noncomputable def DQ(K:FG)(te:TE):TE:=λ σ H Q=>te σ H λ x H1=>∃a xs,x=.ref a/\SqL K H1 a xs/\∀p,H1 p=Oj->Q (.ref p) (Ti H1 p (.tup xs.reverse))
theorem DS{p1 p2 pos pos':Pos}(hc:X.calm=Oi)(ht:Gl X "tuple")(hr:Gl X "reversed")(mt:X.mg "tuple"=Oj)(mr:X.mg "reversed"=Oj)(he:PE X e te)(hs:OE [e] X.env=[(Ol,eval e X.env)]:=by rfl) :
  PE X (.Call (.Name "tuple" p1) [.Call (.Name "reversed" p2) [e] [] pos'] [] pos) (DQ X.K te):=by
 intro Te s σ H Q I h;refine QD (dZ I ht mt boot_tuple (gh ?_ rfl rfl));refine qk ?_;have hA:=(da he (pa_nil (X:=X)) hs) pos' Te s σ H (λ vs H1=>match vs with|[x]=>∃a xs,x=.ref a/\SqL X.K H1 a xs/\∀p,H1 p=Oj->Q (.ref p) (Ti H1 p (.tup xs.reverse))|_=>False) I h;refine QD (dZ I hr mr s0y (gh (To hA λ us s1 ⟨vs,H1,I1,r1,q1⟩=>?_) hs rfl))
 match vs,q1 with
 |[x],⟨a,xs,e,hq,q⟩=>
  subst e;obtain⟨u,rfl,ru⟩:=cB r1;cases (show u=OL a from ru);obtain⟨its,rv,pl,hz⟩:=I1.list hq;have hl:=rv.length;refine call_reversed_list pl.isList ?_;refine qj ?_;have I2:Inv X Te σ H1 { s1 with heap:=s1.heap.push (SZ a ((its.toArray.size:Int)-1)) }:=I1.kept (t':=s1.toks) λ b o e=>aO _ e;have al:a<s1.heap.objs.size:=by obtain⟨o,ho,_⟩:=pl.isList;exact aM ho
  have hne:a≠s1.heap.objs.size:=be al
  have ir:(s1.heap.push (SZ a ((its.toArray.size:Int)-1))).IsRevIter s1.heap.objs.size a ((its.toArray.size:Int)-1-((0:Nat):Int)):=by
   refine⟨_,bn _ rfl,O,?_⟩;have e:(its.toArray.size:Int)-1-((0:Nat):Int)=(its.toArray.size:Int)-1:=Z;rw[e];rfl
  have sz:(s1.heap.push (SZ a ((its.toArray.size:Int)-1))).objs.size=s1.heap.objs.size+1:=by simp[Heap.push]
  have ff:=I1.fpOk (ao s1.heap.objs.size) (I1.hok.fresh (ao _))
  refine DP (Walks.listRev (A:=X.A.in1.in1.in1) (I.ok.hd hc) s1.heap.objs.size a hne its.toArray).toS (λ j z q=>let ⟨o,ho,hk,_⟩:=q.2.1;⟨o,ho,hk⟩)
   ⟨bP _,ir,pl.isList.at λ o e=>aO _ e⟩ (λ b hb=>?_) (bg ..) (by simp only[aZ];lia) λ z' ac mv io=>?_
  .show b<(s1.heap.push (SZ a ((its.toArray.size:Int)-1))).objs.size;rw[sz];simp only[aB,bf,bd] at hb
   rcases hb with rfl|rfl
   .exact jd _
   .exact eh al
  have I3:Inv X Te σ H1 z':=by
   obtain⟨zh,zg,zd,zt,zo⟩:=z';have e1:zg=s1.gens:=mv.gens;have e2:zd=s1.drawn:=mv.drawn;have e3:zo=s1.os:=mv.os;subst e1 e2 e3;obtain⟨f0,f1,f2,f3,f4,f5⟩:=ff;exact I1.turned (t':=zt) (λ b o hb e=>mv.heap b o (by simpa using hb) (aO _ e)) f0 f1 f3 f4 f5
  have er:ac=its.reverse.toArray:=by
   have sz2:ac.size=its.length:=by simpa using io.1
   apply Tc
   .simp[sz2]
   .intro j h1 h2;have q:=io.2 j _ (qL h1);simp only[aZ,nN] at q;have q2:its.reverse[j]?=Oh ac[j]:=by rw[lO Z];exact q
    rw[s0a];exact(bv ((bc (by simpa using h2)).symm.trans q2)).symm
  subst er
  have I4:Inv X Te σ (Ti H1 z'.heap.objs.size (.tup xs.reverse)) { z' with heap:=z'.heap.push { cls:=.type "tuple",data:=.seq its.reverse.toArray } } :=
   I3.laid (t':=z'.toks) (λ b o e=>aO _ e) (ao _) (show ObjOk X.prog X.w _ _ _ (.tup xs.reverse) from ⟨by simpa using hz,its.reverse,rv.reverse,TupO.new _ _⟩)
  exact⟨.ref z'.heap.objs.size,_,I4,O,q _ (I3.hok.fresh (ao _))⟩
noncomputable def DT(K:FG):R2:=λ x y H Q=>∃a b xs ys,x=.ref a/\y=.ref b/\SqT K H a xs/\SqT K H b ys/\xs.length+ys.length<=Oq /\
 (xs=[]->Q (.ref b) H)/\(xs≠[]->ys=[]->Q (.ref a) H)/\(xs≠[]->ys≠[]->∀p,H p=Oj->Q (.ref p) (Ti H p (.tup (xs++ys))))
def DU:TC X (OX .Add) (DT X.K):=by
 intro Te s σ H x y v u Q I rx ry h;obtain⟨a,b,xs,ys,rfl,rfl,ha,hb,hz,q0,q1,q2⟩:=h;by_cases hx:xs=[]
 .cases rx;cases ry;obtain⟨its,r1,p1,_⟩:=I.tuple ha;obtain⟨its2,r2,p2,_⟩:=I.tuple hb;have e1:its=[]:=r1.nil_iff.mpr hx;obtain⟨⟨c1,d1,z1,l1⟩,g1,hc1,n1,hd1⟩:=id p1;obtain⟨⟨c2,d2,z2,l2⟩,g2,hc2,n2,hd2⟩:=id p2;simp only at hc1 hd1 hc2 hd2;subst hc1 hd1 hc2 hd2
  exact nz ⟨_,g1,O⟩ ⟨_,g2,O⟩ qr s0u qt qu (qv _ _)
   (tuple_addW0 a b its.toArray its2.toArray n1 n2 d1 d2 l1 l2 (by simp[e1])) ⟨g1,g2,.ref b,H,I,rfl,q0 hx⟩
 .exact CT Te s σ H _ _ v u Q I rx ry ⟨a,b,xs,ys,O,O,ha,hb,hx,hz,q1 hx,q2 hx⟩
section
variable {pg:Ov}{wd:Ow}{B:Oy}{X0:VS}{s0:Oo}
theorem DV{R:VS}(p:s0.heap.IsTupleIter j t k)(q:s0.heap.IsTuple t its)(e:its[k]?=Oh x)
  (f:∀h',h'.IsTupleIter j t (k+1)->Heap.SameBut j s0.heap h'->R x { s0 with heap:=h' }):Op (Ou pg wd) B (Pp (.ref j)) R X0 s0:=by
 obtain⟨o,g,c,d⟩:=id p;obtain⟨ot,gt,_,nt,dt⟩:=q;unfold Pp;refine ae (ja (name:=OI "__next__") p.typeIs nO (fJ nO p.typeIs vz ?_ (vA _)));show Op _ _ (Rc (.ref j) 0 >>= _) _ _ s0;refine ae (dD g d (x:=.ref t) rfl ?_);show Op _ _ (if (OL t == OW)=Oi then _ else _) _ _ s0;rw[XR (show ¬((OL t == OW)=Oi) from bN)];show Op _ _ (Rc (.ref j) 1 >>= _) _ _ s0;refine ae (dD g d (x:=.int k 0) rfl ?_);show Op _ _ (PL (.ref t) >>= _) _ _ s0;refine ae (jg gt dt ?_);simp only[Ot,e];refine ae (lM g d on (au ⟨x,O,au (f _ ?_ (qG ..))⟩));exact⟨_,ik _ g (qH (jU d _)),(Rg ..).trans c,by rw[jU d];simp[OJ]⟩
theorem vB(hh:B.handled=Oj)(p:s0.heap.IsTupleIter j t k)(q:s0.heap.IsTuple t its)(e:its[k]?=Oj)
  (f:∀h' z,Heap.ExtBut j s0.heap h'->(∃o,h'.get? z=Oh o/\o.cls=.type "StopIteration")->X0 (.ref z) { s0 with heap:=h' }):Op (Ou pg wd) B (Pp (.ref j)) R X0 s0:=by
 obtain⟨o,g,c,d⟩:=id p;obtain⟨ot,gt,_,nt,dt⟩:=q;unfold Pp;refine ae (ja (name:=OI "__next__") p.typeIs nO (fJ nO p.typeIs vz ?_ (vA _)));show Op _ _ (Rc (.ref j) 0 >>= _) _ _ s0;refine ae (dD g d (x:=.ref t) rfl ?_);show Op _ _ (if (OL t == OW)=Oi then _ else _) _ _ s0;rw[XR (show ¬((OL t == OW)=Oi) from bN)];show Op _ _ (Rc (.ref j) 1 >>= _) _ _ s0;refine ae (dD g d (x:=.int k 0) rfl ?_);show Op _ _ (PL (.ref t) >>= _) _ _ s0;refine ae (jg gt dt ?_);simp only[Ot,e];refine ae (lN (ae (lM g d on ?_)));show Op _ _ (SX (.type "StopIteration") [] >>= _) _ _ _;refine ae ?_;simp only[SX,SY];refine ae (dg ?_ (by size_fits));refine ae (m:=Ql _ _) (eW (a:=OW) (by first|rfl|(simp only[Ql];rfl)) ?_);refine dg ?_ (by size_fits);simp only[raiseNew];refine ae (SH ?_);first|rw[show B.in1.handled=Oj from hh]|rw[hh]
 refine ae (au (wpAny_throw ?_));exact f _ _ (((qG ..).extBut.push _).push _) ⟨_,bn _ rfl,O⟩
def qM{h h':Oz}(p:h.IsTupleIter j t k)(f:∀o,h.get? j=Oh o->h'.get? j=Oh o):h'.IsTupleIter j t k:=let ⟨o,g,r⟩:=p;⟨o,f o g,r⟩
def nP{h h':Oz}(p:h.IsTuple t its)(f:∀o,h.get? t=Oh o->h'.get? t=Oh o):h'.IsTuple t its:=let ⟨o,g,r⟩:=p;⟨o,f o g,r⟩
end
def Inv.turnedL{h':Oz}{t':Nat}{fl:List On}(I:Inv X Te σ H s)(kk:∀b o,b ∉ fl->s.heap.get? b=Oh o->h'.get? b=Oh o)(fo:∀b∈fl,hZ X Te H b):Inv X Te σ H { s with heap:=h',toks:=t' }:=by
 have out:∀b u,H b=Oh u->b ∉ fl:=λ b u e z=>by rw[(fo b z).1] at e;cases e
 refine I.step (g':=s.gens) (d':=s.drawn) (ch:=fl) (λ b hb=>?_) (λ b o _ _ hc e _=>kk b o hc e) (λ b o _ _ hc e _=>⟨o.slots,kk b o hc e⟩) (λ _ _ _ _ q=>q)
  (λ b o hc e=>⟨o,kk b o hc e⟩) (λ _ _ e=>e) (λ _ _ _ e=>e) (λ b ps e=>⟨#[],by rw[e];simp⟩) (λ m hm=>?_) (λ b u e=>?_) I.bare
 .obtain⟨_,f1,_,f3,f4,f5⟩:=fo b hb;exact⟨f3,f1,f4,f5⟩
 .obtain⟨o,es,ep,ho,r⟩:=hm;exact⟨o,es,ep,kk _ o (λ z=>(fo _ z).2.1 rfl) ho,r⟩
 .refine(I.hok b u e).stay (λ c v hc q=>kk c v ?_ q) (λ _ q=>q) λ _ _ q=>q
  rcases hc with z|z
  .rw[z];exact out b u e
  .exact out c _ z
section
variable {es:List Expr}{x1:Nat}{pp:Pos}
end
def DW(hc:X.calm=Oi):bZ X (.builtin "sum") (λ xs H Q=>∃(a:On) (ns:LI),xs=[.ref a]/\SqL X.K H a (ns.map V.int)/\Q (.int ns.sum) H):=by
 intro Te s σ H xs us Q I r h;obtain⟨a,ns,rfl,hq,q⟩:=h;obtain⟨u,rfl,ru⟩:=cB r;cases (show u=OL a from ru);obtain⟨its,rv,pl,hz⟩:=I.list hq;have hi:=lB rv;have hn:=hi.numsOf;obtain⟨ps,e⟩:=hi.allInts.items;have hl:s.heap.IsList a (intItems ps):=e ▸ pl.isList;refine sum_intListG (I.ok.hd hc) hl λ h' tk t' kk=>?_
 have e2:preSum (numAt ps) ps.size=ns.sum:=by
  rw[preSum_eq,cq on,<- s1a,<- e];exact bw List.sum hn
 rw[e2];exact⟨.int ns.sum,H,I.kept kk,⟨t',O⟩,q⟩
noncomputable def WD(lo st:Int)(n:Nat):It:=⟨λ i _=>i<n,λ i H x H'=>H'=H/\x=.int (lo+i*st),λ i _=>n<=i⟩
theorem DX{K:QB}(it:On)(lo st:Int)(n:Nat):Uz P w K tg (WD lo st n) [it] it (λ i h=>QI h it (lo+(i:Nat)*st) ((n:Int)-(i:Nat)) st) where
 mem:=on
 obj:=λ i h q b hb=>by
  have e:b=it:=by simpa using hb
  subst e
  exact⟨_,q,λ v z=>by
   have z':Data.fields _=Data.cell v:=z
   cases z'⟩
 keep:=λ i h h' q k=>k it on _ q
 item:=by
  intro X hP hw hK hc i Te s σ H E I hf q hg;subst hP hw hK;obtain⟨f0,f1,f2,f3,f4,f5⟩:=hf it on;have W:=Walks.range (prog:=X.prog) (w:=X.w) (I.ok.hd hc) it lo st n;refine W.item i s _ _ hg q λ v h' tk hv q' kk=>?_;obtain⟨t,rfl⟩:=hv;have I1:Inv X Te σ H { s with heap:=h',toks:=tk }:=I.turned (λ b o hb e=>kk b o (by simpa using hb) e) f0 f1 f3 f4 f5;exact⟨_,O,kZ (s:={ s with heap:=h',toks:=tk }) (n := "range_iterator") q' rfl rfl ca ⟨.int (lo+i*st),H,I1,⟨t,O⟩,⟨O,O⟩,q',λ b hb=>(hf b hb).1⟩⟩
 done:=by
  intro X hP hw hK hc i Te s σ H E I hf q hg;subst hP hw hK;obtain⟨f0,f1,f2,f3,f4,f5⟩:=hf it on;exact uk (I.ok.hd hc) q (by have:n<=i:=hg;lia) λ h' eb=>⟨O,I.turned (t':=s.toks) (λ b o hb e=>eb b o hb e) f0 f1 f3 f4 f5⟩
 self:=λ _ _ _ _ _ q h=>um q h
noncomputable def DY(ta:TA):TI:=λ σ H R=>ta σ H λ vs H1=>∃i j c:Int,vs=[.int i,.int j,.int c]/\(c≠0/\c.natAbs<1073741824/\Pj i j c=Oi)/\R (WD i c (OG i j c).toNat) H1
def DZ(i j c:Int)(hc:c≠0):0<=OG i j c:=by
 unfold OG;split
 .split
  .have:=RC (show 0<=j-i-1 by lia) (show 0<=c by lia);lia
  .lia
 .split
  .have:=RC (show 0<=i-j-1 by lia) (show 0<=-c by lia);lia
  .lia
theorem Ea{tg a b c:Expr}{p pos:Pos}(hg:Gl X "range")(hm:X.mg "range"=Oj)(ha:PA X [a,b,c] ta)(hs:OE [a,b,c] X.env=[(Ol,eval a X.env),(Ol,eval b X.env),(Ol,eval c X.env)]:=by rfl)
  (hs2:OE [b,c] X.env=[(Ol,eval b X.env),(Ol,eval c X.env)]:=by rfl):PI X tg (.Call (.Name "range" p) [a,b,c] [] pos) (DY ta):=by
 intro Te s σ H R I h;refine QD (dZ I hg hm boot_range (gh (To (ha pos Te s σ H _ I h) λ us s1 ⟨vs,H1,I1,r1,q1⟩=>?_) (by rw[hs,hs2]) (by rw[hs2];rfl)));obtain⟨i,j,k,e,⟨c0,c1,c2⟩,q⟩:=q1;subst e
 cases r1 with
 |cons r rr=>
  cases rr with
  |cons r' rr=>
   cases rr with
   |cons r'' rr=>
    cases rr;obtain⟨t,rfl⟩:=r;obtain⟨t',rfl⟩:=r';obtain⟨t'',rfl⟩:=r'';refine call_range_3 c0 ?_ (.inl (PyProof.noPylong_small c1));refine s0r (IsRange.new ..) c2 ?_;have I2:Inv X Te σ H1 { s1 with heap:=s1.heap.push { cls:=.type "range",data:=.fields #[.int i t,.int j t',.int k t''] },toks:=s1.toks }:=I1.kept λ b o e=>aO _ e;generalize s1.heap.push { cls:=.type "range",data:=.fields #[.int i t,.int j t',.int k t''] }=hr at I2 ⊢;refine⟨hr.objs.size,[hr.objs.size],_,_,H1,O,I2.kept (t':=s1.toks) λ b o e=>aO _ e,DX _ i k (OG i j k).toNat,?_,λ b hb=>?_,q⟩
    .have e1:i+((0:Nat):Int)*k=i:=by simp
     have e2:(((OG i j k).toNat:Nat):Int)-((0:Nat):Int)=OG i j k:=by have:=DZ i j k c0;lia
     show QI _ _ (i+((0:Nat):Int)*k) ((((OG i j k).toNat:Nat):Int)-((0:Nat):Int)) k;rw[e1,e2];exact bn _ rfl
    .have e:b=hr.objs.size:=by simpa using hb
     subst e;exact I2.fpOk (ao _) (I2.hok.fresh (ao _))
open AutoSeq1 (wpAny_loadPart')
def Eb:fillsNumberSlot (.type "tuple") "mul"=OF Ol :=
 PySem.fillsNumberSlot_seq (id := "tuple.__mul__") (r:=Oh (.builtin "tuple.__rmul__")) F.slot_tuple_mul.lookup (by decide +kernel) (by rw[eU,eV];kernel_rfl) (by decide +kernel)
def Ec:seqRepeat? (.type "tuple")=OF (Oh (.builtin "tuple.__mul__")):=by
 have e1:Ps (.type "tuple") "__rmul__"=OF (Oh (.builtin "tuple.__rmul__")):=by rw[eU,eV];kernel_rfl
 unfold seqRepeat?;rw[Ru (T := "tuple") (name := "__mul__") (id := "tuple.__mul__") F.slot_tuple_mul.lookup (by decide +kernel),Ru (T := "tuple") (name := "__rmul__") (id := "tuple.__rmul__") e1 (by decide +kernel)];rfl
theorem Ed(k:Int)(t:Tok)(l:On)(its:Array Value)(n:Nat)(dd:OA)(sl:AV) :
  RG (Builtin.«int.__rmul__» ⟨[.int k t,.ref l],[]⟩) (λ _ R s=>s.heap.get? l=Oh { cls:=.type "tuple",dict:=dd,data:=.seq its n,slots:=sl }/\R (.ok (.ret Value.notImplemented)) s) :=
 .of_wp λ prog w A R s h=>by obtain⟨hp,g,d,tk,os⟩:=s;obtain⟨hl,h⟩:=h;wp_walk;exact⟨_,rfl,h⟩
theorem Ee(l:On)(its:Array Value)(n:Nat)(u:Tok)(dd:OA)(sl:AV) :
  RG (Builtin.«tuple.__mul__» ⟨[.ref l,.int 1 u],[]⟩) (λ _ R s=>s.heap.get? l=Oh { cls:=.type "tuple",dict:=dd,data:=.seq its n,slots:=sl }/\R (.ok (.ret (.ref l))) s) :=
 .of_wp λ prog w A R s h=>by
  obtain⟨hp,g,d,tk,os⟩:=s;obtain⟨hl,h⟩:=h;have f1:=qN;have c1:¬((decide ((1:Int) < -(2 ^ 63)) || decide ((1:Int) ≥ 2 ^ 63))=Oi):=ca;have c2:(its.isEmpty || (1:Int) == 1)=Oi:=on;wp_walk using PH hl;exact⟨_,O,h⟩
theorem Ef(l:On)(its:Array Value)(n:Nat)(k:Int)(u:Tok)(dd:OA)(sl:AV)(h0:k<=0)(h1:-(2 ^ 63)<=k)(ne:its.isEmpty=Ol) :
  RG (Builtin.«tuple.__mul__» ⟨[.ref l,.int k u],[]⟩) (λ _ R s=>s.heap.get? l=Oh { cls:=.type "tuple",dict:=dd,data:=.seq its n,slots:=sl }/\R (.ok (.ret (.ref s.heap.objs.size))) { s with heap:=s.heap.push { cls:=.type "tuple",data:=.seq #[] } }) :=
 .of_wp λ prog w A R s h=>by
  obtain⟨hp,g,d,tk,os⟩:=s;obtain⟨hl,h⟩:=h;have f1:=qN;have c1:¬((decide (k < -(2 ^ 63)) || decide (k ≥ 2 ^ 63))=Oi):=by simp;lia
  have c2:¬(its.isEmpty || k == 1)=Oi:=by simp[ne];lia
  have c3:(decide (k<=0) || its.isEmpty)=Oi:=by simp[h0]
  wp_walk using PH hl;rw[XR c1];wp_walk using PH hl;rw[XR c2];dsimp only;rw[XT c3];wp_walk;exact⟨_,O,h⟩
theorem Eg(l:On)(its:Array Value)(n:Nat)(k:Int)(u:Tok)(dd:OA)(sl:AV)(h0:1<k)(h1:k<2 ^ 63)(ne:its.isEmpty=Ol)(hz:its.size*k.toNat<=Oq) :
  RG (Builtin.«tuple.__mul__» ⟨[.ref l,.int k u],[]⟩) (λ _ R s=>s.heap.get? l=Oh { cls:=.type "tuple",dict:=dd,data:=.seq its n,slots:=sl }/\R (.ok (.ret (.ref s.heap.objs.size))) { s with heap:=s.heap.push { cls:=.type "tuple",data:=.seq ((Os k.toNat its).foldl (·++·) #[]) } }) :=
 .of_wp λ prog w A R s h=>by
  obtain⟨hp,g,d,tk,os⟩:=s;obtain⟨hl,h⟩:=h;have f1:=qN;have ek:(its.size:Int)*k=((its.size*k.toNat:Nat):Int):=by rw[Int.natCast_mul];congr 1;lia
  have sl63:(Oq:Int)<=(2 ^ 63-1)/8:=by rw[jO];decide
  have c1:¬((decide (k < -(2 ^ 63)) || decide (k ≥ 2 ^ 63))=Oi):=by simp;lia
  have c2:¬(its.isEmpty || k == 1)=Oi:=by simp[ne];lia
  have c3:¬(decide (k<=0) || its.isEmpty)=Oi:=by simp[ne];lia
  have c4:¬((its.size:Int)*k > (2 ^ 63-1)/8):=by rw[ek];lia
  have c5:¬(Qu ((its.size:Int)*k)=Oi):=by
   unfold Qu;rw[ek,dh];lia
  have c6:((Os k.toNat its).foldl (·++·) #[]).size<=Oq:=by
   have e:∀(m:Nat) (a:Array Value),((Os m its).foldl (·++·) a).size=a.size+m*its.size:=by
    intro m
    induction m with
    |zero=>intro a;simp
    |succ m ih=>intro a;rw[eR,ip,ih];simp[Nat.succ_mul];lia
   rw[e];simp;rw[s1j];exact hz
  wp_walk using PH hl;rw[XR c1];wp_walk using PH hl;rw[XR c2];dsimp only;rw[XR c3];rw[XR c4];rw[XR c5];unfold OO;refine ae (dg (au ?_) c6);exact⟨_,O,h⟩
section
variable {prog:Ov}{w:Ow}{A:Oy}{R:QX->Oo->Prop}{s:Oo}
theorem Eh{elt target iter cnd:Expr}{it acc:Value}(I:Nat->Oo->Prop)
  (turn:∀n s,I n s->Op (Ou prog w) A (Pn it) (λ r s₁=>match r with
   |none=>R (.ok .next) s₁
   | Oh v=>Op (Ou prog w) A (Pw target it v) (λ _ s₀=>Op (Ou prog w) A (PJ target env v) (λ _ s₂=>Op (Ou prog w) A (isTrue cnd env (eval cnd env)) (λ b s₃ =>
     if b=Oi then Op (Ou prog w) A (eval elt env) (λ x s₄ =>
      Op (Ou prog w) A (call (.builtin "list.append") [acc,x]) (λ _ s₅=>∃m,m<n/\I m s₅) (λ _ _=>False) s₄) (λ _ _=>False) s₃
     else ∃m,m<n/\I m s₃)
     (λ _ _=>False) s₂) (λ _ _=>False) s₀) (λ _ _=>False) s₁) (λ _ _=>False) s)
  (n:Nat) (h:I n s) :
  Pt (Ou prog w) A (.compLoop (.ListComp elt [⟨target,iter,[cnd],0⟩] scope pos) 0 it acc env) R s:=by
 refine codeAny_loop rfl I (λ n s hI=>?_) n h;show Op _ _ ((compTurn (.ListComp elt [⟨target,iter,[cnd],0⟩] scope pos) 0 it acc env).onRaise (λ x=>do Sk x env;RQ x)) _ _ s;refine wpAny_noted ?_;rw[compTurn_list];refine ae (iS (ae (cz (turn n s hI) (λ r s₁ h₁=>?_) λ _ _ h'=>h'.elim)))
 cases r with
 |none=>exact au h₁
 |some v=>
  refine ae (cz h₁ (λ _ s₀ h₀=>?_) λ _ _ h'=>h'.elim);refine ae (cz h₀ (λ _ s₂ h₂=>?_) λ _ _ h'=>h'.elim);refine ae (cz (wpAny_tests_one h₂) (λ ok s₃ h₃=>?_) λ _ _ h'=>h'.elim)
  cases ok with
  |false=>exact au ⟨rfl,h₃⟩
  |true=>exact ae (ae (cz h₃ (λ x s₄ h₄=>ae (cz h₄ (λ _ s₅ h₅=>au (au ⟨rfl,h₅⟩)) λ _ _ z=>z.elim)) λ _ _ z=>z.elim))
end
noncomputable def vC(cnd:Expr):nH:=λ p w A env k s=>Op (Ou p w) A (isTrue cnd env (eval cnd env)) k (λ _ _=>False) s
def Ei{cnd:Expr}:qE [cnd] (vC cnd):=⟨λ I t n h=>Eh I t n h,λ h m=>cz h m λ _ _ z=>z⟩
def pmI{X:Cx}(hx:X.xe=λ _ _=>False)(h:PT X cnd tc):PM X (vC cnd) tc:=λ Te s σ H K I k=>by
 have z:=h Te s σ H K I k;rw[hx] at z;exact z
theorem vD{X:Cx}{elt tg iter cnd:Expr}{cl:LA}{own fv:List Str}{js:List Nat}
  (hc:X.calm=Oi) (hi:PI X tg iter wi) (hclos:OS scope X.env=OF cl) (hcell:∀y∈scope.names,y.2≠.cell) (Tp:scope.kind=.function)
  (hnames:∀y∈scope.names,y.2=.local->scope.names.lookup y.1=Oh .local)
  (hcl:∀x c,cl.lookup x=Oh c->X.env.cells.lookup x=Oh c)
  (hhas:∀x,((OY scope X.env).names.lookup x=Oh .cell\/(OY scope X.env).names.lookup x=Oh .free)->∃c,cl.lookup x=Oh c)
  (Tj:js.length=fv.length) (hcap:∀(i:Nat) x j,fv[i]?=Oh x->js[i]?=Oh j->Vd X scope cl x j)
  (hg:∀(C:On) (ex:List On) (s:Oo) (H:Hp),PG (bz X (own++fv) scope cl C ex s H) tg g)
  (he:∀(C:On) (ex:List On) (s:Oo) (H:Hp),PE (bz X (own++fv) scope cl C ex s H) elt te)
  (ht:∀(C:On) (ex:List On) (s:Oo) (H:Hp),PT (bz X (own++fv) scope cl C ex s H) cnd tc)
  (hs:∀x,OZ iter X.env x=OF x)(I:Inv X Te σ H s) (h:jb wi own.length js g tc te σ H Q)
  (fin:∀(a C:On) (s5:Oo) (H5:Hp) (fl:Flow),Inv X Te σ H5 s5->H5 C=Oj->C≠X.env.locals->X.s₀.heap.objs.size<=C->(∀x c,X.env.cells.lookup x=Oh c->c≠C)->(∀p∈X.pn++Te,p.1≠C)->(∃m,s5.heap.Ns C m)->Q (.ref a) H5->Rx (Ou X.prog X.w) X.A X.xe use QQ (.ref a) C (.ok fl) s5) :
  Op (Ou X.prog X.w) X.A (QU (.ListComp elt [⟨tg,iter,[cnd],0⟩] scope pos) scope X.env fpos (QM []) Ol (Si [⟨tg,iter,[cnd],0⟩] X.env) use) QQ X.xe s :=
 ve hc hi hclos hcell Tp hnames hcl hhas Tj hcap hg he (λ C ex s H=>pmI rfl (ht C ex s H)) Ei hs I h fin
theorem Ej{X:Cx}{elt tg iter cnd:Expr}{cl:LA}{own fv:List Str}{js:List Nat}
  (hc:X.calm=Oi) (hi:PI X tg iter wi) (hclos:OS scope X.env=OF cl) (hcell:∀y∈scope.names,y.2≠.cell) (Tp:scope.kind=.function)
  (hnames:∀y∈scope.names,y.2=.local->scope.names.lookup y.1=Oh .local)
  (hcl:∀x c,cl.lookup x=Oh c->X.env.cells.lookup x=Oh c)
  (hhas:∀x,((OY scope X.env).names.lookup x=Oh .cell\/(OY scope X.env).names.lookup x=Oh .free)->∃c,cl.lookup x=Oh c)
  (Tj:js.length=fv.length) (hcap:∀(i:Nat) x j,fv[i]?=Oh x->js[i]?=Oh j->Vd X scope cl x j)
  (hg:∀(C:On) (ex:List On) (s:Oo) (H:Hp),PG (bz X (own++fv) scope cl C ex s H) tg g)
  (he:∀(C:On) (ex:List On) (s:Oo) (H:Hp),PE (bz X (own++fv) scope cl C ex s H) elt te)
  (ht:∀(C:On) (ex:List On) (s:Oo) (H:Hp),PT (bz X (own++fv) scope cl C ex s H) cnd tc)
  (hs:∀x,OZ iter X.env x=OF x:=by intro _;rfl) :
  PE X (.ListComp elt [⟨tg,iter,[cnd],0⟩] scope pos) (jb wi own.length js g tc te):=by
 intro Te s σ H Q I h;rw[SB];refine vD (use:=Oj) (QQ:=EP X Te σ Q) hc hi hclos hcell Tp hnames hcl hhas Tj hcap hg he ht hs I h λ a C s5 H5 fl I5 zC zL zS zc zp ⟨m,hn⟩ q=>⟨m,hn,λ h' sc=>?_⟩;exact⟨.ref a,H5,I5.turned (t':=s5.toks) (it:=C) (λ d o nd e=>sc.extBut d o nd e) zC zL (.inr zS) zc zp,O,q⟩
theorem Ek{B:Oy}(hh:B.handled=Oj)(j t:On)(ne:t≠j)(as:Array Value):Draws pg wd B j [j,t] as.size (λ i v=>as[i]?=Oh v) (λ i h=>h.IsTupleIter j t i/\h.IsTuple t as) where
 live:=λ _ _ q=>let ⟨o,g,_⟩:=q.1;⟨o,g⟩
 frame:=λ _ _ _ q k=>⟨qM q.1 λ o g=>k j on o g,nP q.2 λ o g=>k t on o g⟩
 item:=λ i s R X0 hi q f=>DV q.1 q.2 (x:=as[i]) (by simp[hi]) λ m p sb=>f _ m s.toks (by simp[hi]) ⟨p,nP q.2 λ o g=>sb.extBut _ _ ne g⟩ sb
 done:=λ s R X0 q f=>vB hh q.1 q.2 on f
section
variable {pg:Ov}{wd:Ow}{B:Oy}{X0:VS}{s0:Oo}
theorem El{R:Option Value->Oo->Prop}(hh:B.handled=Oj)(hz:SL s0.heap z j n u)(p:s0.heap.IsTupleIter j t i)(q:s0.heap.IsTuple t as)(ex:as[i]?=Oj)
  (f:∀m,Heap.ExtBut j s0.heap m->R Oj { s0 with heap:=m }):Op (Ou pg wd) B (Pn (.ref z)) R X0 s0:=by
 have ty:s0.TypeIs (.ref z) "enumerate" := ⟨_,hz,rfl⟩;unfold Pn;refine ae (lL (ja (name:=OI "__next__") ty vE (fJ vE ty F.entry_enumerate_next ?_ (F.args_enumerate_next_1 _))));show Op _ _ (Rc (.ref z) 2 >>= _) _ _ _;refine ae (dD hz rfl (x:=.ref j) rfl ?_);refine ae (vB hh p q ex λ m w xb hw=>?_);obtain⟨ow,gw,cw⟩:=hw;exact ae (lK (T := "StopIteration") (b:=Oi) ⟨ow,gw,cw⟩ Sb (au (f _ xb)))
set_option tactic.hygienic true in
theorem Em(t:On)(as:Array Value)(n:Nat)(dc:OA)(sl:AV) :
  RG (Builtin.«enumerate.__new__» ⟨[.type "enumerate",.ref t],[]⟩) (λ _ R s=>s.heap.get? t=Oh { cls:=.type "tuple",dict:=dc,data:=.seq as n,slots:=sl } /\
   R (.ok (.ret (.ref (s.heap.push { cls:=.type "tuple_iterator",data:=.fields #[.ref t,.int 0 0] }).objs.size))) { s with heap:=(s.heap.push { cls:=.type "tuple_iterator",data:=.fields #[.ref t,.int 0 0] }).push { cls:=.type "enumerate",data:=.fields #[.none,.bool Ol,.ref s.heap.objs.size,OJ 0,.none,.none] } }) :=
 .of_wp λ pg wd A R s h=>by
  obtain⟨hp,g,d,tk,os⟩:=s;obtain⟨ht,h⟩:=h;have q0:=sub_enumerate;have q1:Heap.IsTuple (Shared.heap ⟨hp,g,d,tk,os⟩) t as:=⟨_,ht,rfl,n,rfl⟩;wp_walk using qO ht;refine wpAny_stack_any λ stk=>au ?_;split
  .rename_i c _ _ _ _ _;cases (c == Pq "enumerate")<;>(wp_walk using qO ht,nQ q1)<;>exact⟨_,rfl,h⟩
  .wp_walk using qO ht,nQ q1;exact⟨_,O,h⟩
theorem Eo{R:VS}(q:s0.heap.IsTuple t as)
  (f:∀m,SL m (s0.heap.objs.size+1) s0.heap.objs.size 0 .none->m.IsTupleIter s0.heap.objs.size t 0->(∀c o,s0.heap.get? c=Oh o->m.get? c=Oh o)->R (.ref (s0.heap.objs.size+1)) { s0 with heap:=m }) :
  Op (Ou pg wd) B (call (.type "enumerate") [.ref t]) R X0 s0:=by
 obtain⟨⟨c,dc,dt,sl⟩,ht,hc,n,hd⟩:=q;cases (show c=.type "tuple" from hc);cases (show dt=.seq as n from hd);refine callType_new F.called_enumerate ca (F.typeCall_enumerate_1 _) (F.newCall_enumerate_1 _) (λ ob=>nI ob _) F.entry_enumerate_new (Em t as n dc sl) ⟨ht,?_⟩;have n1:(s0.heap.push { cls:=.type "tuple_iterator",data:=.fields #[.ref t,.int 0 0] }).objs.size=s0.heap.objs.size+1:=jc ..;show _/\_;have g2:=bn (s0.heap.push { cls:=.type "tuple_iterator",data:=.fields #[.ref t,.int 0 0] }) (o:={ cls:=.type "enumerate",data:=.fields #[.none,.bool Ol,.ref s0.heap.objs.size,OJ 0,.none,.none] }) rfl;rw[n1] at g2 ⊢;exact⟨⟨_,g2,O⟩,f _ g2 ⟨_,aO _ (bn _ rfl),O,O⟩ λ c o z=>aO _ (aO _ z)⟩
end
noncomputable def VZ(K:FG)(a:On):It:=⟨λ i H=>∃xs x,SqT K H a xs/\xs[i]?=Oh x,
 λ i H v H'=>∃T x,v=.ref T/\H T=Oj/\H'=Ti H T (.tup [.int i,x])/\∀xs,SqT K H a xs->xs[i]?=Oh x,λ i H=>∃xs,SqT K H a xs/\xs.length<=i⟩
theorem Ep{K:FG}{a z j:On}(zj:z≠j) :
  Uz P w K (.Tuple es x1 pp) (VZ K a) [z,j] z (λ i h=>(∃u,SL h z j i u)/\h.IsTupleIter j a i) where
 mem:=on
 obj:=λ i h q c hc=>by
  obtain⟨⟨u,q1⟩,⟨o4,g4,_,d4⟩⟩:=q;simp only[aB,bf,bd] at hc
  rcases hc with rfl|rfl
  .exact⟨_,q1,λ v y=>nomatch y⟩
  .exact⟨_,g4,λ v y=>by rw[d4] at y;cases y⟩
 keep:=λ i h h' q k=>by
  obtain⟨⟨u,q1⟩,q4⟩:=q;exact⟨⟨u,k _ on _ q1⟩,qM q4 λ o g=>k _ on o g⟩
 item:=by
  intro X hP hw hK hc i Te s σ H E I hf st hg;subst hP hw hK;obtain⟨xs,x,hq,hx⟩:=hg;obtain⟨⟨u,q1⟩,q4⟩:=st;obtain⟨as,ra,pa,za⟩:=I.tuple hq;obtain⟨ux,hux,rux⟩:=ra.get hx;have ta:s.heap.IsTuple a as.toArray:=pa;have az:a≠z:=by rintro rfl;obtain⟨o,g,c,_⟩:=ta;rw[q1] at g;cases g;simp at c
  have aj:a≠j:=by rintro rfl;obtain⟨o,g,c,_⟩:=ta;obtain⟨o4,g4,c4,_⟩:=q4;rw[g4] at g;cases g;rw[c4] at c;simp at c
  have il:i<as.toArray.size:=by simpa using (aY.mp hux).1
  refine vF (Ek (B:=X.A.in1) (I.ok.hd hc) j a aj as.toArray) q1 ⟨q4,ta⟩ il zj (by simp only[aB,bf,bd,not_or];exact⟨zj,az.symm⟩) λ y m tk hy zo st' np sz bt=>?_;have yu:y=ux:=by simp only[nN] at hy;rw[hux] at hy;exact(bv hy).symm
  subst yu
  have I1:Inv X Te σ H { s with heap:=m,toks:=tk+1 }:=I.turnedL (t':=tk+1) (fl:=[z,j]) (λ c o hc e=>by
   simp only[aB,bf,bd,not_or] at hc
   exact bt c o hc.1 hc.2 e) hf
  obtain⟨f0,f1,f2,f3,f4,f5⟩:=I.fpOk (ao s.heap.objs.size) (I.hok.fresh (ao _))
  have n0:X.s₀.heap.get? s.heap.objs.size=Oj:=by
   cases q:X.s₀.heap.get? s.heap.objs.size with
   |none=>rfl
   |some o=>exact XU (bG (aM q) I.sz) (dM _)
  have I2:Inv X Te σ (Ti H s.heap.objs.size (.tup [.int i,x])) { s with heap:=m,toks:=tk+1 }:=I1.track f0 ⟨small on,[.int i tk,y],.cons (show RelV (V.int i) (QY i tk) from ⟨_,rfl⟩) (.cons rux .nil),⟨_,np,⟨rfl,_,rfl⟩,rfl⟩⟩ f1 f4 f5 n0;have lt:∀ {c o},s.heap.get? c=Oh o->c≠s.heap.objs.size:=λ e=>be (aM e);have zT:z≠s.heap.objs.size:=lt q1;obtain⟨e0,e1,e2,e3,e4,e5⟩:=hf z on;refine⟨_,O,vG zo λ h2 z2 sb=>?_⟩;have I3:Inv X Te σ (Ti H s.heap.objs.size (.tup [.int i,x])) { s with heap:=h2,toks:=tk+1 }:=Inv.turned (s:={ s with heap:=m,toks:=tk+1 }) (h':=h2) (t':=tk+1) (it:=z) I2 (λ c o hc e=>sb.extBut _ _ hc e) (by rw[aA zT];exact e0) e1 e3 e4 e5;refine⟨.ref s.heap.objs.size,_,I3,O,⟨_,x,O,f0,O,λ xs' k1=>?_⟩,⟨⟨_,by simpa using z2⟩,qM st'.1 λ o g=>sb.extBut _ _ zj.symm g⟩,λ c hc=>?_⟩
  .rw[I.tuple_inj k1 hq];exact hx
  .have cT:c≠s.heap.objs.size:=by
    obtain⟨o4,g4,_⟩:=q4;simp only[aB,bf,bd] at hc
    rcases hc with rfl|rfl
    .exact zT
    .exact lt g4
   rw[aA cT];exact(hf c hc).1
 done:=by
  intro X hP hw hK hc i Te s σ H E I hf st hg;subst hP hw hK;obtain⟨xs,hq,hx⟩:=hg;obtain⟨⟨u,q1⟩,q4⟩:=st;obtain⟨as,ra,pa,za⟩:=I.tuple hq;have la:=ra.length;refine El (I.ok.hd hc) q1 q4 (show s.heap.IsTuple a as.toArray from pa) (by simp;lia) λ m bt=>⟨O,?_⟩
  exact I.turnedL (t':=s.toks) (fl:=[z,j]) (λ c o hc e=>by
   simp only[aB,bf,bd,not_or] at hc
   exact bt c o hc.2 e) hf
 self:=λ _ _ _ _ _ st h=>let ⟨⟨_,q1⟩,_⟩:=st;nR q1 h
section
variable {es:List Expr}{x1:Nat}{pp:Pos}
noncomputable def Er(K:FG)(te:TE):TI:=λ σ H R=>te σ H λ v H1=>∃a xs,v=.ref a/\SqT K H1 a xs/\R (VZ K a) H1
theorem Es{p pos:Pos}(hg:Gl X "enumerate")(hm:X.mg "enumerate"=Oj)(he:PE X e te)(hs:OE [e] X.env=[(Ol,eval e X.env)]:=by rfl) :
  PI X (.Tuple es x1 pp) (.Call (.Name "enumerate" p) [e] [] pos) (Er X.K te):=by
 intro Te s σ H R I h;have hA:=(da he (pa_nil (X:=X)) hs) pos Te s σ H (λ vs H1=>match vs with|[x]=>∃a xs,x=.ref a/\SqT X.K H1 a xs/\R (VZ X.K a) H1|_=>False) I h;refine QD (dZ I hg hm RX (gh (To hA λ us s1 ⟨vs,H1,I1,r1,q1⟩=>?_) hs rfl))
 match vs,q1 with
 |[x],⟨a,xs,e,hq,q⟩=>
  subst e;obtain⟨u,rfl,ru⟩:=cB r1;cases (show u=OL a from ru);obtain⟨as,va,pa,za⟩:=I1.tuple hq;refine Eo (show s1.heap.IsTuple a as.toArray from pa) λ m w1 w2 kk=>?_;have I2:Inv X Te σ H1 { s1 with heap:=m }:=I1.kept (t':=s1.toks) kk;refine nR w1 ⟨s1.heap.objs.size+1,[s1.heap.objs.size+1,s1.heap.objs.size],_,_,H1,O,I2,Ep (qP _),⟨⟨_,w1⟩,w2⟩,λ c hc=>?_,q⟩
  have ge:s1.heap.objs.size<=c:=by
   simp only[aB,bf,bd] at hc
   rcases hc with rfl|rfl<;>lia
  exact I1.fpOk ge (I1.hok.fresh ge)
end
noncomputable def Et(i j:Int):Prop:=0<j/\j<1606938044258990275541962092341162602522202993782792835301376
def Eu{y:Int}(h0:0<y)(h1:y<1606938044258990275541962092341162602522202993782792835301376):y.natAbs.log2<9000:=by
 have z:y.natAbs≠0:=by omega
 exact bG ((Nat.log2_lt z).mpr (show y.natAbs<2 ^ 200 by omega)) ca
def Ev:TC X (OX .FloorDiv) (rI Et λ i j=>.int (i/j)):=Vl λ i j _ _ _ _ _ hc q=>floordiv_int (by have:=hc.1;lia) (by rw[ng i (by have:=hc.1;lia)];exact q) (.inl (vh (Eu hc.1 hc.2)))
end _L
namespace _H
open PySem PySem.Spec PyProof.Rows _L
theorem whole_tup{s:Oo}{lo hi:Option Int}{R:VS}(ht:Qp s.heap t its)(hs:s.heap.IsSliceOf sl vl vu .none)(pl:Qa vl lo)(pu:Qa vu hi)
  (h0:sIx its.size 0 lo=0) (h1:sIx its.size its.size hi=its.size) (h:R (.ref t) s):Op (Ou prog w) A (PZ (.ref t) (.ref sl)) R E s:=by
 obtain⟨os,hos,hcs,hds⟩:=id hs;have hTs:s.TypeIs (.ref sl) "slice" := ⟨os,hos,hcs⟩;unfold PZ;try with_reducible refine eK ?_
 first|refine ae (au ?_)|skip
 refine ae (Rl ht.typeIs ca ?_);refine ae (ja (name:=OI "__getitem__") ht.typeIs nA (fJ nA ht.typeIs s0k ?_ (s0v _ _)));show Op _ _ (Qt (.ref t) >>= _) _ _ s;refine ae (SE ht ?_);refine ae (ig hTs ?_);rw[XT ca];refine ae (uH hs pl pu ?_);show Op _ _ (if (((sIx its.size 0 lo:Nat):Int) == 0&&(1:Int) == 1&&(sIx its.size its.size hi-sIx its.size 0 lo) == its.size)=Oi then _ else _) _ _ s;rw[XT (by rw[h0,h1];simp)];unfold Sn;exact ae (ae (ig ht.typeIs (au (ae (lN (au ⟨_,O,au h⟩))))))
end _H
namespace _L
open PySem PySem.Spec PyProof.Rows
variable {X:Cx}
def Ew:Ps (.type "reversed") "__len__"=OF Oj:=by rw[eU,eV];kernel_rfl
def Ex:Ps (.type "reversed") "__length_hint__"=OF (Oh (.builtin "reversed.__length_hint__")):=by rw[eU,eV];kernel_rfl
theorem Ey{B:Oy}(hh:B.handled=Oj)(I t:On)(hne:t≠I)(its:Array Value)(hz:(its.size:Int)<2 ^ 63) :
  Walks pg wd B I [I,t] [I] its.size (λ i v=>its[its.size-1-i]?=Oh v) (λ i h=>i<=its.size/\IsRv h I t ((its.size:Int)-1-(i:Int))/\Qp h t its) where
 sub:=λ b hb=>by simp at hb;simp[hb]
 frame:=λ _ _ _ st k=>⟨st.1,let ⟨o,g,r⟩:=st.2.1;⟨o,k I on o g,r⟩,let ⟨o,g,r⟩:=st.2.2;⟨o,k t on o g,r⟩⟩
 item:=λ i s R X0 hi st f=>by
  obtain⟨_,q1,q2⟩:=st;have e:(its.size:Int)-1-(i:Int)=((its.size-1-i:Nat):Int):=Z;rw[e] at q1;have hx:its[its.size-1-i]?=Oh (its[its.size-1-i]' Z):=qL Z;refine vq q1 q2 hx hz λ m tk q sb=>f _ m tk hx ⟨hi,?_,?_⟩ λ b o nb g=>sb.extBut b o (by simpa using nb) g
  .have e2:((its.size-1-i:Nat):Int)-1=(its.size:Int)-1-((i+1:Nat):Int):=by lia
   rw[e2] at q;exact q
  .obtain⟨o,g,r⟩:=q2;exact⟨o,sb.extBut _ _ hne g,r⟩
 done:=λ s R X0 st f=>by
  obtain⟨_,q1,q2⟩:=st;have e:(its.size:Int)-1-(its.size:Int)=-1:=Z;rw[e] at q1;exact vv hh q1 λ m tk eb=>f m tk λ b o nb g=>eb b o (by simpa using nb) g
 self:=λ _ _ _ _ st h=>qI st.2.1 h
def Ez(v:Value):bindSpecial (.builtin "reversed.__length_hint__") v=OF (.builtin "reversed.__length_hint__",[v]):=by
 unfold bindSpecial;rw[show typeOf (.builtin "reversed.__length_hint__")=OF (.type "method_descriptor") by show builtinType _=_;rw[builtinType_eq_fast];kernel_rfl];rfl
def EA:Slot "reversed" "__length_hint__" "reversed.__length_hint__" := .of (owner := "reversed") (n := "__length_hint__") (by rw[eU,eV];kernel_rfl) (by decide +kernel) (by decide +kernel) (by decide +kernel) (.inr (by decide +kernel)) (by rw[jf];kernel_rfl)
def EB:SW table "reversed.__length_hint__"=Oh Builtin.«reversed.__length_hint__»:=Ry (by kernel_rfl)
def EC(a:Value):QC "reversed.__length_hint__" ⟨[a],[]⟩:=by unfold QC;kernel_rfl
theorem ED{R:VS}{z:Oo}{its:Array Value}(q1:IsRv z.heap J t ((its.size:Int)-1))(q2:Qp z.heap t its)(hz:(its.size:Int)<2 ^ 63)
  (f:∀u tk,z.toks<=tk->R (.int its.size u) { z with toks:=tk }):Op (Ou pg wd) B (call (.builtin "reversed.__length_hint__") [.ref J]) R X0 z:=by
 obtain⟨o,ho,hc,hd⟩:=id q1;refine fJ EA q1.typeIs EB ?_ (EC _);show Op _ _ (Rc (.ref J) 0 >>= _) _ _ z;refine ae (dD ho hd (x:=.ref t) rfl ?_);show Op _ _ (if (OL t == OW)=Oi then _ else _) _ _ z;rw[XR (show ¬((OL t == OW)=Oi) from bN)];show Op _ _ (call (.builtin "len") [.ref t] >>= _) _ _ z;refine ae (s0w q2 hz ?_);refine ae (m:=asInt? _) (au ?_);show Op _ _ (Rc (.ref J) 1 >>= _) _ _ _;refine ae (dD ho hd (x:=OJ ((its.size:Int)-1)) rfl ?_);show Op _ _ (if (its.size:Int)<(its.size:Int)-1+1 then _ else retInt ((its.size:Int)-1+1)) _ _ _;rw[XR Z,show(its.size:Int)-1+1=its.size by lia];exact ae (wpAny_mkInt (au ⟨_,O,f _ _ (by show z.toks<=z.toks+1+1+1;lia)⟩))
section
variable {pg:Ov}{wd:Ow}{B:Oy}{X0:VS}{s0:Oo}{J:On}{fs ws:List On}{Gg:Array Qi->Array Qi->Prop}{m:Nat}{Pr:Nat->Value->Prop}{Sx:Nat->Oo->Prop}
theorem EG{R:LV->Oo->Prop}(hint:∀(z:Oo) (R':VS) (E':VS),Sx 0 z->(∀u tk,z.toks<=tk->R' (.int m u) { z with toks:=tk })->Op (Ou pg wd) B.in1 (call (.builtin "reversed.__length_hint__") [.ref J]) R' E' z)(wk:QZ pg wd B.in1 J fs ws Gg m Pr Sx)(ty:∀j z,Sx j z->z.TypeIs (.ref J) "reversed")(z0:Sx 0 s0)(lt:∀b∈fs,b<s0.heap.objs.size)(mJ:J∈fs)(sm:m<=Oq)
  (fin:∀z' ac,RH ws Gg s0 z'->QL Pr ac m->R ac.toList z'):Op (Ou pg wd) B (Sa (.ref J)) R X0 s0:=by
 have out:s0.heap.objs.size ∉ fs:=λ q=>XU (lt _ q) (dM _);have neJ:s0.heap.objs.size≠J:=by rintro rfl;exact out mJ
 let nu:Obj:={ cls:=.type "list",data:=.seq ([]:LV).toArray }
 unfold Sa;refine ae (Sh (gK vx ?_));rw[gM vy _];show Op _ B.in1 (QM [] >>= λ q=>RL (.builtin "list.__iadd__" ⟨[q,.ref J],[]⟩)) _ _ s0;refine ae (dg ?_);refine au ⟨fN nL _,gK F.entry_list_iadd ?_⟩;rw[gM nL _];have z1:=wk.frame 0 s0 (s0.heap.push nu) s0.toks z0 (ao _) λ b _ o e=>aO _ e;have at1:(s0.heap.push nu).get? s0.heap.objs.size=Oh nu:=bn _ rfl;have dif:Pi (.ref s0.heap.objs.size) (.ref J)=Ol:=by simp[Pi,neJ]
 show Op _ B.in1 (OU (.ref s0.heap.objs.size) (.ref J) (.ref s0.heap.objs.size)) _ _ _;unfold OU;refine ae (ig (ty 0 _ z1) ?_);rw[XR (by rw[dif];decide)];refine ae (wk.self 0 _ _ _ z1 ?_);refine ae (eK ?_);unfold Qq;refine ae (iu (ty 0 _ z1) Ew ?_);show Op _ B.in1 (specialOf (OL J) (OI "__length_hint__") >>= _) _ _ _;refine ae (iu (ty 0 _ z1) Ex ?_)
 (generalize hid:("reversed.__length_hint__" : String)=id0;wp_delta;rw[show splitId id0=Oh ("reversed","__length_hint__") from by subst hid;decide +kernel];subst hid)
 refine ae (lK (b:=Oi) (ty 0 _ z1) (by rw[jf];kernel_rfl) ?_);rw[XR ca];dsimp only;rw[XR (by decide +kernel)];refine ae (lN ?_);refine ae (eW (Ez _) ?_);dsimp only;refine ae (lL (hint _ _ _ z1 λ u tk htk=>?_));have z2:=wk.frame 0 _ _ tk z1 htk λ b _ o e=>e;have l63:=nK;have fi:Pm (m:Int)=Oi:=by simp[Pm];lia
 have tl:Pb (m:Int).toNat=Ol:=by simp[Pb];lia
 generalize hk:(m:Int)=kk at fi tl ⊢;show Op _ B.in1 (asInt? (.int kk u) >>= _) _ _ _;refine ae (m:=asInt? (.int kk u)) (au ?_);dsimp only;rw[XR (by rw[fi];decide)];try dsimp only
 rw[XR Z];try dsimp only
 rw[XR (by rw[tl];decide)];refine au ?_;by_cases m0:m=0
 .rw[XR (by subst m0;subst hk;decide +kernel)];refine au ⟨fN qJ _,qK wk sm _ out _ m 0 _ _ _ rfl (bP _) z2 at1 (s1p Pr) λ z' ac cc mv at2 its=>?_⟩;show Op _ B (load s0.heap.objs.size >>= _) _ _ z';exact ae (s1g at2 (au (fin z' ac (s0g (o:=nu) (tk:=tk) mv htk) its)))
 .rw[XT (by simp;left;lia)];refine ae (lN ?_);refine ae ?_;show Op _ B.in1 (PR s0.heap.objs.size (·.push .none) >>= λ _=>PR s0.heap.objs.size (·.pop)) _ _ _;refine ae (jV at1 rfl ?_);have a2:=ik (Pd (·.push OW)) at1 rfl;refine jV a2 rfl ?_;have a3:=ik (Pd (·.pop)) a2 rfl
  have oth:∀b o,b≠s0.heap.objs.size->(s0.heap.push nu).get? b=Oh o->(((s0.heap.push nu).update s0.heap.objs.size (Pd (·.push OW))).update s0.heap.objs.size (Pd (·.pop))).get? b=Oh o :=
   λ b o hb e=>(eQ _ _ (cy hb)).trans ((eQ _ _ (cy hb)).trans e)
  refine au ⟨fN qJ _,qK wk sm _ out _ m 0 _ _ _ rfl (bP _)
   (wk.frame 0 ({ s0 with heap:=s0.heap.push nu,toks:=tk }:Oo) _ tk z2 (ao _) λ b hb o e=>oth b o (λ q=>out (q ▸ hb)) e) a3 (s1p Pr) λ z' ac cc mv at2 its=>?_⟩
  show Op _ B (load s0.heap.objs.size >>= _) _ _ z';refine ae (s1g at2 ?_);refine au (fin z' ac (s0g (o:=nu) (tk:=tk) (Moved.trans wk.gtrans ((Moved.refl wk.grefl).then_heap (ao _) λ b o hb e=>?_) mv) htk) its);exact oth b o (λ q=>hb (q ▸ bg)) e
theorem EH{R:VS}(hint:∀(z:Oo) (R':VS) (E':VS),Sx 0 z->(∀u tk,z.toks<=tk->R' (.int m u) { z with toks:=tk })->Op (Ou pg wd) B.in1.in1 (call (.builtin "reversed.__length_hint__") [.ref J]) R' E' z)(wk:QZ pg wd B.in1.in1 J fs ws Gg m Pr Sx)(ty:∀j z,Sx j z->z.TypeIs (.ref J) "reversed")(z0:Sx 0 s0)(lt:∀b∈fs,b<s0.heap.objs.size)(mJ:J∈fs)(sm:m<=Oq)
  (fin:∀z' ac,RH ws Gg s0 z'->QL Pr ac m->R (.ref z'.heap.objs.size) { z' with heap:=z'.heap.push { cls:=.type "tuple",data:=.seq ac } }) :
  Pt (Ou pg wd) B (.call (.builtin "tuple.__new__") ⟨[.type "tuple",.ref J],[]⟩) (wants R X0) s0:=by
 refine RN ?_;show Op _ B.in1 (do Rw "tuple.__new__" ⟨[.type "tuple",.ref J],[]⟩;RL (.builtin "tuple.__new__" ⟨[.type "tuple",.ref J],[]⟩)) _ _ s0;refine ae (eW (F.newCall_tuple_1 _) (au ⟨fN nM _,gK F.entry_tuple_new ?_⟩));rw[gM nM _];have q1:=Sg;have q2:=Ri;have q3:=Sc;have q4:=ty 0 s0 z0;wp_walk using ig q4,EG (sm:=sm) hint wk ty z0 lt mJ;intro z' ac mv its;show Op _ _ (OO ac.toList.toArray >>= λ q=>ret q) _ _ _;have e:ac.toList.toArray=ac:=on;rw[e];unfold OO;exact ae (dg (au (fin z' ac mv its)) (by show ac.size<=Oq;rw[its.1];exact sm))
theorem EI{R:VS}(hint:∀(z:Oo) (R':VS) (E':VS),Sx 0 z->(∀u tk,z.toks<=tk->R' (.int m u) { z with toks:=tk })->Op (Ou pg wd) B.in1.in1.in1 (call (.builtin "reversed.__length_hint__") [.ref J]) R' E' z)(wk:QZ pg wd B.in1.in1.in1 J fs ws Gg m Pr Sx)(ty:∀j z,Sx j z->z.TypeIs (.ref J) "reversed")(z0:Sx 0 s0)(lt:∀b∈fs,b<s0.heap.objs.size)(mJ:J∈fs)(sm:m<=Oq)
  (fin:∀z' ac,RH ws Gg s0 z'->QL Pr ac m->R (.ref z'.heap.objs.size) { z' with heap:=z'.heap.push { cls:=.type "tuple",data:=.seq ac } }) :
  Op (Ou pg wd) B (call (.type "tuple") [.ref J]) R X0 s0 :=
 RY (Q₁:=λ ob z=>z.TypeIs ob "tuple" /\ R ob z) F.called_tuple (s0z _) s0m
  (EH (sm:=sm) hint wk ty z0 lt mJ λ z' ac mv its=>⟨⟨_,bn _ rfl,rfl⟩,fin z' ac mv its⟩)
  λ ob z q=>⟨q.1,nI ob _,Rj F.called_tuple.init.lookup F.called_tuple.made ca pg wd B.in1 _ z ⟨q.1,rfl,q.2⟩⟩
end
noncomputable def EJ(K:FG)(te:TE):TE:=λ σ H Q=>te σ H λ x H1=>∃a xs,x=.ref a/\SqT K H1 a xs/\∀p,H1 p=Oj->Q (.ref p) (Ti H1 p (.tup xs.reverse))
theorem EK{p1 p2 pos pos':Pos}(hc:X.calm=Oi)(ht:Gl X "tuple")(hr:Gl X "reversed")(mt:X.mg "tuple"=Oj)(mr:X.mg "reversed"=Oj)(he:PE X e te)(hs:OE [e] X.env=[(Ol,eval e X.env)]:=by rfl) :
  PE X (.Call (.Name "tuple" p1) [.Call (.Name "reversed" p2) [e] [] pos'] [] pos) (EJ X.K te):=by
 intro Te s σ H Q I h;refine QD (dZ I ht mt boot_tuple (gh ?_ rfl rfl));refine qk ?_;have hA:=(da he (pa_nil (X:=X)) hs) pos' Te s σ H (λ vs H1=>match vs with|[x]=>∃a xs,x=.ref a/\SqT X.K H1 a xs/\∀p,H1 p=Oj->Q (.ref p) (Ti H1 p (.tup xs.reverse))|_=>False) I h;refine QD (dZ I hr mr s0y (gh (To hA λ us s1 ⟨vs,H1,I1,r1,q1⟩=>?_) hs rfl))
 match vs,q1 with
 |[x],⟨a,xs,e,hq,q⟩=>
  subst e;obtain⟨u,rfl,ru⟩:=cB r1;cases (show u=OL a from ru);obtain⟨its,rv,pl,hz⟩:=I1.tuple hq;have hl:=rv.length;have z63:=nK;refine vp pl (by simp;lia) λ tk=>?_;refine qj ?_;have I2:Inv X Te σ H1 { s1 with heap:=s1.heap.push (iq a ((its.toArray.size:Int)-1)),toks:=tk }:=I1.kept (t':=tk) λ b o e=>aO _ e;have al:a<s1.heap.objs.size:=by obtain⟨o,ho,_⟩:=pl;exact aM ho
  have hne:a≠s1.heap.objs.size:=be al
  have ir:IsRv (s1.heap.push (iq a ((its.toArray.size:Int)-1))) s1.heap.objs.size a ((its.toArray.size:Int)-1-((0:Nat):Int)):=by
   refine⟨_,bn _ rfl,O,?_⟩;have e:(its.toArray.size:Int)-1-((0:Nat):Int)=(its.toArray.size:Int)-1:=Z;rw[e];rfl
  have sz:(s1.heap.push (iq a ((its.toArray.size:Int)-1))).objs.size=s1.heap.objs.size+1:=by simp[Heap.push]
  have ff:=I1.fpOk (ao s1.heap.objs.size) (I1.hok.fresh (ao _))
  refine EI (m:=its.toArray.size) (Sx:=_) (λ z R' E' q f=>ED (its:=its.toArray) (by have:=q.2.1;rw[show(its.toArray.size:Int)-1-((0:Nat):Int)=(its.toArray.size:Int)-1 by lia] at this;exact this) q.2.2 (by simp;lia) f) (Ey (B:=X.A.in1.in1.in1) (I.ok.hd hc) s1.heap.objs.size a hne its.toArray (by simp;lia)).toS (λ j z q=>let ⟨o,ho,hk,_⟩:=q.2.1;⟨o,ho,hk⟩)
   ⟨bP _,ir,let ⟨o,g,r⟩:=pl;⟨o,aO _ g,r⟩⟩ (λ b hb=>?_) (bg ..) (by simp only[aZ];lia) λ z' ac mv io=>?_
  .show b<(s1.heap.push (iq a ((its.toArray.size:Int)-1))).objs.size;rw[sz];simp only[aB,bf,bd] at hb
   rcases hb with rfl|rfl
   .exact jd _
   .exact eh al
  have I3:Inv X Te σ H1 z':=by
   obtain⟨zh,zg,zd,zt,zo⟩:=z';have e1:zg=s1.gens:=mv.gens;have e2:zd=s1.drawn:=mv.drawn;have e3:zo=s1.os:=mv.os;subst e1 e2 e3;obtain⟨f0,f1,f2,f3,f4,f5⟩:=ff;exact I1.turned (t':=zt) (λ b o hb e=>mv.heap b o (by simpa using hb) (aO _ e)) f0 f1 f3 f4 f5
  have er:ac=its.reverse.toArray:=by
   have sz2:ac.size=its.length:=by simpa using io.1
   apply Tc
   .simp[sz2]
   .intro j h1 h2;have q:=io.2 j _ (qL h1);simp only[aZ,nN] at q;have q2:its.reverse[j]?=Oh ac[j]:=by rw[lO Z];exact q
    rw[s0a];exact(bv ((bc (by simpa using h2)).symm.trans q2)).symm
  subst er
  have I4:Inv X Te σ (Ti H1 z'.heap.objs.size (.tup xs.reverse)) { z' with heap:=z'.heap.push { cls:=.type "tuple",data:=.seq its.reverse.toArray } } :=
   I3.laid (t':=z'.toks) (λ b o e=>aO _ e) (ao _) (show ObjOk X.prog X.w _ _ _ (.tup xs.reverse) from ⟨by simpa using hz,its.reverse,rv.reverse,TupO.new _ _⟩)
  exact⟨.ref z'.heap.objs.size,_,I4,O,q _ (I3.hok.fresh (ao _))⟩
noncomputable def nS(K:FG)(a:On):It:=⟨λ i H=>∃xs x,SqL K H a xs/\xs[i]?=Oh x,
 λ i H v H'=>∃T x,v=.ref T/\H T=Oj/\H'=Ti H T (.tup [.int i,x])/\∀xs,SqL K H a xs->xs[i]?=Oh x,λ i H=>∃xs,SqL K H a xs/\xs.length<=i⟩
theorem EL{K:FG}{a z j:On}(zj:z≠j) :
  Uz P w K (.Tuple es x1 pp) (nS K a) [z,j] z (λ i h=>(∃u,SL h z j i u)/\h.IsListIter j a i) where
 mem:=on
 obj:=λ i h q c hc=>by
  obtain⟨⟨u,q1⟩,⟨o4,g4,_,d4⟩⟩:=q;simp only[aB,bf,bd] at hc
  rcases hc with rfl|rfl
  .exact⟨_,q1,λ v y=>nomatch y⟩
  .exact⟨_,g4,λ v y=>by rw[d4] at y;cases y⟩
 keep:=λ i h h' q k=>by
  obtain⟨⟨u,q1⟩,q4⟩:=q;exact⟨⟨u,k _ on _ q1⟩,q4.at λ o g=>k _ on o g⟩
 item:=by
  intro X hP hw hK hc i Te s σ H E I hf st hg;subst hP hw hK;obtain⟨xs,x,hq,hx⟩:=hg;obtain⟨⟨u,q1⟩,q4⟩:=st;obtain⟨as,ra,pa,za⟩:=I.list hq;obtain⟨ux,hux,rux⟩:=ra.get hx;have ta:s.heap.IsList a as.toArray:=pa.isList;have az:a≠z:=by rintro rfl;obtain⟨o,g,c,_⟩:=ta;rw[q1] at g;cases g;simp at c
  have aj:a≠j:=by rintro rfl;obtain⟨o,g,c,_⟩:=ta;obtain⟨o4,g4,c4,_⟩:=q4;rw[g4] at g;cases g;rw[c4] at c;simp at c
  have il:i<as.toArray.size:=by simpa using (aY.mp hux).1
  refine vF (Draws.list (A:=X.A.in1) (I.ok.hd hc) j a aj as.toArray) q1 ⟨q4,ta⟩ il zj (by simp only[aB,bf,bd,not_or];exact⟨zj,az.symm⟩) λ y m tk hy zo st' np sz bt=>?_;have yu:y=ux:=by simp only[nN] at hy;rw[hux] at hy;exact(bv hy).symm
  subst yu
  have I1:Inv X Te σ H { s with heap:=m,toks:=tk+1 }:=I.turnedL (t':=tk+1) (fl:=[z,j]) (λ c o hc e=>by
   simp only[aB,bf,bd,not_or] at hc
   exact bt c o hc.1 hc.2 e) hf
  obtain⟨f0,f1,f2,f3,f4,f5⟩:=I.fpOk (ao s.heap.objs.size) (I.hok.fresh (ao _))
  have n0:X.s₀.heap.get? s.heap.objs.size=Oj:=by
   cases q:X.s₀.heap.get? s.heap.objs.size with
   |none=>rfl
   |some o=>exact XU (bG (aM q) I.sz) (dM _)
  have I2:Inv X Te σ (Ti H s.heap.objs.size (.tup [.int i,x])) { s with heap:=m,toks:=tk+1 }:=I1.track f0 ⟨small on,[.int i tk,y],.cons (show RelV (V.int i) (QY i tk) from ⟨_,rfl⟩) (.cons rux .nil),⟨_,np,⟨rfl,_,rfl⟩,rfl⟩⟩ f1 f4 f5 n0;have lt:∀ {c o},s.heap.get? c=Oh o->c≠s.heap.objs.size:=λ e=>be (aM e);have zT:z≠s.heap.objs.size:=lt q1;obtain⟨e0,e1,e2,e3,e4,e5⟩:=hf z on;refine⟨_,O,vG zo λ h2 z2 sb=>?_⟩;have I3:Inv X Te σ (Ti H s.heap.objs.size (.tup [.int i,x])) { s with heap:=h2,toks:=tk+1 }:=Inv.turned (s:={ s with heap:=m,toks:=tk+1 }) (h':=h2) (t':=tk+1) (it:=z) I2 (λ c o hc e=>sb.extBut _ _ hc e) (by rw[aA zT];exact e0) e1 e3 e4 e5;refine⟨.ref s.heap.objs.size,_,I3,O,⟨_,x,O,f0,O,λ xs' k1=>?_⟩,⟨⟨_,by simpa using z2⟩,st'.1.at λ o g=>sb.extBut _ _ zj.symm g⟩,λ c hc=>?_⟩
  .rw[I.list_inj k1 hq];exact hx
  .have cT:c≠s.heap.objs.size:=by
    obtain⟨o4,g4,_⟩:=q4;simp only[aB,bf,bd] at hc
    rcases hc with rfl|rfl
    .exact zT
    .exact lt g4
   rw[aA cT];exact(hf c hc).1
 done:=by
  intro X hP hw hK hc i Te s σ H E I hf st hg;subst hP hw hK;obtain⟨xs,hq,hx⟩:=hg;obtain⟨⟨u,q1⟩,q4⟩:=st;obtain⟨as,ra,pa,za⟩:=I.list hq;have la:=ra.length;refine wpAny_pyNext_enum_end (I.ok.hd hc) (i:=i) (by simpa using q1) q4 pa.isList (by simp;lia) λ m bt=>⟨O,?_⟩
  exact I.turnedL (t':=s.toks) (fl:=[z,j]) (λ c o hc e=>by
   simp only[aB,bf,bd,not_or] at hc
   exact bt c o hc.2 e) hf
 self:=λ _ _ _ _ _ st h=>let ⟨⟨_,q1⟩,_⟩:=st;nR q1 h
section
variable {es:List Expr}{x1:Nat}{pp:Pos}
noncomputable def EM(K:FG)(te:TE):TI:=λ σ H R=>te σ H λ v H1=>∃a xs,v=.ref a/\SqL K H1 a xs/\R (nS K a) H1
theorem EN{p pos:Pos}(hg:Gl X "enumerate")(hm:X.mg "enumerate"=Oj)(he:PE X e te)(hs:OE [e] X.env=[(Ol,eval e X.env)]:=by rfl) :
  PI X (.Tuple es x1 pp) (.Call (.Name "enumerate" p) [e] [] pos) (EM X.K te):=by
 intro Te s σ H R I h;have hA:=(da he (pa_nil (X:=X)) hs) pos Te s σ H (λ vs H1=>match vs with|[x]=>∃a xs,x=.ref a/\SqL X.K H1 a xs/\R (nS X.K a) H1|_=>False) I h;refine QD (dZ I hg hm RX (gh (To hA λ us s1 ⟨vs,H1,I1,r1,q1⟩=>?_) hs rfl))
 match vs,q1 with
 |[x],⟨a,xs,e,hq,q⟩=>
  subst e;obtain⟨u,rfl,ru⟩:=cB r1;cases (show u=OL a from ru);obtain⟨as,va,pa,za⟩:=I1.list hq;refine call_enumerate_list pa.isList λ m w1 w2 sz kk=>?_;have I2:Inv X Te σ H1 { s1 with heap:=m }:=I1.kept (t':=s1.toks) kk;refine nR w1 ⟨s1.heap.objs.size+1,[s1.heap.objs.size+1,s1.heap.objs.size],_,_,H1,O,I2,EL (qP _),⟨⟨_,w1⟩,w2⟩,λ c hc=>?_,q⟩
  have ge:s1.heap.objs.size<=c:=by
   simp only[aB,bf,bd] at hc
   rcases hc with rfl|rfl<;>lia
  exact I1.fpOk ge (I1.hok.fresh ge)
end
section
variable {tg:Expr}
end
noncomputable def EO(K:FG):R2:=λ x y H Q=>∃l b xs zs,x=.ref l/\y=.ref b/\SqL K H l xs/\SqL K H b zs/\xs.length+zs.length<=Oq/\∀p,H p=Oj->Q (.ref p) (Ti H p (.lst (xs++zs)))
def EQ:TC X (OX .Add) (EO X.K):=by
 intro Te s σ H x y v u Q I rx ry h;obtain⟨l,b,xs,zs,rfl,rfl,hH,hB,hz,q⟩:=h;cases rx;cases ry;obtain⟨its,r,⟨⟨c1,d1,z1,l1⟩,n,e,hc,hd,hs⟩,_⟩:=I.list hH;obtain⟨its2,r2,⟨⟨c2,d2,z2,l2⟩,n2,e2,hc2,hd2,hs2⟩,_⟩:=I.list hB;simp only at hc hd hs hc2 hd2 hs2;subst hc hd hs hc2 hd2 hs2;have a1:=r.length;have a2:=r2.length;have ea:its.toArray++its2.toArray=(its++its2).toArray:=on;refine nz ⟨_,e,O⟩ ⟨_,e2,O⟩ noFill_list_add seq_list_add F.slot_list_add F.entry_list_add (F.args_list_add_2 _ _) (list_addW l b its.toArray its2.toArray n n2 _ _ _ _ (by rw[aZ,aZ];lia)) ⟨e,e2,?_⟩;rw[ea];exact⟨.ref _,_,I.lnew (t':=s.toks) (r.append r2) (by rw[aF];lia),O,q _ I.fresh⟩
section
variable {pg:Ov}{wd:Ow}{B:Oy}{X0:VS}{s0:Oo}
end
section
variable {es:List Expr}{x1:Nat}{pp:Pos}
end
end _L
namespace _L
open PySem PySem.Spec PyProof.Rows PySem.W PySem.Calls
noncomputable def ES(i j:Int):Prop:=QN i j
def ET:TC X (OX .Mult) (rI ES λ i j=>.int (i*j)):=Vl λ _ _ _ _ _ _ _ hc q=>mul_int q hc
section
variable {prog:Ov}{w:Ow}{A:Oy}{E:VS}{s:Oo}
theorem vH{l:On}{T:String}{vs:LV}{Q:VS}(hT:T="list" \/ T="tuple")(ho:s.heap.get? l=Oh o)(hc:o.cls=.type T)(hd:o.data=.seq vs.toArray n)(hI:Qe vs ns)(h64:vs.length<64)
  (h:∀(h1 h2:Oz) (vs':LV) (ns':LI) (e:Nat),(∀b u,s.heap.get? b=Oh u->h1.get? b=Oh u)->(∀b u,h1.get? b=Oh u->h2.get? b=Oh u)->h2.get? h1.objs.size=Oh (Ta "list" vs'.toArray e)->Qe vs' ns'->ns'.Perm ns->ns'.Pairwise (·<=·)->Q (.ref h1.objs.size) { s with heap:=h2 }) :
  Op (Ou prog w) A (call (.builtin "sorted") [.ref l]) Q E s:=by
 refine Calls.call_function_entry kind_sorted plain_sorted entry_sorted (args_sorted1 _) ?_;unfold Builtin.«sorted»;refine ae (m:=checkCount "sorted" 1 1 _) (au ?_);refine ae (wpAny_collect_seq l hT ho hc hd (λ h1 k1=>?_) (by simp only[aZ];exact dN (aL Z)));rw[show vs.toArray.toList=vs by simp];refine ae (wpAny_newList ?_);have hoL:(h1.push (Ta "list" vs.toArray 0)).get? h1.objs.size=Oh (Ta "list" vs.toArray 0):=bn _ rfl;refine ae (eK (fJ slot_list_sort ⟨_,hoL,O⟩ entry_list_sort (list_sort_tree hoL hI h64 λ out ns' a1 a2 a3=>⟨_,O,?_⟩) (args_list_sort _)));refine au ⟨_,O,?_⟩;obtain⟨e,he⟩:=sortedHeap_at (vs:=vs) (out:=out) hoL;refine h h1 _ out.toList ns' e k1 (λ b u q=>?_) (by rw[s0b];exact he) a1 a2 a3;have hlt:=aM q;rw[sortedHeap_old (be hlt) (by rw[size_push'];exact eh hlt)];exact aO _ q
end
theorem vI:∀ {xs:List V}{us:LV},xs.length=us.length->(∀(i:Nat) u,us[i]?=Oh u->∃x,xs[i]?=Oh x/\RelV x u)->Vals xs us
 |[],[],_,_=>.nil
 |[],_::_,h,_=>by simp at h
 |_::_,[],h,_=>by simp at h
 |x::xs,u::us,h,f=>by
  obtain⟨y,e,r⟩:=f 0 u rfl;cases (bv e);exact .cons r (vI (by simpa using h) λ i v e=>f (i+1) v e)
variable {X:Cx}
def EU:bZ X (.builtin "sorted") (λ xs H Q=>∃p ns,xs=[.ref p]/\(SqL X.K H p (Pc V.int ns)\/SqT X.K H p (Pc V.int ns))/\ns.length<64/\∀ns':LI,ns'.Perm ns->ns'.Pairwise (·<=·)->∀l,H l=Oj->Q (.ref l) (Ti H l (.lst (ns'.map V.int)))):=by
 intro Te s σ H xs us Q I r h;obtain⟨p,ns,rfl,hq,h64,q⟩:=h;obtain⟨u,rfl,rx⟩:=cB r;cases rx
 have fin:∀(h1 h2:Oz) (vs':LV) (ns':LI) (e:Nat),(∀b u,s.heap.get? b=Oh u->h1.get? b=Oh u)->(∀b u,h1.get? b=Oh u->h2.get? b=Oh u)->h2.get? h1.objs.size=Oh (Ta "list" vs'.toArray e)->Qe vs' ns'->ns'.Perm ns->ns'.Pairwise (·<=·)->EP X Te σ Q (.ref h1.objs.size) { s with heap:=h2 }:=by
  intro h1 h2 vs' ns' e k1 k2 g a1 a2 a3;have I1:Inv X Te σ H { s with heap:=h1 }:=I.kept (t':=s.toks) k1;have hz:(ns'.map V.int).length<=Oq:=by rw[ag,a2.length_eq];exact dN (aL Z)
  have I2:Inv X Te σ (Ti H h1.objs.size (.lst (ns'.map V.int))) { s with heap:=h2 }:=I1.laid (t':=s.toks) k2 (ao _) (show ObjOk X.prog X.w _ _ _ (.lst (ns'.map V.int)) from ⟨hz,vs',e,qB a1,g⟩);exact⟨.ref h1.objs.size,_,I2,O,q ns' a2 a3 _ (I1.hok.fresh (ao _))⟩
 rcases hq with hq|hq
 .obtain⟨its,r',pl,hz⟩:=I.list hq;have hi:=lB r';obtain⟨o,ho,hc,n,hd⟩:=pl.isList;exact vH (.inl rfl) ho hc hd hi (by rw[hi.length];exact h64) fin
 .obtain⟨its,r',pl,hz⟩:=I.tuple hq;have hi:=lB r';obtain⟨o,ho,hc,n,hd⟩:=pl;exact vH (.inr rfl) ho hc hd hi (by rw[hi.length];exact h64) fin
def EW:bZ X (.type "range") (λ xs H Q=>∃j:Int,xs=[.int j]/\∀r,H r=Oj->Q (.ref r) (Ti H r (.rng 0 j))):=by
 intro Te s σ H xs us Q I r h;obtain⟨j,rfl,q⟩:=h;obtain⟨u,rfl,t,rfl⟩:=cB r;refine call_range_1 ⟨.ref s.heap.objs.size,_,I.laid (λ b o e=>aO _ e) (ao _) ?_,O,q _ (I.hok.fresh (ao _))⟩;exact⟨_,_,_,bn _ rfl⟩
noncomputable def TD(n:Nat):LI:=(OB n).map λ(i:Nat)=>(i:Int)
def EX(hc:X.calm=Oi):bZ X (.type "list") (λ xs H Q=>∃p n,xs=[.ref p]/\H p=Oh (.rng 0 (QE n))/\n<=1000/\∀l,H l=Oj->Q (.ref l) (Ti H l (.lst ((TD n).map V.int)))):=by
 intro Te s σ H xs us Q I r h;obtain⟨p,n,rfl,hp,hn,q⟩:=h;obtain⟨u,rfl,rx⟩:=cB r;cases rx;obtain⟨t,u,v,e⟩:=I.hok p _ hp
 have hs:Pj 0 (QE n) 1=Oi:=by
  have z:∀m:Fin 1001,Pj 0 (QE m.val) 1=Oi:=by decide +kernel
  exact z ⟨n,Z⟩
 have hsz:OG 0 (QE n) 1=n:=by
  unfold OG;rw[XT ca];split
  .show(QE n-0-1)/1+1=_;simp; 
  .simp at *;lia
 refine call_list_range (I.ok.hd hc) e hs hsz Z λ h' tk acc' c' k g it=>?_
 have rv:Vals ((TD n).map V.int) acc'.toList:=by
  refine vI (by simp[TD,it.1]) λ i v e=>?_;rw[qA] at e;obtain⟨tt,rfl⟩:=it.2 i v e;have hi:i<n:=by rw[<- it.1];exact(vt.mp e).1
  exact⟨.int i,by simp[TD,hi],tt,on⟩
 exact⟨.ref s.heap.objs.size,_,I.laid k (ao _) (show ObjOk X.prog X.w _ _ _ (.lst _) from ⟨by simp[TD];exact dN (aL hn),acc'.toList,c',rv,by rw[s0b];exact g⟩),O,q _ (I.hok.fresh (ao _))⟩
def EY:VC X "list.pop" lJ:=Dn
theorem vJ{X:Cx}{i:Nat}{elt tg iter:Expr}{cl:LA}{pos pos' lpos:Pos}{own fv:List Str}{js:List Nat}
  (hN:X.N.Nodup) (hx1:X.N[i]?=Oh x) (hx:UH X.env.scope x) (hf:X.fn x=Oi\/X.env.scope.names.lookup x=Oh .local)
  (hc:X.calm=Oi) (hi:PI X tg iter wi) (hclos:OS scope X.env=OF cl) (hcell:∀y∈scope.names,y.2≠.cell) (Tp:scope.kind=.function)
  (hnames:∀y∈scope.names,y.2=.local->scope.names.lookup y.1=Oh .local)
  (hcl:∀x c,cl.lookup x=Oh c->X.env.cells.lookup x=Oh c)
  (hhas:∀x,((OY scope X.env).names.lookup x=Oh .cell\/(OY scope X.env).names.lookup x=Oh .free)->∃c,cl.lookup x=Oh c)
  (Tj:js.length=fv.length) (hcap:∀(i:Nat) x j,fv[i]?=Oh x->js[i]?=Oh j->Vd X scope cl x j)
  (hg:∀(C:On) (ex:List On) (s:Oo) (H:Hp),PG (bz X (own++fv) scope cl C ex s H) tg g)
  (he:∀(C:On) (ex:List On) (s:Oo) (H:Hp),PE (bz X (own++fv) scope cl C ex s H) elt te)
  (hsw:PP (.ListComp elt [⟨tg,iter,[],0⟩] scope lpos) (Oh (.Name x pos')) pos.line X.env=OF Oi:=by rfl)
  (hs:∀x,OZ iter X.env x=OF x:=by intro _;rfl) :
  PS X (.Assign [.Name x pos'] (.ListComp elt [⟨tg,iter,[],0⟩] scope lpos) pos) (iT (gp wi own.length js g te) (cV i)):=by
 intro Te s σ H D I h;rw[vK _ _ _ _ hsw];refine ae (iS ?_);rw[vL];have core:=vf (use:=Oh (PJ (.Name x pos') X.env)) (QQ:=λ _ s'=>SP X Te D .next s') (fpos:=firstIterPos [⟨tg,iter,[],0⟩] lpos) (pos:=lpos) hc hi hclos hcell Tp hnames hcl hhas Tj hcap hg he hs I h (λ a C s5 H5 fl I5 zC zL zS zc zp ⟨m,hn⟩ q=>?_)
 .refine ae (ae (To core λ _ s' hq=>?_));exact au (au hq)
 .show Op (Ou X.prog X.w) X.A (PJ (.Name x pos') X.env (.ref a)) _ X.xe s5;show Op (Ou X.prog X.w) X.A (do Qz pos';bindName X.env x (.ref a)) _ X.xe s5;refine ae (iS ?_);refine bindName_ ?_;refine pV I5 hN hx1 hx (show RelV (.ref a) (.ref a) from rfl) (λ s6 I6 ⟨b,sb,hb⟩=>?_) hf
  have cb:C≠b:=by
   rcases hb with rfl|hb
   .exact zL
   .exact λ z=>zc x b hb z.symm
  obtain⟨o,es,ep,e,r⟩:=hn;refine⟨m,⟨o,es,ep,(sb.2 C cb).trans e,r⟩,λ h' sc=>?_⟩;exact⟨_,H5,I6.turned (t':=s6.toks) (it:=C) (λ d o nd e=>sc.extBut d o nd e) zC zL (.inr zS) zc zp,q⟩
noncomputable def EZ:V->Option Int->Option Int->Hp->VK->Prop:=λ x lo hi H Q=>∃z,x=.str z/\z.length<=4000000/\Q (.str (Txt.slice z lo hi)) H
def Fa:VB X EZ:=by
 intro Te s σ H x v vl vu lo hi sl Q I rx hs pl pu h;obtain⟨z,rfl,hz,q⟩:=h;obtain⟨t,rfl⟩:=rx;have s20:4000000<=Oq:=by rw[jO];decide
 have part:∀ {u:Value}{o:Option Int},Qa u o->∃l,u=partValue l/\o=l.map λ p:Int×Tok=>p.1:=λ p=>by
  cases p with
  |none=>exact⟨Oj,rfl,rfl⟩
  |int i t=>exact⟨Oh (i,t),rfl,rfl⟩
 obtain⟨l,rfl,rfl⟩:=part pl;obtain⟨u,rfl,rfl⟩:=part pu;obtain⟨o,ho,hc,hd⟩:=hs;refine⟨"str",_,F.slot_str_getitem.lookup,RR _ _ _,wpAny_getItem_str_slice (l:=l) (u:=u) (st:=Oj) ⟨o,ho,hc,hd⟩ rfl ?_⟩;have le:=Txt.slice_le z (l.map λ p:Int×Tok=>p.1) (u.map λ p:Int×Tok=>p.1);exact post_val_or_str ⟨cL le Z,λ t' k=>⟨.str _,H,I.tok k,⟨t',O⟩,q⟩⟩
theorem vM:∀ {bs:List Bool}{us:LV},Vals (bs.map V.bl) us->us=bs.map PB
 |[],_,.nil=>rfl
 |b::bs,_,.cons r t=>by
  cases (show _=PB b from r);rw[vM t];rfl
def Fb(hc:X.calm=Oi):bZ X (.builtin "any") (λ xs H Q=>∃(a:On) (bs:List Bool),xs=[.ref a]/\SqL X.K H a (bs.map V.bl)/\Q (.bl (bs.any id)) H):=by
 intro Te s σ H xs us Q I r h;obtain⟨a,bs,rfl,hq,q⟩:=h;obtain⟨u,rfl,ru⟩:=cB r;cases (show u=OL a from ru);obtain⟨its,rv,pl,hz⟩:=I.list hq;have hl:=pl.isList;have hlt:a<s.heap.objs.size:=by obtain⟨_,e,_⟩:=hl;exact aM e
 have hb:=vM rv;subst hb;refine call_any_walk (Rk hl ?_)
 refine⟨s.heap.objs.size,[s.heap.objs.size,a],[s.heap.objs.size],(bs.map PB).toArray.size,_,_,λ i=>(bs[i]?).getD Ol,O,Walks.list (A:=X.A.in1) (I.ok.hd hc) _ a (be hlt) (bs.map PB).toArray,
  ⟨⟨_,bn _ rfl,rfl,rfl⟩,hl.push _⟩,λ i v s' Q' E' hP hQ=>?_,λ h' tk hk=>?_⟩
 .have hP:(bs.map PB)[i]?=Oh v:=by simpa using hP
  rw[bh] at hP
  cases e:bs[i]? with
  |none=>rw[e] at hP;cases hP
  |some b=>
   rw[e] at hP;cases hP;simp only[e,Option.getD_some] at hQ;exact ga hQ
 .have e:((OB (bs.map PB).toArray.size).any λ i=>(bs[i]?).getD Ol)=bs.any id:=by
   rw[aZ,ag];exact LSm.range_any bs
  rw[e];exact⟨.bl _,H,I.kept (t':=tk) (LSm.kept_iter hk),O,q⟩
section
variable {κ:Type} [DecidableEq κ]
end
section
variable {P:Ov}{w:Ow}{H:Hp}{h:Oz}{a:On}
end
section
variable {Te:LO}{σ:St}{H:Hp}{s:Oo}{a:On}{y v:V}{u r:Value}{o:Option V}{A:Oy}{E:VS}
end
section
variable {Te:LO}{σ:St}{H:Hp}{s:Oo}{a:On}{kvs:List (TM×V)}{k:TM}{u:Value}{A:Oy}{E:VS}
end
noncomputable def vP(i:Expr):Prop:=∀ov iv,QJ i Ol ov iv=operate [ov,iv] (PZ ov iv)
theorem Fc{T id:String}
  (hl:Ps (.type T) "__getitem__"=OF (Oh (.builtin id))) (hs:vP slice)
  (h:Op (Ou prog w) A (eval value env) (λ o s₁=>Op (Ou prog w) A (eval slice env) (λ i s₂=>s₂.TypeIs o T/\Op (Ou prog w) A (PZ o i) Q E s₂) E s₁) E s) :
  Op (Ou prog w) A (eval (.Subscript value slice pos) env) Q E s:=by
 refine RK (cz h (λ o s₁ h₁=>cz h₁ (λ i s₂ h₂=>?_) λ _ _ x=>x) λ _ _ x=>x);obtain⟨hT,h₂⟩:=h₂;unfold Qx;refine ae ?_;rw[getitemInPython_of_ne hT.not_modules];refine ae (iu hT hl ?_)
 have fin:Op (Ou prog w) A (QJ slice Ol o i) (λ r s₃=>Op (Ou prog w) A (letTemporaryGo value o r >>= λ _=>OF r) Q E s₃) E s₂:=by
  rw[hs o i];exact wpAny_operating (cz h₂ (λ r s₃ h₃=>ae (wpAny_letTemporaryGo (au h₃))) λ _ _ x=>x)
 first
  |exact au (ae fin)
  |exact ae (au (ae fin))
  |exact ae fin
section
variable {o i e value:Expr}{pos pos' tpos:Pos}{td ty tv:TE}
end
section
variable {pos:Pos}
end
section
variable {Te:LO}{σ:St}{H:Hp}{s:Oo}{a:On}{y d:V}{u r:Value}{o:Option V}{A:Oy}{E:VS}
end
section
variable {o e f:Expr}{apos cpos:Pos}{td ty tx:TE}
end
section
variable {Te:LO}{σ:St}{H:Hp}{s:Oo}{a:On}{kvs:List (TM×V)}{A:Oy}{E:VS}
end
section
variable {Te:LO}{σ:St}{H:Hp}{s:Oo}{a:On}{y:V}{u:Value}{A:Oy}{E:VS}
end
section
variable {κ:Type} [DecidableEq κ]
end
noncomputable def KTab(P:Ov)(w:Ow)(K:FG)(d:On)(kvs:LA):Prop:=(d == Qy)=Ol/\∀h:Oz,K.In h->h.DictOf (pS P w) d (kvs.map λ p=>((Pf p.1:TM),OL p.2))
noncomputable def Fd(pm:Params)(l:List (Str×Tok×On)):List DictEntry:=l.map λ p=>⟨ON pm p.1,.str p.1 p.2.1,.ref p.2.2⟩
theorem KTab.mk{w:Ow}{K:FG}{d:On}(hd:(d == Qy)=Ol)(hl:K.lookup d=Oh { cls:=.type "dict",data:=.dict es n })(he:es.toList=Fd w.params l)(nd:(l.map (·.1)).Nodup) :
  KTab P w K d (l.map λ p=>(p.1,p.2.2)):=by
 refine⟨hd,λ h KI=>⟨_,es,n,KI d _ hl,⟨O,O,O⟩,O,?_,?_,?_⟩⟩
 .intro e hm;have hm:e∈es.toList:=Array.mem_toList_iff.mpr hm;rw[he] at hm;obtain⟨p,_,rfl⟩:=bq.mp hm;exact⟨Pf p.1,pQ p.1 p.2.1,O⟩
 .rw[he];clear he nd hl
  induction l with
  |nil=>exact .nil
  |cons p r ih=>exact .cons (pQ p.1 p.2.1) rfl ih
 .rw[bJ,bJ];have e:((λ x:TM×Value=>x.1) ∘ (λ p:Str×On=>((Pf p.1:TM),OL p.2))) ∘ (λ p:Str×Tok×On=>(p.1,p.2.2))=(λ x:Str=>(Pf x:TM)) ∘ λ p=>p.1:=rfl;rw[<- bJ] at *
  have z:(l.map λ p=>(Pf p.1:TM)).Nodup:=by
   have:(l.map λ p=>(Pf p.1:TM))=(l.map (·.1)).map (λ x:Str=>(Pf x:TM)):=by rw[bJ];rfl
   rw[this];exact List.Pairwise.map _ (λ a b (h:a≠b) z=>h (s1n z)) nd
  simpa [bJ,Function.comp_def] using z
def Fe{kvs:LA}:Qn (kvs.map λ p=>((Pf p.1:TM),OL p.2)) (Pf x)=(kvs.lookup x).map OL:=by
 induction kvs with
 |nil=>rfl
 |cons p r ih=>
  obtain⟨k,a⟩:=p;unfold Qn at *;rw[cO,Pl,dR];by_cases e:x=k
  .subst e;simp
  .have h1:decide ((Pf k:TM)=Pf x)=Ol:=bD λ z=>e (s1n z).symm;have h2:(x == k)=Ol:=pR.mpr e;rw[h2];simp only[h1];exact ih
noncomputable def Ff(kvs:LA):V->Hp->VK->Prop:=λ y H Q=>∃x a,y=.str x/\kvs.lookup x=Oh a/\Q (.ref a) H
noncomputable def Fg(kvs:LA)(te:TE):TE:=λ σ H Q=>te σ H λ y H1=>Ff kvs y H1 Q
theorem Fh(hg:Gl X n)(hm:X.mg n=Oh (.ref d))(T:KTab X.prog X.w X.K d kvs)(hi:PE X i te)(hs:vP i)(hdb:(n == ("__debug__" : Str))=Ol:=by decide) :
  PE X (.Subscript (.Name n np) i pos) (Fg kvs te):=by
 intro Te s σ H Q I h;refine Fc PySem.F.slot_dict_getitem.lookup hs (mU I hg hm (To (hi Te s σ H _ I h) λ iv s2 ⟨y,H2,I2,ry,x,a,ey,l,q⟩=>?_) hdb);subst ey;obtain⟨t,rfl⟩:=ry;have dd:=T.2 s2.heap I2.kIn;refine⟨dd.typeIs,wpAny_getItem_of (pQ x t) dd.mapOf (v:=.ref a) (by rw[Fe,l];rfl) ⟨.ref a,H2,I2.tok _,O,q⟩⟩
noncomputable def KTup(K:FG)(a:On)(xs:List V):Prop:=∃(o:Obj) (its:Array Value) (n:Nat),K.lookup a=Oh o/\o.cls=.type "tuple" /\ o.dict=Oj/\o.data=.seq its n/\its.size<=Oq/\Vals xs its.toList
def KTup.sq{K:FG}(h:KTup K a xs):SqT K H a xs:=.inr h
section
variable {pg:Ov}{wd:Ow}{B:Oy}{X0:VS}{s0:Oo}
end
section
variable {es:List Expr}{x1:Nat}{pp:Pos}
end
section
variable {P:Ov}{w:Ow}{K:FG}{mg:SV}{base:Oz}
end
section
variable {CX:UE}{k:Nat}{ps:List Str}{dvs:List V}{sp:Sp}{E:XK}{x:Str}{p pos:Pos}{e:Expr}{es:List Expr}{t:TA}
end
section
open PySem.Builtin PySem.Builtin.Str
end
section
variable {pg:Ov}{wd:Ow}{B:Oy}{X0:VS}{s0:Oo}{J d:On}{m:Nat}{Pr:Nat->Value->Prop}{OK:Oz->Prop}
end
section
variable {pg:Ov}{wd:Ow}{B:Oy}{X0:VS}{z0:Oo}
end
def Fi(r:Vals xs us){j:Nat}(h:j<us.toArray.size):∃z,xs[j]?=Oh z/\RelV z us.toArray[j]:=by
 have l:=r.length;have k:j<xs.length:=by rw[l];simpa using h
 obtain⟨u,hu,ru⟩:=r.get (bc k)
 have e:us.toArray[j]=u:=by
  have z:us[j]?=Oh (us[j]'(by simpa using h)):=bc _;rw[z] at hu;simpa using hu
 exact⟨_,bc k,by rw[e];exact ru⟩
section
variable {Te:LO}{σ:St}{H:Hp}{s:Oo}
end
noncomputable def Fj(K:FG)(tl:TE):TI:=λ σ H R=>tl σ H λ x H1=>(∃a,x=.ref a/\(∃xs,SqL K H1 a xs)/\R (Ww K a) H1)\/(∃a,x=.ref a/\(∃xs,SqT K H1 a xs)/\R (Wx K a) H1)
def Fk(hl:PE X l tl):PI X tg l (Fj X.K tl):=by
 intro Te s σ H R I h;refine To (hl Te s σ H _ I h) λ v s1 ⟨x,H1,I1,r1,q1⟩=>?_
 rcases q1 with ⟨a,e,⟨xs,hq⟩,q⟩|⟨a,e,⟨xs,hq⟩,q⟩
 .subst e;cases r1;obtain⟨its,rv,p,hz⟩:=I1.list hq;refine Rk p.isList ?_;refine⟨s1.heap.objs.size,[s1.heap.objs.size],_,_,H1,O,I1.kept (t':=s1.toks) λ b o e=>aO _ e,BG a _,⟨_,bn _ rfl,O,O⟩,λ b hb=>?_,q⟩;have e:b=s1.heap.objs.size:=by simpa using hb
  subst e;exact I1.fpOk (ao _) (I1.hok.fresh (ao _))
 .subst e;cases r1;obtain⟨its,rv,p,hz⟩:=I1.tuple hq;refine nQ (show s1.heap.IsTuple a its.toArray from p) ?_;refine⟨s1.heap.objs.size,[s1.heap.objs.size],_,_,H1,O,I1.kept (t':=s1.toks) λ b o e=>aO _ e,BH a _,⟨_,bn _ rfl,O,O⟩,λ b hb=>?_,q⟩;have e:b=s1.heap.objs.size:=by simpa using hb
  subst e;exact I1.fpOk (ao _) (I1.hok.fresh (ao _))
section
variable {tg:Expr}
end
theorem lP:∀(names:List (Str×OD)) (n:Nat) (acc:LA),OH n names acc=OH n names []++acc
 |[],_,_=>rfl
 |(x,k)::r,n,acc=>by
  unfold OH;split
  .rw[lP r (n+1) ((x,n)::acc),lP r (n+1) [(x,n)],im];rfl
  .exact lP r n acc
theorem gN{α:Type}:∀ {a b:List (Str×α)}{x:Str},(a++b).lookup x=match a.lookup x with|some c=>Oh c|none=>b.lookup x
 |[],_,_=>rfl
 |(y,c)::a,b,x=>by
  rw[nT,dR,dR]
  cases x == y with
  |true=>rfl
  |false=>exact gN
theorem vQ{α:Type}{y:Str}:∀ {cl:List (Str×α)}{q:Str×α},q∈cl->q.1=y->(cl.lookup y).isSome=Oi
 |a::r,q,hq,e=>by
  rw[dR]
  cases q0:y == a.1 with
  |true=>rfl
  |false=>
   rcases aB.mp hq with z|z
   .rw[<- z,e,jW] at q0;cases q0
   .exact vQ z e
theorem vR{α:Type}:∀ {cl:List (Str×α)}{q:Str×α},(cl.map (·.1)).Nodup->q∈cl->cl.lookup q.1=Oh q.2
 |a::r,q,nd,hq=>by
  rw[dR]
  rcases aB.mp hq with z|z
  .rw[<- z,jW]
  .have na:=(gi.mp nd).1
   have:(q.1 == a.1)=Ol:=by
    cases q0:q.1 == a.1 with
    |false=>rfl
    |true=>exact XU (bq.mpr ⟨q,z,ij q0⟩) na
   rw[this];exact vR (gi.mp nd).2 z
theorem nU{x:Str}:∀ {names:List (Str×OD)}{n:Nat},(∀y∈names,y.2=.cell->y.1≠x)->(OH n names []).lookup x=Oj
 |[],_,_=>rfl
 |(y,k)::r,n,h=>by
  unfold OH;split
  .rename_i hk;rw[lP,gN,nU λ z hz=>h z (aW _ hz)];have hy:y≠x:=h (y,k) bg (ij hk);show Px x [(y,n)]=Oj;rw[dR]
   have:(x == y)=Ol:=by
    cases q:x == y with
    |false=>rfl
    |true=>exact XU (ij q).symm hy
   rw[this];rfl
  .exact nU λ z hz=>h z (aW _ hz)
section
variable {M:Model}{A:Oy}{E:VS}{s₀ s:Oo}{m cm:SV}{env:Env}{cs:LA}
theorem Fl{v:Value}{Q:Unit->Oo->Prop}(x:Qd s₀ env.locals m cs cm s)(hk:env.scope.kind=.function)(hl:env.kindOf n=Oh .local)
  (h:∀s',Qd s₀ env.locals (λ y=>if y=n then Oh v else m y) cs cm s'->Q () s'):Op M A (QH env n v) Q E s:=by
 refine tW hl x.toInCall.ns (λ h' hn' hs'=>h _ ⟨⟨?_,hn',λ b o e=>?_,x.toInCall.fresh⟩,λ k c hc=>?_,x.apart,x.above⟩) (by rw[hk];rfl)
 .obtain⟨h₁,tk,rfl⟩:=x.toInCall.same;exact⟨h',_,O⟩
 .exact hs'.extBut b o (be (bG (aM e) x.toInCall.fresh)) (x.toInCall.keep b o e)
 .exact(x.cell k c hc).sameBut hs' (s1h (x.above k c (dQ hc)))
theorem Fm{v:Value}{Q:Unit->Oo->Prop}(x:Qd s₀ env.locals m cs cm s)(hk:env.scope.kind=.function)(hl:env.kindOf n=Oh .cell)
  (hc:cs.lookup n=Oh c) (he:env.cells.lookup n=Oh c)
  (h:∀s',Qd s₀ env.locals m cs (λ y=>if y=n then Oh v else cm y) s'->Q () s'):Op M A (QH env n v) Q E s:=by
 have hLc:=x.above n c (dQ hc);refine tX hk hl he (x.cell n c hc) λ h' hc' hs'=>h _ ⟨⟨?_,x.toInCall.ns.sameBut hs' (be hLc),λ b o e=>?_,x.toInCall.fresh⟩,λ k c' hk'=>?_,x.apart,x.above⟩
 .obtain⟨h₁,tk,rfl⟩:=x.toInCall.same;exact⟨h',_,O⟩
 .exact hs'.extBut b o (be (s1k (bG (aM e) x.toInCall.fresh) hLc)) (x.toInCall.keep b o e)
 .by_cases hkn:k=n
  .subst hkn;rw[hc] at hk';cases hk';simpa using hc'
  .rw[XR hkn];exact(x.cell k c' hk').sameBut hs' λ e=>hkn (nr x.apart (dQ hk') (e ▸ dQ hc))
theorem qQ(f:Str×Value->PUnit->Sem (ForInStep PUnit))(hf:∀n v u,f (n,v) u=(do QH env n v;OF (.yield ⟨⟩)))(hk:env.scope.kind=.function)(hcs:∀n c,cs.lookup n=Oh c->env.cells.lookup n=Oh c) :
  ∀(binds:List (Str×Value)) (m cm:SV) (s:Oo) (Q:PUnit->Oo->Prop),Qd s₀ env.locals m cs cm s ->
   (∀x∈binds,env.kindOf x.1=Oh .local\/(env.kindOf x.1=Oh .cell/\(cs.lookup x.1).isSome=Oi)) ->
   (∀s',Qd s₀ env.locals (Qc env.kindOf binds m) cs (Qb env.kindOf binds cm) s'->Q ⟨⟩ s')->Op M A (forIn binds ⟨⟩ f) Q E s
 |[],m,cm,s,Q,x,_,h=>by rw[List.forIn_nil];exact au (h s x)
 |(n,v)::r,m,cm,s,Q,x,Tp,h=>by
  rw[lQ,hf];have hr:∀y∈r,env.kindOf y.1=Oh .local\/(env.kindOf y.1=Oh .cell/\(cs.lookup y.1).isSome=Oi):=λ y hy=>Tp y (aW _ hy)
  rcases Tp (n,v) bg with hl|⟨hl,hc⟩
  .refine ae (ae (Fl x hk hl λ s' x'=>au (qQ f hf hk hcs r _ _ s' Q x' hr λ s'' x''=>h s'' ?_)));unfold Qc Qb;rw[XT hl,XT hl];exact x''
  .obtain⟨c,hc⟩:=iY.mp hc;have hnl:¬env.kindOf n=Oh .local:=by rw[hl];decide
   refine ae (ae (Fm x hk hl hc (hcs n c hc) λ s' x'=>au (qQ f hf hk hcs r _ _ s' Q x' hr λ s'' x''=>h s'' ?_)));unfold Qc Qb;rw[XR hnl,XR hnl];exact x''
end
section
variable {M:Model}{A:Oy}{E:VS}{s:Oo}
theorem vS{scope:Scope}{globals:On}{cl:LA}{binds:List (Str×Value)}{code:Value}{Q:Env->Oo->Prop}
  (hk:scope.kind=.function)
  (Tp:∀x∈binds,scope.names.lookup x.1=Oh .local\/(scope.names.lookup x.1=Oh .cell/\((OH (s.heap.objs.size+1) scope.names []).lookup x.1).isSome=Oi))
  (hQ:∀env,env=newEnv scope s.heap.objs.size globals (OH (s.heap.objs.size+1) scope.names []++cl) qual func code Oj builtins ->
   ∀s',Qd s env.locals (Qc env.kindOf binds λ _=>Oj) (OH (s.heap.objs.size+1) scope.names []) (Qb env.kindOf binds λ _=>Oj) s'->Q env s') :
  Op M A (Sd scope globals cl binds qual func code Oj builtins) Q E s:=by
 simp only[Sd,Option.isSome_none,lT,iZ];refine ae (wpAny_alloc ?_);refine ae (wpAny_layCells _ (λ name kind cells=>by cases hkc:kind == Su<;>simp[hkc]) _ _ _ _ ?_);have ok:=cellsFrom_ok scope.names (s.heap.push { cls:=.type "frame",data:=.dict #[] }) (s.heap.objs.size+1) [] ⟨λ _ _ hm=>(nomatch hm),List.Pairwise.nil⟩ (by rw[jc];exact ao _);rw[jc] at ok;rw[show({ s with heap:=s.heap.push { cls:=.type "frame",data:=.dict #[] } }:Oo).heap.objs.size=s.heap.objs.size+1 from jc ..];rw[lP scope.names (s.heap.objs.size+1) cl]
 refine ae (qQ (s₀:=s) (cs:=OH (s.heap.objs.size+1) scope.names []) (env:=newEnv scope s.heap.objs.size globals (OH (s.heap.objs.size+1) scope.names []++cl) qual func code Oj builtins)
  _ (λ _ _ _=>rfl) hk (λ n c hc=>by show Px n (OH (s.heap.objs.size+1) scope.names []++cl)=Oh c;rw[gN,hc]) binds (λ _=>Oj) (λ _=>Oj) _ _
  ⟨⟨⟨_,_,rfl⟩,(Heap.Ns.new s.heap (.type "frame")).keeps (RO _ _),λ b o e=>RO _ _ b o (aO _ e),ao _⟩,
   λ n c hc=>(ok.empty n c (dQ hc)).1,ok.apart,λ n c hm=>(ok.empty n c hm).2⟩
  Tp λ s' x=>au (hQ _ rfl s' x))
end
noncomputable def jX(c:On)(v:V):HO:=.ext λ h=>∃u,RelV v u/\h.IsCell c (Oh u)
noncomputable def cr(c:On)(qual:Str):HO:=.ext λ h=>h.CodeRec (.ref c) qual
noncomputable def eX(fa c':On)(qual:Str)(params:Pa)(body:Expr)(scope:Scope)(cl:LA):HO:=.ext λ h=>∃pm ctv,h.get? fa=Oh (kla_obj "<lambda>" qual params body scope cl pm c' ctv)
structure CelAt (H:Hp)(cl:LA)(vcs:List V):Prop where
 len:cl.length=vcs.length
 at_:∀(i:Nat) q,cl[i]?=Oh q->∃v o,vcs[i]?=Oh v/\H q.2=Oh (.frz o (jX q.2 v))
 apart:cl.Pairwise λ x y=>x.2≠y.2
def CelAt.mem{cl:LA}(h:CelAt H cl vcs){q:Str×On}(hq:q∈cl):∃o v,H q.2=Oh (.frz o (jX q.2 v)):=by
 obtain⟨i,e⟩:=nV.mp hq;obtain⟨v,o,_,e2⟩:=h.at_ i q e;exact⟨o,v,e2⟩
open Classical in
noncomputable def minC(H:Hp)(cl:LA):Hp:=λ b=>if ∃q∈cl,q.2=b then Oj else H b
open Classical in
noncomputable def TH(H H':Hp)(cl:LA):Hp:=λ b=>if ∃q∈cl,q.2=b then H b else H' b
def jY{cl:LA}{q:Str×On}(h:q∈cl):minC H cl q.2=Oj:=XT ⟨q,h,rfl⟩
def bV{cl:LA}{b:On}(h:∀q∈cl,q.2≠b):minC H cl b=H b:=XR λ⟨q,hq,e⟩=>h q hq e
def Fn{cl:LA}(h:minC H cl b=Oh o):H b=Oh o/\∀q∈cl,q.2≠b:=by
 by_cases c:∃q∈cl,q.2=b
 .rw[show minC H cl b=Oj from XT c] at h;cases h
 .rw[show minC H cl b=H b from XR c] at h;exact⟨h,λ q hq e=>c ⟨q,hq,e⟩⟩
def gO{H:Hp}{cl:LA}(h:H b=Oj):minC H cl b=Oj:=by
 by_cases c:∃q∈cl,q.2=b
 .exact XT c
 .rw[show minC H cl b=H b from XR c];exact h
def eY{cl:LA}{q:Str×On}(h:q∈cl):TH H H' cl q.2=H q.2:=XT ⟨q,h,rfl⟩
def cQ{cl:LA}{b:On}(h:∀q∈cl,q.2≠b):TH H H' cl b=H' b:=XR λ⟨q,hq,e⟩=>h q hq e
def HOk.minC{cl:LA}(x:HOk P w H h)(hc:CelAt H cl vcs):HOk P w (minC H cl) h:=λ b o e=>by
 obtain⟨e1,_⟩:=Fn e
 have nf:∀c u,H c=Oh u->(∀ob v,u≠.frz ob v)->_L.minC H cl c=Oh u:=λ c u e2 n=>by
  rw[bV λ q hq z=>?_]
  .exact e2
  .obtain⟨ob,v,e3⟩:=hc.mem hq;rw[z,e2] at e3;exact n _ _ (bv e3)
 exact(x b o e1).stay (λ _ _ _ q=>q) (λ c q=>nf c _ q λ _ _ z=>nomatch z) λ c xs q=>nf c _ q λ _ _ z=>nomatch z
structure Tx (N ps fv:List Str)(sc:Scope):Prop where
 kind:sc.kind=.function
 co:sc.isCoroutine=Ol
 gen:sc.isGenerator=Ol
 nd:N.Nodup
 pre:N.take (ps++fv).length=ps++fv
 par:∀x∈ps,sc.names.lookup x=Oh .local\/sc.names.lookup x=Oh .cell
 fre:∀x∈fv,sc.names.lookup x=Oh .free
 has:∀y∈sc.names,y.2=.free->y.1∈fv
 own:∀x∈fv,∀y∈sc.names,y.2=.cell->y.1≠x
noncomputable def iw(P:Ov)(w:Ow)(K:FG)(mg:SV)(base:Oz)(N:List Str)(qual:Str)(scope:Scope)(f:On)(cd:Value)(cl:LA)(A:Oy)(outer:List Env)(s:Oo)(H:Hp):Cx where
 prog:=P
 w:=w
 K:=K
 mg:=mg
 base:=base
 A:=A.deeper (envX qual scope s.heap.objs.size f cd (OH (s.heap.objs.size+1) scope.names []++cl))
 N:=N
 s₀:=s
 H₀:=H
 env:=envX qual scope s.heap.objs.size f cd (OH (s.heap.objs.size+1) scope.names []++cl)
 outer:=outer
 stack:=envX qual scope s.heap.objs.size f cd (OH (s.heap.objs.size+1) scope.names []++cl)::outer
 ex:=[]
 calm:=Oi
 fn:=λ x=>decide (scope.names.lookup x=Oh .cell)
 pn:=[]
 xe:=λ _ _=>False
def Fo{vs:List V}{i:Nat}(h:(Tn N vs)[i]?=Oh (Oh v)):vs[i]?=Oh v:=by
 unfold Tn at h
 have hi:i<vs.length:=by
  by_cases hi:i<vs.length
  .exact hi
  .rw[cM (by simpa using hi),fI] at h;split at h<;>cases h
 rw[cN (by simpa using hi),bh] at h
 cases e:vs[i]? with
 |none=>rw[e] at h;cases h
 |some a=>rw[e] at h;cases h;rfl
theorem vT{K:FG}{cl:LA}{A:Oy}{s s1:Oo}{vs vcs:List V}
  (S:Tx N ps fv scope) (hd:A.handled=Oj) (e0:UA P w K mg base A outer s H) (hl:vs.length=ps.length) (r:Vals vs us) (hcl:cl.map (·.1)=fv) (hc:CelAt H cl vcs)
  (x:Qd s s.heap.objs.size (Qc (λ x=>scope.names.lookup x) (ps.zip us) λ _=>Oj) (OH (s.heap.objs.size+1) scope.names []) (Qb (λ x=>scope.names.lookup x) (ps.zip us) λ _=>Oj) s1) :
  Inv (iw P w K mg base N qual scope f cd cl A outer s (minC H cl)) [] (Tn N (vs++vcs)) (minC H cl) s1:=by
 obtain⟨h1,tk,rfl,hk⟩:=x.done;have cll:cl.length=fv.length:=by rw[<- hcl,ag]
 have hpl:(ps++fv).length<=N.length:=by have:=bw Ph S.pre;rw[aQ] at this;lia
 have noA:∀b:On,b ∉ (iw P w K mg base N qual scope f cd cl A outer s (minC H cl)).ex:=λ b z=>XU (show b∈([]:List On) from z) on
 have old:∀q∈cl,q.2<s.heap.objs.size:=λ q hq=>by
  obtain⟨o,v,e⟩:=hc.mem hq;exact e0.hok.lt e
 have celv:∀(i:Nat) q,cl[i]?=Oh q->∃v u,vcs[i]?=Oh v/\RelV v u/\h1.IsCell q.2 (Oh u):=λ i q e=>by
  obtain⟨v,o,e1,e2⟩:=hc.at_ i q e;obtain⟨_,⟨u,ru,ic⟩,_⟩:=e0.hok _ _ e2;exact⟨v,u,e1,ru,ic.keeps hk⟩
 have lk:∀y c,(OH (s.heap.objs.size+1) scope.names []++cl).lookup y=Oh c->(y,c)∈OH (s.heap.objs.size+1) scope.names []\/(y,c)∈cl:=λ y c e=>bY.mp (dQ e);have abv:∀y c,(y,c)∈OH (s.heap.objs.size+1) scope.names []->s.heap.objs.size<=c:=λ y c e=>dN (x.above y c e)
 refine⟨⟨e0.mod,S.kind,O,O,ao _,λ y z c h1 h2=>?_,λ y hy=>?_,λ y c hf h=>?_,λ _=>hd,uC e0.frames,.inr ⟨O,O⟩,λ b z=>XU z (noA b),λ b o e=>⟨(e0.bs b o e).1,gO (e0.bs b o e).2⟩,e0.bsz,λ b _ _=>noA b,λ b z=>XU z (noA b),e0.funs,λ b hb=>gO (e0.frf b hb)⟩,
  rfl,e0.bare,Un.kept hk,⟨_,x.toInCall.ns,λ i y v h1 h2 h3=>?_⟩,λ y c h=>?_,(e0.hok.minC hc).fresh (ao _),λ y c h=>?_,λ p hp=>XU (show p∈([]:LO) from hp) on,(e0.hok.minC hc).kept hk,?_⟩
 .rcases lk y c h1 with m1|m1<;>rcases lk z c h2 with m2|m2
  .exact nr x.apart m1 m2
  .exact XU (abv y c m1) (Nat.not_le_of_lt (old _ m2))
  .exact XU (abv z c m2) (Nat.not_le_of_lt (old _ m1))
  .exact nr hc.apart m1 m2
 .have hy:scope.names.lookup y=Oh .cell\/scope.names.lookup y=Oh .free:=hy
  rcases hy with hy|hy
  .obtain⟨c,e⟩:=lA (n:=s.heap.objs.size+1) hy;exact⟨c,by show Px y (OH (s.heap.objs.size+1) scope.names []++cl)=Oh c;rw[gN,e]⟩
  .have hm:=S.has _ (dQ hy) rfl;have hm:y∈cl.map (·.1):=by rw[hcl];exact hm
   obtain⟨q,hq,e⟩:=bq.mp hm;have iss:(cl.lookup y).isSome=Oi:=vQ hq e;obtain⟨c,ec⟩:=iY.mp iss;have e1:(OH (s.heap.objs.size+1) scope.names []).lookup y=Oj:=nU (S.own y (by rw[<- hcl];exact hm));exact⟨c,by show Px y (OH (s.heap.objs.size+1) scope.names []++cl)=Oh c;rw[gN,e1];exact ec⟩
 .have hf:scope.names.lookup y=Oh .cell:=aC hf;obtain⟨c',e⟩:=lA (n:=s.heap.objs.size+1) hf;have h:Px y (OH (s.heap.objs.size+1) scope.names []++cl)=Oh c:=h;rw[gN,e] at h;cases h;exact abv y _ (dQ e)
 .have ha:=Fo h2;have hi:i<(vs++vcs).length:=(aY.mp ha).1;have lv:(vs++vcs).length=(ps++fv).length:=by rw[aF,aF,hl,<- hc.len,cll]
  have hp:(ps++fv)[i]?=Oh y:=by
   rw[<- S.pre,ny Z];exact h1
  have ndA:(ps++fv).Nodup:=by rw[<- S.pre];exact S.nd.sublist (Rf _ _)
  have ndP:ps.Nodup:=ndA.sublist (List.sublist_append_left _ _);by_cases hil:i<ps.length
  .rw[cN Z] at ha;rw[cN hil] at hp;obtain⟨u,hu,rv⟩:=r.get ha;refine⟨u,rv,?_⟩
   rcases S.par y (aE hp) with k|k
   .exact .inl ⟨k,qo ndP hp hu k⟩
   .obtain⟨c,e⟩:=lA (n:=s.heap.objs.size+1) k;refine .inr ⟨.inl k,c,by show Px y (OH (s.heap.objs.size+1) scope.names []++cl)=Oh c;rw[gN,e],?_⟩;have q:=x.cell y c e;rw[qp ndP hp hu (by rw[k];decide)] at q;exact q
  .rw[cM Z,hl] at ha;rw[cM Z] at hp;have hm:=aE hp;have hqc:(cl.map (·.1))[i-ps.length]?=Oh y:=by rw[hcl];exact hp
   rw[bh] at hqc
   obtain⟨q,eq,e1⟩:∃q,cl[i-ps.length]?=Oh q/\q.1=y:=by
    cases z:cl[i-ps.length]? with
    |none=>rw[z] at hqc;cases hqc
    |some q=>rw[z] at hqc;exact⟨q,rfl,bv hqc⟩
   obtain⟨v',u,e2,ru,ic⟩:=celv _ q eq;rw[ha] at e2;cases e2;have ndF:(cl.map (·.1)).Nodup:=by rw[hcl];exact ndA.sublist (List.sublist_append_right _ _)
   have lkq:cl.lookup y=Oh q.2:=by rw[<- e1];exact vR ndF (aE eq)
   have own0:(OH (s.heap.objs.size+1) scope.names []).lookup y=Oj:=nU (S.own y hm);exact⟨u,ru,.inr ⟨.inr (S.fre y hm),q.2,by show Px y (OH (s.heap.objs.size+1) scope.names []++cl)=Oh q.2;rw[gN,own0];exact lkq,ic⟩⟩
 .rcases lk y c h with m|m
  .have h:Px y (OH (s.heap.objs.size+1) scope.names []++cl)=Oh c:=h;rw[gN] at h
   cases e:(OH (s.heap.objs.size+1) scope.names []).lookup y with
   |some c2=>rw[e] at h;cases h;exact⟨_,x.cell y _ e⟩
   |none=>
    rw[e] at h;obtain⟨i,ei⟩:=nV.mp (dQ h);obtain⟨v,u,_,_,ic⟩:=celv i _ ei;exact⟨_,ic⟩
  .obtain⟨i,ei⟩:=nV.mp m;obtain⟨v,u,_,_,ic⟩:=celv i _ ei;exact⟨_,ic⟩
 .rcases lk y c h with m|m
  .exact(e0.hok.minC hc).fresh (abv y c m)
  .exact jY m
 .unfold Tn;show _=N.length;have lv:(vs++vcs).length=(ps++fv).length:=by rw[aF,aF,hl,<- hc.len,cll]
  rw[aF,ag,dC];lia
noncomputable def lU(P:Ov)(w:Ow)(K:FG)(mg:SV)(base:Oz)(k:Nat)(fa:On)(vs:List V)(H:Hp)(Q:VK):Prop :=
 ∀(A:Oy) (outer:List Env) (s:Oo) (us:LV),Room k A->UA P w K mg base A outer s H->Vals vs us->Pt (Ou P w) A (.call (.ref fa) ⟨us,[]⟩) (CR Tu outer P w H s Q λ _ _ _=>False) s
end _L
namespace _L
open PySem PySem.Spec PyProof.Rows PySem.W PySem.Calls
noncomputable def FnV(H:Hp)(fa:On):Prop:=∃φ,H fa=Oh (.ext φ)/\∀h,φ h->FnAt fa h
def FnV.lam{H:Hp}{cl:LA}(h:H fa=Oh (eX fa c' qual params body scope cl)):FnV H fa:=⟨_,h,λ _ ⟨_,_,e⟩=>⟨_,_,_,_,e⟩⟩
noncomputable def Fp(P:Ov)(w:Ow)(K:FG)(mg:SV)(base:Oz)(k i:Nat)(t:TA):TE:=λ σ H Q=>∃fa,σ[i]?=Oh (Oh (.ref fa))/\FnV H fa/\t σ H λ vs H1=>FnV H1 fa/\lU P w K mg base k fa vs H1 Q
variable {X:Cx}
section
variable {k:Nat}{x:Str}{p pos:Pos}{e:Expr}{es:List Expr}{t:TA}
theorem Fq{i:Nat}(hr:Room k X.A)(hN:X.N[i]?=Oh x)(hv:Vz X.env.scope x)(ha:PA X (e::es) t)(hd:(x == ("__debug__" : Str))=Ol:=by decide)(hcd:(x == ("__classdict__" : Str))=Ol:=by decide)
  (he:OE (e::es) X.env=(Ol,eval e X.env)::OE es X.env:=by rfl) (hpl:(Pk pos (OE es X.env)).any (·.1)=Ol:=by rfl) :
  PE X (.Call (.Name x p) (e::es) [] pos) (Fp X.prog X.w X.K X.mg X.base k i t):=by
 intro Te s σ H Q I h;obtain⟨fa,es',fn,h⟩:=h;refine jP (To ((gG (pos:=p) hN hv hd hcd) Te s σ H (λ v H1=>v=.ref fa/\H1=H) I (by unfold cj;rw[es'];exact⟨O,O⟩)) λ u s1 ⟨v,H1,I1,r1,e1,e2⟩=>?_);subst e1 e2;cases r1;have at1:∀ {H':Hp}{s':Oo},Inv X Te σ H' s'->FnV H' fa->FnAt fa s'.heap:=λ J ⟨φ,e,k⟩=>k _ (J.hok _ _ e).1;refine callWith_F (at1 I1 fn) (To (ha pos Te s1 σ _ _ I1 h) λ us s2 ⟨vs,H2,I2,r2,fn2,cv⟩=>⟨at1 I2 fn2,?_⟩) he hpl;refine RT (lx (cv X.A X.stack s2 us hr I2.env0 r2) λ r s' hq=>?_)
 cases r with
 |error e=>exact OV hq
 |ok fl=>
  cases fl with
  |ret u=>exact I2.after hq
  |next|brk|cont=>exact OV hq
end
noncomputable def OwnCl(ec:LA)(fv:List Str)(cl:LA):Prop:=cl.map (·.1)=fv/\∀q∈cl,ec.lookup q.1=Oh q.2
theorem OwnCl.uniq:∀ {fv:List Str}{cl cl':LA},OwnCl ec fv cl->OwnCl ec fv cl'->cl=cl'
 |[],[],[],_,_=>rfl
 |[],_::_,_,h,_=>by cases h.1
 |[],[],_::_,_,h=>by cases h.1
 |_::_,[],_,h,_=>by cases h.1
 |_::_,_::_,[],_,h=>by cases h.1
 |n::fv,(a,c)::cl,(b,d)::cl',h,h'=>by
  have e1:a=n:=(nW h.1).1;have e2:b=n:=(nW h'.1).1;subst e1 e2;have l1:=h.2 (b,c) bg;have l2:=h'.2 (b,d) bg;rw[show ec.lookup b=Oh c from l1] at l2;cases l2;rw[OwnCl.uniq (fv:=fv) ⟨(nW h.1).2,λ q hq=>h.2 q (aW _ hq)⟩ ⟨(nW h'.1).2,λ q hq=>h'.2 q (aW _ hq)⟩]
noncomputable def TabOk(H:Hp)(T:On)(pos:Pos)(qual:Str):Prop:=∃ps,H T=Oh (.tbl ps)/\Qr ps.toList/\(codeAmong pos ps.toList=Oj\/∃c',codeAmong pos ps.toList=Oh (.ref c')/\H c'=Oh (cr c' qual))
def vU{c:Value}(l:LV)(h:Qr l):Qr (l++[OJ a,OJ b,c]):=by
 fun_induction Qr l with
 |case1=>simp[Qr,OJ]
 |case2 i t j u v Tg ih=>simpa [Qr] using ih h
 |case3=>exact h.elim
structure TL (base:Oz)(mg:SV)(c T:On):Prop where
 hd:CodeHd base c T
 none_:base.get? T=Oj
 blt:∃bm o,mg "__builtins__"=Oh (.ref bm)/\bm≠PX/\bm≠OC/\bm≠T/\base.get? bm=Oh o/\o.cls=.type "module" /\ o.dict=Oh PX/\o.data=.plain
 ne:OC≠T
noncomputable def Fs(ec:LA)(fv:List Str)(T:On)(pos:Pos)(qual:Str)(params:Pa)(body:Expr)(scope:Scope):TE:=λ _ H Q=>TabOk H T pos qual /\
 ∀fa c' cl H2,OwnCl ec fv cl->H fa=Oj->H2 fa=Oh (eX fa c' qual params body scope cl)->H2 c'=Oh (cr c' qual)->TabOk H2 T pos qual->(∀b o,b≠T->H b=Oh o->H2 b=Oh o)->Q (.ref fa) H2
def nX{h1 h2:Oz}(x:h1.CodeRec (.ref c) qual)(k:∀o,h1.get? c=Oh o->h2.get? c=Oh o):h2.CodeRec (.ref c) qual:=by
 obtain⟨c',o,vs,t,e,ho,r⟩:=x;cases e;exact⟨c,o,vs,t,O,k _ ho,r⟩
section
variable {params:Pa}{body:Expr}{scope:Scope}{pos:Pos}{fv:List Str}{c T:On}{cl:LA}
theorem Fu{qual:Str}(hq:X.env.qual ++ "<lambda>"=qual)(hcode:X.env.code=.ref c)(TF:TL X.base X.mg c T)(hdef:PY params X.env=([],[]))(hcl:OS scope X.env=OF cl)(own:OwnCl X.env.cells fv cl) :
  PE X (.Lambda params body scope pos) (Fs X.env.cells fv T pos qual params body scope):=by
 intro Te s σ H Q I h;obtain⟨⟨ps,hT,ht,hz⟩,h⟩:=h;subst hq;have eT:s.heap.get? T=Oh (tabObj ps):=I.hok _ _ hT;have hg:s.heap.Ns OC X.mg:=I.mod.glob.keeps I.bk;obtain⟨bm,ob,b1,b2,b3,b4,b5,b6⟩:=TF.blt;have hb:s.heap.BuiltinsAt X.mg T:=⟨bm,ob,b1,b2,b3,b4,I.bk _ _ b5,b6⟩;have C:CodeHd s.heap c T:=TF.hd.keeps I.bk;refine kla_eval hdef ?_
 rcases hz with hnf|⟨c',hf,hc'⟩
 .refine kla_makeFunction hcl I.ok.glob hg hcode C eT ht hnf TF.ne hb λ c' ctv h' tk hx hge hlt hrec htb=>?_;have hfa:H h'.objs.size=Oj:=I.hok.fresh (dN (qD hge hlt));have hc0:H c'=Oj:=I.hok.fresh hge;have nTc:c'≠T:=λ z=>by rw[z,hT] at hc0;cases hc0
  have nTf:h'.objs.size≠T:=λ z=>by rw[z,hT] at hfa;cases hfa
  have ncf:c'≠h'.objs.size:=be hlt;have old:∀b o,b≠T->s.heap.get? b=Oh o->(h'.push (kla_obj "<lambda>" (X.env.qual ++ "<lambda>") params body scope cl ((X.mg "__name__").getD .none) c' ctv)).get? b=Oh o:=λ b o n e=>aO _ (hx b o n e);have eP:(h'.push (kla_obj "<lambda>" (X.env.qual ++ "<lambda>") params body scope cl ((X.mg "__name__").getD .none) c' ctv)).get? T=Oh (tabObj (ps++#[OJ pos.line,OJ pos.col,.ref c'])):=aO _ htb;have eF:(h'.push (kla_obj "<lambda>" (X.env.qual ++ "<lambda>") params body scope cl ((X.mg "__name__").getD .none) c' ctv)).get? h'.objs.size=Oh (kla_obj "<lambda>" (X.env.qual ++ "<lambda>") params body scope cl ((X.mg "__name__").getD .none) c' ctv):=bn _ rfl;have eC:(h'.push (kla_obj "<lambda>" (X.env.qual ++ "<lambda>") params body scope cl ((X.mg "__name__").getD .none) c' ctv)).CodeRec (.ref c') (X.env.qual ++ "<lambda>"):=nX hrec λ o e=>aO _ e;generalize h'.push (kla_obj "<lambda>" (X.env.qual ++ "<lambda>") params body scope cl ((X.mg "__name__").getD .none) c' ctv)=h2 at *;generalize h'.objs.size=fa at *;have lowT:∀b o,s.heap.get? b=Oh o->b≠c'/\(H b=Oj->b≠T):=λ b o e=>⟨be (bG (aM e) hge),λ n z=>by rw[z,hT] at n;cases n⟩;have lowF:∀b o,s.heap.get? b=Oh o->b≠fa:=λ b o e=>be (s1k (bG (aM e) hge) hlt);have out:∀b,b≠T->b≠c'->b≠fa->Ti (Ti (Ti H T (.tbl (ps++#[OJ pos.line,OJ pos.col,.ref c']))) c' (cr c' (X.env.qual ++ "<lambda>"))) fa (eX fa c' (X.env.qual ++ "<lambda>") params body scope cl) b=H b:=λ b n1 n2 n3=>by rw[aA n3,aA n2,aA n1]
  have Uv:∀b o,H b=Oh o->b≠c'/\b≠fa:=λ b o e=>⟨(λ z=>by rw[z,hc0] at e;cases e),(λ z=>by rw[z,hfa] at e;cases e)⟩;have _H:Ti (Ti (Ti H T (.tbl (ps++#[OJ pos.line,OJ pos.col,.ref c']))) c' (cr c' (X.env.qual ++ "<lambda>"))) fa (eX fa c' (X.env.qual ++ "<lambda>") params body scope cl) T=Oh (.tbl (ps++#[OJ pos.line,OJ pos.col,.ref c'])):=by rw[aA nTf.symm,aA nTc.symm,bU]
  have HC:Ti (Ti (Ti H T (.tbl (ps++#[OJ pos.line,OJ pos.col,.ref c']))) c' (cr c' (X.env.qual ++ "<lambda>"))) fa (eX fa c' (X.env.qual ++ "<lambda>") params body scope cl) c'=Oh (cr c' (X.env.qual ++ "<lambda>")):=by rw[aA ncf,bU]
  have HF:Ti (Ti (Ti H T (.tbl (ps++#[OJ pos.line,OJ pos.col,.ref c']))) c' (cr c' (X.env.qual ++ "<lambda>"))) fa (eX fa c' (X.env.qual ++ "<lambda>") params body scope cl) fa=Oh (eX fa c' (X.env.qual ++ "<lambda>") params body scope cl):=bU;generalize Ti (Ti (Ti H T (.tbl (ps++#[OJ pos.line,OJ pos.col,.ref c']))) c' (cr c' (X.env.qual ++ "<lambda>"))) fa (eX fa c' (X.env.qual ++ "<lambda>") params body scope cl)=H2 at *;have same:∀b o,b≠T->H b=Oh o->H2 b=Oh o:=λ b o n e=>by rw[out b n (Uv b o e).1 (Uv b o e).2];exact e
  have un:Un X.fs [] H H2 s.heap h2:=⟨λ b o e n _ _=>old b o ((lowT b o e).2 n) e,λ b o e n _ _=>⟨o.slots,old b o ((lowT b o e).2 n) e⟩,λ b o e n _=>by rw[out b ((lowT b o e).2 n) (lowT b o e).1 (lowF b o e)];exact n,λ b o e _=>by
   by_cases z:b=T
   .rw[z];exact⟨_,eP⟩
   .exact⟨o,old b o z e⟩,λ b xs e=>same b _ (λ z=>by rw[z,hT] at e;cases e) e,λ b o u e=>same b _ (λ z=>by rw[z,hT] at e;cases e) e,λ b qs e=>by
   by_cases z:b=T
   .subst z;rw[hT] at e;cases e;exact⟨_,_H⟩
   .exact⟨#[],by rw[same b _ z e];simp⟩⟩
  have hok:HOk X.prog X.w H2 h2:=λ b o e=>by
   by_cases zf:b=fa
   .subst zf;rw[HF] at e;cases e;exact⟨⟨_,_,eF⟩,⟨_,eF⟩,λ h1 h3 ⟨pm,cv,e1⟩ k=>⟨pm,cv,k _ e1⟩⟩
   .by_cases zc:b=c'
    .subst zc;rw[HC] at e;cases e;obtain⟨c2,o2,vs2,t2,e2,ho2,r2⟩:=id eC;cases e2;exact⟨eC,⟨_,ho2⟩,λ h1 h3 x k=>nX x k⟩
    .by_cases zT:b=T
     .subst zT;rw[_H] at e;cases e;exact eP
     .rw[out b zT zc zf] at e;refine(I.hok b o e).stay (λ d u hd q=>old d u (λ z=>?_) q) (λ d q=>same d _ (λ z=>by rw[z,hT] at q;cases q) q) λ d xs q=>same d _ (λ z=>by rw[z,hT] at q;cases q) q
      rcases hd with hd|hd
      .exact zT (hd.symm.trans z)
      .rw[z,hT] at hd;cases hd
  exact⟨.ref fa,H2,I.un un hok,O,h fa c' cl H2 own hfa HF HC ⟨_,_H,by simpa using vU ps.toList ht,.inr ⟨c',by simpa using RZ ps.toList ht hnf,HC⟩⟩ same⟩
 .refine kla_makeFunctionHit hcl I.ok.glob hg hcode C eT ht hf hb λ ctv h' tk hx hsz=>?_;have hfa:H h'.objs.size=Oj:=I.hok.fresh hsz;have same:∀b o,H b=Oh o->Ti H h'.objs.size (eX h'.objs.size c' (X.env.qual ++ "<lambda>") params body scope cl) b=Oh o:=λ b o e=>by rw[aA (iQ e hfa)];exact e
  refine⟨.ref h'.objs.size,Ti H h'.objs.size (eX h'.objs.size c' (X.env.qual ++ "<lambda>") params body scope cl),I.laid (t':=tk) (λ b u e=>aO _ (hx b u e)) hsz ?_,O,h _ c' cl _ own hfa bU (same _ _ hc') ⟨ps,same _ _ hT,ht,.inr ⟨c',hf,same _ _ hc'⟩⟩ λ b o _ e=>same b o e⟩;exact⟨⟨_,_,bn _ rfl⟩,⟨_,bn _ rfl⟩,λ h1 h3 ⟨pm,cv,e1⟩ k=>⟨pm,cv,k _ e1⟩⟩
end
noncomputable def Up(h:Oz)(H:Hp):LA->List V->Hp
 |q::cl,v::vs=>Ti (Up h H cl vs) q.2 (.frz ((h.get? q.2).getD { cls:=.none,data:=.plain }) (jX q.2 v))
 |_,_=>H
theorem vV{b:On}:∀ {cl:LA}{vs:List V},(∀q∈cl,q.2≠b)->Up h H cl vs b=H b
 |[],_,_=>rfl
 |_::_,[],_=>rfl
 |q::cl,v::vs,n=>by
  show Ti _ _ _ b=_;rw[aA (cy (n q bg))];exact vV λ q' hq=>n q' (aW _ hq)
theorem vW:∀ {cl:LA}{vs:List V},(cl.Pairwise λ x y=>x.2≠y.2)->cl.length=vs.length->∀(i:Nat) q,cl[i]?=Oh q->∃v,vs[i]?=Oh v/\Up h H cl vs q.2=Oh (.frz ((h.get? q.2).getD { cls:=.none,data:=.plain }) (jX q.2 v))
 |[],_,_,_,i,q,e=>by simp at e
 |_::_,[],_,l,_,_,_=>by simp at l
 |a::cl,v::vs,pw,l,0,q,e=>by
  cases (bv e);exact⟨v,O,bU⟩
 |a::cl,v::vs,pw,l,i+1,q,e=>by
  have e:cl[i]?=Oh q:=by simpa using e
  obtain⟨u,e1,e2⟩:=vW (lV.mp pw).2 (by simpa using l) i q e;refine⟨u,by simpa using e1,?_⟩;show Ti _ _ _ _=_;rw[aA (cy ((lV.mp pw).1 q (aE e)))];exact e2
noncomputable def Fv(ec:LA)(fv:List Str)(js:List Nat)(sp:Sp)(t:TA):TE:=λ σ H Q=>t σ H λ vs H1=>∃vcs:List V,js.map (λ j=>σ[j]?)=vcs.map (λ v=>Oh (Oh v)) /\
 ∀cl H2,OwnCl ec fv cl->(∀q∈cl,H1 q.2=Oj)->CelAt H2 cl vcs->(∀b,(∀q∈cl,q.2≠b)->H2 b=H1 b)->sp vs H2 (λ v H'=>Q v (minC H' cl)) E0
section
variable {k:Nat}{x:Str}{ps:List Str}{sp:Sp}{p pos:Pos}{e:Expr}{es:List Expr}{t:TA}{fv:List Str}{js:List Nat}{cl:LA}
theorem vX(c:Callee X.prog X.w X.K X.mg X.base Tu k x ps sp)(hr:Room k X.A)(hg:Gl X x)(own:OwnCl X.env.cells fv cl)(hj:js.map (λ j=>X.N[j]?)=fv.map Oh)(hk:∀n∈fv,X.env.scope.names.lookup n=Oh .cell)(hf:∀n∈fv,X.fn n=Oi)(nd:fv.Nodup)
  (ha:PA X (e::es) t) (hdb:(x == ("__debug__" : Str))=Ol:=by decide)
  (he:OE (e::es) X.env=(Ol,eval e X.env)::OE es X.env:=by rfl) (hpl:(Pk pos (OE es X.env)).any (·.1)=Ol:=by rfl) :
  PE X (.Call (.Name x p) (e::es) [] pos) (Fv X.env.cells fv js sp t):=by
 obtain⟨f,fd,F,hm,kp,hb⟩:=c.has;intro Te s0 σ H0 Q I0 h;refine jP (mU I0 hg hm ?_ hdb);refine W.callWith_K (h₀:=X.base) I0.ok.mod.kin kp (To (ha pos Te s0 σ H0 _ I0 h) λ us s ⟨vs,H,I,r,vcs,hv,q⟩=>⟨I.kIn,?_⟩) he hpl;have mfv:∀q∈cl,q.1∈fv:=λ q hq=>by rw[<- own.1];exact bq.mpr ⟨q,hq,rfl⟩
 have free:∀q∈cl,H q.2=Oj:=λ q hq=>I.freeC q.1 q.2 (own.2 q hq)
 have apart:cl.Pairwise λ x y=>x.2≠y.2:=by
  have nd':(cl.map (·.1)).Nodup:=by rw[own.1];exact nd
  have ec:=own.2;clear own mfv free
  induction cl with
  |nil=>exact .nil
  |cons a r ih=>
   refine lV.mpr ⟨λ y hy z=>?_,ih (gi.mp nd').2 (λ q hq=>ec q (aW _ hq))⟩;have:=I.ok.inj a.1 y.1 a.2 (ec a bg) (by rw[z];exact ec y (aW _ hy));exact(gi.mp nd').1 (bq.mpr ⟨y,hy,this.symm⟩)
 have lf:js.length=fv.length:=by have:=bw Ph hj;simpa using this
 have lv:js.length=vcs.length:=by have:=bw Ph hv;simpa using this
 have lc:cl.length=fv.length:=by rw[<- own.1,ag]
 have l:cl.length=vcs.length:=by rw[lc,<- lf,lv]
 have holds:∀(i:Nat) q,cl[i]?=Oh q->∃v u,vcs[i]?=Oh v/\RelV v u/\s.heap.IsCell q.2 (Oh u):=λ i q e=>by
  have il:i<cl.length:=(aY.mp e).1;have ej:=bc (l:=js) (i:=i) Z;have ev:=bc (l:=vcs) (i:=i) Z
  have en:X.N[js[i]' Z]?=Oh q.1:=by
   have z:=bw (λ l=>l[i]?) hj;simp only[bh,ej,QF] at z;have y:fv[i]?=Oh q.1:=by rw[<- own.1,bh,e];rfl
   rw[y] at z;exact bv z
  have eσ:σ[js[i]' Z]?=Oh (Oh (vcs[i]' Z)):=by
   have z:=bw (λ l=>l[i]?) hv;simp only[bh,ej,ev,QF] at z;exact bv z
  obtain⟨m,_,lo⟩:=I.loc;have kq:=hk q.1 (mfv q (aE e));obtain⟨u,ru,lk⟩:=lo _ _ _ en eσ (.inr (.inl kq));refine⟨_,u,ev,ru,?_⟩
  rcases lk with ⟨k1,_⟩|⟨_,c,ec,ic⟩
  .have k1:X.env.scope.names.lookup q.1=Oh .local:=k1;rw[kq] at k1;cases k1
  .rw[own.2 q (aE e)] at ec;cases ec;exact ic
 have hat:=vW (h:=s.heap) (H:=H) apart l;have hC:CelAt (Up s.heap H cl vcs) cl vcs:=⟨l,λ i q e=>let ⟨v,e1,e2⟩:=hat i q e;⟨v,_,e1,e2⟩,apart⟩;have hout:∀b,(∀q∈cl,q.2≠b)->Up s.heap H cl vcs b=H b:=λ b n=>vV n
 have split:∀b,(∃q∈cl,q.2=b)\/∀q∈cl,q.2≠b:=λ b=>by
  by_cases c:∃q∈cl,q.2=b
  .exact .inl c
  .exact .inr λ q hq e=>c ⟨q,hq,e⟩
 have gobj:∀q∈cl,∃o v,Up s.heap H cl vcs q.2=Oh (.frz o (jX q.2 v))/\s.heap.get? q.2=Oh o/\∃u,RelV v u/\s.heap.IsCell q.2 (Oh u):=λ q hq=>by
  obtain⟨i,e⟩:=nV.mp hq;obtain⟨v,e1,e2⟩:=hat i q e;obtain⟨v',u,e3,ru,ic⟩:=holds i q e;rw[e1] at e3;cases e3;obtain⟨o,eo,d⟩:=id ic;rw[eo] at e2;exact⟨o,v,e2,eo,u,ru,ic⟩
 have Uv:∀b o,H b=Oh o->Up s.heap H cl vcs b=Oh o:=λ b o e=>by
  rw[hout b λ q hq z=>by rw[<- z,free q hq] at e;cases e];exact e
 have hok:HOk X.prog X.w (Up s.heap H cl vcs) s.heap:=λ b o e=>by
  rcases split b with ⟨q,hq,rfl⟩|hn
  .obtain⟨o',v,e1,eo,u,ru,ic⟩:=gobj q hq;rw[e1] at e;cases e;exact⟨eo,⟨u,ru,ic⟩,⟨_,eo⟩,λ h1 h2 ⟨u,ru,o2,e2,d2⟩ k=>⟨u,ru,o2,k _ e2,d2⟩⟩
  .rw[hout b hn] at e;exact(I.hok b o e).stay (λ _ _ _ z=>z) (λ d z=>Uv d _ z) λ d xs z=>Uv d _ z
 have abv:∀q∈cl,X.s₀.heap.objs.size<=q.2:=λ q hq=>I.ok.cab q.1 q.2 (hf q.1 (mfv q hq)) (own.2 q hq)
 have nfr:∀b∈Uu X.stack,∀q∈cl,q.2≠b:=λ b hb q hq z=>by
  rcases aB.mp (I.stkSub b hb) with y|y
  .exact I.cne q.1 q.2 (own.2 q hq) (z.trans y)
  .obtain⟨_,o,eo,_⟩:=I.ok.funs.mem y;have:=aM eo;rw[<- z] at this;exact XU this (Nat.not_lt_of_le (abv q hq))
 have e0:UA X.prog X.w X.K X.mg X.base X.A X.stack s (Up s.heap H cl vcs):=by
  have b0:=I.env0;refine⟨b0.frames,b0.mod,λ b o e=>⟨(b0.bs b o e).1,?_⟩,b0.bsz,b0.funs,λ b hb=>?_,hok,b0.bare⟩
  .rw[hout b λ q hq z=>?_]
   .exact(b0.bs b o e).2
   .have:=aM e;rw[<- z] at this;exact XU (bG this I.ok.bsz) (Nat.not_lt_of_le (abv q hq))
  .rw[hout b (nfr b hb)];exact b0.frf b hb
 have hl:us.length=ps.length:=by rw[<- r.length];exact F.len _ _ _ _ (q cl _ own free hC hout)
 have hb':=hb s us I.kIn (by simpa using hl);rw[ef] at hb';refine RT (lx (F.run X.A X.stack s (Up s.heap H cl vcs) ⟨us,[]⟩ us vs _ E0 hr e0 hb' r (q cl _ own free hC hout)) λ r s' hq=>?_)
 cases r with
 |error e=>exact OV hq
 |ok fl=>
  cases fl with
  |next|brk|cont=>exact OV hq
  |ret u=>
   obtain⟨v,H',os,bare,un,hok',rv,q'⟩:=hq;have hC':CelAt H' cl vcs:=⟨l,λ i q e=>let ⟨v,o,e1,e2⟩:=hC.at_ i q e;⟨v,o,e1,un.frzs _ _ _ e2⟩,apart⟩;obtain⟨hh,gg,dd,tt,os'⟩:=s';obtain rfl:os'=s.os:=os
   have un2:Un (Uu X.stack) [] H (minC H' cl) s.heap hh:=by
    refine⟨λ b o e n hb hx=>?_,λ b o e n hb hx=>?_,λ b o e n hx=>?_,un.there,λ b xs e=>?_,λ b o u e=>?_,λ b qs e=>?_⟩
    .rcases split b with ⟨q,hq,rfl⟩|hn
     .obtain⟨o',v',e1,eo,_⟩:=gobj q hq;rw[e] at eo;cases eo;exact(hok' _ _ (un.frzs _ _ _ e1)).1
     .exact un.keep b o e (by rw[hout b hn];exact n) hb hx
    .exact un.slot b o e (by rw[hout b (nfr b hb)];exact n) hb hx
    .rcases split b with ⟨q,hq,rfl⟩|hn
     .exact jY hq
     .exact gO (un.free b o e (by rw[hout b hn];exact n) hx)
    .have hn:∀q∈cl,q.2≠b:=λ q hq z=>by rw[<- z,free q hq] at e;cases e
     rw[bV hn];exact un.tups b xs (Uv b _ e)
    .have hn:∀q∈cl,q.2≠b:=λ q hq z=>by rw[<- z,free q hq] at e;cases e
     rw[bV hn];exact un.frzs b o u (Uv b _ e)
    .have hn:∀q∈cl,q.2≠b:=λ q hq z=>by rw[<- z,free q hq] at e;cases e
     rw[bV hn];exact un.tbls b qs (Uv b _ e)
   exact⟨v,minC H' cl,I.call (h':=hh) (g':=gg) (d':=dd) (t':=tt) (ch:=[]) un2 (hok'.minC hC') bare (λ b z=>XU z on),rv,q'⟩
end
theorem Fun.okT{K:FG}{st:Ox}{sp:Sp}(F:Fun K x qual st f fd)(hcd:fd.code=.ref c)(S:Tw N ps (aD st))(len:∀vs H Q E,sp vs H Q E->vs.length=ps.length)
  (hbody:∀(A:Oy) (outer:List Env) (s:Oo) (H:Hp) (vs:List V) (Q:VK) (E:XK),Room k (A.deeper (Pg qual (aD st) s.heap.objs.size f (.ref c)))->sp vs H Q E ->
   ∃t,PSs (dP Tu P w K mg base N qual (aD st) f (.ref c) A outer s H E).nox (aN st) t/\t { nx:=λ _ H'=>Q .non H',rt:=Q } (Tn N vs) H):FnOk P w K mg base Tu (k+1) f fd ps sp:=by
 obtain⟨oc,od,kV,doc,pm,an,cdv,ct,osl,rfl,lk,hc⟩:=F.ex;obtain rfl:cdv=.ref c:=hcd;refine uD lk hc S len λ A outer s H vs Q E hr hsp=>?_;obtain⟨t,h,q⟩:=hbody A outer s H vs Q E hr hsp;exact⟨t,h.nox,q⟩
theorem Fw{K:FG}{mg mb:SV}{fa a:On}{x:Str}{s₁:Oo}{vs:LV}(tbs:List (On×On))
  (hT:TabsAt tbs s₁.heap) (hK0:noTabs K=Oi) (hbm:∃bm ob,mg "__builtins__"=Oh (.ref bm)/\bm≠PX/\s₁.heap.get? bm=Oh ob/\ob.cls=.type "module" /\ ob.dict=Oh PX/\ob.data=.plain)
  (KX:K.In s₁.heap) (hns:s₁.heap.Ns OC mg) (hb:s₁.heap.Ns PX mb) (hbb:∀x:Str,x ≠ "__name__" -> mb x=Py x) (hlim:s₁.heap.NoLimit) (hg:s₁.gens=#[])
  (ha:s₁.heap.get? a=Oh { cls:=.type "list",data:=.seq vs.toArray }) (hi:Qe vs ns) (hl:ns.length<=Oq) (hr:Room k Qk)
  (F:∀base:Oz,K.In base->base.Ns OC mg->(∀q∈tbs,TL base mg q.1 q.2)->FnOk P w K mg base CX k fa fd [x] sp) (hbind:∀(s:Oo) (u:Value),QK s fd ⟨[u],[]⟩ [(x,u)])
  (hsp:∀H:Hp,(∀q∈tbs,H q.2=Oh (.tbl #[]))->SqL K H a (ns.map V.int)->sp [.ref a] H (λ v _=>v=.bl Oi) λ _ _ _=>False)
  (hCX:∀H e s',CX [] H s₁ (λ _ _ _=>False) e s'->False) :
  Pt (Ou P w) Qk (.call (.ref fa) ⟨[.ref a],[]⟩) (λ r s'=>r=.ok (.ret (.bool Oi))/\OldK s₁.heap s'.heap/\s'.os=s₁.os/\PU s'.gens) s₁:=by
 have rv:=qB hi;have lenV:=hi.length;have tab:∀q∈tbs,s₁.heap.get? q.2=Oh (tabObj #[]):=λ q hq=>(hT q hq).2
 have naT:∀q∈tbs,q.2≠a:=λ q hq z=>by
  have e:=tab q hq;rw[z,ha] at e;cases e
 have kT:∀q∈tbs,K.lookup q.2=Oj:=λ q hq=>by
  cases e:K.lookup q.2 with
  |none=>rfl
  |some o=>
   have e1:=KX _ _ e;rw[tab q hq] at e1;have h2:=gq.mp hK0 (q.2,o) (mem_of_lookupK e);cases e1;exact XU (show Ol=Oi from h2) bN
 have core:∀H:Hp,(∀q∈tbs,H q.2=Oh (.tbl #[]))->(∀b,H b=Oj\/(∃o xs,H b=Oh (.frz o (.lst xs)))\/∃q∈tbs,q.2=b)->SqL K H a (ns.map V.int)->HOk P w H s₁.heap->(∀b,H b≠Oj->b=a\/∃q∈tbs,q.2=b)->(H a≠Oj->K.lookup a=Oj) ->
   Pt (Ou P w) Qk (.call (.ref fa) ⟨[.ref a],[]⟩) (λ r s'=>r=.ok (.ret (.bool Oi))/\OldK s₁.heap s'.heap/\s'.os=s₁.os/\PU s'.gens) s₁:=by
  intro H hH hO hS hok hA hK;have base_of:∀ {b:On}{o:Obj},s₁.heap.get? b=Oh o->H b=Oj->(fG s₁.heap H).get? b=Oh o:=λ e n=>Bc e n
  have noA:∀ {b:On}{o:Obj},s₁.heap.get? b=Oh o->o≠{ cls:=.type "list",data:=.seq vs.toArray }->o≠tabObj #[]->H b=Oj:=λ {b o} e n1 n2=>by
   cases q:H b with
   |none=>rfl
   |some u=>
    rcases hA b (by rw[q];simp) with z|⟨p,hp,z⟩
    .subst z;rw[ha] at e;cases e;exact XU rfl n1
    .subst z;rw[tab p hp] at e;cases e;exact XU rfl n2
  have nsK:∀ {b:On}{m:SV},s₁.heap.Ns b m->(fG s₁.heap H).Ns b m:=λ {b m} ⟨o,es,ep,e,d,r⟩=>⟨o,es,ep,base_of e (noA e (λ z=>by rw[z] at d;cases d) (λ z=>by rw[z] at d;cases d)),d,r⟩
  have hKb:K.In (fG s₁.heap H):=λ b o e=>base_of (KX b o e) (by
   cases q:H b with
   |none=>rfl
   |some u=>
    rcases hA b (by rw[q];simp) with z|⟨p,hp,z⟩
    .subst z;rw[hK (by rw[q];simp)] at e;cases e
    .subst z;rw[kT p hp] at e;cases e)
  have hM:Mod K mg (fG s₁.heap H):=⟨hKb,nsK hns,⟨mb,nsK hb,hbb⟩,let ⟨mc,h1,h2⟩:=hlim;⟨mc,nsK h1,h2⟩⟩;have e0:UA P w K mg (fG s₁.heap H) Qk [] s₁ H:=⟨rfl,hM,λ b o e=>tU e,s1l (Bb _ _),trivial,λ b hb=>XU (show b∈([]:List On) from hb) on,hok,.of_eq hg⟩
  have tf:∀q∈tbs,TL (fG s₁.heap H) mg q.1 q.2:=λ q hq=>by
   obtain⟨o,vs',file,tf,flags,tg,inF,text,tt,e1,r1,r2⟩:=(hT q hq).1;obtain⟨bm,ob,b1,b2,b3,b4,b5,b6⟩:=hbm;have bmT:bm≠q.2:=λ z=>by rw[z,tab q hq] at b3;cases b3;cases b4
   have bmG:bm≠OC:=λ z=>by
    obtain⟨o,es,ep,e,d,_⟩:=hns;rw[<- z,b3] at e;cases e;rw[b6] at d;cases d
   have gT:OC≠q.2:=λ z=>by
    obtain⟨o,es,ep,e,d,_⟩:=hns;rw[z,tab q hq] at e;cases e;cases d
   refine⟨⟨o,vs',file,tf,flags,tg,inF,text,tt,base_of e1 (noA e1 (λ z=>by rw[z] at r1;exact XU (show Pq "list"=Pq "code" from r1) ca) (λ z=>by rw[z] at r1;cases r1)),r1,r2⟩,?_,⟨bm,ob,b1,b2,bmG,bmT,base_of b3 (noA b3 (λ z=>by rw[z] at b4;exact XU (show Pq "list"=Pq "module" from b4) ca) (λ z=>by rw[z] at b4;cases b4)),b4,b5,b6⟩,gT⟩
   cases e:(fG s₁.heap H).get? q.2 with
   |none=>rfl
   |some o=>have:=(tU e).2;rw[hH q hq] at this;cases this
  refine lx ((F _ hKb (nsK hns) tf).run Qk [] s₁ H ⟨[.ref a],[]⟩ [.ref a] [.ref a] _ _ hr e0 (hbind s₁ (.ref a)) (.cons rfl .nil) (hsp H hH hS)) λ r s' h=>?_
  cases r with
  |error e=>exact(hCX H e s' h).elim
  |ok fl=>
   cases fl with
   |next|brk|cont=>exact OV h
   |ret u=>
    obtain⟨v,H',os,bare,un,hok',r',q⟩:=h;have q':v=.bl Oi:=q;subst q';obtain rfl:u=PB Oi:=r';refine⟨O,⟨λ b o e=>?_,λ b o e=>un.there b o e on⟩,os,bare⟩
    rcases hO b with z|⟨ob,xs,z⟩|⟨p,hp,z⟩
    .exact .inl (un.keep b o e z (by intro z;exact XU (show b∈([]:List On) from z) on) on)
    .have z2:=un.frzs b ob _ z;obtain⟨e1,_⟩:=hok b _ z;obtain⟨e2,_⟩:=hok' b _ z2;rw[e] at e1;cases e1;exact .inl e2
    .subst z;obtain⟨more,z2⟩:=un.tbls p.2 #[] (hH p hp);have e2:s'.heap.get? p.2=Oh (tabObj (#[]++more)):=hok' _ _ z2;have e1:=tab p hp;rw[e] at e1;cases e1;obtain⟨o,vs',file,tf,flags,tg,inF,text,tt,c1,c2,c3,c4,_⟩:=(hT p hp).1;exact .inr (.inl ⟨⟨p.1,o,vs',c1,c2,c3,c4⟩,O,#[],more,O,e2⟩)
 have withT:∀H:Hp,(∀b,H b=Oj\/∃o xs,H b=Oh (.frz o (.lst xs)))->SqL K H a (ns.map V.int)->HOk P w H s₁.heap->(∀b,H b≠Oj->b=a)->(H a≠Oj->K.lookup a=Oj) ->
   Pt (Ou P w) Qk (.call (.ref fa) ⟨[.ref a],[]⟩) (λ r s'=>r=.ok (.ret (.bool Oi))/\OldK s₁.heap s'.heap/\s'.os=s₁.os/\PU s'.gens) s₁:=by
  intro H hO hS hok hA hK;have inT:∀q∈tbs,(λ b=>if (tbs.any λ q=>q.2 == b)=Oi then Oh (HO.tbl #[]) else H b) q.2=Oh (.tbl #[]):=λ q hq=>XT (nY.mpr ⟨q,hq,on⟩)
  have split:∀b,(∃q∈tbs,q.2=b)\/(λ b=>if (tbs.any λ q=>q.2 == b)=Oi then Oh (HO.tbl #[]) else H b) b=H b:=λ b=>by
   by_cases c:(tbs.any λ q=>q.2 == b)=Oi
   .obtain⟨q,hq,e⟩:=nY.mp c;exact .inl ⟨q,hq,ij e⟩
   .exact .inr (XR c)
  have aT:(λ b=>if (tbs.any λ q=>q.2 == b)=Oi then Oh (HO.tbl #[]) else H b) a=H a:=by
   rcases split a with ⟨q,hq,z⟩|z
   .exact XU z (naT q hq)
   .exact z
  generalize (λ b=>if (tbs.any λ q=>q.2 == b)=Oi then Oh (HO.tbl #[]) else H b)=G at *
  have noneT:∀q∈tbs,H q.2=Oj:=λ q hq=>by
   cases e:H q.2 with
   |none=>rfl
   |some u=>exact XU (hA q.2 (by rw[e];simp)) (naT q hq)
  refine core G inT (λ b=>?_) ?_ (λ b o e=>?_) (λ b n=>?_) (λ n=>hK (by rw[<- aT];exact n))
  .rcases split b with z|z
   .exact .inr (.inr z)
   .rw[z];rcases hO b with y|y
    .exact .inl y
    .exact .inr (.inl y)
  .rcases hS with (z|⟨o,z⟩)|z
   .exact .inl (.inl (by rw[aT];exact z))
   .exact .inl (.inr ⟨o,by rw[aT];exact z⟩)
   .exact .inr z
  .rcases split b with ⟨q,hq,z⟩|z
   .subst z;rw[inT q hq] at e;cases e;exact tab q hq
   .rw[z] at e
    rcases hO b with y|⟨ob,xs,y⟩
    .rw[y] at e;cases e
    .rw[y] at e;cases e;obtain⟨e1,l,its,n,r,e2⟩:=hok b _ y;exact⟨e1,l,its,n,r,e2⟩
  .rcases split b with z|z
   .exact .inr z
   .rw[z] at n;exact .inl (hA b n)
 cases hk:K.lookup a with
 |some o=>
  have e:=KX a o hk;rw[ha] at e;cases e;refine withT (λ _=>Oj) (λ _=>.inl rfl) (.inr ⟨_,vs.toArray,_,hk,O,O,O,by rw[aZ,lenV];exact hl,by simpa using rv⟩) (λ b u z=>by have z':(Oj:Option HO)=Oh u:=z;cases z') (λ b z=>XU rfl z) λ z=>XU rfl z
 |none=>
  refine withT (λ b=>if b=a then Oh (.frz { cls:=.type "list",data:=.seq vs.toArray } (.lst (ns.map V.int))) else Oj) (λ b=>?_) (.inl (.inr ⟨{ cls:=.type "list",data:=.seq vs.toArray },XT rfl⟩)) (λ b u z=>?_) (λ b z=>?_) λ _=>hk
  .by_cases hb:b=a
   .exact .inr ⟨_,_,XT hb⟩
   .exact .inl (XR hb)
  .by_cases hb:b=a
   .have z':=(XT hb).symm.trans z;cases z';subst hb;exact⟨ha,by rw[ag];exact hl,vs,_,rv,ha⟩
   .have z':=(XR hb).symm.trans z;cases z'
  .by_cases hb:b=a
   .exact hb
   .exact XU (XR hb) z
def Fx{K:FG}{oc oc2:Value}{od od2:OA}{fd:OP}{sl sl2:AV}{vs:Array Value}(h1:nsIn K OC x=Oh (Oh (.ref f)))(h2:K.lookup f=Oh ⟨oc,od,.func fd,sl⟩)(h3:fd.code=.ref c)(h4:K.lookup c=Oh ⟨oc2,od2,.fields vs,sl2⟩)(h5:vs[11]?=Oh (.ref T)):tabIn K x=Oh (c,T):=by
 unfold tabIn;simp only[h1,h2,h3,h4,h5]
theorem walk_ofT{l:W.OpenLaw}{YP:Ow->Oz->Prop}{d:DefRec}{K:Params->FG}{CX:Ow->UE}{sp:Ow->List On->Sp}{x:Str}
  (hn:l.most=Oh n) (hn2:n<=Oq) (hdf:d.params.defaults=[]) (hr:Room k Qk)
  (hY:∀(w:Ow) (h:Oz),YP w h->(K w.params).In h) (hK0:∀w:Ow,noTabs (K w.params)=Oi)
  (F:∀(w:Ow) (mg:SV) (fa:On) (h:Oz),(K w.params).In h->h.Ns OC mg->mg d.name=Oh (.ref fa) ->
   ∃(fd:OP) (tbs:List (Str×On×On)),(∀p∈tbs,tabIn (K w.params) p.1=Oh p.2/\((recsOf q).find? λ e=>e.name == p.1).isSome=Oi)/\(∀(s:Oo) (u:Value),QK s fd ⟨[u],[]⟩ [(x,u)]) /\
    ∀base:Oz,(K w.params).In base->base.Ns OC mg->(∀p∈tbs,TL base mg p.2.1 p.2.2)->FnOk l.prog w (K w.params) mg base (CX w) k fa fd [x] (sp w (tbs.map λ p=>p.2.2)))
  (hsp:∀(w:Ow) (H:Hp) (a:On) (ns:LI) (ts:List On),ns.length<=n->(∀T∈ts,H T=Oh (.tbl #[]))->SqL (K w.params) H a (ns.map V.int)->sp w ts [.ref a] H (λ v _=>v=.bl Oi) λ _ _ _=>False)
  (hCX:∀(w:Ow) (H:Hp) (s:Oo) (e:Value) (s':Oo),CX w [] H s (λ _ _ _=>False) e s'->False) :
  W.WalkO q loose XP YP l.row.toRowW d [] (λ f vs=>RJ f vs):=by
 refine Att.attach_call hn hdf λ w s₀ s₁ mg mb fa o pm cd doc a vs ns G Y ho hd hcd hmg hobj hints Tj hg=>?_;have KX:=hY w _ Y;obtain⟨fd,tbs,ht,hb,hF⟩:=F w mg fa _ KX G.T.g hmg
 have hT:TabsAt (tbs.map (·.2)) s₁.heap:=λ p hp=>by
  obtain⟨t,htm,rfl⟩:=bq.mp hp;obtain⟨h1,h2⟩:=ht t htm;obtain⟨d',hd'⟩:=iY.mp h2;exact tab_of G.T KX hd' (show tabIn (K w.params) t.1=Oh (t.2.1,t.2.2) from h1)
 refine Fw (tbs.map (·.2)) hT (hK0 w) G.T.bmain KX G.T.g G.T.b G.T.builtins G.T.nolimit hg hobj hints (cL Tj hn2) hr (λ base kb nb tf=>hF base kb nb λ p hp=>tf p.2 (bq.mpr ⟨p,hp,O⟩)) hb (λ H hH hS=>hsp w H a ns _ Tj (λ T hT=>?_) hS) λ H e s'=>hCX w H s₁ e s';obtain⟨t,htm,rfl⟩:=bq.mp hT;exact hH t.2 (bq.mpr ⟨t,htm,O⟩)
noncomputable def dS(fa c':On)(name qual:Str)(params:Pa)(body:List Ox)(scope:Scope)(cl:LA):HO:=.ext λ h=>∃doc pm ctv,h.get? fa=Oh (fnMade name qual params body scope cl doc pm c' ctv)
def FnV.dfn{H:Hp}{cl:LA}(h:H fa=Oh (dS fa c' name qual params body scope cl)):FnV H fa:=⟨_,h,λ _ ⟨_,_,_,e⟩=>⟨_,_,_,_,e⟩⟩
section
variable {params:Pa}{scope:Scope}{pos:Pos}{fv:List Str}{c T:On}{cl:LA}
theorem Fy{Q:VK}(I:Inv X Te σ H s)(hcode:X.env.code=.ref c)(TF:TL X.base X.mg c T)(hcl:OS scope X.env=OF cl)(own:OwnCl X.env.cells fv cl)
  (h:TabOk H T pos qual/\∀fa c' cl H2,OwnCl X.env.cells fv cl->H fa=Oj->H2 fa=Oh (dS fa c' name qual params body scope cl)->H2 c'=Oh (cr c' qual)->TabOk H2 T pos qual->(∀b o,b≠T->H b=Oh o->H2 b=Oh o)->Q (.ref fa) H2) :
  Op (Ou X.prog X.w) X.A (makeFunction name qual params (.stmts body) scope X.env [] [] [] pos pos.line) (EP X Te σ Q) X.xe s:=by
 obtain⟨⟨ps,hT,ht,hz⟩,h⟩:=h;have eT:s.heap.get? T=Oh (tabObj ps):=I.hok _ _ hT;have hg:s.heap.Ns OC X.mg:=I.mod.glob.keeps I.bk;obtain⟨bm,ob,b1,b2,b3,b4,b5,b6⟩:=TF.blt;have hb:s.heap.BuiltinsAt X.mg T:=⟨bm,ob,b1,b2,b3,b4,I.bk _ _ b5,b6⟩;have C:CodeHd s.heap c T:=TF.hd.keeps I.bk
 rcases hz with hnf|⟨c',hf,hc'⟩
 .refine makeFunction_K hcl I.ok.glob hg hcode C eT ht hnf TF.ne hb λ c' ctv doc h' tk hx hge hlt hrec htb=>?_;have hfa:H h'.objs.size=Oj:=I.hok.fresh (dN (qD hge hlt));have hc0:H c'=Oj:=I.hok.fresh hge;have nTc:c'≠T:=λ z=>by rw[z,hT] at hc0;cases hc0
  have nTf:h'.objs.size≠T:=λ z=>by rw[z,hT] at hfa;cases hfa
  have ncf:c'≠h'.objs.size:=be hlt;have old:∀b o,b≠T->s.heap.get? b=Oh o->(h'.push (fnMade name qual params body scope cl doc ((X.mg "__name__").getD .none) c' ctv)).get? b=Oh o:=λ b o n e=>aO _ (hx b o n e);have eP:(h'.push (fnMade name qual params body scope cl doc ((X.mg "__name__").getD .none) c' ctv)).get? T=Oh (tabObj (ps++#[OJ pos.line,OJ pos.col,.ref c'])):=aO _ htb;have eF:(h'.push (fnMade name qual params body scope cl doc ((X.mg "__name__").getD .none) c' ctv)).get? h'.objs.size=Oh (fnMade name qual params body scope cl doc ((X.mg "__name__").getD .none) c' ctv):=bn _ rfl;have eC:(h'.push (fnMade name qual params body scope cl doc ((X.mg "__name__").getD .none) c' ctv)).CodeRec (.ref c') qual:=nX hrec λ o e=>aO _ e;generalize h'.push (fnMade name qual params body scope cl doc ((X.mg "__name__").getD .none) c' ctv)=h2 at *;generalize h'.objs.size=fa at *;have lowT:∀b o,s.heap.get? b=Oh o->b≠c'/\(H b=Oj->b≠T):=λ b o e=>⟨be (bG (aM e) hge),λ n z=>by rw[z,hT] at n;cases n⟩;have lowF:∀b o,s.heap.get? b=Oh o->b≠fa:=λ b o e=>be (s1k (bG (aM e) hge) hlt);have out:∀b,b≠T->b≠c'->b≠fa->Ti (Ti (Ti H T (.tbl (ps++#[OJ pos.line,OJ pos.col,.ref c']))) c' (cr c' qual)) fa (dS fa c' name qual params body scope cl) b=H b:=λ b n1 n2 n3=>by rw[aA n3,aA n2,aA n1]
  have Uv:∀b o,H b=Oh o->b≠c'/\b≠fa:=λ b o e=>⟨(λ z=>by rw[z,hc0] at e;cases e),(λ z=>by rw[z,hfa] at e;cases e)⟩;have _H:Ti (Ti (Ti H T (.tbl (ps++#[OJ pos.line,OJ pos.col,.ref c']))) c' (cr c' qual)) fa (dS fa c' name qual params body scope cl) T=Oh (.tbl (ps++#[OJ pos.line,OJ pos.col,.ref c'])):=by rw[aA nTf.symm,aA nTc.symm,bU]
  have HC:Ti (Ti (Ti H T (.tbl (ps++#[OJ pos.line,OJ pos.col,.ref c']))) c' (cr c' qual)) fa (dS fa c' name qual params body scope cl) c'=Oh (cr c' qual):=by rw[aA ncf,bU]
  have HF:Ti (Ti (Ti H T (.tbl (ps++#[OJ pos.line,OJ pos.col,.ref c']))) c' (cr c' qual)) fa (dS fa c' name qual params body scope cl) fa=Oh (dS fa c' name qual params body scope cl):=bU;generalize Ti (Ti (Ti H T (.tbl (ps++#[OJ pos.line,OJ pos.col,.ref c']))) c' (cr c' qual)) fa (dS fa c' name qual params body scope cl)=H2 at *;have same:∀b o,b≠T->H b=Oh o->H2 b=Oh o:=λ b o n e=>by rw[out b n (Uv b o e).1 (Uv b o e).2];exact e
  have un:Un X.fs [] H H2 s.heap h2:=⟨λ b o e n _ _=>old b o ((lowT b o e).2 n) e,λ b o e n _ _=>⟨o.slots,old b o ((lowT b o e).2 n) e⟩,λ b o e n _=>by rw[out b ((lowT b o e).2 n) (lowT b o e).1 (lowF b o e)];exact n,λ b o e _=>by
   by_cases z:b=T
   .rw[z];exact⟨_,eP⟩
   .exact⟨o,old b o z e⟩,λ b xs e=>same b _ (λ z=>by rw[z,hT] at e;cases e) e,λ b o u e=>same b _ (λ z=>by rw[z,hT] at e;cases e) e,λ b qs e=>by
   by_cases z:b=T
   .subst z;rw[hT] at e;cases e;exact⟨_,_H⟩
   .exact⟨#[],by rw[same b _ z e];simp⟩⟩
  have hok:HOk X.prog X.w H2 h2:=λ b o e=>by
   by_cases zf:b=fa
   .subst zf;rw[HF] at e;cases e;exact⟨⟨_,_,_,eF⟩,⟨_,eF⟩,λ h1 h3 ⟨dc,pm,cv,e1⟩ k=>⟨dc,pm,cv,k _ e1⟩⟩
   .by_cases zc:b=c'
    .subst zc;rw[HC] at e;cases e;obtain⟨c2,o2,vs2,t2,e2,ho2,r2⟩:=id eC;cases e2;exact⟨eC,⟨_,ho2⟩,λ h1 h3 x k=>nX x k⟩
    .by_cases zT:b=T
     .subst zT;rw[_H] at e;cases e;exact eP
     .rw[out b zT zc zf] at e;refine(I.hok b o e).stay (λ d u hd q=>old d u (λ z=>?_) q) (λ d q=>same d _ (λ z=>by rw[z,hT] at q;cases q) q) λ d xs q=>same d _ (λ z=>by rw[z,hT] at q;cases q) q
      rcases hd with hd|hd
      .exact zT (hd.symm.trans z)
      .rw[z,hT] at hd;cases hd
  exact⟨.ref fa,H2,I.un un hok,O,h fa c' cl H2 own hfa HF HC ⟨_,_H,by simpa using vU ps.toList ht,.inr ⟨c',by simpa using RZ ps.toList ht hnf,HC⟩⟩ same⟩
 .refine makeFunction_hit hcl I.ok.glob hg hcode C eT ht hf hb λ ctv doc h' tk hx hsz=>?_;have hfa:H h'.objs.size=Oj:=I.hok.fresh hsz;have same:∀b o,H b=Oh o->Ti H h'.objs.size (dS h'.objs.size c' name qual params body scope cl) b=Oh o:=λ b o e=>by rw[aA (iQ e hfa)];exact e
  refine⟨.ref h'.objs.size,Ti H h'.objs.size (dS h'.objs.size c' name qual params body scope cl),I.laid (t':=tk) (λ b u e=>aO _ (hx b u e)) hsz ?_,O,h _ c' cl _ own hfa bU (same _ _ hc') ⟨ps,same _ _ hT,ht,.inr ⟨c',hf,same _ _ hc'⟩⟩ λ b o _ e=>same b o e⟩;exact⟨⟨_,_,_,bn _ rfl⟩,⟨_,bn _ rfl⟩,λ h1 h3 ⟨dc,pm,cv,e1⟩ k=>⟨dc,pm,cv,k _ e1⟩⟩
noncomputable def FB(ec:LA)(fv:List Str)(T:On)(pos:Pos)(i:Nat)(name qual:Str)(params:Pa)(body:List Ox)(scope:Scope):TS:=λ D σ H=>TabOk H T pos qual /\
 ∀fa c' cl H2,OwnCl ec fv cl->H fa=Oj->H2 fa=Oh (dS fa c' name qual params body scope cl)->H2 c'=Oh (cr c' qual)->TabOk H2 T pos qual->(∀b o,b≠T->H b=Oh o->H2 b=Oh o)->D.nx (σ.set i (Oh (.ref fa))) H2
theorem FC{i:Nat}{name qual:Str}(hN:X.N.Nodup)(hi:X.N[i]?=Oh name)(hx:UH X.env.scope name)(hq:QR X.env name name=qual)(hcode:X.env.code=.ref c)(TF:TL X.base X.mg c T)(hcl:OS scope X.env=OF cl)(own:OwnCl X.env.cells fv cl)
  (hd0:params.defaults=[]) (hk0:params.kw_defaults=[]) (ha:Rv params Oj X.env=[]) (hf:X.fn name=Oi\/X.env.scope.names.lookup name=Oh .local:=by first|exact .inl rfl|exact .inr rfl) :
  PS X (.FunctionDef name params body [] Oj [] scope Oj name pos) (FB X.env.cells fv T pos i name qual params body scope):=by
 intro Te s σ H D I h;refine nestDef_K hd0 hk0 ha ?_;rw[hq];refine To (Fy (Q:=λ v H2=>∃fa,v=.ref fa/\D.nx (σ.set i (Oh (.ref fa))) H2) I hcode TF hcl own ⟨h.1,λ fa c' cl H2 o1 n1 a1 a2 a3 a4=>⟨fa,O,h.2 fa c' cl H2 o1 n1 a1 a2 a3 a4⟩⟩) λ u s1 ⟨v,H2,J,r,fa,e,q⟩=>?_;subst e;exact pW J hN hi hx r (λ s2 J2=>⟨_,H2,J2,q⟩) hf
end
section
variable {prog:Ov}{w:Ow}{A:Oy}{R:QX->Oo->Prop}{I:On}{fp wr:List On}{n:Nat}{P:Nat->Value->Prop}{St:Nat->Oz->Prop}
end
def FD(hc:X.calm=Oi):bZ X (.builtin "min") (λ xs H Q=>∃a ns,xs=[.ref a]/\SqL X.K H a (Pc V.int ns)/\0<ns.length/\∀M:Int,M∈ns->(∀z∈ns,M<=z)->Q (.int M) H):=by
 intro Te s σ H xs us Q I r h;obtain⟨a,ns,rfl,hq,hne,q⟩:=h;obtain⟨u,rfl,ru⟩:=cB r;cases (show u=OL a from ru);obtain⟨its,rv,pl,hz⟩:=I.list hq;have hi:=lB rv;obtain⟨xs,e⟩:=hi.allInts.items;have hns:ns=xs.toList.map (·.1):=by rw[<- hi.numsOf,<- s1a,<- e]
 have hl:=pl.isList;rw[e] at hl;have hsz:0<xs.size:=by rw[hns,ag,OQ] at hne;exact hne
 refine min_intList (I.ok.hd hc) hl hsz λ v h' tk hv kk=>?_;obtain⟨t,rfl⟩:=intItems_at hv;obtain⟨h1,h2⟩:=argBest_lt (numAt xs) (xs.size-1);refine⟨.int _,H,I.kept kk,⟨t,O⟩,q _ ?_ λ z hz=>?_⟩
 .rw[hns,s1r];exact getD_mem (by rw[ag,OQ];lia)
 .rw[hns] at hz;obtain⟨j,hj,rfl⟩:=mem_getD hz;rw[ag,OQ] at hj;rw[<- s1r];exact h2 j Z
def FE(hc:X.calm=Oi):bZ X (.builtin "max") (λ xs H Q=>∃a ns,xs=[.ref a]/\SqL X.K H a (Pc V.int ns)/\0<ns.length/\∀M:Int,M∈ns->(∀z∈ns,z<=M)->Q (.int M) H):=by
 intro Te s σ H xs us Q I r h;obtain⟨a,ns,rfl,hq,hne,q⟩:=h;obtain⟨u,rfl,ru⟩:=cB r;cases (show u=OL a from ru);obtain⟨its,rv,pl,hz⟩:=I.list hq;have hi:=lB rv;obtain⟨xs,e⟩:=hi.allInts.items;have hns:ns=xs.toList.map (·.1):=by rw[<- hi.numsOf,<- s1a,<- e]
 have hl:=pl.isList;rw[e] at hl;have hsz:0<xs.size:=by rw[hns,ag,OQ] at hne;exact hne
 refine max_intList (I.ok.hd hc) hl hsz λ v h' tk hv kk=>?_;obtain⟨t,rfl⟩:=intItems_at hv;obtain⟨h1,h2⟩:=argBest_gt (numAt xs) (xs.size-1);refine⟨.int _,H,I.kept kk,⟨t,O⟩,q _ ?_ λ z hz=>?_⟩
 .rw[hns,s1r];exact getD_mem (by rw[ag,OQ];lia)
 .rw[hns] at hz;obtain⟨j,hj,rfl⟩:=mem_getD hz;rw[ag,OQ] at hj;rw[<- s1r];exact h2 j Z
section
variable {pg:Ov}{wd:Ow}{B:Oy}{X0:VS}{s0:Oo}
end
section
variable {es:List Expr}{x1:Nat}{pp:Pos}
end
noncomputable def nZ:V->List V->Hp->VK->Prop:=λ x vs H Q=>∃l xs i y,x=.ref l/\vs=[.int i,y]/\H l=Oh (.lst xs)/\0<=i/\i<=xs.length/\xs.length<Oq/\Q .non (Ti H l (.lst (xs.take i.toNat++y::xs.drop i.toNat)))
def FF:VC X "list.insert" nZ:=by
 intro Te s σ H x vs v us Q I rx rv h;obtain⟨l,xs,i,y,rfl,rfl,hH,i0,i1,hz,q⟩:=h;cases rx;obtain⟨u,w,rfl,⟨t,rfl⟩,rw'⟩:=nj rv;obtain⟨z,its,n,r,hl,e⟩:=I.lstM hH;have s63:Oq<=2 ^ 62:=by rw[jO];decide
 have hf:Pm i=Oi:=s0f Z Z
 refine fK F.slot_list_insert ⟨_,e,O⟩ F.entry_list_insert (F.args_list_insert_3 _ _ _)
  (AutoSeq1.list_insert_list_int_val_1 l its.toArray n i t w (by simp[hf]) (by rw[aZ];lia)) ⟨e,?_⟩
 refine⟨.non,_,I.lset (its':=its.take i.toNat++w::its.drop i.toNat) hH e ?_ ((r.take _).append (.cons rw' (r.drop _))) ?_,O,q⟩
 .show(its.toArray.extract 0 (if i<0 then (i+(its.toArray.size:Int)).toNat else min i.toNat its.toArray.size)).push w++its.toArray.extract (if i<0 then (i+(its.toArray.size:Int)).toNat else min i.toNat its.toArray.size)=_;rw[XR Z,aZ,eE Z];apply Array.ext';simp[List.extract_eq_take_drop,cq]
 .rw[aF,OM,aQ,bO];lia
section
variable {pg:Ov}{wd:Ow}{B:Oy}{X0:VS}{s0:Oo}
end
section
variable {es:List Expr}{x1:Nat}{pp:Pos}
end
section
variable {prog:Ov}{w:Ow}{A:Oy}{R:QX->Oo->Prop}{I:On}{fp wr:List On}{n:Nat}{P:Nat->Value->Prop}{St:Nat->Oz->Prop}
noncomputable def vY(h0:Oz)(S:On)(wr:List On)(kf:Nat->Int)(P:Nat->Value->Prop):Prop:=∀i v,P i v->∃a its,v=.ref a/\¬a∈wr/\a≠S/\h0.IsTuple a its/\(its.size:Int)<2 ^ 63/\kf i=its.size
noncomputable def qR(kf:Nat->Int)(m i:Nat):Prop:=∀j,j<m->kf j<=kf i/\(j<i->kf j<kf i)
theorem FH(W:Walks prog w A.in1 I fp wr n P St)(kf:Nat->Int)(S:On)(hSf:¬S∈fp)(h0:Oz)(hk:vY h0 S wr kf P):∀(k j i:Nat) (s:Oo) (vb:Value) (tb:Tok) (c:Nat),n-(j+1)=k->j+1<=n->St (j+1) s.heap->P i vb->i<=j->qR kf (j+1) i->(∀b o,¬b∈wr->b≠S->h0.get? b=Oh o->s.heap.get? b=Oh o)->s.heap.get? S=Oh ⟨.type "list",Oj,.seq #[vb,.int (kf i) tb] c,#[]⟩ ->
  (∀i v h' tk,P i v->i<n->qR kf n i->(∀b o,¬b∈wr->b≠S->h0.get? b=Oh o->h'.get? b=Oh o)->R (.ok (.ret v)) { s with heap:=h',toks:=tk })->Pt (Ou prog w) A (.builtin "max.loop" ⟨[.ref I,.builtin "len",.ref S],[]⟩) R s:=by
 have hSw:¬S∈wr:=λ h=>hSf (W.sub _ h);have nm:(Qm "max" ++ Qm ".loop" : String)="max.loop" := by decide
 intro k;induction k with
 |zero=>
  intro j i s vb tb c hk' hj hst hPb hij hb kp0 hS hR;have e0:j+1=n:=Z;refine gK qS ?_;rw[gM jm _];show Op (Ou prog w) A.in1 (PL (.ref S) >>= _) _ _ s;refine ae (m:=PL (.ref S)) (jg hS rfl ?_);show Op (Ou prog w) A.in1 (PQ (Pn (.ref I)) _ >>= _) _ _ s;refine ae (m:=PQ (Pn (.ref I)) _) (jZ (W.done s _ _ (e0 ▸ hst) λ h' tk kp=>?_));have hS1:=kp S _ hSw hS;show Op (Ou prog w) A.in1 (PR S (λ _=>#[]) >>= _) _ _ _;refine ae (m:=PR S (λ _=>#[])) (jV hS1 rfl (ae (s0n (au ?_))));exact hR i vb _ tk hPb Z (e0 ▸ hb) λ b o hbw hbS e=>(eQ _ _ (cy hbS)).trans (kp b o hbw (kp0 b o hbw hbS e))
 |succ k ih=>
  intro j i s vb tb c hk' hj hst hPb hij hb kp0 hS hR;have lt0:j+1<n:=Z;refine gK qS ?_;rw[gM jm _];show Op (Ou prog w) A.in1 (PL (.ref S) >>= _) _ _ s;refine ae (m:=PL (.ref S)) (jg hS rfl ?_);show Op (Ou prog w) A.in1 (PQ (Pn (.ref I)) _ >>= _) _ _ s;refine ae (m:=PQ (Pn (.ref I)) _) (jZ (W.item (j+1) s _ _ lt0 hst λ v h' tk hP hst1 kp=>?_));have hS1:=kp S _ hSw hS;have kp1:∀b o,¬b∈wr->b≠S->h0.get? b=Oh o->h'.get? b=Oh o:=λ b o hbw hbS e=>kp b o hbw (kp0 b o hbw hbS e);obtain⟨a,its,rfl,aw,aS,at0,a63,ek⟩:=hk _ _ hP;show Op (Ou prog w) A.in1 (PQ (Pz [.ref a] (call (.builtin "len") [.ref a])) _ >>= _) _ _ _;refine ae (jZ (eK (s0w (nP at0 λ o e=>kp1 a o aw aS e) a63 ?_)));rw[<- ek];show Op (Ou prog w) A.in1 (PQ (Pz [.ref a,.int (kf (j+1)) _] (richCompare .Gt (.int (kf (j+1)) _) (.int (kf i) tb) >>= _)) _ >>= _) _ _ _;refine ae (jZ (eK (ae (CmpOf.ints_gt (prog:=prog) (w:=w) (A:=A.in1) (P:=λ i v=>∃t,v=.int (kf i) t) kf (λ i v h=>h) (j+1) i _ _ _ _ _ ⟨_,O⟩ ⟨tb,O⟩ ?_))));refine ae (eK (ga ?_));refine ae (s0n (au ?_));by_cases hb':kf (j+1) > kf i
  .simp only[hb',decide_true,eO];refine ae (m:=PR S _) (jV hS1 rfl (ae (s0n ?_)));rw[nm];refine au (a:=_) ⟨fN jm _,ih (j+1) (j+1) _ (.ref a) _ _ Z lt0 (W.frame _ _ _ hst1 λ b hbf o e=>(eQ _ _ (λ h:S=b=>hSf (by rw[h];exact hbf))).trans e) hP (ao _) (λ j' hj'=>?_) (λ b o hbw hbS e=>(eQ _ _ (cy hbS)).trans (kp1 b o hbw hbS e)) (ik _ hS1 rfl) λ i2 v2 h2 tk2 q1 q2 q3 q4=>hR i2 v2 h2 tk2 q1 q2 q3 q4⟩;by_cases e:j'=j+1
   .subst e;exact⟨ka _,λ z=>XU z (dM _)⟩
   .have:=(hb j' Z).1;exact⟨Z,λ _=>by lia⟩
  .simp only[hb',decide_false,lT,iZ];refine ae (m:=letGo _) (s0n ?_);rw[nm];refine au (a:=_) ⟨fN jm _,ih (j+1) i _ vb tb c Z lt0 hst1 hPb Z (λ j' hj'=>?_) kp1 hS1 λ i2 v2 h2 tk2 q1 q2 q3 q4=>hR i2 v2 h2 tk2 q1 q2 q3 q4⟩;by_cases e:j'=j+1
   .subst e;exact⟨Z,λ z=>by lia⟩
   .exact hb j' Z
theorem FJ(W:Walks prog w A.in1 I fp wr n P St)(kf:Nat->Int)(S:On)(hSf:¬S∈fp)(h0:Oz)(hk:vY h0 S wr kf P)(hn:0<n){s:Oo}(hst:St 0 s.heap)(kp0:∀b o,¬b∈wr->b≠S->h0.get? b=Oh o->s.heap.get? b=Oh o)(hS:s.heap.get? S=Oh ⟨.type "list",Oj,.seq #[] c,#[]⟩)
  (hR:∀i v h' tk,P i v->i<n->qR kf n i->(∀b o,¬b∈wr->b≠S->h0.get? b=Oh o->h'.get? b=Oh o)->R (.ok (.ret v)) { s with heap:=h',toks:=tk }):Pt (Ou prog w) A (.builtin "max.loop" ⟨[.ref I,.builtin "len",.ref S],[]⟩) R s:=by
 have hSw:¬S∈wr:=λ h=>hSf (W.sub _ h);have nm:(Qm "max" ++ Qm ".loop" : String)="max.loop" := by decide
 refine gK qS ?_;rw[gM jm _];show Op (Ou prog w) A.in1 (PL (.ref S) >>= _) _ _ s;refine ae (m:=PL (.ref S)) (jg hS rfl ?_);show Op (Ou prog w) A.in1 (PQ (Pn (.ref I)) _ >>= _) _ _ s;refine ae (m:=PQ (Pn (.ref I)) _) (jZ (W.item 0 s _ _ hn hst λ v h' tk hP hst1 kp=>?_));have hS1:=kp S _ hSw hS;have kp1:∀b o,¬b∈wr->b≠S->h0.get? b=Oh o->h'.get? b=Oh o:=λ b o hbw hbS e=>kp b o hbw (kp0 b o hbw hbS e);obtain⟨a,its,rfl,aw,aS,at0,a63,ek⟩:=hk _ _ hP;show Op (Ou prog w) A.in1 (PQ (Pz [.ref a] (call (.builtin "len") [.ref a])) _ >>= _) _ _ _;refine ae (jZ (eK (s0w (nP at0 λ o e=>kp1 a o aw aS e) a63 ?_)));rw[<- ek];show Op (Ou prog w) A.in1 (PR S (λ _=>#[.ref a,.int (kf 0) _]) >>= _) _ _ _;refine ae (m:=PR S _) (jV hS1 rfl ?_);rw[nm];refine au (a:=_) ⟨fN jm _,FH W kf S hSf h0 hk _ 0 0 _ (.ref a) _ _ rfl hn (W.frame _ _ _ hst1 λ b hbf o e=>(eQ _ _ (λ h:S=b=>hSf (by rw[h];exact hbf))).trans e) hP (ao _) (λ j' hj'=>?_) (λ b o hbw hbS e=>(eQ _ _ (cy hbS)).trans (kp1 b o hbw hbS e)) (ik _ hS1 rfl) λ i2 v2 h2 tk2 q1 q2 q3 q4=>hR i2 v2 h2 tk2 q1 q2 q3 q4⟩;have z:j'=0:=Z;subst z;exact⟨ka _,λ z=>XU z (dM _)⟩
end
section
variable {st:Ox}{Tg:List Ox}{t u:TS}{e:Expr}{es:List Expr}{te:TE}{ta:TA}{pos:Pos}
end
section
variable {prog:Ov}{w:Ow}{A:Oy}
def FK(a b v:Value):QC "max" ⟨[a,b],[(OI "key",v)]⟩:=by unfold QC;kernel_rfl
theorem FL{s:Oo}{i1 i2:Array Value}{Q:VS}(hh:A.handled=Oj)(h1:s.heap.IsTuple a1 i1)(h2:s.heap.IsTuple a2 i2)(z1:(i1.size:Int)<2 ^ 63)(z2:(i2.size:Int)<2 ^ 63)
  (hQ:∀v h' tk,(v=.ref a1/\i2.size<=i1.size\/v=.ref a2/\i1.size<i2.size)->(∀b o,s.heap.get? b=Oh o->h'.get? b=Oh o)->Q v { s with heap:=h',toks:=tk }):Op (Ou prog w) A (call (.builtin "max") [.ref a1,.ref a2] [(OI "key",.builtin "len")]) Q E s:=by
 have nm:(Qm "max" ++ Qm ".loop" : String)="max.loop" := by decide
 have hT:(s.heap.push { cls:=.type "tuple",data:=.seq #[.ref a1,.ref a2] }).IsTuple s.heap.objs.size #[.ref a1,.ref a2]:=⟨_,bn _ rfl,rfl,0,rfl⟩;have hsz:(s.heap.push { cls:=.type "tuple",data:=.seq #[.ref a1,.ref a2] }).objs.size=s.heap.objs.size+1:=jc ..;refine kmb_tree PySem.F.kind_max PySem.F.plain_max PySem.F.entry_max (FK _ _ _) ?_;show Op _ A.in1 (Builtin.Builtins.bindParams "max" ["key","default"] 0 ⟨[],[(OI "key",.builtin "len")]⟩ >>= _) _ _ s;refine ae (eW (show Builtin.Builtins.bindParams "max" ["key","default"] 0 ⟨[],[(OI "key",.builtin "len")]⟩=OF [Oh (.builtin "len"),Oj] from rfl) ?_);show Op _ A.in1 (SY [.ref a1,.ref a2] >>= _) _ _ s;refine ae (dg ?_);refine ae (m:=RP _) (nQ hT ?_);refine ae (m:=QM _) (dg ?_);rw[nm];have W:=Walks.tuple (prog:=prog) (w:=w) (A:=A.in1) hh (s.heap.push { cls:=.type "tuple",data:=.seq #[.ref a1,.ref a2] }).objs.size s.heap.objs.size (by rw[hsz];exact be (jd _)) #[.ref a1,.ref a2];have hI:((s.heap.push { cls:=.type "tuple",data:=.seq #[.ref a1,.ref a2] }).push { cls:=.type "tuple_iterator",data:=.fields #[.ref s.heap.objs.size,.int 0 0] }).objs.size=s.heap.objs.size+2:=by rw[jc,hsz]
 have e1:a1<s.heap.objs.size:=by obtain⟨o,g,_⟩:=h1;exact aM g
 have e2:a2<s.heap.objs.size:=by obtain⟨o,g,_⟩:=h2;exact aM g
 refine au (a:=_) ⟨fN jm _,FJ W (λ i=>([(i1.size:Int),(i2.size:Int)].getD i 0)) ((s.heap.push { cls:=.type "tuple",data:=.seq #[.ref a1,.ref a2] }).push { cls:=.type "tuple_iterator",data:=.fields #[.ref s.heap.objs.size,.int 0 0] }).objs.size ?_ s.heap (λ i v hv=>?_) (oa _) ?_ (λ b o _ _ e=>aO _ (aO _ (aO _ e))) (bn _ rfl) λ i v h' tk q1 q2 q3 q4=>?_⟩
 .rw[hI,hsz];intro z
  rcases aB.mp z with z|z
  .exact XU z (qP _)
  .exact XU (aI.mp z) (s1h (eh (jd _)))
 .have nw:∀a,a<s.heap.objs.size->¬a∈[(s.heap.push { cls:=.type "tuple",data:=.seq #[.ref a1,.ref a2] }).objs.size]:=λ a h z=>by
   have:=aI.mp z;rw[hsz] at this;exact be (eh h) this
  match i,hv with
  |0,hv=>cases hv;exact⟨a1,i1,rfl,nw _ e1,by rw[hI];exact be (eh (eh e1)),h1,z1,rfl⟩
  |1,hv=>cases hv;exact⟨a2,i2,rfl,nw _ e2,by rw[hI];exact be (eh (eh e2)),h2,z2,rfl⟩
  |i+2,hv=>simp at hv
 .exact W.frame _ _ _ ⟨⟨_,bn _ rfl,O,O⟩,hT.push _⟩ λ b _ o e=>aO _ e
 .have kp:∀b o,s.heap.get? b=Oh o->h'.get? b=Oh o:=λ b o e=>by
   have bl:=aM e;exact q4 b o (λ z=>by have:=aI.mp z;rw[hsz] at this;exact be (eh bl) this) (by rw[hI];exact be (eh (eh bl))) e
  match i,q1 with
  |0,q1=>
   cases q1;have b:=(q3 1 (jd _)).1;have b:(i2.size:Int)<=(i1.size:Int):=b;exact hQ _ _ _ (.inl ⟨O,Z⟩) kp
  |1,q1=>
   cases q1;have b:=(q3 0 (oa _)).2 (oa _);have b:(i1.size:Int)<(i2.size:Int):=b;exact hQ _ _ _ (.inr ⟨O,Z⟩) kp
  |i+2,q1=>simp at q1
end
noncomputable def FM(r:V->V->Hp->VK->Prop)(te tf:TE):TE:=λ σ H Q=>te σ H λ x H1=>tf σ H1 λ y H2=>r x y H2 Q
theorem FN{X:Cx}{i:Nat}{elt tg iter cnd:Expr}{cl:LA}{pos pos' lpos:Pos}{own fv:List Str}{js:List Nat}
  (hN:X.N.Nodup) (hx1:X.N[i]?=Oh x) (hx:UH X.env.scope x) (hf:X.fn x=Oi\/X.env.scope.names.lookup x=Oh .local)
  (hc:X.calm=Oi) (hi:PI X tg iter wi) (hclos:OS scope X.env=OF cl) (hcell:∀y∈scope.names,y.2≠.cell) (Tp:scope.kind=.function)
  (hnames:∀y∈scope.names,y.2=.local->scope.names.lookup y.1=Oh .local)
  (hcl:∀x c,cl.lookup x=Oh c->X.env.cells.lookup x=Oh c)
  (hhas:∀x,((OY scope X.env).names.lookup x=Oh .cell\/(OY scope X.env).names.lookup x=Oh .free)->∃c,cl.lookup x=Oh c)
  (Tj:js.length=fv.length) (hcap:∀(i:Nat) x j,fv[i]?=Oh x->js[i]?=Oh j->Vd X scope cl x j)
  (hg:∀(C:On) (ex:List On) (s:Oo) (H:Hp),PG (bz X (own++fv) scope cl C ex s H) tg g)
  (he:∀(C:On) (ex:List On) (s:Oo) (H:Hp),PE (bz X (own++fv) scope cl C ex s H) elt te)
  (ht:∀(C:On) (ex:List On) (s:Oo) (H:Hp),PT (bz X (own++fv) scope cl C ex s H) cnd tc)
  (hsw:PP (.ListComp elt [⟨tg,iter,[cnd],0⟩] scope lpos) (Oh (.Name x pos')) pos.line X.env=OF Oi:=by rfl)
  (hs:∀x,OZ iter X.env x=OF x:=by intro _;rfl) :
  PS X (.Assign [.Name x pos'] (.ListComp elt [⟨tg,iter,[cnd],0⟩] scope lpos) pos) (iT (jb wi own.length js g tc te) (cV i)):=by
 intro Te s σ H D I h;rw[vK _ _ _ _ hsw];refine ae (iS ?_);rw[vL];have core:=vD (use:=Oh (PJ (.Name x pos') X.env)) (QQ:=λ _ s'=>SP X Te D .next s') (fpos:=firstIterPos [⟨tg,iter,[cnd],0⟩] lpos) (pos:=lpos) hc hi hclos hcell Tp hnames hcl hhas Tj hcap hg he ht hs I h (λ a C s5 H5 fl I5 zC zL zS zc zp ⟨m,hn⟩ q=>?_)
 .refine ae (ae (To core λ _ s' hq=>?_));exact au (au hq)
 .show Op (Ou X.prog X.w) X.A (PJ (.Name x pos') X.env (.ref a)) _ X.xe s5;show Op (Ou X.prog X.w) X.A (do Qz pos';bindName X.env x (.ref a)) _ X.xe s5;refine ae (iS ?_);refine bindName_ ?_;refine pV I5 hN hx1 hx (show RelV (.ref a) (.ref a) from rfl) (λ s6 I6 ⟨b,sb,hb⟩=>?_) hf
  have cb:C≠b:=by
   rcases hb with rfl|hb
   .exact zL
   .exact λ z=>zc x b hb z.symm
  obtain⟨o,es,ep,e,r⟩:=hn;refine⟨m,⟨o,es,ep,(sb.2 C cb).trans e,r⟩,λ h' sc=>?_⟩;exact⟨_,H5,I6.turned (t':=s6.toks) (it:=C) (λ d o nd e=>sc.extBut d o nd e) zC zL (.inr zS) zc zp,q⟩
section
variable {M:Model}{A:Oy}{E:VS}{s:Oo}{B:Oz}{env:Env}{outer:List Env}{L e dx:On}{cls:Value}
end
end _L
namespace _L
open PySem PySem.Spec PyProof.Rows Builtin Builtin.ObjectAttr
section
variable {prog:Ov}{w:Ow}{A:Oy}{E:VS}{h:Oz}{g:Array Qi}{dr:SJ}{tk:Nat}{os:OsState}{C:On}{bmB:LV}{B nid initId:String}
end
section
variable {prog:Ov}{w:Ow}{A:Oy}{E:VS}{h:Oz}{g:Array Qi}{dr:SJ}{tk:Nat}{os:OsState}{C x:On}{bmB:LV}{B nid initId:String}{K:FG}
end
section
variable {P:Ov}{w:Ow}{K:FG}{mg:SV}{base:Oz}{N:List Str}{qual:Str}{scope:Scope}{f:On}{cd:Value}{A:Oy}{outer:List Env}{s:Oo}{H:Hp}{E:XK}
end
section
variable {M:Model}{A:Oy}{E:VS}{env:Env}{C:On}{bmB:LV}{nid:String}
end
end _L
namespace _L
open PySem PySem.Spec PyProof.Rows PySem.W
variable {X:Cx}
section
variable {o e value:Expr}{f:Str}{pos pos' tpos:Pos}{ta tv:TE}
end
section
variable {CX:UE}{k:Nat}{f C:On}{fd:OP}{ps:List Str}{sp:Sp}{dvs:List V}{ds:LV}{E:XK}{EE:St->XK}{x m:Str}{p pos apos:Pos}{e o:Expr}{es:List Expr}{ta:TE}{t:TA}
end
section
open PySem.Builtin PySem.Builtin.Str
end
section
variable {a b e:Expr}{es:List Expr}{ta tb te:TE}{t:TA}{u v:TS}{st:Ox}{Tg bl:List Ox}{pos p pos':Pos}{x:Str}
end
section
variable {k j:Nat}{ps:List Str}{sp:Sp}{E:XK}{x:Str}{p pos:Pos}{e:Expr}{es:List Expr}{t:TA}
end
end _L
namespace _L
open PySem PyProof.Rows
section
variable {a p q:On}{b:Bool}{i j:Int}{x y:Str}{v:V}{vs:List V}{r:_L.St}{H:Hp}{Q:VK}{K:FG}{o:Option V}{n:Nat}{α β:Type}
end
variable {X:Cx}
section
variable {st:Ox}{Tg:List Ox}{t u:TS}{e a b:Expr}{es:List Expr}{te tb:TE}{ta:TA}{pos:Pos}
end
section
variable {CX:UE}{k:Nat}{f:On}{fd:OP}{ps:List Str}{sp:Sp}{E:XK}{x:Str}{p pos:Pos}{e:Expr}{es:List Expr}{te:TE}{t:TA}{st:Ox}{Tg:List Ox}{ts u:TS}
end
section
open PySem.W
end
end _L
namespace _L
open PySem PySem.Spec PyProof.Rows PySem.W PySem.Calls
theorem FO{X:Cx}{h₀:QS}{hl:List QS}(hb:∀(xe:VS) (pn:LO),PSs (X.more xe pn) body tb) :
  PS X (.Try body (h₀::hl) [] [] pos) tb:=by
 intro Te s σ H D I h;refine wpAny_Try_except ?_;generalize (λ e s₁=>Op (Ou X.prog X.w) X.A (Sk e X.env) (λ _ s₂=>Op (Ou X.prog X.w) X.A (setFlight e Oj) (λ _ s₃=>Op (Ou X.prog X.w) X.A (handleBy e X.env (h₀::hl)) (SP X Te D) X.xe s₃) X.xe s₂) X.xe s₁:VS)=XE;have toY:Inv (X.more XE (X.pn++Te)) [] σ H s:=⟨I.ok.more _ _,I.os,I.bare,I.base,I.loc,I.cell,I.free,I.freeC,λ p hp=>I.pin p (by simpa using hp),I.hok,I.len⟩;have ofY:∀ {σ':St}{H':Hp}{s':Oo}{pp:LO},Inv (X.more XE (X.pn++Te)) pp σ' H' s'->Inv X Te σ' H' s':=λ J=>⟨I.ok,J.os,J.bare,J.base,J.loc,J.cell,J.free,J.freeC,λ p hp=>J.pin p (fH _ hp),J.hok,J.len⟩;refine To (hb XE (X.pn++Te) [] s σ H D toY h) λ fl s' q=>?_
 cases fl with
 |next=>obtain⟨σ',H',J,z⟩:=q;exact mV ⟨σ',H',ofY J,z⟩
 |brk|cont=>obtain⟨σ',H',J,z⟩:=q;exact⟨σ',H',ofY J,z⟩
 |ret u=>obtain⟨v,σ',H',J,r,z⟩:=q;exact⟨v,σ',H',ofY J,r,z⟩
variable {X:Cx}
section
variable {pg:Ov}{wd:Ow}{B:Oy}{X0:VS}{s0:Oo}{r:On}{j:Int}{t u v:Tok}{n:Nat}
end
end _L
namespace _H
open PySem PyProof.Rows
section
open PySem.SeqAt
open PySem.AutoSeq1 (wpAny_loadPart')
open PySem.MeetsSeq PySem.MeetsSeq2 PySem.MeetsSeq3
end
section
variable {prog:Ov}{w:Ow}{A:Oy}{E:VS}{s:Oo}
end
end _H
namespace _L
open PySem PySem.Spec PyProof.Rows
variable {X:Cx}
end _L
namespace _L
open PySem PySem.Spec PyProof.Rows
def nl{a b:Nat}(h:a<b\/b<a):a≠b:=Z
section
variable {pg:Ov}{wd:Ow}{B:Oy}{X0:VS}{s0:Oo}
end
noncomputable def VD(K:FG)(b:Bool)(H:Hp)(a:On)(vs:List V):Prop:=if b=Oi then SqT K H a vs else SqL K H a vs
variable {X:Cx}
section
variable {Te:LO}{σ:St}{H:Hp}{s:Oo}
end
section
variable {es:List Expr}{x1:Nat}{pp:Pos}
end
inductive SO where
 |dct (l:List (Int×Int))|fn (a:On)|lls (as:List On) (ll:List (LL))
inductive TV where
 |non|bl (b:Bool)|int (i:Int)|str (x:Str)|tup (l:List TV)|lst (l:List TV)|bor (l:List TV)|own (l:List TV)|obj (o:SO)
open TV renaming int->XV,tup->XW,str->XX
noncomputable abbrev dcO(l:List (Int×Int)):HO:=.dK (l.map λ q=>((Qj q.1:TM),V.int q.2))
noncomputable abbrev Fz:=On->Prop
noncomputable def Ls(K:FG)(F:Fz)(H:Hp)(a:On)(vs:List V):Prop:=(F a/\SqL K H a vs) \/
 ∃(o:Obj) (its:Array Value) (n:Nat),K.lookup a=Oh o/\o.cls=.type "list" /\ o.dict=Oj/\o.data=.seq its n/\its.size<=Oq/\Vals vs its.toList
def Ls.sq{K:FG}{vs:List V}(h:Ls K F H a vs):SqL K H a vs:=h.elim (λ h=>h.2) λ h=>.inr h
def Ls.imp{K:FG}{F F':Fz}{vs:List V}(h:Ls K F H a vs)(i:F a->SqL K H a vs->F' a/\SqL K H' a vs):Ls K F' H' a vs:=h.elim (λ h=>.inl (i h.1 h.2)) .inr
mutual
def Rp(K:FG)(F:Fz)(H:Hp):TV->V->Prop
 |.non,v=>v=.non
 |.bl b,v=>v=.bl b
 |.int i,v=>v=.int i
 |.str x,v=>v=.str x
 |.tup l,v=>∃a vs,v=.ref a/\SqT K H a vs/\RpL K F H l vs
 |.lst l,v=>∃a vs,v=.ref a/\Ls K F H a vs/\RpL K F H l vs
 |.bor _,_=>False
 |.own _,_=>False
 |.obj _,_=>False
def RpL(K:FG)(F:Fz)(H:Hp):List TV->List V->Prop
 |[],vs=>vs=[]
 |t::ts,vs=>∃v r,vs=v::r/\Rp K F H t v/\RpL K F H ts r
end
structure Wd (J:Hp->Prop)(F:Fz)(H:Hp):Prop where
 j:J H
 d:∀a,F a->H a≠Oj
structure Grow (J:Hp->Prop)(F:Fz)(H:Hp)(F':Fz)(H':Hp):Prop where
 sm:∀a o,(∀ps,o≠.tbl ps)->H a=Oh o->H' a=Oh o
 dm:∀a,H a≠Oj->H' a≠Oj
 up:∀a,F a->F' a
 nw:∀a,F' a->F a\/H a=Oj
 w:Wd J F' H'
section
variable {K:FG}{J:Hp->Prop}{F F' F1 F2:Fz}{H H' H1 H2:Hp}
def Grow.refl(w:Wd J F H):Grow J F H F H:=⟨λ _ _ _ e=>e,λ _ e=>e,λ _ e=>e,λ _ e=>.inl e,w⟩
def Grow.trans(g:Grow J F H F1 H1)(k:Grow J F1 H1 F2 H2):Grow J F H F2 H2 :=
 ⟨λ a o n e=>k.sm a o n (g.sm a o n e),λ a e=>k.dm a (g.dm a e),λ a e=>k.up a (g.up a e),λ a e=>by
  rcases k.nw a e with q|q
  .exact g.nw a q
  .by_cases z:H a=Oj
   .exact .inr z
   .exact XU q (g.dm a z),k.w⟩
def Rd.sm{a:On}{u:HO}(s:∀a o,(∀ps,o≠.tbl ps)->H a=Oh o->H' a=Oh o)(n:∀ps,u≠.tbl ps)(h:Rd H a u):Rd H' a u:=by
 rcases h with h|⟨o,h⟩
 .exact .inl (s _ _ n h)
 .exact .inr ⟨o,s _ _ (λ ps z=>by cases z) h⟩
def SqT.sm{a:On}{vs:List V}(s:∀a o,(∀ps,o≠.tbl ps)->H a=Oh o->H' a=Oh o)(h:SqT K H a vs):SqT K H' a vs:=by
 rcases h with h|h
 .exact .inl (h.sm s λ ps z=>by cases z)
 .exact .inr h
def SqL.sm{a:On}{vs:List V}(s:∀a o,(∀ps,o≠.tbl ps)->H a=Oh o->H' a=Oh o)(h:SqL K H a vs):SqL K H' a vs:=by
 rcases h with h|h
 .exact .inl (h.sm s λ ps z=>by cases z)
 .exact .inr h
structure Ke (K:FG)(F:Fz)(H:Hp)(F':Fz)(H':Hp):Prop where
 t:∀a vs,SqT K H a vs->SqT K H' a vs
 l:∀a vs,Ls K F H a vs->Ls K F' H' a vs
mutual
theorem Rp.ke(k:Ke K F H F' H'):∀ {t:TV}{v:V},Rp K F H t v->Rp K F' H' t v
 |.non,_,h=>h
 |.bl _,_,h=>h
 |.int _,_,h=>h
 |.str _,_,h=>h
 |.tup _,_,⟨a,vs,e,q,r⟩=>⟨a,vs,e,k.t _ _ q,RpL.ke k r⟩
 |.lst _,_,⟨a,vs,e,f,r⟩=>⟨a,vs,e,k.l _ _ f,RpL.ke k r⟩
 |.bor _,_,h=>h.elim
 |.own _,_,h=>h.elim
 |.obj _,_,h=>h.elim
theorem RpL.ke(k:Ke K F H F' H'):∀ {ts:List TV}{vs:List V},RpL K F H ts vs->RpL K F' H' ts vs
 |[],_,h=>h
 |_::_,_,⟨v,r,e,h1,h2⟩=>⟨v,r,e,Rp.ke k h1,RpL.ke k h2⟩
end
def Grow.ke(g:Grow J F H F' H'):Ke K F H F' H':=⟨λ _ _ h=>h.sm g.sm,λ a _ h=>h.imp λ f h=>⟨g.up a f,h.sm g.sm⟩⟩
def Ke.up(h:∀a,F a->F' a):Ke K F H F' H:=⟨λ _ _ h=>h,λ a _ q=>q.imp λ f q=>⟨h a f,q⟩⟩
noncomputable def Rr(K:FG)(H:Hp)(F':Fz)(H':Hp):TV->V->Prop
 |.own l,v=>∃a vs,v=.ref a/\H a=Oj/\¬F' a/\H' a=Oh (.lst vs)/\RpL K F' H' l vs
 |.bor l,v=>∃a vs,v=.ref a/\¬F' a/\H' a=Oh (.lst vs)/\RpL K F' H' l vs
 |t,v=>Rp K F' H' t v
def Rr.of(h:Rp K F' H' t v):Rr K H F' H' t v:=by
 cases t<;>first|exact h|exact h.elim
def Rr.grow(g:Grow J F1 H1 F2 H2)(h:Rr K H F1 H1 t v):Rr K H F2 H2 t v:=by
 have nf:∀ {a vs},¬F1 a->H1 a=Oh (.lst vs)->¬F2 a:=λ n e z=>by
  rcases g.nw _ z with q|q
  .exact n q
  .rw[q] at e;cases e
 cases t with
 |own l=>obtain⟨a,vs,e,n,f,q,r⟩:=h;exact⟨a,vs,e,n,nf f q,g.sm _ _ (λ ps z=>by cases z) q,r.ke g.ke⟩
 |bor l=>obtain⟨a,vs,e,f,q,r⟩:=h;exact⟨a,vs,e,nf f q,g.sm _ _ (λ ps z=>by cases z) q,r.ke g.ke⟩
 |_=>exact Rp.ke g.ke h
def Rr.late(g:Grow J F H F1 H1)(h:Rr K H1 F2 H2 t v):Rr K H F2 H2 t v:=by
 cases t with
 |own l=>
  obtain⟨a,vs,e,n,f,q,r⟩:=h;refine⟨a,vs,e,?_,f,q,r⟩;by_cases z:H a=Oj
  .exact z
  .exact XU n (g.dm a z)
 |_=>exact h
noncomputable abbrev RrL(K:FG)(H:Hp)(F':Fz)(H':Hp):List TV->List V->Prop:=Pv (Rr K H F' H')
def RrL.grow{vs:List V}(g:Grow J F1 H1 F2 H2)(h:RrL K H F1 H1 ts vs):RrL K H F2 H2 ts vs:=Paired.mapP h λ _ _ r=>r.grow g
theorem RpL.length:∀ {ts:List TV}{vs:List V},RpL K F H ts vs->ts.length=vs.length
 |[],_,h=>by cases h;rfl
 |_::_,_,⟨_,_,e,_,h⟩=>by rw[e,OM,OM,RpL.length h]
theorem RpL.get:∀ {ts:List TV}{vs:List V}{i:Nat}{t:TV},RpL K F H ts vs->ts[i]?=Oh t->∃v,vs[i]?=Oh v/\Rp K F H t v
 |[],_,_,_,_,e=>by simp at e
 |_::_,_,0,_,⟨v,r,e,h1,_⟩,q=>by cases q;exact⟨v,by rw[e];rfl,h1⟩
 |_::_,_,i+1,_,⟨v,r,e,_,h2⟩,q=>by
  obtain⟨w,e1,h⟩:=RpL.get (i:=i) h2 q;exact⟨w,by rw[e];exact e1,h⟩
theorem RpL.append:∀ {ts us:List TV}{vs ws:List V},RpL K F H ts vs->RpL K F H us ws->RpL K F H (ts++us) (vs++ws)
 |[],_,_,_,h,g=>by cases h;exact g
 |_::_,_,_,_,⟨v,r,e,h1,h2⟩,g=>by subst e;exact⟨v,_,rfl,h1,RpL.append h2 g⟩
theorem RpL.take:∀ {ts:List TV}{vs:List V}(n:Nat),RpL K F H ts vs->RpL K F H (ts.take n) (vs.take n)
 |_,_,0,_=>rfl
 |[],_,_+1,h=>by cases h;rfl
 |_::_,_,n+1,⟨v,r,e,h1,h2⟩=>by subst e;exact⟨v,_,rfl,h1,RpL.take n h2⟩
theorem RpL.drop:∀ {ts:List TV}{vs:List V}(n:Nat),RpL K F H ts vs->RpL K F H (ts.drop n) (vs.drop n)
 |_,_,0,h=>h
 |[],_,_+1,h=>by cases h;rfl
 |_::_,_,n+1,⟨v,r,e,h1,h2⟩=>by subst e;exact RpL.drop n h2
theorem RpL.set(h:Rp K F H t v):∀ {ts:List TV}{vs:List V}(i:Nat),RpL K F H ts vs->RpL K F H (ts.set i t) (vs.set i v)
 |[],_,_,q=>by cases q;rfl
 |_::_,_,0,⟨w,r,e,_,h2⟩=>by subst e;exact⟨v,r,rfl,h,h2⟩
 |_::_,_,i+1,⟨w,r,e,h1,h2⟩=>by subst e;exact⟨w,_,rfl,h1,RpL.set h i h2⟩
def RpL.reverse{vs:List V}(h:RpL K F H ts vs):RpL K F H ts.reverse vs.reverse:=by
 induction ts generalizing vs with
 |nil=>cases h;rfl
 |cons t r ih=>
  obtain⟨v,q,e,h1,h2⟩:=h;subst e;rw[jT,jT];exact(ih h2).append ⟨v,[],O,h1,O⟩
theorem RpL.ints:∀ {ns:LI}{vs:List V},RpL K F H (ns.map XV) vs->vs=ns.map V.int
 |[],_,h=>h
 |_::_,_,⟨v,r,e,h1,h2⟩=>by rw[e,RpL.ints h2,show v=_ from h1];rfl
theorem RpL.ofInts:∀(ns:LI),RpL K F H (ns.map XV) (ns.map V.int)
 |[]=>rfl
 |_::r=>⟨_,_,rfl,rfl,RpL.ofInts r⟩
theorem RpL.bls:∀ {ns:List Bool}{vs:List V},RpL K F H (ns.map TV.bl) vs->vs=ns.map V.bl
 |[],_,h=>h
 |_::_,_,⟨v,r,e,h1,h2⟩=>by rw[e,RpL.bls h2,show v=_ from h1];rfl
noncomputable def TV.items:TV->Option (Bool×List TV)
 |.tup l=>Oh (Oi,l)
 |.lst l=>Oh (Ol,l)
 |.bor l=>Oh (Ol,l)
 |.own l=>Oh (Ol,l)
 |_=>Oj
def Rr.sq{b:Bool}{l:List TV}(h:Rr K H F' H' t v)(e:t.items=Oh (b,l)):∃a vs,v=.ref a/\RpL K F' H' l vs/\((b=Oi/\SqT K H' a vs)\/(b=Ol/\SqL K H' a vs)):=by
 cases t<;>cases e
 .obtain⟨a,vs,e,q,r⟩:=h;exact⟨a,vs,e,r,.inl ⟨rfl,q⟩⟩
 .obtain⟨a,vs,e,q,r⟩:=h;exact⟨a,vs,e,r,.inr ⟨rfl,q.sq⟩⟩
 .obtain⟨a,vs,e,_,q,r⟩:=h;exact⟨a,vs,e,r,.inr ⟨rfl,.of q⟩⟩
 .obtain⟨a,vs,e,_,_,q,r⟩:=h;exact⟨a,vs,e,r,.inr ⟨rfl,.of q⟩⟩
structure JS (J:Hp->Prop):Prop where
 nw:∀(H:Hp) (p:On) (o:HO),H p=Oj->J H->J (Ti H p o)
 mu:∀(H:Hp) (p:On) (vs ws:List V),H p=Oh (.lst vs)->J H->J (Ti H p (.lst ws))
def Grow.new(hJ:JS J)(w:Wd J F H)(o:HO)(h:H p=Oj):Grow J F H F (Ti H p o):=by
 have k:∀a x,H a=Oh x->Ti H p o a=Oh x:=λ a x e=>by rw[aA (λ z=>by rw[z,h] at e;cases e)];exact e
 have d:∀a,H a≠Oj->Ti H p o a≠Oj:=λ a e z=>by
  cases q:H a with
  |none=>exact e q
  |some x=>rw[k a x q] at z;cases z
 exact⟨λ a x _ e=>k a x e,d,λ _ e=>e,λ _ e=>.inl e,hJ.nw H p o h w.j,λ a f=>d a (w.d a f)⟩
def Grow.frz(g:Grow J F H F1 H1)(n:H a=Oj)(e:H1 a≠Oj):Grow J F H (λ b=>F1 b\/b=a) H1 :=
 ⟨g.sm,g.dm,λ b f=>.inl (g.up b f),λ b f=>by
  rcases f with f|rfl
  .exact g.nw b f
  .exact .inr n,g.w.j,λ b f=>by
  rcases f with f|rfl
  .exact g.w.d b f
  .exact e⟩
noncomputable def TV.fz:TV->TV
 |.own l=>.lst l
 |.bor l=>.lst l
 |t=>t
noncomputable def TV.nb:TV->Bool
 |.bor _=>Ol
 |_=>Oi
def Rr.frz(g:Grow J F H F1 H1)(h:Rr K H F1 H1 t v)(n:t.nb=Oi):∃F2,Grow J F H F2 H1/\(∀a,F1 a->F2 a)/\(∀a,F2 a->F1 a\/v=.ref a)/\Rp K F2 H1 t.fz v:=by
 cases t with
 |own l=>
  obtain⟨a,vs,e,n,f,q,r⟩:=h;refine⟨λ b=>F1 b\/b=a,g.frz n (by rw[q];simp),λ _ f=>.inl f,λ b f=>?_,a,vs,e,.inl ⟨.inr rfl,.of q⟩,r.ke (.up λ _ f=>.inl f)⟩
  rcases f with f|rfl
  .exact .inl f
  .exact .inr e
 |bor l=>cases n
 |_=>exact⟨F1,g,λ _ f=>f,λ _ f=>.inl f,h⟩
end
mutual
def eqT:TV->TV->Bool
 |.non,.non=>Oi
 |.bl a,.bl b=>a == b
 |.bl a,.int b=>(if a then 1 else 0) == b
 |.int a,.bl b=>a == (if b then 1 else 0)
 |.int a,.int b=>decide (a=b)
 |.str a,.str b=>decide (a=b)
 |.tup l,.tup m=>eqTL l m
 |.lst l,.lst m=>eqTL l m
 |_,_=>Ol
def eqTL:List TV->List TV->Bool
 |[],[]=>Oi
 |x::xs,y::ys=>eqT x y&&eqTL xs ys
 |_,_=>Ol
end
def oe(l m:List TV):eqT (.lst l) (.lst m)=eqTL l m:=rfl
def vZ(l m:List TV):eqT (.tup l) (.tup m)=eqTL l m:=rfl
def eqTL_c(x y:TV)(xs ys:List TV):eqTL (x::xs) (y::ys)=(eqT x y&&eqTL xs ys):=rfl
noncomputable def dp:Nat->TV->Prop
 |_,.non=>True|_,.bl _=>True|_,.int _=>True|_,.str _=>True
 |n+1,.tup l=>∀x∈l,dp n x
 |n+1,.lst l=>∀x∈l,dp n x
 |_,_=>False
theorem kg:∀ {l m:List TV},l.length≠m.length->eqTL l m=Ol
 |[],[],h=>XU rfl h
 |[],_::_,_=>rfl
 |_::_,[],_=>rfl
 |x::xs,y::ys,h=>by rw[eqTL_c,kg (l:=xs) (m:=ys) (λ z=>h (by rw[OM,OM,z])),lW]
theorem kh:∀ {l m:List TV},l.length=m.length->(OB l.length).all (λ j=>eqT (l.getD j .non) (m.getD j .non))=eqTL l m
 |[],[],_=>rfl
 |x::xs,y::ys,h=>by
  rw[OM,wa,cP,SM];show(eqT x y&&(OB xs.length).all λ j=>eqT (xs.getD j .non) (ys.getD j .non))=eqTL (x::xs) (y::ys);rw[kh (l:=xs) (m:=ys) (by simpa using h),eqTL_c]
mutual
theorem qT:∀ {t:TV}{n:Nat},dp n t->eqT t t=Oi
 |.non,_,_=>rfl
 |.bl b,_,_=>jW b
 |.int _,_,_=>cn rfl
 |.str _,_,_=>cn rfl
 |.tup l,0,h=>h.elim
 |.tup l,n+1,h=>eqTL_self (l:=l) (n:=n) h
 |.lst l,0,h=>h.elim
 |.lst l,n+1,h=>eqTL_self (l:=l) (n:=n) h
 |.bor _,0,h=>h.elim
 |.bor _,_+1,h=>h.elim
 |.own _,0,h=>h.elim
 |.own _,_+1,h=>h.elim
 |.obj _,0,h=>h.elim
 |.obj _,_+1,h=>h.elim
theorem eqTL_self:∀ {l:List TV}{n:Nat},(∀x∈l,dp n x)->eqTL l l=Oi
 |[],_,_=>rfl
 |x::xs,n,h=>by rw[eqTL_c,qT (h x on),eqTL_self λ y hy=>h y (by simp[hy])];rfl
end
def RelV.uniq(h:RelV x u)(g:RelV y u):x=y:=by
 cases x<;>cases y<;>first
  |(cases h;cases g;rfl)
  |(obtain⟨_,rfl⟩:=h;obtain⟨_,e⟩:=g;cases e;rfl)
  |(cases h;cases g;done)
  |(cases h;obtain⟨_,e⟩:=g;cases e;done)
  |(obtain⟨_,rfl⟩:=h;cases g;done)
  |(obtain⟨_,rfl⟩:=h;obtain⟨_,e⟩:=g;cases e;done)
theorem Vals.uniq:∀ {xs ys:List V}{us:LV},Vals xs us->Vals ys us->xs=ys
 |_,_,_,.nil,.nil=>rfl
 |_,_,_,.cons r t,.cons r' t'=>by rw[r.uniq r',Vals.uniq t t']
section
variable {Te:LO}{σ:St}{H:Hp}{s:Oo}{F:Fz}
def Inv.tup_uniq(I:Inv X Te σ H s)(h:SqT X.K H a xs)(g:SqT X.K H a ys):xs=ys:=by
 obtain⟨us,r1,p1,_⟩:=I.tuple h;obtain⟨ws,r2,p2,_⟩:=I.tuple g;obtain⟨o,e,_,n,d⟩:=p1;obtain⟨o',e',_,n',d'⟩:=p2;rw[e] at e';cases e';rw[d] at d';have:us.toArray=ws.toArray:=by injection d'
 have:us=ws:=by simpa using bw QA this
 subst this;exact r1.uniq r2
def Inv.lst_uniq(I:Inv X Te σ H s)(h:SqL X.K H a xs)(g:SqL X.K H a ys):xs=ys:=by
 obtain⟨us,r1,p1,_⟩:=I.list h;obtain⟨ws,r2,p2,_⟩:=I.list g;obtain⟨o,n,e,_,_,d⟩:=p1;obtain⟨o',n',e',_,_,d'⟩:=p2;rw[e] at e';cases e';rw[d] at d';have:us.toArray=ws.toArray:=by injection d'
 have:us=ws:=by simpa using bw QA this
 subst this;exact r1.uniq r2
def Inv.tl(I:Inv X Te σ H s)(h:SqT X.K H a xs)(g:SqL X.K H a ys):False:=by
 obtain⟨us,r1,p1,_⟩:=I.tuple h;obtain⟨ws,r2,p2,_⟩:=I.list g;obtain⟨o,e,c,_⟩:=p1;obtain⟨o',n',e',c',_⟩:=p2;rw[e] at e';cases e';rw[c] at c';simp at c'
mutual
theorem Inv.rp_uniq(I:Inv X Te σ H s):∀ {t u:TV}{v:V},Rp X.K F H t v->Rp X.K F H u v->t=u
 |.non,u,v,h,g=>by cases h;cases u<;>first|rfl|(cases g;done)|(obtain⟨_,_,e,_⟩:=g;cases e)|exact g.elim
 |.bl _,u,v,h,g=>by cases h;cases u<;>first|(cases g;rfl)|(cases g;done)|(obtain⟨_,_,e,_⟩:=g;cases e)|exact g.elim
 |.int _,u,v,h,g=>by cases h;cases u<;>first|(cases g;rfl)|(cases g;done)|(obtain⟨_,_,e,_⟩:=g;cases e)|exact g.elim
 |.str _,u,v,h,g=>by cases h;cases u<;>first|(cases g;rfl)|(cases g;done)|(obtain⟨_,_,e,_⟩:=g;cases e)|exact g.elim
 |.tup l,u,v,⟨a,vs,e,q,r⟩,g=>by
  subst e
  cases u with
  |tup m=>
   obtain⟨b,ws,e,q',r'⟩:=g;cases e;have:=I.tup_uniq q q';subst this;rw[Inv.rpl_uniq I r r']
  |lst m=>obtain⟨b,ws,e,q',r'⟩:=g;cases e;exact(I.tl q q'.sq).elim
  |_=>first|exact g.elim|cases g
 |.lst l,u,v,⟨a,vs,e,q,r⟩,g=>by
  subst e
  cases u with
  |lst m=>
   obtain⟨b,ws,e,q',r'⟩:=g;cases e;have:=I.lst_uniq q.sq q'.sq;subst this;rw[Inv.rpl_uniq I r r']
  |tup m=>obtain⟨b,ws,e,q',r'⟩:=g;cases e;exact(I.tl q' q.sq).elim
  |_=>first|exact g.elim|cases g
 |.bor _,_,_,h,_=>h.elim
 |.own _,_,_,h,_=>h.elim
 |.obj _,_,_,h,_=>h.elim
theorem Inv.rpl_uniq(I:Inv X Te σ H s):∀ {ts us:List TV}{vs:List V},RpL X.K F H ts vs->RpL X.K F H us vs->ts=us
 |[],us,_,h,g=>by
  cases h
  cases us with
  |nil=>rfl
  |cons t r=>obtain⟨_,_,e,_⟩:=g;cases e
 |t::ts,us,_,⟨v,r,e,h1,h2⟩,g=>by
  subst e
  cases us with
  |nil=>cases g
  |cons u us=>obtain⟨_,_,e,g1,g2⟩:=g;cases e;rw[Inv.rp_uniq I h1 g1,Inv.rpl_uniq I h2 g2]
end
def iy{K:FG}{vs:List V}(r:RpL K F H l vs)(q:Vals vs us){j:Nat}(h:j<us.toArray.size):∃z,Rp K F H (l.getD j .non) z/\RelV z us.toArray[j]/\l.getD j .non∈l:=by
 obtain⟨z,e,rz⟩:=Fi q h;have k:j<l.length:=by rw[r.length,q.length];simpa using h
 obtain⟨v,e',rv⟩:=r.get (bc k);rw[e] at e';cases e';have ee:l.getD j .non=l[j]:=by simp[aP,bc k]
 rw[ee];exact⟨z,rv,rz,kj k⟩
def wb(I:Inv X Te σ H s){n:Nat}(ih:∀m,n=m+1->∀(A:Oy) (t u:TV) (x y:V) (v w:Value),A.units+m<Pu->dp m t->Rp X.K F H t x->Rp X.K F H u y->RelV x v->RelV y w->PV A s v w (eqT t u))(A:Oy)(t u:TV)(x y:V)(v w:Value)(hu:A.units+n<Pu)(d:dp n t)(h:Rp X.K F H t x)(g:Rp X.K F H u y)(rx:RelV x v)(ry:RelV y w):PV A s v w (eqT t u):=by
 have hu0:A.units<Pu:=Z;have tupI:∀ {a vs},SqT X.K H a vs->∃us:LV,Vals vs us/\s.heap.IsTuple a us.toArray:=λ q=>by obtain⟨us,r,p,_⟩:=I.tuple q;exact⟨us,r,p⟩
 have lstI:∀ {a vs},SqL X.K H a vs->∃us:LV,Vals vs us/\s.heap.IsList a us.toArray:=λ q=>by obtain⟨us,r,p,_⟩:=I.list q;exact⟨us,r,p.isList⟩
 cases t with
 |bor l|own l|obj l=>exact h.elim
 |tup l=>
  obtain⟨a,vs,rfl,q,r⟩:=h;cases rx;obtain⟨us,r1,p1⟩:=tupI q
  cases u with
  |bor l|own l|obj l=>exact g.elim
  |non=>cases g;cases ry;exact SeqAt.EqAt.tuple_none p1 hu0
  |bl b=>cases g;cases ry;exact SeqAt.EqAt.tuple_bool b p1 hu0
  |int b=>cases g;obtain⟨tk,rfl⟩:=ry;exact SeqAt.EqAt.tuple_int b tk p1 hu0
  |str b=>cases g;obtain⟨tk,rfl⟩:=ry;exact SeqAt.EqAt.tuple_str b tk p1 hu0
  |lst m=>
   obtain⟨b,ws,rfl,q',r'⟩:=g;cases ry;obtain⟨us2,r2,p2⟩:=lstI q'.sq;exact SeqAt.EqAt.tuple_list p1 p2 hu0
  |tup m=>
   obtain⟨b,ws,rfl,q',r'⟩:=g;cases ry;obtain⟨us2,r2,p2⟩:=tupI q'
   cases n with
   |zero=>exact OV d
   |succ n=>
    have d':∀x∈l,dp n x:=d;by_cases ab:a=b
    .subst ab;have:=I.tup_uniq q q';subst this;have:=I.rpl_uniq r r';subst this;rw[vZ,eqTL_self d'];exact qz _
    .refine s1b ab ?_
     have z:=SeqAt.RcAt.tuples (A:=A) p1 p2 (e:=λ j=>eqT (l.getD j .non) (m.getD j .non)) hu0 (λ j k1 k2=>by
      obtain⟨z1,h1,r1',m1⟩:=iy r r1 k1;obtain⟨z2,h2,r2',_⟩:=iy r' r2 k2
      exact ih n rfl A.in1 _ _ z1 z2 _ _ (by show A.units+1+n<Pu;lia) (d' _ m1) h1 h2 r1' r2')
     have e1:us.toArray.size=l.length:=by simp[r.length,r1.length]
     have e2:us2.toArray.size=m.length:=by simp[r'.length,r2.length]
     rw[e1,e2] at z;rw[vZ];by_cases c:l.length=m.length
     .rw[<- c,Nat.min_self,kh c] at z;simpa using z
     .rw[kg c];have c':(l.length == m.length)=Ol:=by simpa using c
      rw[c',lW] at z;exact z
 |lst l=>
  obtain⟨a,vs,rfl,q,r⟩:=h;cases rx;obtain⟨us,r1,p1⟩:=lstI q.sq
  cases u with
  |bor l|own l|obj l=>exact g.elim
  |non=>cases g;cases ry;exact SeqAt.EqAt.list_none p1 hu0
  |bl b=>cases g;cases ry;exact SeqAt.EqAt.list_bool b p1 hu0
  |int b=>cases g;obtain⟨tk,rfl⟩:=ry;exact SeqAt.EqAt.list_int b tk p1 hu0
  |str b=>cases g;obtain⟨tk,rfl⟩:=ry;exact SeqAt.EqAt.list_str b tk p1 hu0
  |tup m=>
   obtain⟨b,ws,rfl,q',r'⟩:=g;cases ry;obtain⟨us2,r2,p2⟩:=tupI q';exact SeqAt.EqAt.list_tuple p1 p2 hu0
  |lst m=>
   obtain⟨b,ws,rfl,q',r'⟩:=g;cases ry;obtain⟨us2,r2,p2⟩:=lstI q'.sq
   cases n with
   |zero=>exact OV d
   |succ n=>
    have d':∀x∈l,dp n x:=d;have e1:us.toArray.size=l.length:=by simp[r.length,r1.length]
    have e2:us2.toArray.size=m.length:=by simp[r'.length,r2.length]
    by_cases ab:a=b
    .subst ab;have:=I.lst_uniq q.sq q'.sq;subst this;have:=I.rpl_uniq r r';subst this;rw[oe,eqTL_self d'];exact qz _
    .refine s1b ab ?_;rw[oe];by_cases c:l.length=m.length
     .have z:=SeqAt.RcAt.lists (A:=A) p1 p2 (e:=λ j=>eqT (l.getD j .non) (m.getD j .non)) (by rw[e1,e2,c]) hu0 (λ j k1 k2=>by
       obtain⟨z1,h1,r1',m1⟩:=iy r r1 k1;obtain⟨z2,h2,r2',_⟩:=iy r' r2 k2
       exact ih n rfl A.in1 _ _ z1 z2 _ _ (by show A.units+1+n<Pu;lia) (d' _ m1) h1 h2 r1' r2')
      rwa [e1,kh c] at z
     .rw[kg c];exact SeqAt.RcAt.lists_lengths p1 p2 (by rw[e1,e2];simpa using c) hu0
 |non=>
  cases h
  cases u with
  |bor l|own l|obj l=>exact g.elim
  |tup m=>obtain⟨b,ws,rfl,q',_⟩:=g;cases ry;obtain⟨us2,r2,p2⟩:=tupI q';cases rx;exact SeqAt.EqAt.none_tuple p2 hu0
  |lst m=>obtain⟨b,ws,rfl,q',_⟩:=g;cases ry;obtain⟨us2,r2,p2⟩:=lstI q'.sq;cases rx;exact SeqAt.EqAt.none_list p2 hu0
  |_=>cases g;exact lC rx ry rfl rfl
 |bl k=>
  cases h
  cases u with
  |bor l|own l|obj l=>exact g.elim
  |tup m=>obtain⟨b,ws,rfl,q',_⟩:=g;cases ry;obtain⟨us2,r2,p2⟩:=tupI q';cases rx;exact SeqAt.EqAt.bool_tuple k p2 hu0
  |lst m=>obtain⟨b,ws,rfl,q',_⟩:=g;cases ry;obtain⟨us2,r2,p2⟩:=lstI q'.sq;cases rx;exact SeqAt.EqAt.bool_list k p2 hu0
  |_=>cases g;exact lC rx ry rfl rfl
 |int k=>
  cases h
  cases u with
  |bor l|own l|obj l=>exact g.elim
  |tup m=>obtain⟨b,ws,rfl,q',_⟩:=g;cases ry;obtain⟨us2,r2,p2⟩:=tupI q';obtain⟨tk,rfl⟩:=rx;exact SeqAt.EqAt.int_tuple k tk p2 hu0
  |lst m=>obtain⟨b,ws,rfl,q',_⟩:=g;cases ry;obtain⟨us2,r2,p2⟩:=lstI q'.sq;obtain⟨tk,rfl⟩:=rx;exact SeqAt.EqAt.int_list k tk p2 hu0
  |_=>cases g;exact lC rx ry rfl rfl
 |str k=>
  cases h
  cases u with
  |bor l|own l|obj l=>exact g.elim
  |tup m=>obtain⟨b,ws,rfl,q',_⟩:=g;cases ry;obtain⟨us2,r2,p2⟩:=tupI q';obtain⟨tk,rfl⟩:=rx;exact SeqAt.EqAt.str_tuple k tk p2 hu0
  |lst m=>obtain⟨b,ws,rfl,q',_⟩:=g;cases ry;obtain⟨us2,r2,p2⟩:=lstI q'.sq;obtain⟨tk,rfl⟩:=rx;exact SeqAt.EqAt.str_list k tk p2 hu0
  |_=>cases g;exact lC rx ry rfl rfl
def wc(I:Inv X Te σ H s)(n:Nat):∀(A:Oy) (t u:TV) (x y:V) (v w:Value),A.units+n<Pu->dp n t->Rp X.K F H t x->Rp X.K F H u y->RelV x v->RelV y w->PV A s v w (eqT t u):=by
 induction n with
 |zero=>exact wb I λ m e=>nomatch e
 |succ n ih=>exact wb I λ m e=>by cases e;exact ih
end
set_option genInjectivity false in
set_option genSizeOfSpec false in
inductive BI where
 |len|tuple|list|sum|max|min|abs|int|str|sorted|any|all|isI|isB|isT|isL|isS|maxlen|trev (b:Bool)|lrange (k:Bool)
set_option genInjectivity false in
set_option genSizeOfSpec false in
inductive IK where
 |seq|rng|rng2|rng3|zip (a b:Bool)|zip3|enum (a:Bool)|rev (a:Bool)|str
set_option genInjectivity false in
set_option genSizeOfSpec false in
inductive Cd where
 |v (i:Nat)|c (t:TV)|g (k:Nat)
 |bin (o:QP) (a b:Cd)|neg (a:Cd)|not (a:Cd)|cmp (o:Qo) (a b:Cd)|cm2 (o o':Qo) (a b c:Cd)
 |and (a b:Cd)|or (a b:Cd)|ite (c a b:Cd)
 |nil|cons (a r:Cd)|tup (l:Cd)|lst (l:Cd)|ix (a b:Cd)|sl (a lo hi:Cd)
 |call (f:Nat) (l:Cd)|bi (f:BI) (l:Cd)|mxl (a b:Cd)|trev (k:Bool) (a:Cd)|lrng (k:Bool) (a:Cd)|dk (k:Nat) (a:Cd)|ap (i f:Nat) (l:Cd)|cf (i f:Nat) (x:Str) (a:Cd)
 |comp (own:List Str) (fv:List Str) (js:List Nat) (tg:List Nat) (k:IK) (it:Cd) (e:Cd)|compI (own:List Str) (fv:List Str) (js:List Nat) (tg:List Nat) (k:IK) (it:Cd) (c e:Cd)
noncomputable abbrev Tf:=List TV->(TV->Prop)->Prop
noncomputable abbrev En:=List (Option TV)
noncomputable def i2(t u:TV)(P:Int->Int->Prop):Prop:=match t,u with|.int i,.int j=>P i j|_,_=>False
noncomputable def i1(t:TV)(P:Int->Prop):Prop:=match t with|.int i=>P i|_=>False
noncomputable def b1(t:TV)(P:Bool->Prop):Prop:=match t with|.bl i=>P i|_=>False
noncomputable def l1(t:TV)(P:List TV->Prop):Prop:=match t with|.lst l=>P l|.bor l=>P l|.own l=>P l|_=>False
noncomputable def s1(t:TV)(P:List TV->Prop):Prop:=match t with|.lst l=>P l|.bor l=>P l|.own l=>P l|.tup l=>P l|_=>False
noncomputable def aJ(i j:Int):Int:=if 0<j then i%j else i.fmod j
noncomputable def aR(i j:Int):Int:=if 0<j then i/j else i.fdiv j
noncomputable def qU(t u:TV)(K:TV->Prop):Prop:=match t,u with
 |.int i,.int j=>K (.int (i+j))
 |.tup l,.tup m=>l.length+m.length<=Oq/\K (.tup (l++m))
 |t,u=>l1 t λ l=>l1 u λ m=>l.length+m.length<=Oq/\K (.own (l++m))
noncomputable def qV(t u:TV)(K:TV->Prop):Prop:=match t,u with
 |.int i,.int j=>QN i j/\K (.int (i*j))
 |.tup l,.int k=>l≠[]/\(0<=k/\k<2 ^ 63)/\l.length*k.toNat<=Oq/\K (.tup (Os k.toNat l).flatten)
 |t,.int k=>(match t with|.own l=>(0<=k/\k<2 ^ 63)/\l.length*k.toNat<=Oq/\K (.own (Os k.toNat l).flatten)|_=>False)
 |_,_=>False
noncomputable def Wa:QP->TV->TV->(TV->Prop)->Prop
 |.Add,t,u,K=>qU t u K
 |.Sub,t,u,K=>i2 t u λ i j=>K (.int (i-j))
 |.Mult,t,u,K=>qV t u K
 |.FloorDiv,t,u,K=>i2 t u λ i j=>(j≠0/\-18446744073709551616<j/\j<1606938044258990275541962092341162602522202993782792835301376)/\K (.int (aR i j))
 |.Mod,t,u,K=>i2 t u λ i j=>j≠0/\K (.int (aJ i j))
 |.Pow,t,u,K=>i2 t u λ i j=>lj i j/\K (.int (i ^ j.toNat))
 |.RShift,t,u,K=>i2 t u λ i j=>0<=j/\K (.int (i/2 ^ j.toNat))
 |.BitAnd,t,u,K=>i2 t u λ i j=>K (.int (Builtin.bitAnd i j))
 |.BitOr,t,u,K=>i2 t u λ i j=>K (.int (Builtin.bitOr i j))
 |.BitXor,t,u,K=>i2 t u λ i j=>K (.int (Builtin.bitXor i j))
 |_,_,_,_=>False
noncomputable def Xb(t u:TV):Prop:=match t,u with
 |.tup l,.tup _=>dp 99 (.tup l)
 |.lst l,.lst _=>dp 99 (.lst l)
 |.int _,.int _=>True|.str _,.str _=>True|.bl _,.bl _=>True|.non,.non=>True
 |.non,.int _=>True|.int _,.non=>True|.non,.str _=>True|.str _,.non=>True|.int _,.str _=>True|.str _,.int _=>True
 |.non,.bl _=>True|.bl _,.non=>True
 |_,_=>False
noncomputable def Uq:TV->Bool
 |.non=>Oi|.bl _=>Oi|.int _=>Oi|.str _=>Oi|_=>Ol
noncomputable def inT(x:TV)(l:List TV):Bool:=l.any λ y=>eqT y x
noncomputable def WE(t u:TV)(K:TV->Prop):Prop:=match t,u with
 |t,u=>i2 t u λ i j=>K (.bl (decide (j<i)))
noncomputable def iz:Qo->TV->TV->(TV->Prop)->Prop
 |.Eq,t,u,K=>Xb t.fz u.fz/\K (.bl (eqT t.fz u.fz))
 |.NotEq,t,u,K=>Xb t.fz u.fz/\K (.bl (!eqT t.fz u.fz))
 |.Lt,t,u,K=>i2 t u λ i j=>K (.bl (decide (i<j)))
 |.LtE,t,u,K=>i2 t u λ i j=>K (.bl (decide (i<=j)))
 |.Gt,t,u,K=>WE t u K
 |.GtE,t,u,K=>i2 t u λ i j=>K (.bl (decide (j<=i)))
 |.In,t,u,K=>s1 u λ l=>Uq t=Oi/\(∀x∈l,Uq x=Oi)/\K (.bl (inT t l))
 |.NotIn,t,u,K=>s1 u λ l=>Uq t=Oi/\(∀x∈l,Uq x=Oi)/\K (.bl (!inT t l))
 |.Is,t,u,K=>u=.non/\K (.bl (match t with|.non=>Oi|_=>Ol))
 |.IsNot,t,u,K=>u=.non/\K (.bl (match t with|.non=>Ol|_=>Oi))
noncomputable def ah(l:List TV)(lo hi:Option Int):List TV:=(l.drop (_H.sIx l.length 0 lo)).take (_H.sIx l.length l.length hi-_H.sIx l.length 0 lo)
noncomputable def oI(t:TV)(P:Option Int->Prop):Prop:=match t with|.non=>P Oj|.int i=>P (Oh i)|_=>False
noncomputable def Wb(t:TV)(a b:Option Int)(K:TV->Prop):Prop:=match t with
 |.tup l=>K (.tup (ah l a b))
 |.str x=>x.length<=4000000/\K (.str (Txt.slice x a b))
 |t=>l1 t λ l=>K (.own (ah l a b))
noncomputable def Wc(t u:TV)(K:TV->Prop):Prop:=match t with
 |.str x=>i1 u λ i=>x.length<=Oq/\∃c,TW x.cps.toList i=Oh c/\K (.str ⟨#[c]⟩)
 |t=>s1 t λ l=>i1 u λ i=>∃x,TW l i=Oh x/\K x
noncomputable def LF:TV->Prop
 |.tup l=>∀x∈l,LF x
 |.lst _=>False|.bor _=>False|.own _=>False|.obj _=>False
 |_=>True
noncomputable def k1(b:Bool)(t:TV)(P:List TV->Prop):Prop:=if b=Oi then (match t with|.tup l=>P l|_=>False) else l1 t P
noncomputable def UJ:BI->List TV->(TV->Prop)->Prop
 |.len,[t],K=>(match t with|.str x=>x.length<=Oq/\K (.int x.length)|t=>s1 t λ l=>K (.int l.length))
 |.tuple,[t],K=>s1 t λ l=>K (.tup l)
 |.list,[t],K=>s1 t λ l=>K (.own l)
 |.sum,[t],K=>l1 t λ l=>∃ns:LI,l=ns.map .int/\K (.int ns.sum)
 |.max,[t,u],K=>i2 t u λ i j=>K (.int (if j > i then j else i))
 |.max,[t],K=>l1 t λ l=>∃ns:LI,l=ns.map .int/\0<ns.length/\∀M:Int,M∈ns->(∀z∈ns,z<=M)->K (.int M)
 |.min,[t],K=>l1 t λ l=>∃ns:LI,l=ns.map .int/\0<ns.length/\∀M:Int,M∈ns->(∀z∈ns,M<=z)->K (.int M)
 |.min,[t,u],K=>i2 t u λ i j=>K (.int (if j<i then j else i))
 |.abs,[t],K=>i1 t λ i=>K (.int (if i<0 then -i else i))
 |.int,[t],K=>(match t with|.int i=>K (.int i)|.bl k=>K (.int (if k then 1 else 0))|_=>False)
 |.str,[t],K=>i1 t λ i=>i.natAbs.log2<1920/\K (.str (OI (Qm i)))
 |.sorted,[t],K=>s1 t λ l=>∃ns:LI,l=ns.map .int/\ns.length<64/\∀ns':LI,ns'.Perm ns->ns'.Pairwise (·<=·)->K (.own (ns'.map .int))
 |.any,[t],K=>l1 t λ l=>∃bs:List Bool,l=bs.map .bl/\K (.bl (bs.any id))
 |.all,[t],K=>l1 t λ l=>∃bs:List Bool,l=bs.map .bl/\K (.bl (bs.all id))
 |.isI,[t],K=>(match t with|.int _=>K (.bl Oi)|.bl _=>K (.bl Oi)|.str _=>K (.bl Ol)|.non=>K (.bl Ol)|.tup _=>K (.bl Ol)|_=>False)
 |.isB,[t],K=>(match t with|.bl _=>K (.bl Oi)|.int _=>K (.bl Ol)|.str _=>K (.bl Ol)|.non=>K (.bl Ol)|.tup _=>K (.bl Ol)|_=>False)
 |.isT,[t],K=>(match t with|.tup _=>K (.bl Oi)|.int _=>K (.bl Ol)|.str _=>K (.bl Ol)|.non=>K (.bl Ol)|.bl _=>K (.bl Ol)|_=>False)
 |.isL,[t],K=>(match t with|.tup _=>K (.bl Ol)|.int _=>K (.bl Ol)|.str _=>K (.bl Ol)|.non=>K (.bl Ol)|.bl _=>K (.bl Ol)|.lst _=>K (.bl Oi)|.bor _=>K (.bl Oi)|.own _=>K (.bl Oi)|.obj _=>False)
 |.isS,[t],K=>(match t with|.tup _=>K (.bl Ol)|.int _=>K (.bl Ol)|.str _=>K (.bl Oi)|.non=>K (.bl Ol)|.bl _=>K (.bl Ol)|_=>False)
 |.trev b,[t],K=>k1 b t λ l=>K (.tup l.reverse)
 |.maxlen,[t,u],K=>(match t,u with|.tup l,.tup m=>K (.tup (if l.length<m.length then m else l))|_,_=>False)
 |.lrange k,[t],K=>i1 t λ j=>(0<=j/\j<=1000)/\K (if k=Oi then .tup ((OB j.toNat).map λ i=>.int (i:Nat)) else .own ((OB j.toNat).map λ i=>.int (i:Nat)))
 |_,_,_=>False
noncomputable def z3(l m n:List TV):List TV:=SQ (λ x (p:TV×TV)=>.tup [x,p.1,p.2]) l (m.zip n)
noncomputable def Ve:IK->List TV->(List TV->Prop)->Prop
 |.seq,[t],K=>s1 t K
 |.rng,[t],K=>i1 t λ j=>(-(2 ^ 62)<=j/\j<2 ^ 62)/\K ((OB j.toNat).map λ i=>.int (i:Nat))
 |.rng2,[t,u],K=>i2 t u λ i j=>(-(2 ^ 62)<=i/\i<2 ^ 62/\-(2 ^ 62)<=j/\j<2 ^ 62)/\K ((OB (j-i).toNat).map λ k=>.int (i+(k:Nat)))
 |.rng3,[t,u,w],K=>i2 t u λ i j=>i1 w λ c=>(c≠0/\c.natAbs<1073741824/\Pj i j c=Oi)/\K ((OB (OG i j c).toNat).map λ k=>.int (i+(k:Nat)*c))
 |.zip a b,[t,u],K=>k1 a t λ l=>k1 b u λ m=>K (SQ (λ x y=>.tup [x,y]) l m)
 |.zip3,[t,u,w],K=>k1 Oi t λ l=>k1 Oi u λ m=>k1 Oi w λ n=>(m.length=l.length/\n.length=l.length)/\K (z3 l m n)
 |.enum a,[t],K=>k1 a t λ l=>K (l.mapIdx λ i x=>.tup [.int (i:Nat),x])
 |.rev a,[t],K=>k1 a t λ l=>K l.reverse
 |.str,[t],K=>(match t with|.str x=>K (x.cps.toList.map λ c=>.str ⟨#[c]⟩)|_=>False)
 |_,_,_=>False
noncomputable def Vs(s:Option TV)(K:TV->Prop):Prop:=match s with|some (.bor _)=>False|some t=>K t|none=>False
noncomputable def VE(s:Option TV)(P:List TV->Prop):Prop:=match s with|some (.bor l)=>P l|_=>False
noncomputable def t1(t:TV)(P:Str->Prop):Prop:=match t with|.str x=>P x|_=>False
noncomputable def VF:List TV->Str->Option TV
 |.tup [.str k,t]::r,x=>if decide (k=x)=Oi then Oh t else VF r x
 |_,_=>Oj
noncomputable abbrev kT(k:LI):TV:=.tup (k.map .int)
noncomputable def Vm(s:Option (Option TV))(P:On->Prop):Prop:=match s with|some (Oh (.obj (.fn a)))=>P a|_=>False
noncomputable def We:Option (Option TV)->(TV->Prop)->Prop
 |some (Oh (.obj _)),_=>False
 |some (Oh t),K=>K (match t with|.own l=>.bor l|t=>t)
 |_,_=>False
noncomputable def Ud(ρ:En)(is:List Nat)(t:TV)(K:En->Prop):Prop:=match is with
 |[i]=>K (ρ.set i (Oh t))
 |[i,j]=>(match t with|.tup [x,y]=>K ((ρ.set i (Oh x)).set j (Oh y))|_=>False)
 |[i,j,k]=>(match t with|.tup [x,y,z]=>K (((ρ.set i (Oh x)).set j (Oh y)).set k (Oh z))|_=>False)
 |[i,j,k,m]=>(match t with|.tup [x,y,z,w]=>K ((((ρ.set i (Oh x)).set j (Oh y)).set k (Oh z)).set m (Oh w))|_=>False)
 |_=>False
noncomputable def UF(b:TV->(List TV->Prop)->Prop):List TV->(List TV->Prop)->Prop
 |[],K=>K []
 |t::r,K=>b t λ y=>UF b r λ ys=>K (y++ys)
section
variable (FT:List Tf)(GT:List TV)
mutual
def wE:Cd->En->(TV->Prop)->Prop
 |.v i,ρ,K=>We ρ[i]? K
 |.c t,_,K=>K t
 |.g k,_,K=>Vs GT[k]? K
 |.bin o a b,ρ,K=>wE a ρ λ x=>wE b ρ λ y=>Wa o x y K
 |.neg a,ρ,K=>wE a ρ λ x=>i1 x λ i=>K (.int (-i))
 |.not a,ρ,K=>wE a ρ λ x=>b1 x λ i=>K (.bl (!i))
 |.cmp o a b,ρ,K=>wE a ρ λ x=>wE b ρ λ y=>iz o x y K
 |.cm2 o o' a b c,ρ,K=>wE a ρ λ x=>wE b ρ λ y=>iz o x y λ z=>b1 z λ k=>if k=Oi then wE c ρ λ w=>iz o' y w K else K (.bl Ol)
 |.and a b,ρ,K=>wE a ρ λ x=>b1 x λ k=>if k=Oi then wE b ρ K else K (.bl Ol)
 |.or a b,ρ,K=>wE a ρ λ x=>b1 x λ k=>if k=Oi then K (.bl Oi) else wE b ρ K
 |.ite c a b,ρ,K=>wE c ρ λ x=>b1 x λ k=>if k=Oi then wE a ρ K else wE b ρ K
 |.tup l,ρ,K=>wL l ρ λ ts=>ts.all TV.nb=Oi/\ts.length<=Oq/\K (.tup (ts.map .fz))
 |.lst l,ρ,K=>wL l ρ λ ts=>ts.all TV.nb=Oi/\ts.length<=Oq/\K (.own (ts.map .fz))
 |.ix a b,ρ,K=>wE a ρ λ x=>wE b ρ λ y=>Wc x y K
 |.sl a lo hi,ρ,K=>wE a ρ λ x=>wE lo ρ λ y=>oI y λ p=>wE hi ρ λ z=>oI z λ q=>Wb x p q K
 |.call f l,ρ,K=>wL l ρ λ ts=>∃P,(∃S,FT[f]?=Oh S/\S (ts.map .fz) P)/\∀t,P t->(ts.all TV.nb=Ol->LF t)/\K t
 |.bi f l,ρ,K=>wL l ρ λ ts=>UJ f ts K
 |.mxl a b,ρ,K=>wE a ρ λ t=>wE b ρ λ u=>UJ .maxlen [t,u] K
 |.trev k a,ρ,K=>wE a ρ λ t=>UJ (.trev k) [t] K
 |.lrng k a,ρ,K=>wE a ρ λ t=>UJ (.lrange k) [t] K
 |.dk k a,ρ,K=>VE GT[k]? λ kvs=>wE a ρ λ y=>t1 y λ x=>∃t,VF kvs x=Oh t/\K t
 |.ap i f l,ρ,K=>(FT[f]?).isSome=Oi/\Vm ρ[i]? λ a=>wL l ρ λ ts=>ts.all TV.nb=Oi/\∃P,(∃S,FT[f]?=Oh S/\S (.str "" :: .obj (.fn a)::ts.map .fz) P)/\∀t,P t->K t
 |.cf i f x c,ρ,K=>(∃S,FT[f]?=Oh S/\S [.str x] λ _=>True)/\Vm ρ[i]? λ a=>wE c ρ λ u=>u.nb=Oi/\∃P,(∃S,FT[f]?=Oh S/\S [.str x,.obj (.fn a),u.fz] P)/\∀t,P t->K t
 |.comp own _ js tg k it e,ρ,K=>wL it ρ λ ts=>Ve k ts λ its=>its.length<Oq /\
   UF (λ t K'=>Ud (Os own.length Oj++js.map λ j=>(ρ[j]?).join) tg t λ ρ'=>wE e ρ' λ y=>(y.nb=Oi/\K' [y.fz])) its λ ys=>K (.own ys)
 |.compI own _ js tg k it c e,ρ,K=>wL it ρ λ ts=>Ve k ts λ its=>its.length<Oq /\
   UF (λ t K'=>Ud (Os own.length Oj++js.map λ j=>(ρ[j]?).join) tg t λ ρ'=>wE c ρ' λ x=>b1 x λ q=>if q=Oi then wE e ρ' λ y=>(y.nb=Oi/\K' [y.fz]) else K' []) its λ ys=>K (.own ys)
 |_,_,_=>False
def wL:Cd->En->(List TV->Prop)->Prop
 |.nil,_,K=>K []
 |.cons a r,ρ,K=>wE a ρ λ t=>wL r ρ λ ts=>K (t::ts)
 |_,_,_=>False
end
end
section
variable {K K':TV->Prop}{t u w:TV}
def kn{P P':Int->Int->Prop}(h:∀i j,P i j->P' i j)(q:i2 t u P):i2 t u P':=by
 cases t<;>cases u<;>first|exact h _ _ q|exact q.elim
def gu{P P':Int->Prop}(h:∀i,P i->P' i)(q:i1 t P):i1 t P':=by
 cases t<;>first|exact h _ q|exact q.elim
def cD{P P':Bool->Prop}(h:∀i,P i->P' i)(q:b1 t P):b1 t P':=by
 cases t<;>first|exact h _ q|exact q.elim
def qW{P P':List TV->Prop}(h:∀i,P i->P' i)(q:l1 t P):l1 t P':=by
 cases t<;>first|exact h _ q|exact q.elim
def og{P P':List TV->Prop}(h:∀i,P i->P' i)(q:s1 t P):s1 t P':=by
 cases t<;>first|exact h _ q|exact q.elim
def iA{P P':List TV->Prop}(h:∀i,P i->P' i)(q:k1 b t P):k1 b t P':=by
 cases b
 .exact qW h q
 .cases t<;>first|exact h _ q|exact q.elim
def oh{P P':Option Int->Prop}(h:∀i,P i->P' i)(q:oI t P):oI t P':=by
 cases t<;>first|exact h _ q|exact q.elim
def FP(h:∀t,K t->K' t)(q:qU t u K):qU t u K':=by
 cases t<;>cases u<;>first|exact h _ q|exact gP q.1 (h _ q.2)|exact q.elim
def FQ(h:∀t,K t->K' t)(q:qV t u K):qV t u K':=by
 cases t<;>cases u<;>first|exact q.elim|exact gP q.1 (h _ q.2)|exact gP q.1 (gP q.2.1 (gP q.2.2.1 (h _ q.2.2.2)))|exact gP q.1 (gP q.2.1 (h _ q.2.2))
def FR(h:∀t,K t->K' t)(q:Wa o t u K):Wa o t u K':=by
 cases o<;>first
  |exact q.elim
  |exact FP h q
  |exact FQ h q
  |exact kn (λ _ _ q=>h _ q) q
  |exact kn (λ _ _ q=>⟨q.1,h _ q.2⟩) q
def FS(h:∀t,K t->K' t)(q:WE t u K):WE t u K':=by
 cases t<;>cases u<;>first|exact q.elim|exact h _ q|(obtain⟨ns,ms,a,b,q⟩:=q;exact⟨ns,ms,a,b,h _ q⟩)
def gQ(h:∀t,K t->K' t)(q:iz o t u K):iz o t u K':=by
 cases o<;>first
  |exact⟨q.1,h _ q.2⟩
  |exact kn (λ _ _ q=>h _ q) q
  |exact FS h q
  |exact og (λ _ q=>⟨q.1,q.2.1,h _ q.2.2⟩) q
def FU(h:∀t,K t->K' t)(q:Wb t a b K):Wb t a b K':=by
 cases t<;>first|exact h _ q|exact gP q.1 (h _ q.2)|exact q.elim
def FV(h:∀t,K t->K' t)(q:Wc t u K):Wc t u K':=by
 have a:∀l,(i1 u λ i=>∃x,TW l i=Oh x/\K x)->i1 u λ i=>∃x,TW l i=Oh x/\K' x:=λ l q=>gu (λ i ⟨c,e,q⟩=>⟨c,e,h _ q⟩) q;have b:∀x:Str,(i1 u λ i=>x.length<=Oq/\∃c,TW x.cps.toList i=Oh c/\K (.str ⟨#[c]⟩))->i1 u λ i=>x.length<=Oq/\∃c,TW x.cps.toList i=Oh c/\K' (.str ⟨#[c]⟩):=λ l q=>gu (λ i ⟨z,c,e,q⟩=>⟨z,c,e,h _ q⟩) q
 cases t with
 |str x=>exact b x q
 |tup l|lst l|bor l|own l=>exact a l q
 |_=>exact q.elim
def qX(h:∀t,K t->K' t)(q:UJ f ts K):UJ f ts K':=by
 have sl:∀ {t:TV}{g:List TV->TV},(s1 t λ l=>K (g l))->s1 t λ l=>K' (g l):=λ q=>og (λ _ q=>h _ q) q;have il:∀ {t:TV}{g:Int->TV},(i1 t λ l=>K (g l))->i1 t λ l=>K' (g l):=λ q=>gu (λ _ q=>h _ q) q;have i2l:∀ {t u:TV}{g:Int->Int->TV},(i2 t u λ i j=>K (g i j))->i2 t u λ i j=>K' (g i j):=λ q=>kn (λ _ _ q=>h _ q) q
 rcases ts with _|⟨t,_|⟨u,_|⟨w,r⟩⟩⟩
 .cases f<;>exact q.elim
 .cases f with
  |len=>cases t<;>first|exact h _ q|exact q.elim|exact gP q.1 (h _ q.2)
  |tuple|list=>exact sl q
  |trev b=>exact iA (λ _ q=>h _ q) q
  |sum|any|all=>exact qW (λ _ ⟨ns,e,q⟩=>⟨ns,e,h _ q⟩) q
  |max|min=>exact qW (λ _ ⟨ns,e,l,q⟩=>⟨ns,e,l,λ M m z=>h _ (q M m z)⟩) q
  |abs=>exact il q
  |int|isI|isB|isT|isL|isS=>cases t<;>first|exact h _ q|exact q.elim
  |str|lrange k=>exact gu (λ _ ⟨a,q⟩=>⟨a,h _ q⟩) q
  |sorted=>exact og (λ _ ⟨ns,e,l,q⟩=>⟨ns,e,l,λ M m z=>h _ (q M m z)⟩) q
  |maxlen=>exact q.elim
 .cases f with
  |max|min=>exact i2l q
  |maxlen=>cases t<;>cases u<;>first|exact h _ q|exact q.elim
  |_=>exact q.elim
 .cases f<;>exact q.elim
def gv{K K':List TV->Prop}(h:∀t,K t->K' t)(q:Ve k ts K):Ve k ts K':=by
 rcases ts with _|⟨t,_|⟨u,_|⟨w,_|⟨y,r⟩⟩⟩⟩
 .cases k<;>exact q.elim
 .cases k with
  |seq=>exact og h q
  |rng=>exact gu (λ _ ⟨a,q⟩=>⟨a,h _ q⟩) q
  |enum a|rev a=>exact iA (λ _ q=>h _ q) q
  |str=>cases t<;>first|exact h _ q|exact q.elim
  |_=>exact q.elim
 .cases k with
  |rng2=>exact kn (λ _ _ ⟨a,q⟩=>⟨a,h _ q⟩) q
  |zip a b=>exact iA (λ _ q=>iA (λ _ q=>h _ q) q) q
  |_=>exact q.elim
 .cases k with
  |rng3=>exact kn (λ _ _ q=>gu (λ _ ⟨a,q⟩=>⟨a,h _ q⟩) q) q
  |zip3=>exact iA (λ _ q=>iA (λ _ q=>iA (λ _ ⟨a,q⟩=>⟨a,h _ q⟩) q) q) q
  |_=>exact q.elim
 .cases k<;>exact q.elim
def FW(h:∀t,K t->K' t)(q:Vs s K):Vs s K':=by
 cases s with
 |none=>exact q
 |some t=>cases t<;>first|exact h _ q|exact q.elim
def we(q:VE s P):∃l,s=Oh (.bor l)/\P l:=by
 cases s with
 |none=>exact q.elim
 |some t=>cases t<;>first|exact⟨_,rfl,q⟩|exact q.elim
def qY(q:Vm s P):∃a,s=Oh (Oh (.obj (.fn a)))/\P a:=by
 rcases s with _|_|t
 .exact q.elim
 .exact q.elim
 .cases t with
  |obj o=>cases o<;>first|exact⟨_,rfl,q⟩|exact q.elim
  |_=>exact q.elim
def wg{P P':On->Prop}(h:∀a,P a->P' a)(q:Vm s P):Vm s P':=by
 obtain⟨a,e,p⟩:=qY q;subst e;exact h a p
def FX{P P':List TV->Prop}(h:∀l,P l->P' l)(q:VE s P):VE s P':=by
 obtain⟨l,e,p⟩:=we q;subst e;exact h l p
def wj(q:t1 t P):∃x,t=.str x/\P x:=by cases t<;>first|exact⟨_,rfl,q⟩|exact q.elim
def FY{P P':Str->Prop}(h:∀x,P x->P' x)(q:t1 t P):t1 t P':=by
 obtain⟨x,e,p⟩:=wj q;subst e;exact h x p
def FZ(h:∀t,K t->K' t)(q:We s K):We s K':=by
 rcases s with _|_|t
 .exact q
 .exact q
 .cases t<;>first|exact h _ q|exact q.elim
def fO{K K':En->Prop}(h:∀t,K t->K' t)(q:Ud ρ is t K):Ud ρ is t K':=by
 rcases is with _|⟨i,_|⟨j,_|⟨k,_|⟨l,_|⟨l',r⟩⟩⟩⟩⟩
 .exact q.elim
 .exact h _ q
 .cases t with
  |tup l=>rcases l with _|⟨x,_|⟨y,_|⟨z,r⟩⟩⟩<;>first|exact h _ q|exact q.elim
  |_=>exact q.elim
 .cases t with
  |tup l=>rcases l with _|⟨x,_|⟨y,_|⟨z,_|⟨w,r⟩⟩⟩⟩<;>first|exact h _ q|exact q.elim
  |_=>exact q.elim
 .cases t with
  |tup l=>rcases l with _|⟨x,_|⟨y,_|⟨z,_|⟨w,_|⟨w',r⟩⟩⟩⟩⟩<;>first|exact h _ q|exact q.elim
  |_=>exact q.elim
 .exact q.elim
theorem oi{b b':TV->(List TV->Prop)->Prop}(hb:∀t K K',(∀y,K y->K' y)->b t K->b' t K'):∀ {l:List TV}{K K':List TV->Prop},(∀y,K y->K' y)->UF b l K->UF b' l K'
 |[],_,_,h,q=>h _ q
 |_::_,_,_,h,q=>hb _ _ _ (λ y q=>oi hb (λ ys q=>h _ q) q) q
variable {FT:List Tf}{GT:List TV}
structure Mo (FT:List Tf)(GT:List TV)(c:Cd):Prop where
 e:∀ {ρ:En}{K K':TV->Prop},(∀t,K t->K' t)->wE FT GT c ρ K->wE FT GT c ρ K'
 l:∀ {ρ:En}{K K':List TV->Prop},(∀t,K t->K' t)->wL FT GT c ρ K->wL FT GT c ρ K'
def ko{k:Bool}{A A' B B':Prop}(ha:A->A')(hb:B->B')(q:if k=Oi then A else B):if k=Oi then A' else B':=by
 cases k
 .exact hb q
 .exact ha q
def mo(FT:List Tf)(GT:List TV):∀c,Mo FT GT c:=λ c=>by
 induction c with
 |v i=>exact⟨λ h q=>FZ h q,λ _ q=>q.elim⟩
 |c t=>exact⟨λ h q=>h _ q,λ _ q=>q.elim⟩
 |g k=>exact⟨λ h q=>FW h q,λ _ q=>q.elim⟩
 |bin o a b ia ib=>exact⟨λ h q=>ia.e (λ x q=>ib.e (λ y q=>FR h q) q) q,λ _ q=>q.elim⟩
 |neg a ia=>exact⟨λ h q=>ia.e (λ x q=>gu (λ _ q=>h _ q) q) q,λ _ q=>q.elim⟩
 |not a ia=>exact⟨λ h q=>ia.e (λ x q=>cD (λ _ q=>h _ q) q) q,λ _ q=>q.elim⟩
 |cmp o a b ia ib=>exact⟨λ h q=>ia.e (λ x q=>ib.e (λ y q=>gQ h q) q) q,λ _ q=>q.elim⟩
 |cm2 o o' a b c ia ib ic=>exact⟨λ h q=>ia.e (λ x q=>ib.e (λ y q=>gQ (λ z q=>cD (λ k q=>ko (λ q=>ic.e (λ w q=>gQ h q) q) (λ q=>h _ q) q) q) q) q) q,λ _ q=>q.elim⟩
 |and a b ia ib=>exact⟨λ h q=>ia.e (λ x q=>cD (λ k q=>ko (λ q=>ib.e h q) (λ q=>h _ q) q) q) q,λ _ q=>q.elim⟩
 |or a b ia ib=>exact⟨λ h q=>ia.e (λ x q=>cD (λ k q=>ko (λ q=>h _ q) (λ q=>ib.e h q) q) q) q,λ _ q=>q.elim⟩
 |ite c a b ic ia ib=>exact⟨λ h q=>ic.e (λ x q=>cD (λ k q=>ko (λ q=>ia.e h q) (λ q=>ib.e h q) q) q) q,λ _ q=>q.elim⟩
 |nil=>exact⟨λ _ q=>q.elim,λ h q=>h _ q⟩
 |cons a r ia ir=>exact⟨λ _ q=>q.elim,λ h q=>ia.e (λ t q=>ir.l (λ ts q=>h _ q) q) q⟩
 |tup l il|lst l il=>exact⟨λ h q=>il.l (λ ts ⟨a,b,q⟩=>⟨a,b,h _ q⟩) q,λ _ q=>q.elim⟩
 |ix a b ia ib=>exact⟨λ h q=>ia.e (λ x q=>ib.e (λ y q=>FV h q) q) q,λ _ q=>q.elim⟩
 |sl a lo hi ia il ih=>exact⟨λ h q=>ia.e (λ x q=>il.e (λ y q=>oh (λ p q=>ih.e (λ z q=>oh (λ r q=>FU h q) q) q) q) q) q,λ _ q=>q.elim⟩
 |call f l il=>exact⟨λ h q=>il.l (λ ts q=>let ⟨P,s,q⟩:=q;⟨P,s,λ t p=>⟨(q t p).1,h _ (q t p).2⟩⟩) q,λ _ q=>q.elim⟩
 |bi f l il=>exact⟨λ h q=>il.l (λ ts q=>qX h q) q,λ _ q=>q.elim⟩
 |mxl a b ia ib=>exact⟨λ h q=>ia.e (λ t q=>ib.e (λ u q=>qX h q) q) q,λ _ q=>q.elim⟩
 |trev k a ia|lrng k a ia=>exact⟨λ h q=>ia.e (λ t q=>qX h q) q,λ _ q=>q.elim⟩
 |dk k a ia=>exact⟨λ h q=>FX (λ kvs q=>ia.e (λ y q=>FY (λ x ⟨t,e,q⟩=>⟨t,e,h _ q⟩) q) q) q,λ _ q=>q.elim⟩
 |ap i f l il=>exact⟨λ h q=>⟨q.1,wg (λ a q=>il.l (λ ts q=>⟨q.1,let ⟨P,s,q⟩:=q.2;⟨P,s,λ t p=>h _ (q t p)⟩⟩) q) q.2⟩,λ _ q=>q.elim⟩
 |cf i f x c ic=>exact⟨λ h q=>⟨q.1,wg (λ a q=>ic.e (λ u q=>⟨q.1,let ⟨P,s,q⟩:=q.2;⟨P,s,λ t p=>h _ (q t p)⟩⟩) q) q.2⟩,λ _ q=>q.elim⟩
 |comp own fv js tg k it e ii ie=>exact⟨λ h q=>ii.l (λ ts q=>gv (λ its q=>⟨q.1,oi (λ t K K' h q=>fO (λ ρ' q=>ie.e (λ y q=>⟨q.1,h _ q.2⟩) q) q) (λ ys q=>h _ q) q.2⟩) q) q,λ _ q=>q.elim⟩
 |compI own fv js tg k it c e ii ic ie=>exact⟨λ h q=>ii.l (λ ts q=>gv (λ its q=>⟨q.1,oi (λ t K K' h q=>fO (λ ρ' q=>ic.e (λ x q=>cD (λ z q=>ko (λ q=>ie.e (λ y q=>⟨q.1,h _ q.2⟩) q) (λ q=>h _ q) q) q) q) q) (λ ys q=>h _ q) q.2⟩) q) q,λ _ q=>q.elim⟩
def av(c:Cd){K K':TV->Prop}(h:∀t,K t->K' t)(q:wE FT GT c ρ K):wE FT GT c ρ K':=(mo FT GT c).e h q
def bH(c:Cd){K K':List TV->Prop}(h:∀t,K t->K' t)(q:wL FT GT c ρ K):wL FT GT c ρ K':=(mo FT GT c).l h q
end
example (FT:List Tf) (GT:List TV) (K:TV->Prop):wE FT GT (.neg (.v 0)) [Oh (.int 3)] K=K (.int (-3)):=rfl
section
variable {J:Hp->Prop}
noncomputable def r2(X:Cx)(J:Hp->Prop)(p:TV->TV->(TV->Prop)->Prop):R2:=λ x y H1 Q=>∃F H F1 t u,Grow J F H F1 H1/\Rr X.K H F1 H1 t x/\Rr X.K H F1 H1 u y/\p t u λ r=>∀F' H' v,Grow J F H F' H'->Rr X.K H F' H' r v->Q v H'
def dU(h:i2 t u P):∃i j,t=.int i/\u=.int j/\P i j:=by
 cases t<;>cases u<;>first|exact⟨_,_,rfl,rfl,h⟩|exact h.elim
def gx(h:i1 t P):∃i,t=.int i/\P i:=by
 cases t<;>first|exact⟨_,rfl,h⟩|exact h.elim
def iB(h:b1 t P):∃i,t=.bl i/\P i:=by
 cases t<;>first|exact⟨_,rfl,h⟩|exact h.elim
def jn(h:l1 t P):∃l,t.items=Oh (Ol,l)/\P l:=by
 cases t<;>first|exact⟨_,rfl,h⟩|exact h.elim
def kr(h:s1 t P):∃b l,t.items=Oh (b,l)/\P l:=by
 cases t<;>first|exact⟨_,_,rfl,h⟩|exact h.elim
def Rr.lq{K:FG}{l:List TV}(h:Rr K H F' H' t v)(e:t.items=Oh (Ol,l)):∃a vs,v=.ref a/\RpL K F' H' l vs/\SqL K H' a vs:=by
 obtain⟨a,vs,e,r,q⟩:=h.sq e
 rcases q with ⟨z,_⟩|⟨_,q⟩
 .cases z
 .exact⟨a,vs,e,r,q⟩
def jo(hJ:JS J){K:FG}{Q:VK}{vs:List V}(g:Grow J F H F1 H1)(r:RpL K F1 H1 l vs)(q:∀F' H' v,Grow J F H F' H'->Rr K H F' H' (.tup l) v->Q v H')(p:On)(hp:H1 p=Oj):Q (.ref p) (Ti H1 p (.tup vs)) :=
 q F1 _ _ (g.trans (.new hJ g.w _ hp)) ⟨p,vs,rfl,.of bU,r.ke (Grow.new hJ g.w _ hp).ke⟩
def Grow.none(g:Grow J F H F1 H1)(h:H1 a=Oj):H a=Oj:=by
 by_cases z:H a=Option.none
 .exact z
 .exact XU h (g.dm a z)
def iC(hJ:JS J){K:FG}{Q:VK}{vs:List V}(g:Grow J F H F1 H1)(r:RpL K F1 H1 l vs)(q:∀F' H' v,Grow J F H F' H'->Rr K H F' H' (.own l) v->Q v H')(p:On)(hp:H1 p=Oj):Q (.ref p) (Ti H1 p (.lst vs)) :=
 q F1 _ _ (g.trans (.new hJ g.w _ hp)) ⟨p,vs,rfl,g.none hp,λ z=>g.w.d p z hp,bU,r.ke (Grow.new hJ g.w _ hp).ke⟩
noncomputable def Ga(X:Cx):R2:=λ x y H Q=>∃a k xs,x=.ref a/\y=.int k/\SqT X.K H a xs/\xs≠[]/\(0<=k/\k<2 ^ 63)/\xs.length*k.toNat<=Oq/\(k=1->Q (.ref a) H)/\(k≠1->∀p,H p=Oj->Q (.ref p) (Ti H p (.tup (Os k.toNat xs).flatten)))
def Gb:TC X (OX .Mult) (Ga X):=by
 intro Te s σ H x y v u Q I rx ry h;obtain⟨a,k,xs,rfl,rfl,hH,hx,⟨h1,h2⟩,hz,q1,q2⟩:=h;cases rx;obtain⟨t,rfl⟩:=ry;obtain⟨its,r,pl,_⟩:=I.tuple hH;obtain⟨⟨c,dd,dt,sl⟩,g,hc,n,hd⟩:=id pl;simp only at hc hd;subst hc hd;have hl:=r.length
 have ne:its.toArray.isEmpty=Ol:=by
  cases its with
  |nil=>exact XU (r.nil_iff.mp rfl) hx
  |cons _ _=>rfl
 have hz':its.toArray.size*k.toNat<=Oq:=by rw[aZ,<- hl];exact hz
 refine uZ (T := "tuple") (U := "int") ca ⟨_,g,O⟩ (λ s'=>lG s' k t) Eb F.fills_int_mul nG Ec F.slot_int_index.lookup
  (fK nG (lG s k t) F.entry_int_rmul (F.args_int_rmul_2 _ _) (Ed k t a its.toArray n dd sl) ⟨g,rfl,⟨_,g,rfl⟩,?_⟩)
 by_cases e1:k=1
 .subst e1;exact fK qZ ⟨_,g,O⟩ rb (re _ _) (Ee a its.toArray n t dd sl) ⟨g,.ref a,H,I,O,q1 rfl⟩
 have fl:∀(m:Nat) (b:LV),(Os m its.toArray).foldl (·++·) b.toArray=(b++(Os m its).flatten).toArray:=by
  intro m
  induction m with
  |zero=>intro b;simp
  |succ m ih=>
   intro b;rw[eR,ip,List.append_toArray,ih,eR,gk,im]
 have fin:∀bs:LV,bs=(Os k.toNat its).flatten->EP X Te σ Q (.ref s.heap.objs.size) { s with heap:=s.heap.push { cls:=.type "tuple",data:=.seq bs.toArray } }:=by
  rintro bs rfl;refine⟨.ref s.heap.objs.size,_,I.laid (t':=s.toks) (o:=.tup (Os k.toNat xs).flatten) (λ b ob q=>aO _ q) (ao _) ?_,O,q2 e1 _ (I.hok.fresh (ao _))⟩;exact⟨by rw[uY,s1j];exact hz,_,r.rep k.toNat,TupO.new _ _⟩
 by_cases e0:k=0
 .subst e0;exact fK qZ ⟨_,g,O⟩ rb (re _ _) (Ef a its.toArray n 0 t dd sl Z Z ne) ⟨g,fin [] rfl⟩
 .refine fK qZ ⟨_,g,O⟩ rb (re _ _) (Eg a its.toArray n k t dd sl Z h2 ne hz') ⟨g,?_⟩;have e:=fl k.toNat [];rw[nE] at e;show EP X Te σ Q (.ref s.heap.objs.size) { s with heap:=s.heap.push { cls:=.type "tuple",data:=.seq ((Os k.toNat its.toArray).foldl (·++·) ([]:LV).toArray) } };rw[e];exact fin _ rfl
def Gc(hJ:JS J)(o:QP):TC X (OX o) (r2 X J (Wa o)):=by
 intro Te s σ H1 x y v u Q I rx ry h;obtain⟨F,H,F1,t,w,g,rt,rw',p⟩:=h
 cases o with
 |Add=>
  cases t with
  |int i=>
   cases rt
   cases w with
   |int j=>cases rw';exact BV Te s σ H1 _ _ v u Q I rx ry (p F1 H1 _ g rfl)
   |_=>exact p.elim
  |tup l=>
   cases w with
   |tup m=>
    obtain⟨a,vs,rfl,q1,r1⟩:=rt;obtain⟨b,ws,rfl,q2,r2⟩:=rw';obtain⟨lz,p⟩:=p;have rr:=r1.append r2;refine DU Te s σ H1 _ _ v u Q I rx ry ⟨a,b,vs,ws,O,O,q1,q2,by rw[<- r1.length,<- r2.length];exact lz,λ e=>?_,λ _ e=>?_,λ _ _=>jo hJ g rr p⟩
    .subst e;exact p F1 H1 _ g ⟨b,_,rfl,q2,rr⟩
    .subst e;rw[ef] at rr;exact p F1 H1 _ g ⟨a,_,rfl,q1,rr⟩
   |_=>exact p.elim
  |lst l|bor l|own l=>
   obtain⟨m,em,lz,p⟩:=jn p;obtain⟨a,vs,rfl,r1,q1⟩:=rt.lq rfl;obtain⟨b,ws,rfl,r2,q2⟩:=rw'.lq em;exact EQ Te s σ H1 _ _ v u Q I rx ry ⟨a,b,vs,ws,O,O,q1,q2,by rw[<- r1.length,<- r2.length];exact lz,iC hJ g (r1.append r2) p⟩
  |_=>exact p.elim
 |Sub=>
  obtain⟨i,j,rfl,rfl,p⟩:=dU p;cases rt;cases rw';exact BW Te s σ H1 _ _ v u Q I rx ry (p F1 H1 _ g rfl)
 |Mult=>
  cases t with
  |int i=>
   cases rt
   cases w with
   |int j=>cases rw';exact ET Te s σ H1 _ _ v u Q I rx ry ⟨p.1,p.2 F1 H1 _ g rfl⟩
   |_=>exact p.elim
  |own l=>
   cases w with
   |int k=>
    cases rw';obtain⟨a,vs,rfl,n,f,q,r⟩:=rt;obtain⟨k0,lz,p⟩:=p
    have rr:RpL X.K F1 H1 (Os k.toNat l).flatten (Os k.toNat vs).flatten:=by
     generalize k.toNat=m
     induction m with
     |zero=>rfl
     |succ m ih=>rw[eR,eR,gk,gk];exact r.append ih
    exact Dp Te s σ H1 _ _ v u Q I rx ry ⟨a,k,vs,O,O,q,Z,k0.2,by rw[<- r.length];exact lz,iC hJ g rr p⟩
   |_=>exact p.elim
  |tup l=>
   cases w with
   |int k=>
    cases rw';obtain⟨a,vs,rfl,q,r⟩:=rt;obtain⟨l0,k0,lz,p⟩:=p
    have rr:RpL X.K F1 H1 (Os k.toNat l).flatten (Os k.toNat vs).flatten:=by
     generalize k.toNat=m
     induction m with
     |zero=>rfl
     |succ m ih=>rw[eR,eR,gk,gk];exact r.append ih
    have vn:vs≠[]:=λ z=>l0 (lX (by rw[r.length,z];rfl))
    exact Gb Te s σ H1 _ _ v u Q I rx ry ⟨a,k,vs,O,O,q,vn,k0,by rw[← r.length];exact lz,λ e=>by
     subst e;rw[show((1:Int).toNat)=1 from rfl,List.replicate_one,gk,List.flatten_nil,ef] at p
     exact p F1 H1 _ g ⟨a,vs,O,q,r⟩,λ _=>jo hJ g rr p⟩
   |_=>exact p.elim
  |_=>cases w<;>exact p.elim
 |FloorDiv=>
  obtain⟨i,j,rfl,rfl,⟨c1,c2,c3⟩,p⟩:=dU p;cases rt;cases rw';by_cases c:0<j
  .rw[show aR i j=i/j by unfold aR;rw[XT c]] at p;exact Ev Te s σ H1 _ _ v u Q I rx ry ⟨⟨c,c3⟩,p F1 H1 _ g rfl⟩
  .rw[show aR i j=i.fdiv j by unfold aR;rw[XR c]] at p;exact Dz Te s σ H1 _ _ v u Q I rx ry ⟨⟨c1,c2,Z⟩,p F1 H1 _ g rfl⟩
 |Mod=>
  obtain⟨i,j,rfl,rfl,c1,p⟩:=dU p;cases rt;cases rw';by_cases c:0<j
  .rw[show aJ i j=i%j by unfold aJ;rw[XT c]] at p;exact BX Te s σ H1 _ _ v u Q I rx ry ⟨c,p F1 H1 _ g rfl⟩
  .rw[show aJ i j=i.fmod j by unfold aJ;rw[XR c]] at p;exact BY Te s σ H1 _ _ v u Q I rx ry ⟨c1,p F1 H1 _ g rfl⟩
 |Pow=>
  obtain⟨i,j,rfl,rfl,c1,p⟩:=dU p;cases rt;cases rw';exact BZ Te s σ H1 _ _ v u Q I rx ry ⟨c1,p F1 H1 _ g rfl⟩
 |RShift=>
  obtain⟨i,j,rfl,rfl,c1,p⟩:=dU p;cases rt;cases rw';exact Ca Te s σ H1 _ _ v u Q I rx ry ⟨c1,p F1 H1 _ g rfl⟩
 |BitAnd=>
  obtain⟨i,j,rfl,rfl,p⟩:=dU p;cases rt;cases rw';exact Cb Te s σ H1 _ _ v u Q I rx ry (p F1 H1 _ g rfl)
 |BitOr=>
  obtain⟨i,j,rfl,rfl,p⟩:=dU p;cases rt;cases rw';exact Cc Te s σ H1 _ _ v u Q I rx ry (p F1 H1 _ g rfl)
 |BitXor=>
  obtain⟨i,j,rfl,rfl,p⟩:=dU p;cases rt;cases rw';exact Ce Te s σ H1 _ _ v u Q I rx ry (p F1 H1 _ g rfl)
 |_=>exact p.elim
end
section
variable {J:Hp->Prop}{Te:LO}{σ:St}{H H1:Hp}{s:Oo}{F F1:Fz}
noncomputable def FA:Fz:=λ _=>True
def Rr.top{K:FG}(h:Rr K H F1 H1 t v):Rp K FA H1 t.fz v:=by
 have k:Ke K F1 H1 FA H1:=.up λ _ _=>trivial
 cases t with
 |own l=>obtain⟨a,vs,e,_,_,q,r⟩:=h;exact⟨a,vs,e,.inl ⟨trivial,.of q⟩,r.ke k⟩
 |bor l=>obtain⟨a,vs,e,_,q,r⟩:=h;exact⟨a,vs,e,.inl ⟨trivial,.of q⟩,r.ke k⟩
 |_=>exact Rp.ke k h
def rf{K:FG}(h:Rp K F H t v)(f:Uq t=Oi):gj v=Oi:=by
 cases t<;>first|(cases h;rfl)|(cases f)
def Gd{K:FG}(h:Rp K F H t v)(g:Rp K F H u w)(f:Uq t=Oi)(f':Uq u=Oi):Va v w=eqT t u:=by
 cases t<;>cases u<;>first|(cases h;cases g;rfl)|(cases f;done)|(cases f';done)
theorem rg{K:FG}:∀ {l:List TV}{vs:List V},RpL K F H l vs->(∀x∈l,Uq x=Oi)->vs.all gj=Oi
 |[],_,h,_=>by cases h;rfl
 |t::ts,_,⟨v,r,e,h1,h2⟩,f=>by subst e;rw[cP,rf h1 (f t on),rg h2 λ x hx=>f x (by simp[hx])];rfl
theorem rh{K:FG}(ht:Rp K F H t v)(f:Uq t=Oi):∀ {l:List TV}{vs:List V},RpL K F H l vs->(∀x∈l,Uq x=Oi)->VX v vs=inT t l
 |[],_,h,_=>by cases h;rfl
 |u::ts,_,⟨w,r,e,h1,h2⟩,g=>by
  subst e;have ih:=rh ht f h2 λ x hx=>g x (by simp[hx]);unfold VX inT at *;rw[lE,lE,ih,Gd h1 ht (g u on) f]
theorem wl(I:Inv X Te σ H s){A:Oy}{vs ws:List V}(hu:A.units+99<Pu)(d:dp 99 (.tup l))(q:SqT X.K H a vs)(r:RpL X.K F H l vs)(q':SqT X.K H b ws)(r':RpL X.K F H m ws) :
  ∃(us us2:LV),s.heap.IsTuple a us.toArray/\s.heap.IsTuple b us2.toArray/\(∀j (h1:j<us.toArray.size) (h2:j<us2.toArray.size),PV A.in1 s us.toArray[j] us2.toArray[j] (eqT (l.getD j .non) (m.getD j .non))) /\
   ((OB (min us.toArray.size us2.toArray.size)).all (λ j=>eqT (l.getD j .non) (m.getD j .non))&&us.toArray.size == us2.toArray.size)=eqTL l m:=by
 obtain⟨us,r1,p1,_⟩:=I.tuple q;obtain⟨us2,r2,p2,_⟩:=I.tuple q';have d':∀x∈l,dp 98 x:=d;refine⟨us,us2,p1,p2,λ j k1 k2=>?_,?_⟩
 .obtain⟨z1,h1,r1',m1⟩:=iy r r1 k1;obtain⟨z2,h2,r2',_⟩:=iy r' r2 k2;exact wc I 98 A.in1 _ _ z1 z2 _ _ (by show A.units+1+98<Pu;lia) (d' _ m1) h1 h2 r1' r2'
 .have e1:us.toArray.size=l.length:=by simp[r.length,r1.length]
  have e2:us2.toArray.size=m.length:=by simp[r'.length,r2.length]
  rw[e1,e2];by_cases c:l.length=m.length
  .rw[<- c,Nat.min_self,kh c];simp
  .rw[kg c];have c':(l.length == m.length)=Ol:=by simpa using c
   rw[c',lW]
theorem wn(I:Inv X Te σ H s){A:Oy}{vs ws:List V}(hu:A.units+99<Pu)(d:dp 99 (.lst l))(q:SqL X.K H a vs)(r:RpL X.K F H l vs)(q':SqL X.K H b ws)(r':RpL X.K F H m ws) :
  ∃(us us2:LV),s.heap.IsList a us.toArray/\s.heap.IsList b us2.toArray/\(∀j (h1:j<us.toArray.size) (h2:j<us2.toArray.size),PV A.in1 s us.toArray[j] us2.toArray[j] (eqT (l.getD j .non) (m.getD j .non)))/\us.toArray.size=l.length/\us2.toArray.size=m.length:=by
 obtain⟨us,r1,p1,_⟩:=I.list q;obtain⟨us2,r2,p2,_⟩:=I.list q';have d':∀x∈l,dp 98 x:=d;refine⟨us,us2,p1.isList,p2.isList,λ j k1 k2=>?_,by simp[r.length,r1.length],by simp[r'.length,r2.length]⟩;obtain⟨z1,h1,r1',m1⟩:=iy r r1 k1;obtain⟨z2,h2,r2',_⟩:=iy r' r2 k2;exact wc I 98 A.in1 _ _ z1 z2 _ _ (by show A.units+1+98<Pu;lia) (d' _ m1) h1 h2 r1' r2'
noncomputable def WF(X:Cx)(J:Hp->Prop)(p:TV->TV->(TV->Prop)->Prop):R2:=λ x y H1 Q=>∃F H F1 t u,Grow J F H F1 H1/\Rr X.K H F1 H1 t x/\Rr X.K H F1 H1 u y/\p t u λ r=>∀v,Rr X.K H F1 H1 r v->Q v H1
def Ge(hu:X.A.units+120<Pu):TC X (OR .Eq) (WF X J (iz .Eq)):=by
 intro Te s σ H1 x y v u Q I rx ry h;obtain⟨F,H,F1,t,w,g,rt,rw',c,p⟩:=h;replace p:=p _ rfl;have ht:=rt.top;have hw:=rw'.top;generalize t.fz=t at *;generalize w.fz=w at *;clear rt rw';have fin:EP X Te σ Q (.bool (eqT t w)) s:=⟨.bl _,H1,I,rfl,p⟩
 cases t with
 |tup l=>
  cases w with
  |tup m=>
   obtain⟨a,vs,rfl,q,r⟩:=ht;obtain⟨b,ws,rfl,q',r'⟩:=hw;cases rx;cases ry;obtain⟨us,us2,p1,p2,e,z⟩:=wl I (A:=X.A) Z c q r q' r';exact SeqAt.eq_tupleAt p1 p2 Z e (by rw[z];exact fin)
  |_=>exact c.elim
 |lst l=>
  cases w with
  |lst m=>
   obtain⟨a,vs,rfl,q,r⟩:=ht;obtain⟨b,ws,rfl,q',r'⟩:=hw;cases rx;cases ry;obtain⟨us,us2,p1,p2,e,e1,e2⟩:=wn I (A:=X.A) Z c q.sq r q'.sq r';by_cases k:l.length=m.length
   .exact SeqAt.eq_listAt p1 p2 (by rw[e1,e2,k]) Z e (by rw[e1,kh k];exact fin)
   .refine SeqAt.eq_list_lengthsAt p1 p2 (by rw[e1,e2];simpa using k) Z ?_;rw[oe,kg k] at fin;exact fin
  |_=>exact c.elim
 |int i=>
  cases w with
  |int j=>cases ht;cases hw;exact iU Te s σ H1 _ _ v u Q I rx ry p
  |non|str j=>cases ht;cases hw;exact iU Te s σ H1 _ _ v u Q I rx ry (show du _ _=Oi/\_ from ⟨rfl,p⟩)
  |_=>exact c.elim
 |str i=>
  cases w with
  |str j=>cases ht;cases hw;exact iU Te s σ H1 _ _ v u Q I rx ry p
  |non|int j=>cases ht;cases hw;exact iU Te s σ H1 _ _ v u Q I rx ry (show du _ _=Oi/\_ from ⟨rfl,p⟩)
  |_=>exact c.elim
 |bl i=>
  cases w with
  |bl j=>cases ht;cases hw;refine iU Te s σ H1 _ _ v u Q I rx ry (show du _ _=Oi/\_ from ⟨rfl,?_⟩);cases i<;>cases j<;>exact p
  |non=>cases ht;cases hw;exact iU Te s σ H1 _ _ v u Q I rx ry (show du _ _=Oi/\_ from ⟨rfl,p⟩)
  |_=>exact c.elim
 |non=>
  cases w with
  |non|int j|str j|bl j=>cases ht;cases hw;exact iU Te s σ H1 _ _ v u Q I rx ry (show du _ _=Oi/\_ from ⟨rfl,p⟩)
  |_=>exact c.elim
 |_=>exact ht.elim
def Gh(hu:X.A.units+120<Pu):TC X (OR .NotEq) (WF X J (iz .NotEq)):=by
 intro Te s σ H1 x y v u Q I rx ry h;obtain⟨F,H,F1,t,w,g,rt,rw',c,p⟩:=h;replace p:=p _ rfl;have ht:=rt.top;have hw:=rw'.top;generalize t.fz=t at *;generalize w.fz=w at *;clear rt rw';have fin:EP X Te σ Q (.bool (!eqT t w)) s:=⟨.bl _,H1,I,rfl,p⟩
 cases t with
 |tup l=>
  cases w with
  |tup m=>
   obtain⟨a,vs,rfl,q,r⟩:=ht;obtain⟨b,ws,rfl,q',r'⟩:=hw;cases rx;cases ry;obtain⟨us,us2,p1,p2,e,z⟩:=wl I (A:=X.A) Z c q r q' r';exact SeqAt.RcNeAt.tuples p1 p2 Z e _ _ _ _ (by rw[z];exact fin)
  |_=>exact c.elim
 |lst l=>
  cases w with
  |lst m=>
   obtain⟨a,vs,rfl,q,r⟩:=ht;obtain⟨b,ws,rfl,q',r'⟩:=hw;cases rx;cases ry;obtain⟨us,us2,p1,p2,e,e1,e2⟩:=wn I (A:=X.A) Z c q.sq r q'.sq r';by_cases k:l.length=m.length
   .exact SeqAt.RcNeAt.lists p1 p2 (by rw[e1,e2,k]) Z e _ _ _ _ (by rw[e1,kh k];exact fin)
   .refine SeqAt.RcNeAt.lists_lengths p1 p2 (by rw[e1,e2];simpa using k) Z _ _ _ _ ?_;rw[oe,kg k] at fin;exact fin
  |_=>exact c.elim
 |int i=>
  cases w with
  |int j=>cases ht;cases hw;exact iV Te s σ H1 _ _ v u Q I rx ry p
  |non|str j=>cases ht;cases hw;exact iV Te s σ H1 _ _ v u Q I rx ry (show du _ _=Oi/\_ from ⟨rfl,p⟩)
  |_=>exact c.elim
 |str i=>
  cases w with
  |str j=>cases ht;cases hw;exact iV Te s σ H1 _ _ v u Q I rx ry p
  |non|int j=>cases ht;cases hw;exact iV Te s σ H1 _ _ v u Q I rx ry (show du _ _=Oi/\_ from ⟨rfl,p⟩)
  |_=>exact c.elim
 |bl i=>
  cases w with
  |bl j=>cases ht;cases hw;refine iV Te s σ H1 _ _ v u Q I rx ry (show du _ _=Oi/\_ from ⟨rfl,?_⟩);cases i<;>cases j<;>exact p
  |non=>cases ht;cases hw;exact iV Te s σ H1 _ _ v u Q I rx ry (show du _ _=Oi/\_ from ⟨rfl,p⟩)
  |_=>exact c.elim
 |non=>
  cases w with
  |non|int j|str j|bl j=>cases ht;cases hw;exact iV Te s σ H1 _ _ v u Q I rx ry (show du _ _=Oi/\_ from ⟨rfl,p⟩)
  |_=>exact c.elim
 |_=>exact ht.elim
def kt(hu:X.A.units+120<Pu)(o:Qo):TC X (OR o) (WF X J (iz o)):=by
 cases o with
 |Eq=>exact Ge hu
 |NotEq=>exact Gh hu
 |In=>
  intro Te s σ H1 x y v u Q I rx ry h;obtain⟨F,H,F1,t,w,g,rt,rw',p⟩:=h;obtain⟨b,l,e,f1,f2,p⟩:=kr p;obtain⟨a,vs,rfl,r,q⟩:=rw'.sq e
  have ht:Rp X.K F1 H1 t x:=by cases t<;>first|exact rt|cases f1
  refine Dd Te s σ H1 _ _ v u Q I rx ry ⟨a,vs,O,?_,rf ht f1,rg r f2,?_⟩
  .rcases q with ⟨_,q⟩|⟨_,q⟩
   .exact .inr q
   .exact .inl q
  .rw[XR ca,rh ht f1 r f2];exact p _ rfl
 |NotIn=>
  intro Te s σ H1 x y v u Q I rx ry h;obtain⟨F,H,F1,t,w,g,rt,rw',p⟩:=h;obtain⟨b,l,e,f1,f2,p⟩:=kr p;obtain⟨a,vs,rfl,r,q⟩:=rw'.sq e
  have ht:Rp X.K F1 H1 t x:=by cases t<;>first|exact rt|cases f1
  refine De Te s σ H1 _ _ v u Q I rx ry ⟨a,vs,O,?_,rf ht f1,rg r f2,?_⟩
  .rcases q with ⟨_,q⟩|⟨_,q⟩
   .exact .inr q
   .exact .inl q
  .rw[XT rfl,rh ht f1 r f2];exact p _ rfl
 |Is=>
  intro Te s σ H1 x y v u Q I rx ry h;obtain⟨F,H,F1,t,w,g,rt,rw',rfl,p⟩:=h;cases rw';have hx:=rt.top;refine Cn Te s σ H1 _ _ v u Q I rx ry ⟨O,?_⟩;replace p:=p _ rfl
  cases t<;>first|exact OV hx|(cases hx;exact p)|(obtain⟨a,vs,rfl,_⟩:=hx;exact p)
 |IsNot=>
  intro Te s σ H1 x y v u Q I rx ry h;obtain⟨F,H,F1,t,w,g,rt,rw',rfl,p⟩:=h;cases rw';have hx:=rt.top;refine Co Te s σ H1 _ _ v u Q I rx ry ⟨O,?_⟩;replace p:=p _ rfl
  cases t<;>first|exact OV hx|(cases hx;exact p)|(obtain⟨a,vs,rfl,_⟩:=hx;exact p)
 |Lt=>intro Te s σ H1 x y v u Q I rx ry h;obtain⟨F,H,F1,t,w,g,rt,rw',p⟩:=h;obtain⟨i,j,rfl,rfl,p⟩:=dU p;cases rt;cases rw';exact Ci Te s σ H1 _ _ v u Q I rx ry (p _ rfl)
 |LtE=>intro Te s σ H1 x y v u Q I rx ry h;obtain⟨F,H,F1,t,w,g,rt,rw',p⟩:=h;obtain⟨i,j,rfl,rfl,p⟩:=dU p;cases rt;cases rw';exact Cj Te s σ H1 _ _ v u Q I rx ry (p _ rfl)
 |Gt=>
  intro Te s σ H1 x y v u Q I rx ry h;obtain⟨F,H,F1,t,w,g,rt,rw',p⟩:=h;cases t<;>cases w<;>try exact p.elim
  .cases rt;cases rw';exact Ck Te s σ H1 _ _ v u Q I rx ry (p _ rfl)
 |GtE=>intro Te s σ H1 x y v u Q I rx ry h;obtain⟨F,H,F1,t,w,g,rt,rw',p⟩:=h;obtain⟨i,j,rfl,rfl,p⟩:=dU p;cases rt;cases rw';exact Cm Te s σ H1 _ _ v u Q I rx ry (p _ rfl)
def Gi{K:FG}{vs:List V}(r:RpL K F H l vs)(e:TW l i=Oh t):∃v,TW vs i=Oh v/\Rp K F H t v:=by
 unfold TW at *;rw[<- r.length]
 cases q:UQ l.length i with
 |none=>rw[q] at e;cases e
 |some j=>rw[q] at e;exact r.get e
def Gj:IxR X (r2 X J Wc):=by
 intro value slice Te s σ H1 x y v u Q I rx ry h hs;obtain⟨F,H,F1,t,w,g,rt,rw',p⟩:=h
 have key:∀b l,t.items=Oh (b,l)->(i1 w λ i=>∃x,TW l i=Oh x/\∀F' H' v,Grow J F H F' H'->Rr X.K H F' H' x v->Q v H')->Op (Ou X.prog X.w) X.A (Qx value slice v u) (EP X Te σ Q) X.xe s:=λ b l e p=>by
  obtain⟨i,rfl,z,ez,p⟩:=gx p;cases rw';obtain⟨a,vs,rfl,r,q⟩:=rt.sq e;obtain⟨zv,e1,rz⟩:=Gi r ez;have fin:=p F1 H1 _ g (Rr.of rz)
  rcases q with ⟨_,q⟩|⟨_,q⟩
  .exact qy value slice Te s σ H1 _ _ v u Q I rx ry (.inr (.inl ⟨a,vs,i,zv,O,O,q,e1,fin⟩)) hs
  .exact qy value slice Te s σ H1 _ _ v u Q I rx ry (.inl ⟨a,vs,i,zv,O,O,q,e1,fin⟩) hs
 cases t with
 |str x=>
  obtain⟨i,rfl,lz,c,ec,p⟩:=gx p;cases rw';cases rt;exact qy value slice Te s σ H1 _ _ v u Q I rx ry (.inr (.inr ⟨x,i,c,O,O,lz,ec,p F1 H1 _ g rfl⟩)) hs
 |tup l|lst l|bor l|own l=>exact key _ _ rfl p
 |_=>exact p.elim
noncomputable def rsl(X:Cx)(J:Hp->Prop):V->Option Int->Option Int->Hp->VK->Prop:=λ x lo hi H1 Q=>∃F H F1 t,Grow J F H F1 H1/\Rr X.K H F1 H1 t x /\
 Wb t lo hi λ r=>∀F' H' v,Grow J F H F' H'->Rr X.K H F' H' r v->Q v H'
def rj{K:FG}{vs:List V}(r:RpL K F H l vs)(lo hi:Option Int):RpL K F H (ah l lo hi) (gI vs lo hi):=by
 unfold ah gI;rw[<- r.length];exact(r.drop _).take _
def Gk(hJ:JS J):VB X (rsl X J):=by
 intro Te s σ H1 x v vl vu lo hi sl Q I rx hs pl pu h;obtain⟨F,H,F1,t,g,rt,p⟩:=h
 have key:∀l,t.items=Oh (Ol,l)->(∀F' H' v,Grow J F H F' H'->Rr X.K H F' H' (.own (ah l lo hi)) v->Q v H')->∃T id,Ps (.type T) "__getitem__"=OF (Oh (.builtin id))/\s.TypeIs v T/\Op (Ou X.prog X.w) X.A (PZ v (.ref sl)) (EP X Te σ Q) X.xe s:=λ l e p=>by
  obtain⟨a,vs,rfl,r,q⟩:=rt.lq e;exact Dc Te s σ H1 _ v vl vu lo hi sl Q I rx hs pl pu ⟨a,vs,O,q,iC hJ g (rj r lo hi) p⟩
 cases t with
 |tup l=>
  obtain⟨a,xs,rfl,ha,r⟩:=rt;by_cases c:_H.sIx xs.length 0 lo=0/\_H.sIx xs.length xs.length hi=xs.length
  .cases rx;obtain⟨its,rr,ht,hz⟩:=I.tuple ha;have Tj:its.toArray.size=xs.length:=by rw[aZ];exact rr.length.symm
   refine⟨"tuple",_,PyProof.Rows.slot_tuple_getitem.lookup,ht.typeIs,_H.whole_tup ht hs pl pu (by rw[Tj];exact c.1) (by rw[Tj];exact c.2) ⟨.ref a,H1,I,O,p F1 H1 _ g ⟨a,xs,O,ha,?_⟩⟩⟩;have z:=rj r lo hi;unfold gI at z
   rwa [c.1,c.2,RW,Nat.sub_zero,bR] at z
  .exact CQ Te s σ H1 _ v vl vu lo hi sl Q I rx hs pl pu ⟨a,xs,O,ha,c,jo hJ g (rj r lo hi) p⟩
 |str z=>cases rt;exact Fa Te s σ H1 _ v vl vu lo hi sl Q I rx hs pl pu ⟨z,rfl,p.1,p.2 F1 H1 _ g rfl⟩
 |lst l|bor l|own l=>exact key l rfl p
 |_=>exact p.elim
end
section
variable {J:Hp->Prop}
noncomputable def wo(X:Cx):V->V->Hp->VK->Prop:=λ x y H Q=>∃(a b:On) (xs ys:List V),x=.ref a/\y=.ref b/\SqT X.K H a xs/\SqT X.K H b ys/\(ys.length<=xs.length->Q (.ref a) H)/\(xs.length<ys.length->Q (.ref b) H)
def Gm{p kp pos p2:Pos}(hc:X.calm=Oi)(hg:Gl X "max")(hm:X.mg "max"=Oj)(hg2:Gl X "len")(hm2:X.mg "len"=Oj)(he:PE X e te)(hf:PE X f tf)(hs:OE [e,f] X.env=(Ol,eval e X.env)::OE [f] X.env:=by rfl)(hs2:OE [f] X.env=[(Ol,eval f X.env)]:=by rfl):PE X (.Call (.Name "max" p) [e,f] [⟨Oh (OI "key"),.Name "len" p2,kp⟩] pos) (FM (wo X) te tf):=by
 intro Te s σ H Q I h;refine jP (dZ I hg hm boot_max ?_);have hA:=(da he (da hf (pa_nil (X:=X)) hs2) hs) pos Te s σ H (λ vs H1=>match vs with|[x,y]=>wo X x y H1 Q|_=>False) I h;refine callWith_kw (To hA λ us s1 ⟨vs,H1,I1,r1,q1⟩=>?_) (by rw[hs,hs2];rfl) (by rw[hs,hs2];rfl)
 match vs,q1 with
 |[x0,y0],q1=>
  obtain⟨u,v,rfl,ru,rv⟩:=nj r1;refine kws_cons (dZ I1 hg2 hm2 boot_len (kws_nil ?_));obtain⟨a,b,xs,ys,rfl,rfl,ha,hb,qa,qb⟩:=q1;cases (show u=OL a from ru);cases (show v=OL b from rv);obtain⟨i1,t1,p1,y1⟩:=I1.tuple ha;obtain⟨i2,t2,p2',y2⟩:=I1.tuple hb;have l1:=t1.length;have l2:=t2.length;have hsz:Oq=16777216:=jO;refine FL (I1.ok.hd hc) p1 p2' (by rw[aZ];omega) (by rw[aZ];omega) λ v h' tk hv kk=>?_;simp only[aZ] at hv
  rcases hv with ⟨rfl,hl⟩|⟨rfl,hl⟩
  .exact⟨.ref a,H1,I1.kept kk,O,qa (by omega)⟩
  .exact⟨.ref b,H1,I1.kept kk,O,qb (by omega)⟩
noncomputable def rL(X:Cx)(J:Hp->Prop)(p:List TV->(TV->Prop)->Prop):List V->Hp->VK->Prop:=λ xs H1 Q=>∃F H F1 ts,Grow J F H F1 H1/\RrL X.K H F1 H1 ts xs/\p ts λ r=>∀F' H' v,Grow J F H F' H'->Rr X.K H F' H' r v->Q v H'
noncomputable def Xc:BI->Value
 |.len=>.builtin "len" |.tuple=>.type "tuple" |.list=>.type "list" |.sum=>.builtin "sum" |.max=>.builtin "max" |.min=>.builtin "min" |.abs=>.builtin "abs" |.int=>.type "int" |.str=>.type "str"
 |.sorted=>.builtin "sorted" |.any=>.builtin "any" |.all=>.builtin "all" |_=>.none
def kw{K:FG}{t:TV}(h:RrL K H F1 H1 [t] xs):∃x,xs=[x]/\Rr K H F1 H1 t x:=by
 cases h with
 |cons r q=>cases q;exact⟨_,rfl,r⟩
def rk{K:FG}{t u:TV}(h:RrL K H F1 H1 [t,u] xs):∃x y,xs=[x,y]/\Rr K H F1 H1 t x/\Rr K H F1 H1 u y:=by
 cases h with
 |cons r q=>obtain⟨y,rfl,r'⟩:=kw q;exact⟨_,y,rfl,r,r'⟩
def Gn(h:rL X J p xs H1 Q)(n:∀ts K,p ts K->ts.length=1):∃F H F1 t x,xs=[x]/\Grow J F H F1 H1/\Rr X.K H F1 H1 t x/\p [t] λ r=>∀F' H' v,Grow J F H F' H'->Rr X.K H F' H' r v->Q v H':=by
 obtain⟨F,H,F1,ts,g,r,q⟩:=h
 match ts,n _ _ q with
 |[t],_=>obtain⟨x,rfl,rx⟩:=kw r;exact⟨F,H,F1,t,x,rfl,g,rx,q⟩
def rn{K:FG}{b:Bool}{vs:List V}(q:(b=Oi/\SqT K H' a vs)\/(b=Ol/\SqL K H' a vs)):SqL K H' a vs\/SqT K H' a vs:=q.elim (λ z=>.inr z.2) λ z=>.inl z.2
def bi1{f:BI}(h:f=.len\/f=.tuple\/f=.list\/f=.sum\/f=.abs\/f=.int\/f=.sorted\/f=.any):∀ts K,UJ f ts K->ts.length=1:=by
 intro ts K q
 rcases ts with _|⟨t,_|⟨u,_|⟨w,r⟩⟩⟩
 .rcases h with rfl|rfl|rfl|rfl|rfl|rfl|rfl|rfl<;>exact q.elim
 .rfl
 .rcases h with rfl|rfl|rfl|rfl|rfl|rfl|rfl|rfl<;>exact q.elim
 .rcases h with rfl|rfl|rfl|rfl|rfl|rfl|rfl|rfl<;>exact q.elim
def iD(hJ:JS J)(hc:X.calm=Oi)(f:BI)(h:f=.len\/f=.tuple\/f=.list\/f=.sum\/f=.abs\/f=.int\/f=.sorted\/f=.any):bZ X (Xc f) (rL X J (UJ f)):=by
 intro Te s σ H1 xs us Q I rs hh;obtain⟨F,H,F1,t,x,rfl,g,rt,p⟩:=Gn hh (bi1 h)
 rcases h with rfl|rfl|rfl|rfl|rfl|rfl|rfl|rfl
 .have key:∀b l,t.items=Oh (b,l)->(∀F' H' v,Grow J F H F' H'->Rr X.K H F' H' (.int l.length) v->Q v H')->Op (Ou X.prog X.w) X.A (call (Xc .len) us) (EP X Te σ Q) X.xe s:=λ b l e p=>by
   obtain⟨a,vs,rfl,r,q⟩:=rt.sq e;exact Df Te s σ H1 _ us Q I rs ⟨a,vs,O,rn q,by rw[<- r.length];exact p F1 H1 _ g rfl⟩
  cases t with
  |str z=>cases rt;exact Dg Te s σ H1 _ us Q I rs ⟨z,rfl,p.1,p.2 F1 H1 _ g rfl⟩
  |tup l|lst l|bor l|own l=>exact key _ _ rfl p
  |_=>exact p.elim
 .obtain⟨b,l,e,p⟩:=kr p;obtain⟨a,vs,rfl,r,q⟩:=rt.sq e;refine Di Te s σ H1 _ us Q I rs ⟨a,vs,O,?_⟩
  rcases q with ⟨_,q⟩|⟨_,q⟩
  .exact .inr ⟨q,p F1 H1 _ g ⟨a,vs,O,q,r⟩⟩
  .exact .inl ⟨q,jo hJ g r p⟩
 .obtain⟨b,l,e,p⟩:=kr p;obtain⟨a,vs,rfl,r,q⟩:=rt.sq e;exact Dh Te s σ H1 _ us Q I rs ⟨a,vs,O,rn q,iC hJ g r p⟩
 .obtain⟨l,e,ns,rfl,p⟩:=jn p;obtain⟨a,vs,rfl,r,q⟩:=rt.lq e;cases r.ints;exact DW hc Te s σ H1 _ us Q I rs ⟨a,ns,O,q,p F1 H1 _ g rfl⟩
 .obtain⟨i,rfl,p⟩:=gx p;cases rt;exact Cv Te s σ H1 _ us Q I rs ⟨i,O,p F1 H1 _ g rfl⟩
 .cases t with
  |int i=>cases rt;exact uy Te s σ H1 _ us Q I rs (.inl ⟨i,rfl,p F1 H1 _ g rfl⟩)
  |bl i=>cases rt;exact uy Te s σ H1 _ us Q I rs (.inr ⟨i,rfl,p F1 H1 _ g rfl⟩)
  |_=>exact p.elim
 .obtain⟨b,l,e,ns,rfl,n64,p⟩:=kr p;obtain⟨a,vs,rfl,r,q⟩:=rt.sq e;cases r.ints;exact EU Te s σ H1 _ us Q I rs ⟨a,ns,O,rn q,n64,λ ns' p1 p2=>iC hJ g (RpL.ofInts ns') (p ns' p1 p2)⟩
 .obtain⟨l,e,ns,rfl,p⟩:=jn p;obtain⟨a,vs,rfl,r,q⟩:=rt.lq e;cases r.bls;exact Fb hc Te s σ H1 _ us Q I rs ⟨a,ns,O,q,p F1 H1 _ g rfl⟩
def Go(hc:X.calm=Oi):bZ X (.builtin "max") (rL X J (UJ .max)):=by
 intro Te s σ H1 xs us Q I rs h;obtain⟨F,H,F1,ts,g,r,p⟩:=h
 rcases ts with _|⟨t,_|⟨u,_|⟨w,r⟩⟩⟩
 .exact p.elim
 .obtain⟨x,rfl,rt⟩:=kw r;obtain⟨l,e,ns,rfl,l0,p⟩:=jn p;obtain⟨a,vs,rfl,r,q⟩:=rt.lq e;cases r.ints;exact FE hc Te s σ H1 _ us Q I rs ⟨a,ns,O,q,l0,λ M m z=>p M m z F1 H1 _ g rfl⟩
 .obtain⟨x,y,rfl,rt,ru⟩:=rk r;obtain⟨i,j,rfl,rfl,p⟩:=dU p;cases rt;cases ru;exact Cw hc Te s σ H1 _ us Q I rs ⟨i,j,O,p F1 H1 _ g rfl⟩
 .exact p.elim
def Gp(hc:X.calm=Oi):bZ X (.builtin "min") (rL X J (UJ .min)):=by
 intro Te s σ H1 xs us Q I rs h;obtain⟨F,H,F1,ts,g,r,p⟩:=h
 rcases ts with _|⟨t,_|⟨u,_|⟨w,r⟩⟩⟩
 .exact p.elim
 .obtain⟨x,rfl,rt⟩:=kw r;obtain⟨l,e,ns,rfl,l0,p⟩:=jn p;obtain⟨a,vs,rfl,r,q⟩:=rt.lq e;cases r.ints;exact FD hc Te s σ H1 _ us Q I rs ⟨a,ns,O,q,l0,λ M m z=>p M m z F1 H1 _ g rfl⟩
 .obtain⟨x,y,rfl,rt,ru⟩:=rk r;obtain⟨i,j,rfl,rfl,p⟩:=dU p;cases rt;cases ru;exact Cy hc Te s σ H1 _ us Q I rs ⟨i,j,O,p F1 H1 _ g rfl⟩
 .exact p.elim
end
section
variable {K:FG}{J:Hp->Prop}
noncomputable def Vw(K:FG)(F:Fz)(H:Hp)(t:TV)(x:V):Prop:=match t.items with
 |some (Oi,l)=>∃a vs,x=.ref a/\SqT K H a vs/\RpL K F H l vs
 |some (Ol,l)=>∃a vs,x=.ref a/\SqL K H a vs/\RpL K F H l vs
 |none=>Rp K F H t x
def Vw.l{t:TV}{l:List TV}(h:Vw K F H t x)(e:t.items=Oh (Ol,l)):∃a vs,x=.ref a/\SqL K H a vs/\RpL K F H l vs:=by
 unfold Vw at h;rw[e] at h;exact h
def Vw.t{t:TV}{l:List TV}(h:Vw K F H t x)(e:t.items=Oh (Oi,l)):∃a vs,x=.ref a/\SqT K H a vs/\RpL K F H l vs:=by
 unfold Vw at h;rw[e] at h;exact h
def Rr.vw{H F1 H1}(h:Rr K H F1 H1 t x):Vw K F1 H1 t x:=by
 unfold Vw
 cases e:t.items with
 |none=>cases t<;>first|exact h|cases e
 |some p=>
  obtain⟨b,l⟩:=p;obtain⟨a,vs,rfl,r,q⟩:=h.sq e;cases b
  .rcases q with ⟨z,_⟩|⟨_,q⟩
   .cases z
   .exact⟨a,vs,O,q,r⟩
  .rcases q with ⟨_,q⟩|⟨z,_⟩
   .exact⟨a,vs,O,q,r⟩
   .cases z
def Rp.vw{F1 H1}{t:TV}(h:Rp K F1 H1 t.fz x):Vw K F1 H1 t x:=by
 cases t with
 |bor l|own l|lst l=>obtain⟨a,vs,e,q,r⟩:=h;exact⟨a,vs,e,q.sq,r⟩
 |_=>exact h
structure TU (K:FG)(J:Hp->Prop)(Jt:It)(its ts:List TV)(xs:List V):Prop where
 go:∀F H i,Wd J F H->Pv (Vw K F H) ts xs->i<its.length->Jt.go i H
 stop:∀F H,Wd J F H->Pv (Vw K F H) ts xs->Jt.stop its.length H
 yld:∀F H i x H',Wd J F H->Pv (Vw K F H) ts xs->i<its.length->Jt.yld i H x H'->∃t,its[i]?=Oh t/\Grow J F H F H'/\Rp K F H' t x
def dF{t:TV}{x:V}(h:Pv (Vw K F H) [t] [x]):Vw K F H t x:=by cases h with|cons r _=>exact r
def fP{α:Type}{l:List α}{i:Nat}(h:i<l.length):∃x,l[i]?=Oh x:=⟨_,bc h⟩
theorem Gq{t:TV}{l:List TV}(e:t.items=Oh (Ol,l)):TU K J (Ww K a) l [t] [.ref a] where
 go F H i w h hi:=by
  obtain⟨b,vs,eb,q,r⟩:=(dF h).l e;cases eb;obtain⟨x,ex⟩:=fP (l:=vs) (by rw[<- r.length];exact hi);exact⟨vs,x,q,ex⟩
 stop F H w h:=by
  obtain⟨b,vs,eb,q,r⟩:=(dF h).l e;cases eb;exact⟨vs,q,by rw[r.length];exact ao _⟩
 yld F H i x H' w h hi y:=by
  obtain⟨b,vs,eb,q,r⟩:=(dF h).l e;cases eb;obtain⟨rfl,y⟩:=y;obtain⟨t,et⟩:=fP hi;obtain⟨v,ev,rv⟩:=r.get et;have:=y vs q;rw[ev] at this;cases this;exact⟨t,et,.refl w,rv⟩
theorem Gr{t:TV}{l:List TV}(e:t.items=Oh (Oi,l)):TU K J (Wx K a) l [t] [.ref a] where
 go F H i w h hi:=by
  obtain⟨b,vs,eb,q,r⟩:=(dF h).t e;cases eb;obtain⟨x,ex⟩:=fP (l:=vs) (by rw[<- r.length];exact hi);exact⟨vs,x,q,ex⟩
 stop F H w h:=by
  obtain⟨b,vs,eb,q,r⟩:=(dF h).t e;cases eb;exact⟨vs,q,by rw[r.length];exact ao _⟩
 yld F H i x H' w h hi y:=by
  obtain⟨b,vs,eb,q,r⟩:=(dF h).t e;cases eb;obtain⟨rfl,y⟩:=y;obtain⟨t,et⟩:=fP hi;obtain⟨v,ev,rv⟩:=r.get et;have:=y vs q;rw[ev] at this;cases this;exact⟨t,et,.refl w,rv⟩
theorem Gs(lo:Int)(n:Nat):TU K J (VW lo n) ((OB n).map λ k=>.int (lo+(k:Nat))) ts xs where
 go F H i w h hi:=by show i<n;simpa using hi
 stop F H w h:=by show n<=_;simp
 yld F H i x H' w h hi y:=by
  obtain⟨rfl,rfl⟩:=y;have hi':i<n:=by simpa using hi
  exact⟨.int (lo+(i:Nat)),by rw[bh,oj hi'];rfl,.refl w,O⟩
theorem Gu(lo st:Int)(n:Nat):TU K J (WD lo st n) ((OB n).map λ k=>.int (lo+(k:Nat)*st)) ts xs where
 go F H i w h hi:=by show i<n;simpa using hi
 stop F H w h:=by show n<=_;simp
 yld F H i x H' w h hi y:=by
  obtain⟨rfl,rfl⟩:=y;have hi':i<n:=by simpa using hi
  exact⟨.int (lo+(i:Nat)*st),by rw[bh,oj hi'];rfl,.refl w,O⟩
def Gv{α:Type}{l:List α}{i:Nat}(h:i<l.length):l.reverse[i]?=l[l.length-1-i]?:=lO h
theorem Gw{t:TV}{l:List TV}{n:Nat}(e:t.items=Oh (Oi,l))(hn:n=l.length):TU K J (nJ K a n) l.reverse [t] [.ref a] where
 go F H i w h hi:=by
  obtain⟨b,vs,eb,q,r⟩:=(dF h).t e;cases eb;exact⟨vs,q,by rw[<- r.length,hn],by rw[jp] at hi;lia⟩
 stop F H w h:=by
  obtain⟨b,vs,eb,q,r⟩:=(dF h).t e;cases eb;exact⟨vs,q,by rw[<- r.length,hn],by rw[jp,hn]⟩
 yld F H i x H' w h hi y:=by
  obtain⟨b,vs,eb,q,r⟩:=(dF h).t e;cases eb;obtain⟨rfl,y⟩:=y;rw[jp] at hi;obtain⟨t,et⟩:=fP (l:=l) (i:=l.length-1-i) Z;obtain⟨v,ev,rv⟩:=r.get et;have:=y vs q;rw[hn,ev] at this;cases this;exact⟨t,by rw[Gv hi];exact et,.refl w,rv⟩
theorem Gy(hJ:JS J){t:TV}{l:List TV}(e:t.items=Oh (Oi,l)):TU K J (VZ K a) (l.mapIdx λ i x=>.tup [.int (i:Nat),x]) [t] [.ref a] where
 go F H i w h hi:=by
  obtain⟨b,vs,eb,q,r⟩:=(dF h).t e;cases eb;obtain⟨x,ex⟩:=fP (l:=vs) (by rw[<- r.length];simpa using hi);exact⟨vs,x,q,ex⟩
 stop F H w h:=by
  obtain⟨b,vs,eb,q,r⟩:=(dF h).t e;cases eb;exact⟨vs,q,by rw[<- r.length];simp⟩
 yld F H i x H' w h hi y:=by
  obtain⟨b,vs,eb,q,r⟩:=(dF h).t e;cases eb;obtain⟨T,z,rfl,hT,rfl,y⟩:=y;obtain⟨t,et⟩:=fP (l:=l) (i:=i) (by simpa using hi);obtain⟨v,ev,rv⟩:=r.get et;have:=y vs q;rw[ev] at this;cases this;have g:Grow J F H F (Ti H T (.tup [.int i,z])):=.new hJ w _ hT;exact⟨.tup [.int (i:Nat),t],by rw[oo,et];rfl,g,T,_,O,.of bU,_,_,O,O,_,_,O,rv.ke g.ke,O⟩
theorem Gz(hJ:JS J){t:TV}{l:List TV}(e:t.items=Oh (Ol,l)):TU K J (nS K a) (l.mapIdx λ i x=>.tup [.int (i:Nat),x]) [t] [.ref a] where
 go F H i w h hi:=by
  obtain⟨b,vs,eb,q,r⟩:=(dF h).l e;cases eb;obtain⟨x,ex⟩:=fP (l:=vs) (by rw[<- r.length];simpa using hi);exact⟨vs,x,q,ex⟩
 stop F H w h:=by
  obtain⟨b,vs,eb,q,r⟩:=(dF h).l e;cases eb;exact⟨vs,q,by rw[<- r.length];simp⟩
 yld F H i x H' w h hi y:=by
  obtain⟨b,vs,eb,q,r⟩:=(dF h).l e;cases eb;obtain⟨T,z,rfl,hT,rfl,y⟩:=y;obtain⟨t,et⟩:=fP (l:=l) (i:=i) (by simpa using hi);obtain⟨v,ev,rv⟩:=r.get et;have:=y vs q;rw[ev] at this;cases this;have g:Grow J F H F (Ti H T (.tup [.int i,z])):=.new hJ w _ hT;exact⟨.tup [.int (i:Nat),t],by rw[oo,et];rfl,g,T,_,O,.of bU,_,_,O,O,_,_,O,rv.ke g.ke,O⟩
theorem Vw.b{t:TV}{b:Bool}{l:List TV}(h:Vw K F H t x)(e:t.items=Oh (b,l)):∃a vs,x=.ref a/\VD K b H a vs/\RpL K F H l vs:=by
 cases b
 .exact h.l e
 .exact h.t e
end
noncomputable def gl(nm:List (Str×OD))(x:Str):Bool:=decide (nm.lookup x=Oh .globalImplicit)
noncomputable def vs(nm:List (Str×OD))(x:Str):Bool:=decide (nm.lookup x=Oh .local) || decide (nm.lookup x=Oh .cell) || decide (nm.lookup x=Oh .free)
noncomputable def cf(nm:List (Str×OD))(x:Str):Bool:=decide (nm.lookup x=Oh .cell) || decide (nm.lookup x=Oh .free)
noncomputable def Ui(x:Str):Bool:=!decide (x=("__debug__" : Str)) && !decide (x=("__classdict__" : Str)) && !decide (x=("__name__" : Str))
noncomputable def Xd:TV->Const->Bool
 |.int i,.int j=>decide (i=j)
 |.str x,.str y=>decide (x=y)
 |.bl x,.bool y=>decide (x=y)
 |.non,.none=>Oi
 |_,_=>Ol
noncomputable def wp:Cd->Bool
 |.nil=>Oi|_=>Ol
noncomputable def ky:Cd->Bool
 |.c .non=>Oi|_=>Ol
noncomputable def aX:Expr->Bool
 |.Starred ..=>Ol|_=>Oi
noncomputable def eG:Expr->Bool
 |.Set ..=>Ol|_=>Oi
noncomputable def jq:Expr->Bool
 |.Name ..=>Oi|.Constant (.int _) _ _=>Oi|.BinOp ..=>Oi|.Subscript ..=>Oi|.Call ..=>Oi|.UnaryOp ..=>Oi|_=>Ol
noncomputable def Xe:BI->Option Str
 |.len=>Oh "len" |.tuple=>Oh "tuple" |.list=>Oh "list" |.sum=>Oh "sum" |.max=>Oh "max" |.min=>Oh "min" |.abs=>Oh "abs" |.int=>Oh "int"
 |.sorted=>Oh "sorted" |.any=>Oh "any" |_=>Oj
noncomputable def bL(e:Expr)(k:Str->Pos->Bool):Bool:=match e with|.Name x p=>k x p|_=>Ol
@[elab_as_elim] theorem bA{motive:Expr->Prop}{e:Expr}{k:Str->Pos->Bool}(h:bL e k=Oi)(f:∀x p,k x p=Oi->motive (.Name x p)):motive e:=by cases e<;>first|exact f _ _ h|exact Om h
def GA(h:bL e k=Oi):∃x p,e=.Name x p/\k x p=Oi:=by cases e<;>first|exact⟨_,_,rfl,h⟩|exact Om h
noncomputable def wq(e:Expr)(k:Const->Nat->Pos->Bool):Bool:=match e with|.Constant x p q=>k x p q|_=>Ol
@[elab_as_elim] theorem GC{motive:Expr->Prop}{e:Expr}{k:Const->Nat->Pos->Bool}(h:wq e k=Oi)(f:∀x p q,k x p q=Oi->motive (.Constant x p q)):motive e:=by cases e<;>first|exact f _ _ _ h|exact Om h
noncomputable def wu(e:Expr)(k:Expr->QP->Expr->Pos->Bool):Bool:=match e with|.BinOp x p q r=>k x p q r|_=>Ol
@[elab_as_elim] theorem GD{motive:Expr->Prop}{e:Expr}{k:Expr->QP->Expr->Pos->Bool}(h:wu e k=Oi)(f:∀x p q r,k x p q r=Oi->motive (.BinOp x p q r)):motive e:=by cases e<;>first|exact f _ _ _ _ h|exact Om h
noncomputable def WG(e:Expr)(k:UnaryOp->Expr->Pos->Bool):Bool:=match e with|.UnaryOp x p q=>k x p q|_=>Ol
@[elab_as_elim] theorem ww{motive:Expr->Prop}{e:Expr}{k:UnaryOp->Expr->Pos->Bool}(h:WG e k=Oi)(f:∀x p q,k x p q=Oi->motive (.UnaryOp x p q)):motive e:=by cases e<;>first|exact f _ _ _ h|exact Om h
noncomputable def rB(e:Expr)(k:Expr->List Qo->List Expr->Pos->Bool):Bool:=match e with|.Compare x p q r=>k x p q r|_=>Ol
@[elab_as_elim] theorem wx{motive:Expr->Prop}{e:Expr}{k:Expr->List Qo->List Expr->Pos->Bool}(h:rB e k=Oi)(f:∀x p q r,k x p q r=Oi->motive (.Compare x p q r)):motive e:=by cases e<;>first|exact f _ _ _ _ h|exact Om h
noncomputable def Wf(e:Expr)(k:RB->List Expr->Pos->Bool):Bool:=match e with|.BoolOp x p q=>k x p q|_=>Ol
@[elab_as_elim] theorem wy{motive:Expr->Prop}{e:Expr}{k:RB->List Expr->Pos->Bool}(h:Wf e k=Oi)(f:∀x p q,k x p q=Oi->motive (.BoolOp x p q)):motive e:=by cases e<;>first|exact f _ _ _ h|exact Om h
def wz(h:Wf e k=Oi):∃x p q,e=.BoolOp x p q/\k x p q=Oi:=by cases e<;>first|exact⟨_,_,_,rfl,h⟩|exact Om h
noncomputable def Xf(e:Expr)(k:Expr->Expr->Expr->Pos->Bool):Bool:=match e with|.IfExp x p q r=>k x p q r|_=>Ol
@[elab_as_elim] theorem GE{motive:Expr->Prop}{e:Expr}{k:Expr->Expr->Expr->Pos->Bool}(h:Xf e k=Oi)(f:∀x p q r,k x p q r=Oi->motive (.IfExp x p q r)):motive e:=by cases e<;>first|exact f _ _ _ _ h|exact Om h
noncomputable def lY(e:Expr)(k:List Expr->Nat->Pos->Bool):Bool:=match e with|.Tuple x p q=>k x p q|_=>Ol
@[elab_as_elim] theorem oq{motive:Expr->Prop}{e:Expr}{k:List Expr->Nat->Pos->Bool}(h:lY e k=Oi)(f:∀x p q,k x p q=Oi->motive (.Tuple x p q)):motive e:=by cases e<;>first|exact f _ _ _ h|exact Om h
noncomputable def wA(e:Expr)(k:List Expr->Pos->Bool):Bool:=match e with|.List x p=>k x p|_=>Ol
@[elab_as_elim] theorem wB{motive:Expr->Prop}{e:Expr}{k:List Expr->Pos->Bool}(h:wA e k=Oi)(f:∀x p,k x p=Oi->motive (.List x p)):motive e:=by cases e<;>first|exact f _ _ h|exact Om h
noncomputable def kz(e:Expr)(k:Expr->Expr->Pos->Bool):Bool:=match e with|.Subscript x p q=>k x p q|_=>Ol
@[elab_as_elim] theorem lZ{motive:Expr->Prop}{e:Expr}{k:Expr->Expr->Pos->Bool}(h:kz e k=Oi)(f:∀x p q,k x p q=Oi->motive (.Subscript x p q)):motive e:=by cases e<;>first|exact f _ _ _ h|exact Om h
noncomputable def wC(e:Expr)(k:Option Expr->Option Expr->Option Expr->Pos->Bool):Bool:=match e with|.Slice x p q r=>k x p q r|_=>Ol
@[elab_as_elim] theorem GF{motive:Expr->Prop}{e:Expr}{k:Option Expr->Option Expr->Option Expr->Pos->Bool}(h:wC e k=Oi)(f:∀x p q r,k x p q r=Oi->motive (.Slice x p q r)):motive e:=by cases e<;>first|exact f _ _ _ _ h|exact Om h
noncomputable def dy(e:Expr)(k:Expr->List Expr->List Qf->Pos->Bool):Bool:=match e with|.Call x p q r=>k x p q r|_=>Ol
@[elab_as_elim] theorem dG{motive:Expr->Prop}{e:Expr}{k:Expr->List Expr->List Qf->Pos->Bool}(h:dy e k=Oi)(f:∀x p q r,k x p q r=Oi->motive (.Call x p q r)):motive e:=by cases e<;>first|exact f _ _ _ _ h|exact Om h
noncomputable def ou(e:Expr)(k:Expr->Str->Pos->Bool):Bool:=match e with|.Attribute x p q=>k x p q|_=>Ol
@[elab_as_elim] theorem rC{motive:Expr->Prop}{e:Expr}{k:Expr->Str->Pos->Bool}(h:ou e k=Oi)(f:∀x p q,k x p q=Oi->motive (.Attribute x p q)):motive e:=by cases e<;>first|exact f _ _ _ h|exact Om h
noncomputable def WH(e:Expr)(k:Expr->List Comprehension->Scope->Pos->Bool):Bool:=match e with|.ListComp x p q r=>k x p q r|_=>Ol
def mf(h:WH e k=Oi):∃x p q r,e=.ListComp x p q r/\k x p q r=Oi:=by cases e<;>first|exact⟨_,_,_,_,rfl,h⟩|exact Om h
noncomputable def c1{α:Type}(l:List α)(k:α->Bool):Bool:=match l with|[x]=>k x|_=>Ol
noncomputable def c2{α:Type}(l:List α)(k:α->α->Bool):Bool:=match l with|[x,y]=>k x y|_=>Ol
noncomputable def c4{α:Type}(l:List α)(k:α->α->α->α->Bool):Bool:=match l with|[x,y,z,w]=>k x y z w|_=>Ol
noncomputable def c3{α:Type}(l:List α)(k:α->α->α->Bool):Bool:=match l with|[x,y,z]=>k x y z|_=>Ol
noncomputable def cC{α:Type}(l:List α)(k:α->List α->Bool):Bool:=match l with|x::r=>k x r|_=>Ol
section
variable {α:Type}{l:List α}{a b c d e f g h i:Bool}
@[elab_as_elim] theorem eZ{motive:List α->Prop}{k:α->Bool}(h:c1 l k=Oi)(f:∀x,k x=Oi->motive ([x])):motive l:=by rcases l with _|⟨x,_|⟨_,_⟩⟩<;>first|exact f _ h|exact Om h
def iE{k:α->Bool}(h:c1 l k=Oi):∃x,l=[x]/\k x=Oi:=by rcases l with _|⟨x,_|⟨_,_⟩⟩<;>first|exact⟨_,rfl,h⟩|exact Om h
@[elab_as_elim] theorem mh{motive:List α->Prop}{k:α->α->Bool}(h:c2 l k=Oi)(f:∀x y,k x y=Oi->motive ([x,y])):motive l:=by rcases l with _|⟨x,_|⟨y,_|⟨_,_⟩⟩⟩<;>first|exact f _ _ h|exact Om h
@[elab_as_elim] theorem GG{motive:List α->Prop}{k:α->α->α->α->Bool}(h:c4 l k=Oi)(f:∀x y z w,k x y z w=Oi->motive ([x,y,z,w])):motive l:=by
 match l,h with
 |[x,y,z,w],h=>exact f x y z w h
@[elab_as_elim] theorem GH{motive:List α->Prop}{k:α->α->α->Bool}(h:c3 l k=Oi)(f:∀x y z,k x y z=Oi->motive ([x,y,z])):motive l:=by rcases l with _|⟨x,_|⟨y,_|⟨z,_|⟨_,_⟩⟩⟩⟩<;>first|exact f _ _ _ h|exact Om h
@[elab_as_elim] theorem oy{motive:List α->Prop}{k:α->List α->Bool}(h:cC l k=Oi)(f:∀x r,k x r=Oi->motive (x::r)):motive l:=by rcases l with _|⟨x,r⟩<;>first|exact f _ _ h|exact Om h
@[elab_as_elim] theorem dn{motive:List α->Prop}(h:l.isEmpty=Oi)(f:motive []):motive l:=by cases l<;>first|exact f|exact Om h
def an{a b:Bool}(h:(a&&b)=Oi):a=Oi/\b=Oi:=mi.mp h
def a3(z:(a&&b&&c)=Oi):a=Oi/\b=Oi/\c=Oi:=let ⟨x,y⟩:=an z;⟨(an x).1,(an x).2,y⟩
def a4(z:(a&&b&&c&&d)=Oi):a=Oi/\b=Oi/\c=Oi/\d=Oi:=let ⟨x,y⟩:=an z;let ⟨p,q,r⟩:=a3 x;⟨p,q,r,y⟩
def a5(z:(a&&b&&c&&d&&e)=Oi):a=Oi/\b=Oi/\c=Oi/\d=Oi/\e=Oi:=let ⟨x,y⟩:=an z;let ⟨p,q,r,s⟩:=a4 x;⟨p,q,r,s,y⟩
def a6(z:(a&&b&&c&&d&&e&&f)=Oi):a=Oi/\b=Oi/\c=Oi/\d=Oi/\e=Oi/\f=Oi:=let ⟨x,y⟩:=an z;let ⟨p,q,r,s,t⟩:=a5 x;⟨p,q,r,s,t,y⟩
def a7(z:(a&&b&&c&&d&&e&&f&&g)=Oi):a=Oi/\b=Oi/\c=Oi/\d=Oi/\e=Oi/\f=Oi/\g=Oi:=let ⟨x,y⟩:=an z;let ⟨p,q,r,s,t,u⟩:=a6 x;⟨p,q,r,s,t,u,y⟩
def a8(z:(a&&b&&c&&d&&e&&f&&g&&h)=Oi):a=Oi/\b=Oi/\c=Oi/\d=Oi/\e=Oi/\f=Oi/\g=Oi/\h=Oi:=let ⟨x,y⟩:=an z;let ⟨p,q,r,s,t,u,v⟩:=a7 x;⟨p,q,r,s,t,u,v,y⟩
def a9(z:(a&&b&&c&&d&&e&&f&&g&&h&&i)=Oi):a=Oi/\b=Oi/\c=Oi/\d=Oi/\e=Oi/\f=Oi/\g=Oi/\h=Oi/\i=Oi:=let ⟨x,y⟩:=an z;let ⟨p,q,r,s,t,u,v,w⟩:=a8 x;⟨p,q,r,s,t,u,v,w,y⟩
end
noncomputable def Vn(cells:Bool)(N:List Str)(nm:List (Str×OD))(is:List Nat)(tg:Expr):Bool :=
 let one (i:Nat) (e:Expr):Bool:=bL e λ x _=>decide (N[i]?=Oh x)&&(decide (nm.lookup x=Oh .local) || (cells&&decide (nm.lookup x=Oh .cell)))
 match is with
 |[i]=>one i tg
 |[i,j]=>lY tg λ es _ _=>c2 es λ a b=>one i a&&one j b
 |[i,j,k]=>lY tg λ es _ _=>c3 es λ a b c=>one i a&&one j b&&one k c
 |[i,j,k,m]=>lY tg λ es _ _=>c4 es λ a b c d=>one i a&&one j b&&one k c&&one m d
 |_=>Ol
noncomputable def WI:Expr->Bool
 |.BoolOp ..=>Ol|.UnaryOp .Not ..=>Ol|.Compare ..=>Ol|.IfExp ..=>Ol|.NamedExpr ..=>Ol|.Constant ..=>Ol|_=>Oi
noncomputable def tB':Cd->Expr->Bool
 |.and ..,_=>Oi|.or ..,_=>Oi|.not ..,_=>Oi|.cmp ..,_=>Oi|.cm2 ..,_=>Oi
 |_,e=>WI e
noncomputable def kA:Expr->Bool
 |.Tuple ..=>Oi|_=>Ol
noncomputable def Vo:IK->Option (Str×Nat)
 |.rng=>Oh ("range",0)|.rng3=>Oh ("range",2)|.enum _=>Oh ("enumerate",0)|.rev Oi=>Oh ("reversed",0)|_=>Oj
noncomputable def Wg:IK->Bool
 |.zip _ _=>Oi|.zip3=>Oi|.enum _=>Oi|_=>Ol
noncomputable def cE(nm names:List (Str×OD)):List (Str×OD):=names.map λ(x,k)=>if (k == .free&&nm.lookup x == Oh .cell) then (x,.cell) else (x,k)
noncomputable def Vt(N:List Str)(nm:List (Str×OD))(sc:Scope)(own fv:List Str)(js:List Nat):Bool :=
 decide (sc.kind=.function)&&sc.names.all (λ y=>!decide (y.2=.cell))&&sc.names.all (λ y=>!decide (y.2=.local) || decide (sc.names.lookup y.1=Oh .local))&&sc.names.all (λ y=>!decide (y.2=.free) || cf nm y.1)
  && decide (js.length=fv.length)&&(fv.zip js).all (λ p=>decide (N[p.2]?=Oh p.1)&&cf nm p.1&&cf (cE nm sc.names) p.1)&&decide (own++fv).Nodup
section
variable (fs gs:List Str)
mutual
def ck:Cd->List Str->List (Str×OD)->Expr->Bool
 |.v i,N,nm,e=>bL e λ x _=>decide (N[i]?=Oh x)&&vs nm x&&Ui x
 |.c t,_,_,e=>wq e λ k _ _=>Xd t k
 |.g k,_,nm,e=>bL e λ x _=>decide (gs[k]?=Oh x)&&gl nm x&&Ui x
 |.bin o a b,N,nm,e=>wu e λ l op r _=>decide (op=o)&&ck a N nm l&&ck b N nm r
 |.neg a,N,nm,e=>WG e λ op x _=>decide (op=.USub)&&ck a N nm x
 |.not a,N,nm,e=>WG e λ op x _=>decide (op=.Not)&&tB' a x&&ck a N nm x
 |.cmp o a b,N,nm,e=>rB e λ l os rs _=>c1 os λ op=>c1 rs λ r=>decide (op=o)&&ck a N nm l&&ck b N nm r&&eG r
 |.cm2 o o' a b c,N,nm,e=>rB e λ l os rs _=>c2 os λ op op'=>c2 rs λ r w=>decide (op=o)&&decide (op'=o')&&ck a N nm l&&ck b N nm r&&ck c N nm w&&eG w
 | .and a b,N,nm,e=>Wf e λ op es p=>decide (op=.And) && (match es with
   |[x,y]=>tB' a x&&tB' b y&&ck a N nm x&&ck b N nm y
   |x::y::z::r=>tB' a x&&ck a N nm x&&ck b N nm (.BoolOp .And (y::z::r) p)
   |_=>Ol)
 | .or a b,N,nm,e=>Wf e λ op es p=>decide (op=.Or) && (match es with
   |[x,y]=>tB' a x&&tB' b y&&ck a N nm x&&ck b N nm y
   |x::y::z::r=>tB' a x&&ck a N nm x&&ck b N nm (.BoolOp .Or (y::z::r) p)
   |_=>Ol)
 |.ite c a b,N,nm,e=>Xf e λ x y z _=>tB' c x&&ck c N nm x&&ck a N nm y&&ck b N nm z
 |.tup l,N,nm,e=>lY e λ es _ _=>ckL l N nm es
 |.lst l,N,nm,e=>wA e λ es _=>ckL l N nm es
 |.ix a b,N,nm,e=>kz e λ x y _=>jq y&&ck a N nm x&&ck b N nm y
 |.sl a lo hi,N,nm,e=>kz e λ x y _=>wC y λ l h s _=>s.isNone&&ck a N nm x&&(match l with|none=>ky lo|some l=>ck lo N nm l && !ky lo)&&(match h with|none=>ky hi|some h=>ck hi N nm h && !ky hi)
 |.call f l,N,nm,e=>dy e λ g as w _=>bL g λ x _=>cC as λ a es=>w.isEmpty&&decide (fs[f]?=Oh x)&&gl nm x&&Ui x&&ckL l N nm (a::es)
 |.bi f l,N,nm,e=>dy e λ g as w _=>bL g λ x _=>cC as λ a es=>w.isEmpty&&decide (Xe f=Oh x)&&gl nm x&&ckL l N nm (a::es)
 |.mxl a b,N,nm,e=>dy e λ g as w _=>bL g λ x _=>c2 as λ y z=>c1 w λ k=>bL k.value λ u _=>decide (x="max")&&gl nm x&&decide (k.arg=Oh (OI "key"))&&decide (u="len")&&gl nm u&&aX y&&aX z&&ck a N nm y&&ck b N nm z
 |.trev _ a,N,nm,e=>dy e λ g as w _=>bL g λ x _=>c1 as λ u=>dy u λ g' as' w' _=>bL g' λ y _=>c1 as' λ z=>w.isEmpty&&w'.isEmpty&&decide (x="tuple")&&gl nm x&&decide (y="reversed")&&gl nm y&&aX z&&ck a N nm z
 |.lrng k a,N,nm,e=>dy e λ g as w _=>bL g λ x _=>c1 as λ u=>dy u λ g' as' w' _=>bL g' λ y _=>c1 as' λ z=>(w.isEmpty && !k)&&w'.isEmpty&&decide (x=if k=Oi then "tuple" else "list")&&gl nm x&&decide (y="range")&&gl nm y&&aX z&&ck a N nm z
 |.ap i f l,N,nm,e=>dy e λ g as w _=>bL g λ x _=>cC as λ a es=>w.isEmpty&&decide (f=fs.length)&&decide (N[i]?=Oh x)&&vs nm x&&Ui x&&ckL l N nm (a::es)
 |.cf i f x c,N,nm,e=>dy e λ g as w _=>bL g λ y _=>c2 as λ u v=>bL v λ z _=>(w.isEmpty&&decide (f=fs.length)&&decide (y=x)&&gl nm y&&Ui y)&&decide (N[i]?=Oh z)&&vs nm z&&Ui z&&aX u&&ck c N nm u
 |.dk k a,N,nm,e=>kz e λ o y _=>bL o λ x _=>decide (gs[k]?=Oh x)&&gl nm x&&Ui x&&jq y&&ck a N nm y
 |.comp own fv js tg k it e,N,nm,x=>WH x λ elt gn sc _=>c1 gn λ g=>g.ifs.isEmpty&&decide (g.is_async=0)&&Vt N nm sc own fv js&&ckI it k g.target N nm g.iter&&Vn Ol (own++fv) (cE nm sc.names) tg g.target&&tg.all (λ i=>decide (i<own.length))&&ck e (own++fv) (cE nm sc.names) elt
 |.compI own fv js tg k it c e,N,nm,x=>WH x λ elt gn sc _=>c1 gn λ g=>c1 g.ifs λ cnd=>decide (g.is_async=0)&&Vt N nm sc own fv js&&ckI it k g.target N nm g.iter&&Vn Ol (own++fv) (cE nm sc.names) tg g.target&&tg.all (λ i=>decide (i<own.length))&&tB' c cnd&&ck c (own++fv) (cE nm sc.names) cnd&&ck e (own++fv) (cE nm sc.names) elt
 |_,_,_,_=>Ol
def ckL:Cd->List Str->List (Str×OD)->List Expr->Bool
 |.nil,_,_,es=>(match es with|[]=>Oi|_=>Ol)
 |.cons a r,N,nm,es=>(match es with|e::es=>aX e&&ck a N nm e&&ckL r N nm es|[]=>Ol)
 |_,_,_,_=>Ol
def ckI:Cd->IK->Expr->List Str->List (Str×OD)->Expr->Bool
 | .cons a r,k,tg,N,nm,it=>(match k with
   |.seq=>eG it&&wp r&&ck a N nm it
   |.str=>Ol
   |k=>dy it λ g as w _=>bL g λ x _=>cC as λ e es=>w.isEmpty&&decide (Vo k=Oh (x,es.length))&&gl nm x&&(!Wg k || kA tg)&&aX e&&ck a N nm e&&ckL r N nm es)
 |_,_,_,_,_,_=>Ol
end
end
section
variable {K:FG}{J:Hp->Prop}
noncomputable def Sr(K:FG)(F:Fz)(H:Hp)(t:TV)(v:V):Prop:=match t with
 |.own l=>Rr K H F H (.bor l) v
 |.obj (.dct l)=>∃a,v=.ref a/\H a=Oh (dcO l)
 |.obj (.fn a)=>v=.ref a/\FnV H a
 |.obj (.lls as ll)=>∃a0,v=.ref a0/\Ls K F H a0 (as.map V.ref)/\as.Nodup/\as.length=ll.length/\∀(j:Nat) a ks,as[j]?=Oh a->ll[j]?=Oh ks->¬F a/\∃us,H a=Oh (.lst us)/\RpL K F H (ks.map kT) us
 |t=>Rp K F H t v
structure EV (K:FG)(J:Hp->Prop)(F:Fz)(H:Hp)(σ:St)(ρ:En):Prop where
 w:Wd J F H
 sl:∀(i:Nat) t,ρ[i]?=Oh (Oh t)->∃v,σ[i]?=Oh (Oh v)/\Sr K F H t v
def Sr.grow(g:Grow J F H F' H')(h:Sr K F H t v):Sr K F' H' t v:=by
 cases t with
 |own l=>exact Rr.grow (t:=.bor l) (H:=H') g h
 |obj o=>
  cases o with
  |dct l=>obtain⟨a,e,q⟩:=h;exact⟨a,e,g.sm _ _ (λ ps z=>by cases z) q⟩
  |fn a=>obtain⟨e,φ,q,k⟩:=h;exact⟨e,φ,g.sm _ _ (λ ps z=>by cases z) q,k⟩
  |lls as ll=>
   obtain⟨a0,e,l0,nd,hl,h⟩:=h;refine⟨a0,e,g.ke.l _ _ l0,nd,hl,λ j a ks e1 e2=>?_⟩;obtain⟨nf,us,q,r⟩:=h j a ks e1 e2;refine⟨λ z=>?_,us,g.sm _ _ (λ ps z=>by cases z) q,r.ke g.ke⟩
   rcases g.nw _ z with y|y
   .exact nf y
   .rw[q] at y;cases y
 |_=>exact Rp.ke g.ke h
def EV.grow(e:EV K J F H σ ρ)(g:Grow J F H F' H'):EV K J F' H' σ ρ :=
 ⟨g.w,λ i t h=>let ⟨v,q,r⟩:=e.sl i t h;⟨v,q,r.grow g⟩⟩
noncomputable def Ur(K:FG)(J:Hp->Prop)(S:Tf):Sp:=λ vs H Q _=>∃F ts P,Wd J F H/\RpL K F H ts vs/\S ts P/\∀t,P t->∀F' H' v,Grow J F H F' H'->Rp K F' H' t v->Q v H'
theorem gz(g:Grow J F H F1 H1):∀ {ts:List TV}{vs:List V},RrL K H F1 H1 ts vs->ts.all TV.nb=Oi->∃F2,Grow J F H F2 H1/\(∀a,F1 a->F2 a)/\RpL K F2 H1 (ts.map TV.fz) vs
 |[],_,h,_=>by cases h;exact⟨F1,g,λ _ f=>f,rfl⟩
 |t::ts,_,h,n=>by
  cases h with
  |cons r q=>
   rw[cP,bp] at n;obtain⟨F2,g2,u2,r2⟩:=gz g q n.2
   cases t with
   |own l=>
    obtain⟨a,vs,e,na,f,qa,ra⟩:=r;refine⟨λ b=>F2 b\/b=a,g2.frz na (by rw[qa];simp),λ b f=>.inl (u2 b f),_,_,O,⟨a,vs,e,.inl ⟨.inr rfl,.of qa⟩,ra.ke (.up λ b f=>.inl (u2 b f))⟩,r2.ke (.up λ b f=>.inl f)⟩
   |bor l=>cases n.1
   |_=>exact⟨F2,g2,u2,_,_,rfl,Rp.ke (.up u2) r,r2⟩
mutual
theorem LF.rp:∀ {t:TV}{v:V},LF t->Rp K F H t v->Rp K F' H t v
 |.non,_,_,h=>h
 |.bl _,_,_,h=>h
 |.int _,_,_,h=>h
 |.str _,_,_,h=>h
 |.tup l,_,f,⟨a,vs,e,q,r⟩=>⟨a,vs,e,q,LF.rpl (λ x hx=>by simp only[LF] at f;exact f x hx) r⟩
 |.lst _,_,f,_=>by simp[LF] at f
 |.bor _,_,f,_=>by simp[LF] at f
 |.own _,_,f,_=>by simp[LF] at f
 |.obj _,_,f,_=>by simp[LF] at f
theorem LF.rpl:∀ {ts:List TV}{vs:List V},(∀x∈ts,LF x)->RpL K F H ts vs->RpL K F' H ts vs
 |[],_,_,h=>h
 |t::ts,_,f,⟨v,r,e,h1,h2⟩=>⟨v,r,e,LF.rp (f t on) h1,LF.rpl (λ x hx=>f x (by simp[hx])) h2⟩
end
end
noncomputable def BN:List Str:=["len","tuple","list","sum","max","min","abs","int","str","sorted","any","all","isinstance","bool","range","zip","enumerate","reversed","set","dict"]
noncomputable def Xg(P:Ov)(w:Ow)(K:FG)(mg:SV)(x:Str)(l:List TV):Prop:=∃d kvs,mg x=Oh (.ref d)/\KTab P w K d kvs/\∀y t,VF l y=Oh t->∃a,kvs.lookup y=Oh a/\∀F H,Rp K F H t (.ref a)
noncomputable def GI(K:FG)(J:Hp->Prop)(S:Tf):Sp:=λ vs H Q _=>∃F a ts vs' P,vs=vs'++[.ref a]/\Wd J F H/\FnV H a/\RpL K F H ts vs'/\S (.obj (.fn a)::ts) P/\∀t,P t->∀F' H' v,Grow J F H F' H'->Rp K F' H' t v->Q v H'
structure WJ (P:Ov)(w:Ow)(K:FG)(mg:SV)(base:Oz)(A:Oy)(J:Hp->Prop)(S:Tf):Prop where
 ap:∃k,Room k A/\∀a ts vs P' F H Q,Wd J F H->FnV H a->RpL K F H ts vs->S (.str "" :: .obj (.fn a)::ts) P'->(∀t,P' t->∀F' H' v,Grow J F H F' H'->Rp K F' H' t v->Q v H')->lU P w K mg base k a vs H Q
 cf:∀x,S [.str x] (λ _=>True)->∃k ps,Room k A/\Callee P w K mg base Tu k x ps (GI K J λ l=>S (.str x::l))
structure Tv (X:Cx)(J:Hp->Prop)(FT:List Tf)(GT:List TV)(fs gs:List Str):Prop where
 calm:X.calm=Oi
 units:X.A.units+120<Pu
 hJ:JS J
 fns:∀(f:Nat) x S,fs[f]?=Oh x->FT[f]?=Oh S->∃k ps,Room k X.A/\Callee X.prog X.w X.K X.mg X.base Tu k x ps (Ur X.K J S)
 glb:∀(g:Nat) x t,gs[g]?=Oh x->GT[g]?=Oh t->t.nb=Oi->∃v u,X.mg x=Oh u/\RelV v u/\∀F H,Rp X.K F H t v
 dic:∀(g:Nat) x l,gs[g]?=Oh x->GT[g]?=Oh (.bor l)->Xg X.prog X.w X.K X.mg x l
 blt:∀x∈BN,X.mg x=Oj
 len:fs.length<=FT.length
 hof:∀S,FT[fs.length]?=Oh S->WJ X.prog X.w X.K X.mg X.base X.A J S
def wD{K:FG}{FT:List Tf}{fs:List Str}(h:fs.length=FT.length):∀S,FT[fs.length]?=Oh S->WJ P w K mg base A J S:=λ S e=>by rw[h,jr (ao _)] at e;cases e
structure XS (X:Cx)(N:List Str)(nm:List (Str×OD)):Prop where
 N:X.N=N
 nm:X.env.scope.names=nm
section
variable {J:Hp->Prop}{FT:List Tf}{GT:List TV}{fs gs:List Str}
noncomputable def rE(K:FG)(J:Hp->Prop)(FT:List Tf)(GT:List TV)(c:Cd):TE:=λ σ H Q=>∃F ρ,EV K J F H σ ρ/\wE FT GT c ρ λ t=>∀F' H' v,Grow J F H F' H'->Rr K H F' H' t v->Q v H'
noncomputable def rT(K:FG)(J:Hp->Prop)(FT:List Tf)(GT:List TV)(c:Cd):TT:=λ σ H Q=>∃F ρ,EV K J F H σ ρ/\wE FT GT c ρ λ t=>b1 t λ b=>∀F' H',Grow J F H F' H'->Q b H'
noncomputable def rA(K:FG)(J:Hp->Prop)(FT:List Tf)(GT:List TV)(c:Cd):TA:=λ σ H Q=>∃F ρ,EV K J F H σ ρ/\wL FT GT c ρ λ ts=>∀F' H' vs,Grow J F H F' H'->RrL K H F' H' ts vs->Q vs H'
def PE.imp{t t':TE}(h:PE X e t)(i:∀σ H Q,t' σ H Q->t σ H Q):PE X e t':=λ Te s σ H Q I q=>h Te s σ H Q I (i σ H Q q)
def PT.imp{t t':TT}(h:PT X e t)(i:∀σ H Q,t' σ H Q->t σ H Q):PT X e t':=λ Te s σ H Q I q=>h Te s σ H Q I (i σ H Q q)
def PA.imp{t t':TA}(h:PA X e t)(i:∀σ H Q,t' σ H Q->t σ H Q):PA X e t':=λ pos Te s σ H Q I q=>h pos Te s σ H Q I (i σ H Q q)
def bj{es:List Expr}(h:aX e=Oi):OE (e::es) env=(Ol,eval e env)::OE es env:=by cases e<;>first|rfl|cases h
theorem rD:∀ {es:List Expr}{env:Env},es.all aX=Oi->(OE es env).any (·.1)=Ol
 |[],_,_=>rfl
 |e::es,env,h=>by
  rw[cP,bp] at h;rw[bj h.1,lE,rD h.2];rfl
def fQ{es:List Expr}(h:es.all aX=Oi):(Pk pos (OE es env)).any (·.1)=Ol:=by
 unfold Pk;rw[List.any_map];exact rD h
def UK(xs:XS X N nm)(h:gl nm x=Oi):Gl X x:=by
 show X.env.scope.names.lookup x=_;rw[xs.nm];exact aC h
def gR(xs:XS X N nm)(h:vs nm x=Oi):Vz X.env.scope x:=by
 unfold vs at h;rw[iF,iF] at h;unfold Vz;rw[xs.nm]
 rcases h with (h|h)|h
 .exact .inl (aC h)
 .exact .inr (.inl (aC h))
 .exact .inr (.inr (aC h))
def dW(h:Ui x=Oi):(x == ("__debug__" : Str))=Ol/\(x == ("__classdict__" : Str))=Ol/\x ≠ "__name__" := by
 simp only[Ui,bp,oz,wF] at h;exact⟨by simpa using h.1.1,by simpa using h.1.2,h.2⟩
end
theorem rF{env:Env}:∀(l:List (Str×OD)) (cs:LA),(∀x,(x,OT)∈l->∃c,env.cells.lookup x=Oh c) ->
  ∃cl,(forIn l cs (λ(x:Str × OD) (r:LA)=>(match x with
   |(name,kind)=>if (kind == OT)=Oi then (do let y <- Ra env name;OF (Qg ((name,y)::r))) else OF (Qg r):Sem (ForInStep (LA)))):Sem (LA))=OF cl /\
   (∀x c,cl.lookup x=Oh c->cs.lookup x=Oh c\/env.cells.lookup x=Oh c)/\(∀x,(x,OT)∈l\/(∃c,cs.lookup x=Oh c)->∃c,cl.lookup x=Oh c)
 | [],cs,_=>⟨cs,rfl,λ _ _ h=>.inl h,λ x h=>by
  rcases h with h|h
  .cases h
  .exact h⟩
 |(n,k)::l,cs,h=>by
  by_cases hk:k=.free
  .subst hk;obtain⟨c,hc⟩:=h n on;obtain⟨cl,e,q1,q2⟩:=rF l ((n,c)::cs) λ x hx=>h x (by simp[hx]);refine⟨cl,?_,λ x d hx=>?_,λ x hx=>?_⟩
   .rw[lQ];have:Ra env n=OF c:=by unfold Ra;rw[hc]
    simp only[this,jW,eO,s1q];exact e
   .rcases q1 x d hx with z|z
    .rw[dR] at z;split at z
     .rename_i en;have:x=n:=by simpa using en
      subst this;cases z;exact .inr hc
     .exact .inl z
    .exact .inr z
   .refine q2 x ?_
    rcases hx with hx|⟨d,hd⟩
    .rcases aB.mp hx with z|z
     .cases z;exact .inr ⟨c,by simp[dR]⟩
     .exact .inl z
    .by_cases en:x=n
     .subst en;exact .inr ⟨c,by simp[dR]⟩
     .have:(x == n)=Ol:=by simpa using en
      exact .inr ⟨d,by rw[dR,this];exact hd⟩
  .obtain⟨cl,e,q1,q2⟩:=rF l cs λ x hx=>h x (by simp[hx]);refine⟨cl,?_,q1,λ x hx=>q2 x ?_⟩
   .rw[lQ];have:(k == OT)=Ol:=by simpa using hk
    simp only[this,lT,iZ,s1q];exact e
   .rcases hx with hx|hx
    .rcases aB.mp hx with z|z
     .cases z;exact XU rfl hk
     .exact .inl z
    .exact .inr hx
theorem GJ{scope:Scope}{env:Env}(h:∀x,(x,OT)∈scope.names->∃c,env.cells.lookup x=Oh c) :
  ∃cl,OS scope env=OF cl/\(∀x c,cl.lookup x=Oh c->env.cells.lookup x=Oh c)/\∀x,(x,OT)∈scope.names->∃c,cl.lookup x=Oh c:=by
 obtain⟨cl,e,q1,q2⟩:=rF (env:=env) scope.names [] h;refine⟨cl,?_,λ x c hx=>?_,λ x hx=>q2 x (.inl hx)⟩
 .unfold OS;simp only[bind_pure];exact e
 .rcases q1 x c hx with z|z
  .cases z
  .exact z
section
variable {N:List Str}{nm:List (Str×OD)}{sc:Scope}{own fv:List Str}{js:List Nat}
def GK{α β:Type} [BEq α] [LawfulBEq α] {l:List (α×β)}{x:α}{y:β}(h:l.lookup x=Oh y):(x,y)∈l:=by
 induction l with
 |nil=>cases h
 |cons p r ih=>
  obtain⟨a,b⟩:=p;rw[dR] at h;split at h
  .rename_i e;have:x=a:=by simpa using e
   subst this;cases h;simp
  .exact aW _ (ih h)
structure CSc (X:Cx)(N:List Str)(nm:List (Str×OD))(sc:Scope)(own fv:List Str)(js:List Nat)(cl:LA):Prop where
 clos:OS sc X.env=OF cl
 cell:∀y∈sc.names,y.2≠.cell
 kind:sc.kind=.function
 names:∀y∈sc.names,y.2=.local->sc.names.lookup y.1=Oh .local
 sub:∀x c,cl.lookup x=Oh c->X.env.cells.lookup x=Oh c
 has:∀x,((OY sc X.env).names.lookup x=Oh .cell\/(OY sc X.env).names.lookup x=Oh .free)->∃c,cl.lookup x=Oh c
 len:js.length=fv.length
 cap:∀(i:Nat) x j,fv[i]?=Oh x->js[i]?=Oh j->Vd X sc cl x j
 nd:(own++fv).Nodup
 rel:(OY sc X.env).names=cE nm sc.names
def rG(h:cf nm x=Oi):nm.lookup x=Oh .cell\/nm.lookup x=Oh .free:=by
 unfold cf at h;rw[iF] at h;exact h.imp aC aC
def kB(ok:X.Ok)(xs:XS X N nm)(h:Vt N nm sc own fv js=Oi):∃cl,CSc X N nm sc own fv js cl:=by
 unfold Vt at h;simp only[bp] at h;obtain⟨⟨⟨⟨⟨⟨h1,h2⟩,h3⟩,h4⟩,h5⟩,h6⟩,h7⟩:=h
 have hfree:∀x,(x,OT)∈sc.names->nm.lookup x=Oh .cell\/nm.lookup x=Oh .free:=λ x hx=>by
  have:=gq.mp h4 _ hx;simp only[decide_true,Bool.not_true,jt] at this;exact rG this
 obtain⟨cl,e,s1,s2⟩:=GJ (scope:=sc) (env:=X.env) λ x hx=>ok.has x (by
  have:=hfree x hx;rw[<- xs.nm] at this
  exact this)
 have hcell:∀y∈sc.names,y.2≠.cell:=λ y hy=>by simpa using gq.mp h2 y hy
 have hrel:(OY sc X.env).names=cE nm sc.names:=by
  unfold OY cE;rw[<- xs.nm];apply rH;intro y hy;obtain⟨n,k⟩:=y;have:(X.env.scope.kind == ScopeKind.function)=Oi:=by rw[ok.kind];rfl
  simp only[this,Bool.and_true];rfl
 refine⟨cl,e,hcell,aC h1,λ y hy e=>?_,s1,λ x hx=>s2 x ?_,aC h5,λ i x j e1 e2=>?_,aC h7,hrel⟩
 .have:=gq.mp h3 y hy;simpa [e] using this
 .have:∀k,(OY sc X.env).names.lookup x=Oh k->k=.cell\/k=.free->(x,OT)∈sc.names:=λ k hk hz=>by
   have m:=GK hk;obtain⟨⟨n,k0⟩,hm,he⟩:=bq.mp m;have he:(if (k0 == OT&&X.env.scope.kind == .function&&X.env.kindOf n == Oh .cell)=Oi then (n,Su) else (n,k0))=(x,k):=he;split at he
   .rename_i c;cases he;simp only[bp] at c;have:k0=.free:=by simpa using c.1.1
    subst this;exact hm
   .cases he
    rcases hz with rfl|rfl
    .exact XU rfl (hcell _ hm)
    .exact hm
  rcases hx with hx|hx
  .exact this _ hx (.inl rfl)
  .exact this _ hx (.inr rfl)
 .have m:(x,j)∈fv.zip js:=by
   refine aE (i:=i) ?_;rw[wG];exact⟨e1,e2⟩
  have:=gq.mp h6 _ m;simp only[bp] at this;refine⟨by rw[xs.N];exact aC this.1.1,?_,?_⟩
  .rw[xs.nm];exact rG this.1.2
  .rw[hrel];exact rG this.2
end
section
variable {K:FG}{J:Hp->Prop}{F:Fz}{H:Hp}{σ:St}{ρ:En}
def wH(h:Rp K F H t v):Sr K F H t v:=by cases t<;>first|exact h|exact h.elim
def EV.set{i:Nat}(e:EV K J F H σ ρ)(h:Rp K F H t v)(hi:i<σ.length):EV K J F H (σ.set i (Oh v)) (ρ.set i (Oh t)) :=
 ⟨e.w,λ j u hj=>by
  rw[cW] at hj;split at hj
  .rename_i c;subst c;split at hj
   .cases hj;exact⟨v,by rw[cW];simp[hi],wH h⟩
   .cases hj
  .rename_i c;obtain⟨w,e1,r⟩:=e.sl j u hj
   exact⟨w,by rw[cW,XR c];exact e1,r⟩⟩
def EV.any{i:Nat}(e:EV K J F H σ ρ)(h:∀t,ρ[i]?≠Oh (Oh t)):EV K J F H (σ.set i v) ρ :=
 ⟨e.w,λ j u hj=>by
  obtain⟨w,e1,r⟩:=e.sl j u hj;refine⟨w,?_,r⟩;rw[cW,XR (λ z=>by subst z;exact h u hj)]
  exact e1⟩
noncomputable def Uw(K:FG):List Nat->TG
 |[i]=>cV i
 |[i,j]=>mY K 2 (gc (cV i) (gc (cV j) mX))
 |[i,j,k]=>mY K 3 (gc (cV i) (gc (cV j) (gc (cV k) mX)))
 |[i,j,k,m]=>mY K 4 (gc (cV i) (gc (cV j) (gc (cV k) (gc (cV m) mX))))
 |_=>λ _ _ _ _=>False
theorem oA{Q:St->Hp->Prop}(h:Ud ρ is t P)(e:EV K J F H σ ρ)(rt:Rp K F H t v)(hl:∀i∈is,i<σ.length)
  (fin:∀σ' ρ',P ρ'->EV K J F H σ' ρ'->σ'.length=σ.length->(∀ρ0,EV K J F H σ ρ0->(∀i∈is,∀u,ρ0[i]?≠Oh (Oh u))->EV K J F H σ' ρ0)->Q σ' H):Uw K is v σ H Q:=by
 match is,h with
 |[i],h=>exact fin _ _ h (e.set rt (hl i on)) on λ ρ0 e0 n=>e0.any (n i on)
 |[i,j],h=>
  cases t with
  |tup l=>
   match l,h with
   |[x,y],h=>
    obtain⟨a,ws,rfl,q,v1,r1,rfl,h1,v2,r2,rfl,h2,rfl⟩:=rt;exact⟨a,_,O,q,O,v1,_,O,v2,_,O,O,fin _ _ h ((e.set h1 (hl i on)).set h2 (by simpa using hl j on)) on λ ρ0 e0 n=>(e0.any (n i on)).any (n j on)⟩
   |[],h=>exact h.elim
   |[_],h=>exact h.elim
   |_::_::_::_,h=>exact h.elim
  |_=>exact h.elim
 |[i,j,k],h=>
  cases t with
  |tup l=>
   match l,h with
   |[x,y,z],h=>
    obtain⟨a,ws,rfl,q,v1,r1,rfl,h1,v2,r2,rfl,h2,v3,r3,rfl,h3,rfl⟩:=rt;exact⟨a,_,O,q,O,v1,_,O,v2,_,O,v3,_,O,O,fin _ _ h (((e.set h1 (hl i on)).set h2 (by simpa using hl j on)).set h3 (by simpa using hl k on)) on λ ρ0 e0 n=>((e0.any (n i on)).any (n j on)).any (n k on)⟩
   |[],h=>exact h.elim
   |[_],h=>exact h.elim
   |[_,_],h=>exact h.elim
   |_::_::_::_::_,h=>exact h.elim
  |_=>exact h.elim
 |[i,j,k,m],h=>
  cases t with
  |tup l=>
   match l,h with
   |[x,y,z,w],h=>
    obtain⟨a,ws,rfl,q,v1,r1,rfl,h1,v2,r2,rfl,h2,v3,r3,rfl,h3,v4,r4,rfl,h4,rfl⟩:=rt;exact⟨a,_,O,q,O,v1,_,O,v2,_,O,v3,_,O,v4,_,O,O,fin _ _ h ((((e.set h1 (hl i on)).set h2 (by simpa using hl j on)).set h3 (by simpa using hl k on)).set h4 (by simpa using hl m on)) on λ ρ0 e0 n=>(((e0.any (n i on)).any (n j on)).any (n k on)).any (n m on)⟩
   |[],h=>exact h.elim
   |[_],h=>exact h.elim
   |[_,_],h=>exact h.elim
   |[_,_,_],h=>exact h.elim
   |_::_::_::_::_::_,h=>exact h.elim
  |_=>exact h.elim
 |[],h=>exact h.elim
 |_::_::_::_::_::_,h=>exact h.elim
end
section
variable {N:List Str}{nm:List (Str×OD)}
def iG{cells:Bool}(hN:X.N.Nodup)(hc:X.calm=Oi)(xs:XS X N nm)(hf:cells=Oi->∀x,X.env.scope.names.lookup x=Oh .cell->X.fn x=Oi)(h:Vn cells N nm is tg=Oi):PG X tg (Uw X.K is)/\∀i∈is,i<N.length:=by
 have one:∀(i:Nat) (x:Str) (p:Pos),(decide (N[i]?=Oh x)&&(decide (nm.lookup x=Oh .local) || (cells&&decide (nm.lookup x=Oh .cell))))=Oi->PG X (.Name x p) (cV i)/\i<N.length:=λ i x p h=>by
  rw[bp,iF,bp] at h;obtain⟨h1,h2⟩:=h;have e:=aC h1;refine⟨?_,(aY.mp e).1⟩
  rcases h2 with h2|⟨h2,h3⟩
  .have k:X.env.scope.names.lookup x=Oh .local:=by rw[xs.nm];exact aC h2
   exact ug hN (by rw[xs.N];exact e) (.inl k) (.inr k)
  .have k:X.env.scope.names.lookup x=Oh .cell:=by rw[xs.nm];exact aC h3
   exact ug hN (by rw[xs.N];exact e) (.inr k) (.inl (hf h2 x k))
 match is,h with
 |[i],h=>
  refine bA h λ x p g=>?_;obtain⟨a,b⟩:=one _ _ p g;exact⟨a,λ i hi=>by rw[aI.mp hi];exact b⟩
 |[i,j],h=>
  refine oq h λ es _ _ g=>?_;refine mh g λ e1 e2 g=>?_;refine bA (an g).1 λ x p g1=>?_;refine bA (an g).2 λ y q g2=>?_;obtain⟨a1,b1⟩:=one _ _ p g1;obtain⟨a2,b2⟩:=one _ _ q g2;refine⟨qg hc (gH a1 (gH a2 qd)),λ i hi=>?_⟩;simp only[aB,bf,bd] at hi
  rcases hi with rfl|rfl<;>assumption
 |[i,j,k],h=>
  refine oq h λ es _ _ g=>?_;refine GH g λ e1 e2 e3 g=>?_;obtain⟨g1,g2,g3⟩:=a3 g;refine bA g1 λ x p g1=>?_;refine bA g2 λ y q g2=>?_;refine bA g3 λ z r g3=>?_;obtain⟨a1,b1⟩:=one _ _ p g1;obtain⟨a2,b2⟩:=one _ _ q g2;obtain⟨a3,b3⟩:=one _ _ r g3;refine⟨qg hc (gH a1 (gH a2 (gH a3 qd))),λ i hi=>?_⟩;simp only[aB,bf,bd] at hi
  rcases hi with rfl|rfl|rfl<;>assumption
 |[i,j,k,m],h=>
  refine oq h λ es _ _ g=>?_;refine GG g λ e1 e2 e3 e4 g=>?_;obtain⟨g1,g2,g3,g4⟩:=a4 g;refine bA g1 λ x p g1=>?_;refine bA g2 λ y q g2=>?_;refine bA g3 λ z r g3=>?_;refine bA g4 λ w t g4=>?_;obtain⟨a1,b1⟩:=one _ _ p g1;obtain⟨a2,b2⟩:=one _ _ q g2;obtain⟨a3,b3⟩:=one _ _ r g3;obtain⟨a4,b4⟩:=one _ _ t g4;refine⟨qg hc (gH a1 (gH a2 (gH a3 (gH a4 qd)))),λ i hi=>?_⟩;simp only[aB,bf,bd] at hi
  rcases hi with rfl|rfl|rfl|rfl<;>assumption
 |[],h=>exact Om h
 |_::_::_::_::_::_,h=>exact Om h
end
section
variable {J:Hp->Prop}{FT:List Tf}{GT:List TV}{fs gs:List Str}{N:List Str}{nm:List (Str×OD)}
noncomputable def rW(K:FG)(J:Hp->Prop)(FT:List Tf)(GT:List TV)(k:IK)(c:Cd):TI:=λ σ H R=>∃F ρ,EV K J F H σ ρ/\wL FT GT c ρ λ ts=>Ve k ts λ its=>∀F' H' xs Jt,Grow J F H F' H'->RrL K H F' H' ts xs->TU K J Jt its ts xs->R Jt H'
def PI.imp{t t':TI}(h:PI X tg e t)(i:∀σ H Q,t' σ H Q->t σ H Q):PI X tg e t':=λ Te s σ H Q I q=>h Te s σ H Q I (i σ H Q q)
def rJ(h:eG e=Oi):Qw op e=Ol:=by cases e<;>first|rfl|cases h
def wI{o o':Qo}{r w:Expr}(h:eG w=Oi):Sj [o,o'] [r,w]=Ol:=by
 show Qw o' w=Ol;exact rJ h
def ju(h:eG e=Oi):OZ e env x=OF x:=by cases e<;>first|rfl|cases h
def rK(h:jq e=Oi):uK e:=by
 intro o i
 cases e<;>first|rfl|(cases h;done)
def s_v(xs:XS X N nm)(h:ck fs gs (.v i) N nm e=Oi):PE X e (rE X.K J FT GT (.v i)):=by
 refine bA h λ x p h0=>?_;have h':=mi.mp h0;obtain⟨h1,h2⟩:=mi.mp h'.1;obtain⟨d1,d2,_⟩:=dW h'.2;refine(gG (by rw[xs.N];exact aC h1) (gR xs h2) d1 d2).imp λ σ H Q q=>?_;obtain⟨F,ρ,ev,w⟩:=q;have w:We ρ[i]? _:=w
 rcases hs:ρ[i]? with _|_|t
 .rw[hs] at w;exact w.elim
 .rw[hs] at w;exact w.elim
 .rw[hs] at w;obtain⟨v,e,r⟩:=ev.sl i t hs;unfold cj;rw[e]
  cases t with
  |bor l=>exact r.elim
  |obj l=>exact w.elim
  |_=>exact w F H v (.refl ev.w) r
def s_c(h:ck fs gs (.c t) N nm e=Oi):PE X e (rE X.K J FT GT (.c t)):=by
 refine GC h λ k _ _ h0=>?_;replace h:Xd t k=Oi:=h0
 cases t<;>cases k<;>first
  |exact Om h
  |(cases aC h;exact pe_int.imp λ σ H Q ⟨F,ρ,ev,w⟩=>w F H _ (.refl ev.w) rfl)
  |(cases aC h;exact pe_str.imp λ σ H Q ⟨F,ρ,ev,w⟩=>w F H _ (.refl ev.w) rfl)
  |(cases aC h;exact pe_bl.imp λ σ H Q ⟨F,ρ,ev,w⟩=>w F H _ (.refl ev.w) rfl)
  |exact pe_non.imp λ σ H Q ⟨F,ρ,ev,w⟩=>w F H _ (.refl ev.w) rfl
def s_g(xo:Tv X J FT GT fs gs)(xs:XS X N nm)(h:ck fs gs (.g k) N nm e=Oi):PE X e (rE X.K J FT GT (.g k)):=by
 refine bA h λ x p h0=>?_;have h':=mi.mp h0;obtain⟨h1,h2⟩:=mi.mp h'.1;obtain⟨d1,_,_⟩:=dW h'.2
 cases et:GT[k]? with
 |none=>exact λ Te s σ H Q I ⟨F,ρ,ev,w⟩=>by have w:Vs GT[k]? _:=w;rw[et] at w;exact w.elim
 |some t=>
  cases nb:t.nb with
  |false=>
   intro Te s σ H Q I ⟨F,ρ,ev,w⟩;have w:Vs GT[k]? _:=w;rw[et] at w
   cases t<;>first|exact w.elim|exact Om nb
  |true=>
   obtain⟨v,u,m,r,p⟩:=xo.glb k _ t (aC h1) et nb;refine(Bh (UK xs h2) m r d1).imp λ σ H Q ⟨F,ρ,ev,w⟩=>?_;have w:Vs GT[k]? _:=w;rw[et] at w
   cases t with
   |bor l=>cases nb
   |_=>exact w F H v (.refl ev.w) (Rr.of (p F H))
def GL{k:Nat}(xo:Tv X J FT GT fs gs)(xs:XS X N nm)(h1:gs[k]?=Oh x)(h2:gl nm x=Oi)(h3:Ui x=Oi)(h4:jq y=Oi)(ha:PE X y (rE X.K J FT GT a)):PE X (.Subscript (.Name x p1) y p2) (rE X.K J FT GT (.dk k a)):=by
 intro Te s σ H Q I ⟨F,ρ,ev,w⟩;obtain⟨l,et,w⟩:=we (show VE GT[k]? _ from w);obtain⟨d,kvs,hm,T,look⟩:=xo.dic k x l h1 et;refine Fh (UK xs h2) hm T ha (rK h4) (dW h3).1 Te s σ H Q I ⟨F,ρ,ev,av a (λ t w F1 H1 v g r=>?_) w⟩;obtain⟨z,rfl,t,el,w⟩:=wj w;cases r;obtain⟨b,eb,rp⟩:=look z t el;exact⟨z,b,O,eb,w F1 H1 _ g (Rr.of (rp F1 H1))⟩
def GM(xo:Tv X J FT GT fs gs)(ha:PE X l (rE X.K J FT GT a))(hb:PE X r (rE X.K J FT GT b)):PE X (.BinOp l o r p) (rE X.K J FT GT (.bin o a b)) :=
 (BR (Gc xo.hJ o) ha hb).imp λ σ H Q ⟨F,ρ,ev,w⟩=>⟨F,ρ,ev,av a (λ x w F1 H1 v g1 r1=>⟨F1,ρ,ev.grow g1,av b (λ y w F2 H2 v2 g2 r2=>⟨F,H,F2,x,y,g1.trans g2,r1.grow g2,r2.late g1,w⟩) w⟩) w⟩
def GN{o:Qo}(xo:Tv X J FT GT fs gs)(ha:PE X l (rE X.K J FT GT a))(hb:PE X r (rE X.K J FT GT b))(hs:eG r=Oi):PE X (.Compare l [o] [r] p) (rE X.K J FT GT (.cmp o a b)) :=
 (Cp (kt xo.units o) ha hb (rJ hs)).imp λ σ H Q ⟨F,ρ,ev,w⟩=>⟨F,ρ,ev,av a (λ x w F1 H1 v g1 r1=>⟨F1,ρ,ev.grow g1,av b (λ y w F2 H2 v2 g2 r2=>⟨F,H,F2,x,y,g1.trans g2,r1.grow g2,r2.late g1,gQ (λ z w v r=>w F2 H2 v (g1.trans g2) r) w⟩) w⟩) w⟩
def GO(ha:PE X l (rE X.K J FT GT a))(hb:PE X r (rE X.K J FT GT b))(hs:jq r=Oi):PE X (.Subscript l r p) (rE X.K J FT GT (.ix a b)) :=
 (uL Gj ha hb (rK hs)).imp λ σ H Q ⟨F,ρ,ev,w⟩=>⟨F,ρ,ev,av a (λ x w F1 H1 v g1 r1=>⟨F1,ρ,ev.grow g1,av b (λ y w F2 H2 v2 g2 r2=>⟨F,H,F2,x,y,g1.trans g2,r1.grow g2,r2.late g1,w⟩) w⟩) w⟩
def GP(ha:PE X l (rE X.K J FT GT a)):PE X (.UnaryOp .USub l p) (rE X.K J FT GT (.neg a)) :=
 (BS Cf ha).imp λ σ H Q ⟨F,ρ,ev,w⟩=>⟨F,ρ,ev,av a (λ x w F1 H1 v g1 r1=>by
  obtain⟨i,rfl,w⟩:=gx w;cases r1
  exact w F1 H1 _ g1 rfl) w⟩
def GQ(ha:PE X l (rE X.K J FT GT a)):PE X (.UnaryOp .Not l p) (rE X.K J FT GT (.not a)) :=
 (Bw ha).imp λ σ H Q ⟨F,ρ,ev,w⟩=>⟨F,ρ,ev,av a (λ x w F1 H1 v g1 r1=>by
  obtain⟨i,rfl,w⟩:=iB w;cases r1
  exact⟨i,O,w F1 H1 _ g1 rfl⟩) w⟩
def oB{Q:VK}(g:Grow J F H F1 H1)(w:∀F' H' v,Grow J F H F' H'->Rr X.K H F' H' t v->Q v H'):∀F' H' v,Grow J F1 H1 F' H'->Rr X.K H1 F' H' t v->Q v H':=λ F' H' v g' r=>w F' H' v (g.trans g') (r.late g)
def GR{o o':Qo}(xo:Tv X J FT GT fs gs)(ha:PE X l (rE X.K J FT GT a))(hb:PE X r (rE X.K J FT GT b))(hc:PE X w' (rE X.K J FT GT c))(hs:eG w'=Oi):PE X (.Compare l [o,o'] [r,w'] p) (rE X.K J FT GT (.cm2 o o' a b c)) :=
 (Cs (kt xo.units o) (kt xo.units o') ha hb hc (wI hs)).imp λ σ H Q ⟨F,ρ,ev,w⟩=>⟨F,ρ,ev,av a (λ x w F1 H1 v g1 r1=>⟨F1,ρ,ev.grow g1,av b (λ y w F2 H2 v2 g2 r2=>⟨F,H,F2,x,y,g1.trans g2,r1.grow g2,r2.late g1,gQ (λ z w v3 r3=>by
  obtain⟨k,ek,w2⟩:=iB w;subst ek;cases r3;refine⟨k,O,?_⟩;split at w2
  .rw[XT (by assumption)];exact⟨F2,ρ,(ev.grow g1).grow g2,av c (λ z w F4 H4 v4 g4 r4=>⟨F,H,F4,y,z,(g1.trans g2).trans g4,(r2.late g1).grow g4,r4.late (g1.trans g2),gQ (λ u w v r=>w F4 H4 v ((g1.trans g2).trans g4) r) w⟩) w2⟩
  .rw[XR (by assumption)];exact w2 F2 H2 _ (g1.trans g2) rfl) w⟩) w⟩) w⟩
def wJ{l r:Expr}{Tg:List Expr}(ha:PE X l (rE X.K J FT GT a))(hb:PE X (.BoolOp .And (r::Tg) p) (rE X.K J FT GT b)):PE X (.BoolOp .And (l::r::Tg) p) (rE X.K J FT GT (.and a b)) :=
 (Bu ha hb).imp λ σ H Q ⟨F,ρ,ev,w⟩=>⟨F,ρ,ev,av a (λ x w F1 H1 v g1 r1=>by
  obtain⟨k,ek,w2⟩:=iB w;subst ek;cases r1;show if k=Oi then _ else _;split at w2
  .rw[XT (by assumption)];exact⟨F1,ρ,ev.grow g1,av b (λ y w=>oB g1 w) w2⟩
  .rw[XR (by assumption)];exact w2 F1 H1 _ g1 rfl) w⟩
def wK{l r:Expr}{Tg:List Expr}(ha:PE X l (rE X.K J FT GT a))(hb:PE X (.BoolOp .Or (r::Tg) p) (rE X.K J FT GT b)):PE X (.BoolOp .Or (l::r::Tg) p) (rE X.K J FT GT (.or a b)) :=
 (Bv ha hb).imp λ σ H Q ⟨F,ρ,ev,w⟩=>⟨F,ρ,ev,av a (λ x w F1 H1 v g1 r1=>by
  obtain⟨k,ek,w2⟩:=iB w;subst ek;cases r1;show if k=Oi then _ else _;split at w2
  .rw[XT (by assumption)];exact w2 F1 H1 _ g1 rfl
  .rw[XR (by assumption)];exact⟨F1,ρ,ev.grow g1,av b (λ y w=>oB g1 w) w2⟩) w⟩
def GS(hc:PT X x (rT X.K J FT GT c))(ha:PE X y (rE X.K J FT GT a))(hb:PE X z (rE X.K J FT GT b)):PE X (.IfExp x y z p) (rE X.K J FT GT (.ite c a b)) :=
 (Bx hc ha hb).imp λ σ H Q ⟨F,ρ,ev,w⟩=>⟨F,ρ,ev,av c (λ x w=>cD (λ k w2 F1 H1 g1=>by
  split at w2
  .rw[XT (by assumption)];exact⟨F1,ρ,ev.grow g1,av a (λ y w=>oB g1 w) w2⟩
  .rw[XR (by assumption)];exact⟨F1,ρ,ev.grow g1,av b (λ y w=>oB g1 w) w2⟩) w) w⟩
def wM(ha:PE X e (rE X.K J FT GT a))(hr:PA X es (rA X.K J FT GT r))(hs:aX e=Oi):PA X (e::es) (rA X.K J FT GT (.cons a r)) :=
 (da ha hr (bj hs)).imp λ σ H Q ⟨F,ρ,ev,w⟩=>⟨F,ρ,ev,av a (λ x w F1 H1 v g1 r1=>⟨F1,ρ,ev.grow g1,bH r (λ ts w F2 H2 vs g2 r2=>w F2 H2 _ (g1.trans g2) (.cons (r1.grow g2) (Paired.mapP r2 λ _ _ z=>z.late g1))) w⟩) w⟩
def GU:PA X [] (rA X.K J FT GT .nil):=pa_nil.imp λ σ H Q ⟨F,ρ,ev,w⟩=>w F H _ (.refl ev.w) .nil
def GV(xo:Tv X J FT GT fs gs)(h:PA X es (rA X.K J FT GT l)):PE X (.Tuple es k p) (rE X.K J FT GT (.tup l)) :=
 (CB h).imp λ σ H Q ⟨F,ρ,ev,w⟩=>⟨F,ρ,ev,bH l (λ ts ⟨n,z,w⟩ F1 H1 vs g1 r1=>by
  obtain⟨F2,g2,_,r2⟩:=gz g1 r1 n
  exact⟨by rw[<- r2.length,ag];exact z,jo xo.hJ g2 r2 w⟩) w⟩
def GW(xo:Tv X J FT GT fs gs)(h:PA X es (rA X.K J FT GT l)):PE X (.List es p) (rE X.K J FT GT (.lst l)) :=
 (qm h).imp λ σ H Q ⟨F,ρ,ev,w⟩=>⟨F,ρ,ev,bH l (λ ts ⟨n,z,w⟩ F1 H1 vs g1 r1=>by
  obtain⟨F2,g2,_,r2⟩:=gz g1 r1 n
  exact⟨by rw[<- r2.length,ag];exact z,iC xo.hJ g2 r2 w⟩) w⟩
theorem GX{a lo hi:Cd}(xo:Tv X J FT GT fs gs)(ha:PE X e (rE X.K J FT GT a))(hl:PO X l (λ σ H Q=>∃F ρ,EV X.K J F H σ ρ/\wE FT GT lo ρ λ t=>oI t λ o=>∀F' H',Grow J F H F' H'->Q o H'))(hh:PO X h (λ σ H Q=>∃F ρ,EV X.K J F H σ ρ/\wE FT GT hi ρ λ t=>oI t λ o=>∀F' H',Grow J F H F' H'->Q o H')) :
  PE X (.Subscript e (.Slice l h Oj p2) p) (rE X.K J FT GT (.sl a lo hi)) :=
 (CO (Gk xo.hJ) ha hl hh).imp λ σ H Q ⟨F,ρ,ev,w⟩=>⟨F,ρ,ev,av a (λ x w F1 H1 v g1 r1=>⟨F1,ρ,ev.grow g1,av lo (λ y w=>oh (λ a w F2 H2 g2=>⟨F2,ρ,(ev.grow g1).grow g2,av hi (λ z w=>oh (λ b w F3 H3 g3=>⟨F,H,F3,x,(g1.trans g2).trans g3,(r1.grow g2).grow g3,w⟩) w) w⟩) w) w⟩) w⟩
end
section
variable {J:Hp->Prop}{FT:List Tf}{GT:List TV}{fs gs:List Str}{N:List Str}{nm:List (Str×OD)}
set_option tactic.hygienic true in
def wN{K:FG}{vs:List V}(w:Wd J F1 H1)(h:RrL K H F1 H1 ts vs):∃F2,Wd J F2 H1/\RpL K F2 H1 (ts.map TV.fz) vs:=by
 refine⟨λ b=>H1 b≠Oj,⟨w.j,λ a f=>f⟩,?_⟩;have up:∀a,F1 a->H1 a≠Oj:=w.d
 induction h with
 |nil=>rfl
 |cons r q ih=>
  refine⟨_,_,O,?_,ih⟩;rename_i t v _ _
  cases t with
  |own l=>obtain⟨a,vs,e,_,_,qa,ra⟩:=r;exact⟨a,vs,e,(.inl ⟨(λ z=>by rw[qa] at z;cases z),.of qa⟩),ra.ke (.up up)⟩
  |bor l=>obtain⟨a,vs,e,_,qa,ra⟩:=r;exact⟨a,vs,e,(.inl ⟨(λ z=>by rw[qa] at z;cases z),.of qa⟩),ra.ke (.up up)⟩
  |_=>exact Rp.ke (.up up) r
theorem GY{f:Nat}{a:Expr}{es:List Expr}(xo:Tv X J FT GT fs gs)(hf:fs[f]?=Oh x)(hg:Gl X x)(hd:(x == ("__debug__" : Str))=Ol)(ha:PA X (a::es) (rA X.K J FT GT l))(hs:aX a=Oi)(hss:es.all aX=Oi) :
  PE X (.Call (.Name x p) (a::es) [] pos) (rE X.K J FT GT (.call f l)):=by
 obtain⟨S,eS⟩:∃S,FT[f]?=Oh S:=fP (bG (aY.mp hf).1 xo.len);obtain⟨k,ps,hr,c⟩:=xo.fns f x S hf eS;refine(qF c hr hg qC ha hd (bj hs) (fQ hss)).imp λ σ H Q ⟨F,ρ,ev,w⟩=>⟨F,ρ,ev,bH l (λ ts w F1 H1 vs g1 r1=>?_) w⟩;obtain⟨P,⟨S',e',sp⟩,w⟩:=w;rw[eS] at e';cases e';rw[ef]
 cases n:ts.all TV.nb with
 |true=>
  obtain⟨F2,g2,_,r2⟩:=gz g1 r1 n;exact⟨F2,_,P,g2.w,r2,sp,λ t pt F' H' v g' r'=>(w t pt).2 F' H' v (g2.trans g') (Rr.of r')⟩
 |false=>
  obtain⟨F2,w2,r2⟩:=wN g1.w r1;refine⟨F2,_,P,w2,r2,sp,λ t pt F' H' v g' r'=>?_⟩;obtain⟨lf,w⟩:=w t pt;have gg:Grow J F1 H1 F1 H':=⟨g'.sm,g'.dm,λ _ h=>h,λ _ h=>.inl h,g'.w.j,λ b f=>g'.dm b (g1.w.d b f)⟩;exact w F1 H' v (g1.trans gg) (Rr.of ((lf n).rp r'))
theorem jv{a:Expr}{es:List Expr}{id:String}(hc:bZ X (.builtin id) (rL X J (UJ f)))(hg:Gl X x)(hm:X.mg x=Oj)(hv:Py x=Oh (.builtin id))(hn:x ≠ "__name__")(hd:(x == ("__debug__" : Str))=Ol)(ha:PA X (a::es) (rA X.K J FT GT l))(hs:aX a=Oi)(hss:es.all aX=Oi) :
  PE X (.Call (.Name x p) (a::es) [] pos) (rE X.K J FT GT (.bi f l)) :=
 (CG hc hg hm hv ha hn hd (bj hs) (fQ hss)).imp λ σ H Q ⟨F,ρ,ev,w⟩=>⟨F,ρ,ev,bH l (λ ts w F1 H1 vs g1 r1=>⟨F,H,F1,ts,g1,r1,w⟩) w⟩
theorem rN{a:Expr}{es:List Expr}{id:String}(hc:bZ X (.type id) (rL X J (UJ f)))(hg:Gl X x)(hm:X.mg x=Oj)(hv:Py x=Oh (.type id))(hn:x ≠ "__name__")(hd:(x == ("__debug__" : Str))=Ol)(ha:PA X (a::es) (rA X.K J FT GT l))(hs:aX a=Oi)(hss:es.all aX=Oi) :
  PE X (.Call (.Name x p) (a::es) [] pos) (rE X.K J FT GT (.bi f l)) :=
 (qq hc hg hm hv ha hn hd (bj hs) (fQ hss)).imp λ σ H Q ⟨F,ρ,ev,w⟩=>⟨F,ρ,ev,bH l (λ ts w F1 H1 vs g1 r1=>⟨F,H,F1,ts,g1,r1,w⟩) w⟩
theorem GZ{a:Expr}{es:List Expr}(xo:Tv X J FT GT fs gs)(hx:Xe f=Oh x)(hg:Gl X x)(ha:PA X (a::es) (rA X.K J FT GT l))(hs:aX a=Oi)(hss:es.all aX=Oi) :
  PE X (.Call (.Name x p) (a::es) [] pos) (rE X.K J FT GT (.bi f l)):=by
 have bm:∀y,y∈BN->X.mg y=Oj:=xo.blt
 cases f with
 |len=>cases hx;exact jv (iD xo.hJ xo.calm .len on) hg (bm _ ca) (by decide +kernel) ca ca ha hs hss
 |tuple=>cases hx;exact rN (iD xo.hJ xo.calm .tuple on) hg (bm _ ca) (by decide +kernel) ca ca ha hs hss
 |list=>cases hx;exact rN (iD xo.hJ xo.calm .list on) hg (bm _ ca) (by decide +kernel) ca ca ha hs hss
 |sum=>cases hx;exact jv (iD xo.hJ xo.calm .sum on) hg (bm _ ca) (by decide +kernel) ca ca ha hs hss
 |max=>cases hx;exact jv (Go xo.calm) hg (bm _ ca) (by decide +kernel) ca ca ha hs hss
 |min=>cases hx;exact jv (Gp xo.calm) hg (bm _ ca) (by decide +kernel) ca ca ha hs hss
 |abs=>cases hx;exact jv (iD xo.hJ xo.calm .abs on) hg (bm _ ca) (by decide +kernel) ca ca ha hs hss
 |int=>cases hx;exact rN (iD xo.hJ xo.calm .int on) hg (bm _ ca) (by decide +kernel) ca ca ha hs hss
 |sorted=>cases hx;exact jv (iD xo.hJ xo.calm .sorted on) hg (bm _ ca) (by decide +kernel) ca ca ha hs hss
 |any=>cases hx;exact jv (iD xo.hJ xo.calm .any on) hg (bm _ ca) (by decide +kernel) ca ca ha hs hss
 |_=>cases hx
theorem Ha{p pos kp p2:Pos}(xo:Tv X J FT GT fs gs)(hg:Gl X "max")(hg2:Gl X "len")(hs:aX y=Oi)(hs2:aX z=Oi)(hy:PE X y (rE X.K J FT GT a))(hz:PE X z (rE X.K J FT GT b)) :
  PE X (.Call (.Name "max" p) [y,z] [⟨Oh (OI "key"),.Name "len" p2,kp⟩] pos) (rE X.K J FT GT (.mxl a b)):=by
 refine(Gm xo.calm hg (xo.blt _ ca) hg2 (xo.blt _ ca) hy hz (bj hs) (bj hs2)).imp λ σ H Q ⟨F,ρ,ev,w⟩=>⟨F,ρ,ev,av a (λ t w F1 H1 v g1 r1=>⟨F1,ρ,ev.grow g1,av b (λ u w F2 H2 v2 g2 r2=>?_) w⟩) w⟩;have w:UJ .maxlen [t,u] λ t=>∀F' H' v,Grow J F H F' H'->Rr X.K H F' H' t v->Q v H':=w
 cases t with
 |tup l=>
  cases u with
  |tup m=>
   obtain⟨A,xs,rfl,q1,s1⟩:=r1.grow g2;obtain⟨B,ys,rfl,q2,s2⟩:=r2;refine⟨A,B,xs,ys,O,O,q1,q2,λ z=>?_,λ z=>?_⟩
   .have w:∀F' H' v,Grow J F H F' H'->Rr X.K H F' H' (.tup (if l.length<m.length then m else l)) v->Q v H':=w;rw[XR (by rw[s1.length,s2.length];lia)] at w;exact w F2 H2 _ (g1.trans g2) ⟨A,xs,O,q1,s1⟩
   .have w:∀F' H' v,Grow J F H F' H'->Rr X.K H F' H' (.tup (if l.length<m.length then m else l)) v->Q v H':=w;rw[XT (by rw[s1.length,s2.length];lia)] at w;exact w F2 H2 _ (g1.trans g2) ⟨B,ys,O,q2,s2⟩
  |_=>exact w.elim
 |_=>cases u<;>exact w.elim
theorem Hb{p pos p2 pos2:Pos}(xo:Tv X J FT GT fs gs)(hg:Gl X "tuple")(hg2:Gl X "reversed")(hs:aX y=Oi)(hy:PE X y (rE X.K J FT GT a)) :
  PE X (.Call (.Name "tuple" p) [.Call (.Name "reversed" p2) [y] [] pos2] [] pos) (rE X.K J FT GT (.trev k a)):=by
 cases k with
 |false=>
  refine(DS xo.calm hg hg2 (xo.blt _ ca) (xo.blt _ ca) hy (bj hs)).imp λ σ H Q ⟨F,ρ,ev,w⟩=>⟨F,ρ,ev,av a (λ t w F1 H1 v g1 r1=>?_) w⟩;obtain⟨l,e,w⟩:=jn (show l1 t λ l=>∀F' H' v,Grow J F H F' H'->Rr X.K H F' H' (.tup l.reverse) v->Q v H' from w);obtain⟨b,vs,rfl,r,q⟩:=r1.lq e;exact⟨b,vs,O,q,jo xo.hJ g1 r.reverse w⟩
 |true=>
  refine(EK xo.calm hg hg2 (xo.blt _ ca) (xo.blt _ ca) hy (bj hs)).imp λ σ H Q ⟨F,ρ,ev,w⟩=>⟨F,ρ,ev,av a (λ t w F1 H1 v g1 r1=>?_) w⟩;have w:k1 Oi t λ l=>∀F' H' v,Grow J F H F' H'->Rr X.K H F' H' (.tup l.reverse) v->Q v H':=w
  cases t with
  |tup l=>obtain⟨b,vs,rfl,q,r⟩:=r1;exact⟨b,vs,rfl,q,jo xo.hJ g1 r.reverse w⟩
  |_=>exact w.elim
theorem Hc{k:Bool}{p pos p2 pos2:Pos}(hk:(!k)=Oi)(xo:Tv X J FT GT fs gs)(hg:Gl X (OI (if k=Oi then "tuple" else "list")))(hg2:Gl X "range")(hs:aX y=Oi)(hy:PE X y (rE X.K J FT GT a)) :
  PE X (.Call (.Name (OI (if k=Oi then "tuple" else "list")) p) [.Call (.Name "range" p2) [y] [] pos2] [] pos) (rE X.K J FT GT (.lrng k a)):=by
 have hr:=qq (p:=p2) (pos:=pos2) EW hg2 (xo.blt _ ca) (by decide +kernel) (da hy pa_nil (bj hs)) ca ca (bj hs) rfl;have e:∀j:Int,(TD j.toNat).map XV=(OB j.toNat).map λ i=>XV (i:Nat):=λ j=>by unfold TD;rw[bJ];rfl
 cases k with
 |false=>
  refine(qq (EX xo.calm) hg (xo.blt _ ca) (by decide +kernel) (da hr pa_nil rfl) ca ca rfl rfl).imp λ σ H Q ⟨F,ρ,ev,w⟩=>⟨F,ρ,ev,av a (λ t w F1 H1 v g1 r1=>?_) w⟩;obtain⟨j,rfl,⟨c0,c1⟩,w⟩:=gx (show i1 t λ j=>(0<=j/\j<=1000)/\∀F' H' v,Grow J F H F' H'->Rr X.K H F' H' (.own ((OB j.toNat).map λ i=>.int (i:Nat))) v->Q v H' from w);cases r1;refine⟨j,O,λ r hr=>?_⟩;have g2:Grow J F1 H1 F1 (Ti H1 r (.rng 0 j)):=.new xo.hJ g1.w _ hr;refine⟨r,j.toNat,O,by rw[bU];congr 2;exact(iH c0).symm,Z,λ l hl=>?_⟩;rw[<- e] at w;exact iC xo.hJ (g1.trans g2) (RpL.ofInts _) w l hl
 |true=>exact Om hk
end
section
variable {J:Hp->Prop}{FT:List Tf}{GT:List TV}{fs gs:List Str}{N:List Str}{nm:List (Str×OD)}{tg:Expr}
def Hd(hy:PE X y (rE X.K J FT GT a)):PI X tg y (rW X.K J FT GT .seq (.cons a .nil)) :=
 (Fk hy).imp λ σ H R ⟨F,ρ,ev,w⟩=>⟨F,ρ,ev,av a (λ t w F1 H1 v g r=>by
  obtain⟨b,l,e,w⟩:=kr (show s1 t λ its=>∀F' H' xs Jt,Grow J F H F' H'->RrL X.K H F' H' [t] xs->TU X.K J Jt its [t] xs->R Jt H' from w);obtain⟨p,vs,rfl,_,q⟩:=r.sq e
  rcases q with ⟨rfl,q⟩|⟨rfl,q⟩
  .exact .inr ⟨p,O,⟨vs,q⟩,w F1 H1 _ _ g (.cons r .nil) (Gr e)⟩
  .exact .inl ⟨p,O,⟨vs,q⟩,w F1 H1 _ _ g (.cons r .nil) (Gq e)⟩) w⟩
def He(n:Nat):((OB n).map λ k=>XV (0+(k:Nat)))=(OB n).map λ k=>XV (k:Nat):=on
def Hf{p pos:Pos}(xo:Tv X J FT GT fs gs)(hg:Gl X "range")(hs:aX e=Oi)(he:PE X e (rE X.K J FT GT a)):PI X tg (.Call (.Name "range" p) [e] [] pos) (rW X.K J FT GT .rng (.cons a .nil)) :=
 (BM hg (xo.blt _ ca) (da he pa_nil (bj hs)) (bj hs)).imp λ σ H R ⟨F,ρ,ev,w⟩=>⟨F,ρ,ev,av a (λ t w F1 H1 v g r=>by
  obtain⟨j,rfl,c,w⟩:=gx (show i1 t λ j=>(-(2 ^ 62)<=j/\j<2 ^ 62)/\∀F' H' xs Jt,Grow J F H F' H'->RrL X.K H F' H' [t] xs->TU X.K J Jt ((OB j.toNat).map λ i=>.int (i:Nat)) [t] xs->R Jt H' from w);cases r
  exact⟨j,O,c.1,c.2,w F1 H1 _ _ g (.cons rfl .nil) (by rw[<- He];exact Gs 0 _)⟩) w⟩
def Hg{K:FG}{t u z:TV}(h:RrL K H F1 H1 [t,u,z] xs):∃x y w,xs=[x,y,w]/\Rr K H F1 H1 t x/\Rr K H F1 H1 u y/\Rr K H F1 H1 z w:=by
 cases h with
 |cons r q=>obtain⟨y,w,rfl,r',r''⟩:=rk q;exact⟨_,y,w,rfl,r,r',r''⟩
def Hh{p pos:Pos}(xo:Tv X J FT GT fs gs)(hg:Gl X "range")(hs:aX e=Oi)(hs2:aX e2=Oi)(hs3:aX e3=Oi)(hp:PA X [e,e2,e3] (rA X.K J FT GT l)):PI X tg (.Call (.Name "range" p) [e,e2,e3] [] pos) (rW X.K J FT GT .rng3 l) :=
 (Ea hg (xo.blt _ ca) hp (by rw[bj hs,bj hs2,bj hs3];rfl) (by rw[bj hs2,bj hs3];rfl)).imp λ σ H R ⟨F,ρ,ev,w⟩=>⟨F,ρ,ev,bH l (λ ts w F1 H1 vs g r=>by
  rcases ts with _|⟨t,_|⟨u,_|⟨z,_|⟨_,ts⟩⟩⟩⟩
  .exact w.elim
  .exact w.elim
  .exact w.elim
  .obtain⟨i,j,rfl,rfl,w⟩:=dU w;obtain⟨c,rfl,cc,w⟩:=gx w;have w:=w F1 H1 vs _ g r (Gu i c _);obtain⟨x,y,v,rfl,r1,r2,r3⟩:=Hg r;cases r1;cases r2;cases r3;exact⟨i,j,c,O,cc,w⟩
  .exact w.elim) w⟩
def oC(h:k1 b t P):∃l,t.items=Oh (b,l)/\P l:=by
 cases b with
 |true=>cases t<;>first|exact⟨_,rfl,h⟩|exact h.elim
 |false=>exact jn h
def Rr.sb{K:FG}{b:Bool}{l:List TV}(h:Rr K H F' H' t v)(e:t.items=Oh (b,l)):∃a vs,v=.ref a/\VD K b H' a vs:=by
 obtain⟨a,vs,rfl,q,_⟩:=h.vw.b e;exact⟨a,vs,O,q⟩
def Hi{p pos:Pos}(xo:Tv X J FT GT fs gs)(hg:Gl X "enumerate")(hs:aX e=Oi)(he:PE X e (rE X.K J FT GT a)):PI X (.Tuple es x1 pp) (.Call (.Name "enumerate" p) [e] [] pos) (rW X.K J FT GT (.enum c) (.cons a .nil)):=by
 cases c with
 |true=>
  exact(Es hg (xo.blt _ ca) he (bj hs)).imp λ σ H R ⟨F,ρ,ev,w⟩=>⟨F,ρ,ev,av a (λ t w F1 H1 v g r=>by
   obtain⟨l,e1,w⟩:=oC (show k1 Oi t λ l=>∀F' H' xs Jt,Grow J F H F' H'->RrL X.K H F' H' [t] xs->TU X.K J Jt (l.mapIdx λ i x=>.tup [.int (i:Nat),x]) [t] xs->R Jt H' from w);obtain⟨A,vs,rfl,q⟩:=r.sb e1
   exact⟨A,vs,O,q,w F1 H1 _ _ g (.cons r .nil) (Gy xo.hJ e1)⟩) w⟩
 |false=>
  exact(EN hg (xo.blt _ ca) he (bj hs)).imp λ σ H R ⟨F,ρ,ev,w⟩=>⟨F,ρ,ev,av a (λ t w F1 H1 v g r=>by
   obtain⟨l,e1,w⟩:=oC (show k1 Ol t λ l=>∀F' H' xs Jt,Grow J F H F' H'->RrL X.K H F' H' [t] xs->TU X.K J Jt (l.mapIdx λ i x=>.tup [.int (i:Nat),x]) [t] xs->R Jt H' from w);obtain⟨A,vs,rfl,q⟩:=r.sb e1
   exact⟨A,vs,O,q,w F1 H1 _ _ g (.cons r .nil) (Gz xo.hJ e1)⟩) w⟩
def Hj{p pos:Pos}(xo:Tv X J FT GT fs gs)(hg:Gl X "reversed")(hs:aX e=Oi)(he:PE X e (rE X.K J FT GT a)):PI X tg (.Call (.Name "reversed" p) [e] [] pos) (rW X.K J FT GT (.rev Oi) (.cons a .nil)):=by
 exact(DJ hg (xo.blt _ ca) he (bj hs)).imp λ σ H R ⟨F,ρ,ev,w⟩=>⟨F,ρ,ev,av a (λ t w F1 H1 v g r=>by
   obtain⟨l,e1,w⟩:=oC (show k1 Oi t λ l=>∀F' H' xs Jt,Grow J F H F' H'->RrL X.K H F' H' [t] xs->TU X.K J Jt l.reverse [t] xs->R Jt H' from w);obtain⟨A,vs,rfl,q,rl⟩:=r.vw.t e1
   exact⟨A,vs,O,q,w F1 H1 _ _ g (.cons r .nil) (Gw e1 rl.length.symm)⟩) w⟩
noncomputable def UL(own:List Str)(js:List Nat)(ρ:En):En:=Os own.length Oj++js.map λ j=>(ρ[j]?).join
def EV.comp{K:FG}{own:List Str}(e:EV K J F H σ ρ):EV K J F H (dw own.length js σ) (UL own js ρ) :=
 ⟨e.w,λ i t h=>by
  unfold UL at h;unfold dw;by_cases hi:i<own.length
  .rw[cN (by simpa using hi),fI] at h;split at h<;>cases h
  .rw[cM (by simpa using hi),dC,bh] at h;rw[cM (by simpa using hi),dC,bh]
   cases ej:js[i-own.length]? with
   |none=>rw[ej] at h;cases h
   |some j=>
    rw[ej] at h;have h:(ρ[j]?).join=Oh t:=bv h
    have h2:ρ[j]?=Oh (Oh t):=by
     cases q:ρ[j]? with
     |none=>rw[q] at h;cases h
     |some o=>rw[q] at h;cases o<;>cases h;rfl
    obtain⟨v,e1,r⟩:=e.sl j t h2
    exact⟨v,by rw[QF,e1];rfl,r⟩⟩
def oD{own:List Str}{i:Nat}(h:i<own.length):∀u,(UL own js ρ)[i]?≠Oh (Oh u):=λ u z=>by
 unfold UL at z;rw[cN (by simpa using h),fI] at z;split at z<;>cases z
theorem oE{K:QB}{own:List Str}{js tgs:List Nat}{Q:VK}{tc:TT}{te:TE}
  (hJ:JS J) (g1:Grow J F H F1 H1) (rx:RrL K H F1 H1 ts xs) (ok:TU K J Jt its ts xs) (ev:EV K J F H σ ρ) (lt:∀i∈tgs,i<own.length) (hn:its.length<Oq) (b:TV->(List TV->Prop)->Prop)
  (hm:∀t K K',(∀y,K y->K' y)->b t K->b t K') (w:UF b its λ ys=>∀F' H' v,Grow J F H F' H'->Rr K H F' H' (.own ys) v->Q v H')
  (st:∀t P x F' H' σ',b t P->EV K J F' H' σ' (UL own js ρ)->σ'.length=(dw own.length js σ).length->Rp K F' H' t x ->
   ∀R:List V->St->Hp->Prop,(∀ys vs σ2 F2 H2,P ys->ys.length<=1->Grow J F' H' F2 H2->RpL K F2 H2 ys vs->EV K J F2 H2 σ2 (UL own js ρ)->σ2.length=σ'.length->R vs σ2 H2) ->
    Uw K tgs x σ' H' λ σ3 H3=>tc σ3 H3 λ q H4=>if q=Oi then te σ3 H4 λ v H5=>R [v] σ3 H5 else R [] σ3 H4) :
  ∃W:Nat->Nat->List V->St->Hp->Prop,(∃m,W 0 m [] (dw own.length js σ) H1)/\∀i m ys σ' H',W i m ys σ' H' ->
   (Jt.stop i H'/\∀p,H' p=Oj->Q (.ref p) (Ti H' p (.lst ys))) \/
   (Jt.go i H'/\ys.length < Oq/\∃N:List V->St->Hp->Prop,(∀zs σ2 H2,N zs σ2 H2->∃m',m' < m/\W (i+1) m' zs σ2 H2) /\
    ∀x H2,Jt.yld i H' x H2->Uw K tgs x σ' H2 λ σ3 H3=>tc σ3 H3 λ q H4=>if q=Oi then te σ3 H4 λ v H5=>N (ys++[v]) σ3 H5 else N ys σ3 H4):=by
 refine⟨λ i m ys σ' H'=>i≤its.length/\m=its.length - i/\∃F' zs,Grow J F1 H1 F' H'/\EV K J F' H' σ' (UL own js ρ)/\σ'.length=(dw own.length js σ).length/\RpL K F' H' zs ys/\zs.length≤i/\UF b (its.drop i) λ ws=>∀F' H' v,Grow J F H F' H'->Rr K H F' H' (.own (zs++ws)) v->Q v H',
  ⟨_,bP _,rfl,F1,[],.refl g1.w,(ev.grow g1).comp,rfl,rfl,bP _,w⟩,?_⟩
 rintro i m ys σ' H' ⟨hi,rfl,F',zs,g',ev',sl,rz,zl,w'⟩;have vw:Pv (Vw K F' H') ts xs:=Paired.mapP (rx.grow g') λ _ _ r=>r.vw;by_cases c:i<its.length
 .refine .inr ⟨ok.go F' H' i g'.w vw c,by rw[← rz.length];lia,λ zs' σ2 H2=>∃F2 ws,Grow J F1 H1 F2 H2/\EV K J F2 H2 σ2 (UL own js ρ)/\σ2.length=(dw own.length js σ).length/\RpL K F2 H2 ws zs'/\ws.length≤i+1/\UF b (its.drop (i+1)) λ us=>∀F' H' v,Grow J F H F' H'->Rr K H F' H' (.own (ws++us)) v->Q v H',
   λ zs' σ2 H2 ⟨F2,ws,q⟩=>⟨_,Z,c,rfl,F2,ws,q⟩,λ x H2 y=>?_⟩
  obtain⟨t,et,gy,rt⟩:=ok.yld F' H' i x H2 g'.w vw c y
  have ed:its.drop i=t::its.drop (i+1):=by
   rw[rO c]
   congr 1
   rw[bc c] at et;exact bv et
  rw[ed] at w'
  have z:=st t _ x F' H2 σ' w' (ev'.grow gy) sl rt (λ vs σ2 H3=>∃F2 ws,Grow J F1 H1 F2 H3/\EV K J F2 H3 σ2 (UL own js ρ)/\σ2.length=(dw own.length js σ).length/\RpL K F2 H3 ws (ys++vs)/\ws.length<=i+1/\UF b (its.drop (i+1)) λ us=>∀F' H' v,Grow J F H F' H'->Rr K H F' H' (.own (ws++us)) v->Q v H')
   (λ zs2 vs σ2 F2 H3 q l1 g2 r2 e2 s2=>⟨F2,zs++zs2,(g'.trans gy).trans g2,e2,s2.trans sl,(rz.ke (gy.trans g2).ke).append r2,by rw[aF];lia,by
    exact oi hm (λ us q=>by rw[im];exact q) q⟩)
  simp only[ef] at z;exact z
 .have e:i=its.length:=by lia
  subst e;rw[rP] at w';have w':∀F' H' v,Grow J F H F' H'->Rr K H F' H' (.own (zs++[])) v->Q v H':=w';rw[ef] at w';exact .inl ⟨ok.stop F' H' g'.w vw,iC hJ (g1.trans g') rz w'⟩
end
section
variable {J:Hp->Prop}{FT:List Tf}{GT:List TV}{fs gs:List Str}{N:List Str}{nm:List (Str×OD)}
def kC{cl:LA}(xo:Tv X J FT GT fs gs):Tv (bz X N' sc cl C ex s H) J FT GT fs gs:=⟨xo.calm,xo.units,xo.hJ,xo.fns,xo.glb,xo.dic,xo.blt,xo.len,xo.hof⟩
theorem Hk{t iter elt:Expr}(xo:Tv X J FT GT fs gs)(xs:XS X N nm)(hS:Vt N nm sc own fv js=Oi)(hi:PI X t iter (rW X.K J FT GT k it))(hT:Vn Ol (own++fv) (cE nm sc.names) tgs t=Oi)(hl:tgs.all (λ i=>decide (i<own.length))=Oi)(hns:eG iter=Oi)
  (he:∀Y:Cx,Tv Y J FT GT fs gs->XS Y (own++fv) (cE nm sc.names)->PE Y elt (rE Y.K J FT GT e)):PE X (.ListComp elt [⟨t,iter,[],0⟩] sc pos) (rE X.K J FT GT (.comp own fv js tgs k it e)):=by
 intro Te s σ H Q I h;obtain⟨cl,S⟩:=kB I.ok xs hS;have yx:∀(C:On) (ex:List On) (s:Oo) (H:Hp),XS (bz X (own++fv) sc cl C ex s H) (own++fv) (cE nm sc.names):=λ C ex s H=>⟨rfl,S.rel⟩;have lt:∀i∈tgs,i<own.length:=λ i hi=>aC (gq.mp hl i hi);refine vg (g:=Uw X.K tgs) (te:=rE X.K J FT GT e) xo.calm hi S.clos S.cell S.kind S.names S.sub S.has S.len S.cap (λ C ex s H=>(iG (X:=bz X (own++fv) sc cl C ex s H) S.nd xo.calm (yx C ex s H) (λ z=>by cases z) hT).1) (λ C ex s H=>he _ (kC xo) (yx C ex s H)) (λ x=>ju hns) Te s σ H Q I ?_;obtain⟨F,ρ,ev,w⟩:=h;refine⟨F,ρ,ev,bH it (λ ts w=>gv (λ its w F1 H1 xs Jt g1 rx ok=>?_) w) w⟩;obtain⟨hn,w⟩:=w
 have z:=oE (tc:=λ σ H Q=>Q Oi H) (te:=rE X.K J FT GT e) xo.hJ g1 rx ok ev lt hn (λ t K'=>Ud (UL own js ρ) tgs t λ ρ'=>wE FT GT e ρ' λ y=>(y.nb=Oi/\K' [y.fz])) (λ t K K' h q=>fO (λ ρ' q=>av e (λ y q=>⟨q.1,h _ q.2⟩) q) q) w
  (λ t P x F' H' σ' b ev' sl rt R fin=>oA b ev' rt (λ i hi=>by rw[sl];unfold dw;simp;have:=lt i hi;lia) λ σ2 ρ2 p ev2 sl2 keep=>by
   show if Oi=Oi then _ else _;rw[XT rfl];refine⟨F',ρ2,ev2,av e (λ y ⟨nb,p⟩ F2 H2 v g r=>?_) p⟩;obtain⟨F3,g3,_,_,rp⟩:=r.frz g nb
   exact fin [y.fz] [v] σ2 F3 H2 p (ao _) g3 ⟨v,[],O,rp,O⟩ ((keep _ ev' λ i hi u=>oD (lt i hi) u).grow g3) sl2)
 simpa only[eO] using z
theorem Hl{t iter elt cnd:Expr}(xo:Tv X J FT GT fs gs)(xs:XS X N nm)(hS:Vt N nm sc own fv js=Oi)(hi:PI X t iter (rW X.K J FT GT k it))(hT:Vn Ol (own++fv) (cE nm sc.names) tgs t=Oi)(hl:tgs.all (λ i=>decide (i<own.length))=Oi)(hns:eG iter=Oi)
  (hc:∀Y:Cx,Tv Y J FT GT fs gs->XS Y (own++fv) (cE nm sc.names)->PT Y cnd (rT Y.K J FT GT c)) (he:∀Y:Cx,Tv Y J FT GT fs gs->XS Y (own++fv) (cE nm sc.names)->PE Y elt (rE Y.K J FT GT e)):PE X (.ListComp elt [⟨t,iter,[cnd],0⟩] sc pos) (rE X.K J FT GT (.compI own fv js tgs k it c e)):=by
 intro Te s σ H Q I h;obtain⟨cl,S⟩:=kB I.ok xs hS;have yx:∀(C:On) (ex:List On) (s:Oo) (H:Hp),XS (bz X (own++fv) sc cl C ex s H) (own++fv) (cE nm sc.names):=λ C ex s H=>⟨rfl,S.rel⟩;have lt:∀i∈tgs,i<own.length:=λ i hi=>aC (gq.mp hl i hi);refine Ej (g:=Uw X.K tgs) (tc:=rT X.K J FT GT c) (te:=rE X.K J FT GT e) xo.calm hi S.clos S.cell S.kind S.names S.sub S.has S.len S.cap (λ C ex s H=>(iG (X:=bz X (own++fv) sc cl C ex s H) S.nd xo.calm (yx C ex s H) (λ z=>by cases z) hT).1) (λ C ex s H=>he _ (kC xo) (yx C ex s H)) (λ C ex s H=>hc _ (kC xo) (yx C ex s H)) (λ x=>ju hns) Te s σ H Q I ?_;obtain⟨F,ρ,ev,w⟩:=h;refine⟨F,ρ,ev,bH it (λ ts w=>gv (λ its w F1 H1 xs Jt g1 rx ok=>?_) w) w⟩;obtain⟨hn,w⟩:=w
 exact oE (tc:=rT X.K J FT GT c) (te:=rE X.K J FT GT e) xo.hJ g1 rx ok ev lt hn (λ t K'=>Ud (UL own js ρ) tgs t λ ρ'=>wE FT GT c ρ' λ x=>b1 x λ q=>if q=Oi then wE FT GT e ρ' λ y=>(y.nb=Oi/\K' [y.fz]) else K' []) (λ t K K' h q=>fO (λ ρ' q=>av c (λ x q=>cD (λ z q=>by
   split at q
   .rw[XT (by assumption)];exact av e (λ y q=>⟨q.1,h _ q.2⟩) q
   .rw[XR (by assumption)];exact h _ q) q) q) q) w
  (λ t P x F' H' σ' b ev' sl rt R fin=>oA b ev' rt (λ i hi=>by rw[sl];unfold dw;simp;have:=lt i hi;lia) λ σ2 ρ2 p ev2 sl2 keep=>by
   have kp:=keep _ ev' λ i hi u=>oD (own:=own) (js:=js) (ρ:=ρ) (lt i hi) u;refine⟨F',ρ2,ev2,av c (λ x w=>cD (λ q w2 F2 H2 g2=>?_) w) p⟩;split at w2
   .rw[XT (by assumption)];refine⟨F2,ρ2,ev2.grow g2,av e (λ y ⟨nb,p⟩ F3 H3 v g r=>?_) w2⟩;obtain⟨F4,g4,_,_,rp⟩:=r.frz g nb;exact fin [y.fz] [v] σ2 F4 H3 p (ao _) (g2.trans g4) ⟨v,[],O,rp,O⟩ ((kp.grow g2).grow g4) sl2
   .rw[XR (by assumption)]
    exact fin [] [] σ2 F2 H2 w2 (bP _) g2 rfl (kp.grow g2) sl2)
def Hn{es:List Expr}(h:es.all aX=Oi):(Pk pos (OE es env)).all (λ x=>!x.1)=Oi:=by
 unfold Pk;rw[SM];have:=rD (env:=env) h;rw[List.all_eq_not_any_not];simpa using this
theorem kD{e:Expr}{es:List Expr}(h:(e::es).all aX=Oi)(hl:(e::es).length<20) :
  ((Pk cp (OE (e::es) env)).all (λ x=>!x.1)&&(SR cp (Rm [] env)).all (λ x=>x.1.isSome)&&decide ((e::es).length+([]:List Qf).length+(if ([]:List Qf).isEmpty then 0 else 1)<30))=Oi:=by
 rw[Hn h,bp,bp];refine⟨⟨O,O⟩,?_⟩;simp only[List.isEmpty_nil,eO,RE];exact cn Z
theorem Ho{i f:Nat}{a:Expr}{es:List Expr}(xo:Tv X J FT GT fs gs)(xs:XS X N nm)(hf:f=fs.length)(h1:N[i]?=Oh x)(h2:vs nm x=Oi)(h3:Ui x=Oi)(ha:PA X (a::es) (rA X.K J FT GT l))(hs:aX a=Oi)(hss:es.all aX=Oi) :
  PE X (.Call (.Name x p) (a::es) [] pos) (rE X.K J FT GT (.ap i f l)):=by
 subst hf;intro Te s σ H Q I ⟨F,ρ,ev,hS,w⟩;obtain⟨S,hS⟩:=iY.mp hS;obtain⟨d1,d2,_⟩:=dW h3;obtain⟨fa,hs',w⟩:=qY (show Vm ρ[i]? _ from w);obtain⟨v,e,rfl,fv⟩:=ev.sl i _ hs';obtain⟨k,hr,hc⟩:=(xo.hof S hS).ap;refine Fq (k:=k) (i:=i) hr (by rw[xs.N];exact h1) (gR xs h2) ha d1 d2 (bj hs) (fQ hss) Te s σ H Q I ⟨fa,e,fv,F,ρ,ev,bH l (λ ts w F1 H1 us g1 r1=>?_) w⟩;obtain⟨hn,P,⟨S',e',sp⟩,w⟩:=w;rw[hS] at e';cases e';obtain⟨F2,g2,_,r2⟩:=gz g1 r1 hn;have fv1:FnV H1 fa:=let ⟨φ,q,kf⟩:=fv;⟨φ,g1.sm _ _ (λ ps z=>by cases z) q,kf⟩;exact⟨fv1,hc fa _ us P F2 H1 Q g2.w fv1 r2 sp λ t pt F' H' v g' r'=>w t pt F' H' v (g2.trans g') (Rr.of r')⟩
theorem Hq{i f:Nat}(xo:Tv X J FT GT fs gs)(xs:XS X N nm)(hf:f=fs.length)(hg:Gl X x)(hd:(x == ("__debug__" : Str))=Ol)(h1:N[i]?=Oh z)(h2:vs nm z=Oi)(h3:Ui z=Oi)(hc:PE X u (rE X.K J FT GT c))(hs:aX u=Oi) :
  PE X (.Call (.Name x p) [u,.Name z q] [] pos) (rE X.K J FT GT (.cf i f x c)):=by
 subst hf;intro Te s σ H Q I ⟨F,ρ,ev,⟨S,eS,sx⟩,w⟩;obtain⟨d1,d2,_⟩:=dW h3;obtain⟨k,ps,hr,cc⟩:=(xo.hof S eS).cf x sx;obtain⟨fa,hs',w⟩:=qY (show Vm ρ[i]? _ from w);refine qF cc hr hg qC (da hc (da (gG (pos:=q) (by rw[xs.N];exact h1) (gR xs h2) d1 d2) pa_nil rfl) (bj hs)) hd (bj hs) rfl Te s σ H Q I ?_;refine⟨F,ρ,ev,av c (λ t w F1 H1 v g r=>?_) w⟩;obtain⟨v2,e2,rfl,fv⟩:=(ev.grow g).sl i _ hs';obtain⟨hn,P,⟨S',e',sp⟩,w⟩:=w;rw[eS] at e';cases e';obtain⟨F2,g2,_,_,r2⟩:=r.frz g hn;show cj i σ H1 _;unfold cj;rw[e2];exact⟨F2,fa,[t.fz],[v],P,O,g2.w,fv,⟨v,[],O,r2,O⟩,sp,λ t pt F' H' v' g' r'=>w t pt F' H' v' (g2.trans g') (Rr.of r')⟩
def Hr(h:PE X e (rE X.K J FT GT c))(he:∀whole,isTrue e X.env whole=(do let v <- whole;Qz e.pos;Pz [v] (truthy v))):PT X e (rT X.K J FT GT c) :=
 (Bi h he).imp λ σ H Q ⟨F,ρ,ev,w⟩=>⟨F,ρ,ev,av c (λ t w F1 H1 v g r=>by
  obtain⟨b,e,w2⟩:=iB w;subst e;cases r
  exact w2 F1 H1 g) w⟩
def Hs{o:Qo}(xo:Tv X J FT GT fs gs)(ha:PE X l (rE X.K J FT GT a))(hb:PE X r (rE X.K J FT GT b))(hs:eG r=Oi):PT X (.Compare l [o] [r] p) (rT X.K J FT GT (.cmp o a b)) :=
 (Cq (kt xo.units o) ha hb (rJ hs)).imp λ σ H Q ⟨F,ρ,ev,w⟩=>⟨F,ρ,ev,av a (λ x w F1 H1 v g1 r1=>⟨F1,ρ,ev.grow g1,av b (λ y w F2 H2 v2 g2 r2=>⟨F,H,F2,x,y,g1.trans g2,r1.grow g2,r2.late g1,gQ (λ z w v r=>by
  obtain⟨b,e,w2⟩:=iB w;subst e;cases r
  exact w2 F2 H2 (g1.trans g2)) w⟩) w⟩) w⟩
def Ht{o o':Qo}(xo:Tv X J FT GT fs gs)(ha:PE X l (rE X.K J FT GT a))(hb:PE X r (rE X.K J FT GT b))(hc:PE X w' (rE X.K J FT GT c))(hs:eG w'=Oi):PT X (.Compare l [o,o'] [r,w'] p) (rT X.K J FT GT (.cm2 o o' a b c)) :=
 (Cu (kt xo.units o) (kt xo.units o') ha hb hc (wI hs)).imp λ σ H Q ⟨F,ρ,ev,w⟩=>⟨F,ρ,ev,av a (λ x w F1 H1 v g1 r1=>⟨F1,ρ,ev.grow g1,av b (λ y w F2 H2 v2 g2 r2=>⟨F,H,F2,x,y,g1.trans g2,r1.grow g2,r2.late g1,gQ (λ z w v3 r3=>by
  obtain⟨k,ek,w2⟩:=iB w;subst ek;cases r3;refine⟨k,O,?_⟩;split at w2
  .rw[XT (by assumption)]
   exact⟨F2,ρ,(ev.grow g1).grow g2,av c (λ z w F4 H4 v4 g4 r4=>⟨F,H,F4,y,z,(g1.trans g2).trans g4,(r2.late g1).grow g4,r4.late (g1.trans g2),gQ (λ u w v r=>by
    obtain⟨b,e,w3⟩:=iB w;subst e;cases r
    exact w3 F4 H4 ((g1.trans g2).trans g4)) w⟩) w2⟩
  .rw[XR (by assumption)];exact w2 F2 H2 (g1.trans g2)) w⟩) w⟩) w⟩
def Hu(ha:PT X l (rT X.K J FT GT a)):PT X (.UnaryOp .Not l p) (rT X.K J FT GT (.not a)) :=
 (Bp ha).imp λ σ H Q ⟨F,ρ,ev,w⟩=>⟨F,ρ,ev,av a (λ x w=>cD (λ b w F1 H1 g=>w F1 H1 g) w) w⟩
def wO{l r:Expr}{Tg:List Expr}(ha:PT X l (rT X.K J FT GT a))(hb:PW X (.BoolOp .And (r::Tg) p) (rT X.K J FT GT b)):PW X (.BoolOp .And (l::r::Tg) p) (rT X.K J FT GT (.and a b)):=by
 intro wh Te s σ H Q I q;refine Bn ha hb wh Te s σ H Q I ?_;obtain⟨F,ρ,ev,w⟩:=q;refine⟨F,ρ,ev,av a (λ x w=>cD (λ k w2 F1 H1 g1=>?_) w) w⟩;split at w2
 .rw[XT (by assumption)];exact⟨F1,ρ,ev.grow g1,av b (λ y w=>cD (λ k w F2 H2 g2=>w F2 H2 (g1.trans g2)) w) w2⟩
 .rw[XR (by assumption)];exact w2 F1 H1 g1
def wP{l r:Expr}{Tg:List Expr}(ha:PT X l (rT X.K J FT GT a))(hb:PW X (.BoolOp .Or (r::Tg) p) (rT X.K J FT GT b)):PW X (.BoolOp .Or (l::r::Tg) p) (rT X.K J FT GT (.or a b)):=by
 intro wh Te s σ H Q I q;refine Bo ha hb wh Te s σ H Q I ?_;obtain⟨F,ρ,ev,w⟩:=q;refine⟨F,ρ,ev,av a (λ x w=>cD (λ k w2 F1 H1 g1=>?_) w) w⟩;split at w2
 .rw[XT (by assumption)];exact w2 F1 H1 g1
 .rw[XR (by assumption)];exact⟨F1,ρ,ev.grow g1,av b (λ y w=>cD (λ k w F2 H2 g2=>w F2 H2 (g1.trans g2)) w) w2⟩
def wQ{lo:Cd}(h:ky lo=Oi):PO X Oj (λ σ H Q=>∃F ρ,EV X.K J F H σ ρ/\wE FT GT lo ρ λ t=>oI t λ o=>∀F' H',Grow J F H F' H'->Q o H'):=by
 intro Te s σ H Q I q;obtain⟨F,ρ,ev,w⟩:=q
 have e:lo=.c .non:=by unfold ky at h;split at h<;>first|rfl|cases h
 subst e;exact CN Te s σ H Q I (w F H (.refl ev.w))
def wR{lo:Cd}(he:PE X e (rE X.K J FT GT lo)):PO X (Oh e) (λ σ H Q=>∃F ρ,EV X.K J F H σ ρ/\wE FT GT lo ρ λ t=>oI t λ o=>∀F' H',Grow J F H F' H'->Q o H'):=by
 intro Te s σ H Q I q;obtain⟨F,ρ,ev,w⟩:=q;rw[evalPart_some];refine To (he Te s σ H (λ x H1=>(x=.non/\Q Oj H1)\/∃i,x=.int i/\Q (Oh i) H1) I ⟨F,ρ,ev,av lo (λ t w F1 H1 v g r=>?_) w⟩) λ u s1 ⟨x,H1,I1,r1,q1⟩=>?_
 .cases t with
  |non=>cases r;exact .inl ⟨rfl,w F1 H1 g⟩
  |int i=>cases r;exact .inr ⟨i,rfl,w F1 H1 g⟩
  |_=>exact w.elim
 .rcases q1 with ⟨rfl,q⟩|⟨i,rfl,q⟩
  .cases r1;exact⟨Oj,H1,I1,.none,q⟩
  .obtain⟨tk,rfl⟩:=r1;exact⟨Oh i,H1,I1,.int _ _,q⟩
end
def Hv(h:wp c=Oi):c=.nil:=by cases c<;>first|rfl|exact Om h
def wT(h:kA e=Oi):∃es k p,e=.Tuple es k p:=by cases e<;>first|exact⟨_,_,_,rfl⟩|exact Om h
set_option tactic.hygienic true in
def Hw(h:WI e=Oi)(whole:Sem Value):isTrue e env whole=(do let v <- whole;Qz e.pos;Pz [v] (truthy v)):=by
 cases e<;>first|rfl|(exact Om h)|skip
 rename_i op _ _
 cases op<;>first|rfl|exact Om h
section
variable {fs gs:List Str}
def iI:∀ {r:Cd}{N:List Str}{nm:List (Str×OD)}{es:List Expr},ckL fs gs r N nm es=Oi->es.all aX=Oi:=λ {r}=>by
 induction r with
 |nil=>intro N nm es h;cases es with|nil=>rfl|cons e es=>exact Om h
 |cons a r _ ih=>
  intro N nm es h
  cases es with
  |nil=>exact Om h
  |cons e es=>
   obtain⟨h1,h2⟩:=an h;rw[cP,(an h1).1,ih h2];rfl
 |_=>intro N nm es h;exact Om h
def jw(h:ckI fs gs c k tg N nm it=Oi):eG it=Oi:=by
 cases c with
 |cons a r=>
  cases k with
  |seq=>exact(an (an h).1).1
  |str=>exact Om h
  |_=>exact dG h λ _ _ _ _ _=>rfl
 |_=>exact Om h
end
section
variable {J:Hp->Prop}{FT:List Tf}{GT:List TV}{fs gs:List Str}
structure SA (J:Hp->Prop)(FT:List Tf)(GT:List TV)(fs gs:List Str)(c:Cd):Prop where
 e:∀ {X:Cx}{N:List Str}{nm:List (Str×OD)}{e:Expr},Tv X J FT GT fs gs->XS X N nm->ck fs gs c N nm e=Oi->PE X e (rE X.K J FT GT c)
 l:∀ {X:Cx}{N:List Str}{nm:List (Str×OD)}{es:List Expr},Tv X J FT GT fs gs->XS X N nm->ckL fs gs c N nm es=Oi->PA X es (rA X.K J FT GT c)
 i:∀ {k:IK}{X:Cx}{N:List Str}{nm:List (Str×OD)}{tg it:Expr},Tv X J FT GT fs gs->XS X N nm->ckI fs gs c k tg N nm it=Oi->PI X tg it (rW X.K J FT GT k c)
 t:∀ {X:Cx}{N:List Str}{nm:List (Str×OD)}{e:Expr},Tv X J FT GT fs gs->XS X N nm->tB' c e=Oi->ck fs gs c N nm e=Oi->PT X e (rT X.K J FT GT c)
 w:∀ {X:Cx}{N:List Str}{nm:List (Str×OD)}{op:RB}{es:List Expr}{p:Pos},Tv X J FT GT fs gs->XS X N nm->ck fs gs c N nm (.BoolOp op es p)=Oi->PW X (.BoolOp op es p) (rT X.K J FT GT c)
noncomputable abbrev EF(J:Hp->Prop)(FT:List Tf)(GT:List TV)(fs gs:List Str)(c:Cd):Prop:=∀ {X:Cx}{N:List Str}{nm:List (Str×OD)}{e:Expr},Tv X J FT GT fs gs->XS X N nm->ck fs gs c N nm e=Oi->PE X e (rE X.K J FT GT c)
def SA.val(E:EF J FT GT fs gs c)(t:∀e,tB' c e=WI e:=by intro;rfl)(l:∀N nm es,ckL fs gs c N nm es=Ol:=by intros;rfl)(i:∀k tg N nm it,ckI fs gs c k tg N nm it=Ol:=by intros;rfl)(w:∀N nm op es p,ck fs gs c N nm (.BoolOp op es p)=Ol:=by intros;rfl):SA J FT GT fs gs c :=
 ⟨E,λ _ _ h=>by rw[l] at h;exact Om h,λ _ _ h=>by rw[i] at h;exact Om h,λ xo xs n h=>Hr (E xo xs h) (Hw (by rw[<- t];exact n)),λ _ _ h=>by rw[w] at h;exact Om h⟩
def SA.tst(E:EF J FT GT fs gs c)(T:∀ {X:Cx}{N:List Str}{nm:List (Str×OD)}{e:Expr},Tv X J FT GT fs gs->XS X N nm->ck fs gs c N nm e=Oi->PT X e (rT X.K J FT GT c))(l:∀N nm es,ckL fs gs c N nm es=Ol:=by intros;rfl)(i:∀k tg N nm it,ckI fs gs c k tg N nm it=Ol:=by intros;rfl)(w:∀N nm op es p,ck fs gs c N nm (.BoolOp op es p)=Ol:=by intros;rfl):SA J FT GT fs gs c :=
 ⟨E,λ _ _ h=>by rw[l] at h;exact Om h,λ _ _ h=>by rw[i] at h;exact Om h,λ xo xs _ h=>T xo xs h,λ _ _ h=>by rw[w] at h;exact Om h⟩
def sA(J:Hp->Prop)(FT:List Tf)(GT:List TV)(fs gs:List Str)(c:Cd):SA J FT GT fs gs c:=by
 induction c with
 |v i=>exact .val λ xo xs h=>s_v xs h
 |c t=>exact .val λ xo xs h=>s_c h
 |g k=>exact .val λ xo xs h=>s_g xo xs h
 |bin o a b ia ib=>
  refine .val λ {X N nm e} xo xs h=>?_;refine GD h λ l op r p k1=>?_;obtain⟨g1,g2,g3⟩:=a3 k1;cases aC g1;exact GM xo (ia.e xo xs g2) (ib.e xo xs g3)
 |neg a ia=>
  refine .val λ {X N nm e} xo xs h=>?_;refine ww h λ op x p k1=>?_;cases aC (an k1).1;exact GP (ia.e xo xs (an k1).2)
 |not a ia=>
  refine .tst (λ {X N nm e} xo xs h=>?_) (λ {X N nm e} xo xs h=>?_)
  all_goals
   refine ww h λ op x p k1=>?_;obtain⟨g1,g2,g3⟩:=a3 k1;cases aC g1
  .exact GQ (ia.e xo xs g3)
  .exact Hu (ia.t xo xs g2 g3)
 |cmp o a b ia ib=>
  refine .tst (λ {X N nm e} xo xs h=>?_) (λ {X N nm e} xo xs h=>?_)
  all_goals
   refine wx h λ l os rs p k1=>?_;refine eZ k1 λ op k2=>?_;refine eZ k2 λ r k3=>?_;obtain⟨g1,g2,g3,g4⟩:=a4 k3;cases aC g1
  .exact GN xo (ia.e xo xs g2) (ib.e xo xs g3) g4
  .exact Hs xo (ia.e xo xs g2) (ib.e xo xs g3) g4
 |cm2 o o' a b c ia ib ic=>
  refine .tst (λ {X N nm e} xo xs h=>?_) (λ {X N nm e} xo xs h=>?_)
  all_goals
   refine wx h λ l os rs p k1=>?_;refine mh k1 λ op op' k2=>?_;refine mh k2 λ r r' k3=>?_;obtain⟨g1,g2,g3,g4,g5,g6⟩:=a6 k3;cases aC g1;cases aC g2
  .exact GR xo (ia.e xo xs g3) (ib.e xo xs g4) (ic.e xo xs g5) g6
  .exact Ht xo (ia.e xo xs g3) (ib.e xo xs g4) (ic.e xo xs g5) g6
 |and a b ia ib=>
  have W:∀ {X:Cx}{N:List Str}{nm:List (Str×OD)}{op:RB}{es:List Expr}{p:Pos},Tv X J FT GT fs gs->XS X N nm->ck fs gs (.and a b) N nm (.BoolOp op es p)=Oi->PW X (.BoolOp op es p) (rT X.K J FT GT (.and a b)):=by
   intro X N nm op es p xo xs h;obtain⟨g,g'⟩:=an h;cases aC g
   rcases es with _|⟨x,_|⟨y,_|⟨z,r⟩⟩⟩<;>try exact Om g'
   .obtain⟨h1,h2,h3,h4⟩:=a4 g';exact wO (ia.t xo xs h1 h3) (Bl (ib.t xo xs h2 h4))
   .obtain⟨h1,h3,h4⟩:=a3 g';exact wO (ia.t xo xs h1 h3) (ib.w xo xs h4)
  refine⟨λ {X N nm e} xo xs h=>?_,λ _ _ h=>Om h,λ _ _ h=>Om h,λ {X N nm e} xo xs n h=>?_,W⟩
  .refine wy h λ op es p g=>?_;obtain⟨g,g'⟩:=an g;cases aC g
   rcases es with _|⟨x,_|⟨y,_|⟨z,r⟩⟩⟩<;>try exact Om g'
   .obtain⟨h1,h2,h3,h4⟩:=a4 g';exact wJ (ia.e xo xs h3) (tZ (ib.e xo xs h4))
   .obtain⟨h1,h3,h4⟩:=a3 g';exact wJ (ia.e xo xs h3) (ib.e xo xs h4)
  .obtain⟨op,es,p,rfl,g⟩:=wz h;exact(W xo xs h).pt
 |or a b ia ib=>
  have W:∀ {X:Cx}{N:List Str}{nm:List (Str×OD)}{op:RB}{es:List Expr}{p:Pos},Tv X J FT GT fs gs->XS X N nm->ck fs gs (.or a b) N nm (.BoolOp op es p)=Oi->PW X (.BoolOp op es p) (rT X.K J FT GT (.or a b)):=by
   intro X N nm op es p xo xs h;obtain⟨g,g'⟩:=an h;cases aC g
   rcases es with _|⟨x,_|⟨y,_|⟨z,r⟩⟩⟩<;>try exact Om g'
   .obtain⟨h1,h2,h3,h4⟩:=a4 g';exact wP (ia.t xo xs h1 h3) (Bm (ib.t xo xs h2 h4))
   .obtain⟨h1,h3,h4⟩:=a3 g';exact wP (ia.t xo xs h1 h3) (ib.w xo xs h4)
  refine⟨λ {X N nm e} xo xs h=>?_,λ _ _ h=>Om h,λ _ _ h=>Om h,λ {X N nm e} xo xs n h=>?_,W⟩
  .refine wy h λ op es p g=>?_;obtain⟨g,g'⟩:=an g;cases aC g
   rcases es with _|⟨x,_|⟨y,_|⟨z,r⟩⟩⟩<;>try exact Om g'
   .obtain⟨h1,h2,h3,h4⟩:=a4 g';exact wK (ia.e xo xs h3) (tZ (ib.e xo xs h4))
   .obtain⟨h1,h3,h4⟩:=a3 g';exact wK (ia.e xo xs h3) (ib.e xo xs h4)
  .obtain⟨op,es,p,rfl,g⟩:=wz h;exact(W xo xs h).pt
 |ite c a b ic ia ib=>
  refine .val λ {X N nm e} xo xs h=>?_;refine GE h λ x y z p k1=>?_;obtain⟨g1,g2,g3,g4⟩:=a4 k1;exact GS (ic.t xo xs g1 g2) (ia.e xo xs g3) (ib.e xo xs g4)
 |nil=>
  refine⟨λ _ _ h=>Om h,λ {X N nm es} xo xs h=>?_,λ _ _ h=>Om h,λ _ _ _ h=>Om h,λ _ _ h=>Om h⟩
  cases es with
  |nil=>exact GU
  |cons e es=>exact Om h
 |cons a r ia ir=>
  refine⟨λ _ _ h=>Om h,λ {X N nm es} xo xs h=>?_,λ {k X N nm tg it} xo xs h=>?_,λ _ _ _ h=>Om h,λ _ _ h=>Om h⟩
  .cases es with
   |nil=>exact Om h
   |cons e es=>
    obtain⟨h1,h3⟩:=an h;obtain⟨h1,h2⟩:=an h1;exact wM (ia.e xo xs h2) (ir.l xo xs h3) h1
  .have call:∀ {x:Str}{p:Pos}{e:Expr}{es:List Expr}{pos:Pos},decide (Vo k=Oh (x,es.length))=Oi->gl nm x=Oi->(!Wg k || kA tg)=Oi->aX e=Oi->ck fs gs a N nm e=Oi->ckL fs gs r N nm es=Oi->PI X tg (.Call (.Name x p) (e::es) [] pos) (rW X.K J FT GT k (.cons a r)):=by
    intro x p e es pos h1 h2 h3 h4 h5 h6;have hk:=aC h1;have he:=ia.e xo xs h5;have hr:=ir.l xo xs h6;have st:=iI h6;have g:=UK xs h2
    have n0:es=[]->r=.nil:=λ z=>by subst z;cases r<;>first|rfl|exact Om h6
    cases k with
    |seq|str|rng2|zip c d|zip3=>cases hk
    |rng=>
     simp only[Vo,oF,oG] at hk;obtain⟨rfl,hk⟩:=hk;cases lX hk.symm;cases n0 rfl;exact Hf xo g h4 he
    |rng3=>
     simp only[Vo,oF,oG] at hk;obtain⟨rfl,hk⟩:=hk
     match es,hk with
     |[y,z],_=>exact Hh xo g h4 (by simp at st;exact st.1) (by simp at st;exact st.2) (wM he hr h4)
    |enum c=>
     simp only[Vo,oF,oG] at hk;obtain⟨rfl,hk⟩:=hk;obtain⟨tes,tk,tp,rfl⟩:=wT (show kA tg=Oi by simpa [Wg] using h3);cases lX hk.symm;cases n0 rfl;exact Hi xo g h4 he
    |rev c=>
     cases c<;>try (cases hk;done)
     simp only[Vo,oF,oG] at hk;obtain⟨rfl,hk⟩:=hk;cases lX hk.symm;cases n0 rfl;exact Hj xo g h4 he
   have arg:(dy it λ g as w _=>bL g λ x _=>cC as λ e es=>w.isEmpty&&decide (Vo k=Oh (x,es.length))&&gl nm x&&(!Wg k || kA tg)&&aX e&&ck fs gs a N nm e&&ckL fs gs r N nm es)=Oi->PI X tg it (rW X.K J FT GT k (.cons a r)):=λ h=>by
    refine dG h λ g as w pos k1=>?_;refine bA k1 λ x p k2=>?_;refine oy k2 λ e es k3=>?_;obtain⟨g0,g1,g2,g3,g4,g5,g6⟩:=a7 k3;refine dn g0 ?_;exact call g1 g2 g3 g4 g5 g6
   cases k with
   |seq=>
    obtain⟨h1,h3⟩:=an h;cases Hv (an h1).2;exact Hd (ia.e xo xs h3)
   |str=>exact Om h
   |_=>exact arg h
 |tup l il=>
  refine .val λ {X N nm e} xo xs h=>?_;refine oq h λ es _ _ k1=>?_;exact GV xo (il.l xo xs k1)
 |lst l il=>
  refine .val λ {X N nm e} xo xs h=>?_;refine wB h λ es _ k1=>?_;exact GW xo (il.l xo xs k1)
 |ix a b ia ib=>
  refine .val λ {X N nm e} xo xs h=>?_;refine lZ h λ x y p k1=>?_;obtain⟨g1,g2,g3⟩:=a3 k1;exact GO (ia.e xo xs g2) (ib.e xo xs g3) g1
 |sl a lo hi ia il ih=>
  refine .val λ {X N nm e} xo xs h=>?_;refine lZ h λ x y p k1=>?_;refine GF k1 λ l u st q k2=>?_;obtain⟨g0,g1,g2,g3⟩:=a4 k2;cases Option.isNone_iff_eq_none.mp g0;refine GX xo (ia.e xo xs g1) ?_ ?_
  .cases l with
   |none=>exact wQ g2
   |some l=>exact wR (il.e xo xs (an g2).1)
  .cases u with
   |none=>exact wQ g3
   |some u=>exact wR (ih.e xo xs (an g3).1)
 |call f l il=>
  refine .val λ {X N nm e} xo xs h=>?_;refine dG h λ f' as w pos k1=>?_;refine bA k1 λ x p k2=>?_;refine oy k2 λ a es k3=>?_;obtain⟨g0,g1,g2,g3,g4⟩:=a5 k3;refine dn g0 ?_;have st:=iI g4;rw[cP,bp] at st;exact GY xo (aC g1) (UK xs g2) (dW g3).1 (il.l xo xs g4) st.1 st.2
 |bi f l il=>
  refine .val λ {X N nm e} xo xs h=>?_;refine dG h λ f' as w pos k1=>?_;refine bA k1 λ x p k2=>?_;refine oy k2 λ a es k3=>?_;obtain⟨g0,g1,g2,g4⟩:=a4 k3;refine dn g0 ?_;have st:=iI g4;rw[cP,bp] at st;exact GZ xo (aC g1) (UK xs g2) (il.l xo xs g4) st.1 st.2
 |mxl a b ia ib=>
  refine .val λ {X N nm e} xo xs h=>?_;refine dG h λ f' as w pos k1=>?_;refine bA k1 λ x p k2=>?_;refine mh k2 λ y z k3=>?_;obtain⟨⟨kx,kv,kp⟩,rfl,k4⟩:=iE k3;obtain⟨u,_,e1,k5⟩:=GA k4;cases e1;obtain⟨g1,g2,g3,g4,g5,g6,g7,g8,g9⟩:=a9 k5;cases aC g1;cases aC g3;cases aC g4;exact Ha xo (UK xs g2) (UK xs g5) g6 g7 (ia.e xo xs g8) (ib.e xo xs g9)
 |trev k a ia=>
  refine .val λ {X N nm e} xo xs h=>?_;refine dG h λ f' as w pos k1=>?_;refine bA k1 λ x p k2=>?_;refine eZ k2 λ u k3=>?_;refine dG k3 λ f'' as' w' pos' k4=>?_;refine bA k4 λ y p' k5=>?_;refine eZ k5 λ z k6=>?_;obtain⟨g0,g0',g1,g2,g3,g4,g5,g6⟩:=a8 k6;refine dn g0 ?_;refine dn g0' ?_;cases aC g1;cases aC g3;exact Hb xo (UK xs g2) (UK xs g4) g5 (ia.e xo xs g6)
 |ap i f l il=>
  refine .val λ {X N nm e} xo xs h=>?_;refine dG h λ f' as w pos k1=>?_;refine bA k1 λ x p k2=>?_;refine oy k2 λ a es k3=>?_;obtain⟨g0,g1,g2,g3,g4,g5⟩:=a6 k3;refine dn g0 ?_;have st:=iI g5;rw[cP,bp] at st;exact Ho xo xs (aC g1) (aC g2) g3 g4 (il.l xo xs g5) st.1 st.2
 |cf i f x c ic=>
  refine .val λ {X N nm e} xo xs h=>?_;refine dG h λ f' as w pos k1=>?_;refine bA k1 λ y p k2=>?_;refine mh k2 λ u v k3=>?_;refine bA k3 λ z q k4=>?_;obtain⟨g0,g1,g2,g3,g4,g5⟩:=a6 k4;obtain⟨b0,b1,b2,b3,b4⟩:=a5 g0;refine dn b0 ?_;cases aC b2;exact Hq xo xs (aC b1) (UK xs b3) (dW b4).1 (aC g1) g2 g3 (ic.e xo xs g5) g4
 |lrng k a ia=>
  refine .val λ {X N nm e} xo xs h=>?_;refine dG h λ f' as w pos k1=>?_;refine bA k1 λ x p k2=>?_;refine eZ k2 λ u k3=>?_;refine dG k3 λ f'' as' w' pos' k4=>?_;refine bA k4 λ y p' k5=>?_;refine eZ k5 λ z k6=>?_;obtain⟨g0,g0',g1,g2,g3,g4,g5,g6⟩:=a8 k6;refine dn (an g0).1 ?_;refine dn g0' ?_;cases aC g1;cases aC g3;exact Hc (k:=k) (an g0).2 xo (UK xs g2) (UK xs g4) g5 (ia.e xo xs g6)
 |dk k a ia=>
  refine .val λ {X N nm e} xo xs h=>?_;refine lZ h λ o y p k1=>?_;refine bA k1 λ x q k2=>?_;obtain⟨g1,g2,g3,g4,g5⟩:=a5 k2;exact GL xo xs (aC g1) g2 g3 g4 (ia.e xo xs g5)
 |comp own fv js tg k it e ii ie=>
  refine .val λ {X N nm x} xo xs h=>?_;obtain⟨elt,gn,sc,p,rfl,k1⟩:=mf h;obtain⟨⟨t,iter,ifs,z⟩,rfl,k2⟩:=iE k1;obtain⟨g0,g1,g2,g3,g4,g5,g6⟩:=a7 k2;cases (show ifs=[] from rQ.mp g0);cases aC g1;exact Hk xo xs g2 (ii.i xo xs g3) g4 g5 (jw g3) λ Y yo ys=>ie.e yo ys g6
 |compI own fv js tg k it c e ii ic ie=>
  refine .val λ {X N nm x} xo xs h=>?_;obtain⟨elt,gn,sc,p,rfl,k1⟩:=mf h;obtain⟨⟨t,iter,ifs,z⟩,rfl,k2⟩:=iE k1;obtain⟨cnd,e1,k3⟩:=iE k2;cases e1;obtain⟨g1,g2,g3,g4,g5,g6,g7,g8⟩:=a8 k3;cases aC g1;exact Hl xo xs g2 (ii.i xo xs g3) g4 g5 (jw g3) (λ Y yo ys=>ic.t yo ys g6 g7) λ Y yo ys=>ie.e yo ys g8
def sE(c:Cd)(xo:Tv X J FT GT fs gs)(xs:XS X N nm)(h:ck fs gs c N nm e=Oi):PE X e (rE X.K J FT GT c):=(sA J FT GT fs gs c).e xo xs h
def sL(c:Cd)(xo:Tv X J FT GT fs gs)(xs:XS X N nm)(h:ckL fs gs c N nm es=Oi):PA X es (rA X.K J FT GT c):=(sA J FT GT fs gs c).l xo xs h
def sI(c:Cd)(k:IK)(xo:Tv X J FT GT fs gs)(xs:XS X N nm)(h:ckI fs gs c k tg N nm it=Oi):PI X tg it (rW X.K J FT GT k c):=(sA J FT GT fs gs c).i xo xs h
def sT(c:Cd)(xo:Tv X J FT GT fs gs)(xs:XS X N nm)(n:tB' c e=Oi)(h:ck fs gs c N nm e=Oi):PT X e (rT X.K J FT GT c):=(sA J FT GT fs gs c).t xo xs n h
end
set_option genInjectivity false in
set_option genSizeOfSpec false in
inductive MM where
 |append|insert|extend (t:Bool)|pop
set_option genInjectivity false in
set_option genSizeOfSpec false in
inductive Ct where
 |nil|never|ret (c:Cd)
 |set (i:Nat) (c:Cd) (r:Ct)|sets (is:List Nat) (c:Cd) (r:Ct)|fz (i:Nat) (r:Ct)|ex (c:Cd) (r:Ct)
 |met (m:MM) (i:Nat) (l:Cd) (r:Ct)|put (i:Nat) (c d:Cd) (r:Ct)
 |ite (c:Cd) (a b r:Ct)|«for» (tg:List Nat) (k:IK) (it:Cd) (b r:Ct)|tri (b r:Ct)
 |nl (i:Nat) (own:List Str) (k:IK) (it:Cd) (r:Ct)|pu (i j:Nat) (e:Cd) (r:Ct)|fu (i:Nat) (r:Ct)|xl (i f:Nat) (l:Cd) (r:Ct)
noncomputable def VG(ρ:En)(i:Nat):En:=match ρ[i]? with|some (Oh (.own l))=>ρ.set i (Oh (.lst l))|_=>ρ
noncomputable def fzC:Cd->En->En
 |.v i,ρ=>VG ρ i
 |_,ρ=>ρ
noncomputable def fzV:Cd->En->En
 |.cons a r,ρ=>fzV r (fzC a ρ)
 |_,ρ=>ρ
noncomputable def UU(b:TV->En->(En->Prop)->Prop):List TV->En->(En->Prop)->Prop
 |[],ρ,K=>K ρ
 |t::r,ρ,K=>b t ρ λ ρ'=>UU b r ρ' K
noncomputable def VH(s:Option (Option TV))(P:List On->List (LL)->Prop):Prop:=match s with|some (Oh (.obj (.lls as ll)))=>P as ll|_=>False
noncomputable def Wh(s:Option (Option TV))(P:Int->Prop):Prop:=match s with|some (Oh (.int k))=>P k|_=>False
noncomputable def rR(ρ:En):Bool:=ρ.all λ s=>match s with|some (.obj (.lls _ _))=>Ol|_=>Oi
def rV(q:VH s P):∃as ll,s=Oh (Oh (.obj (.lls as ll)))/\P as ll:=by
 rcases s with _|_|t
 .exact q.elim
 .exact q.elim
 .cases t with
  |obj o=>cases o<;>first|exact⟨_,_,rfl,q⟩|exact q.elim
  |_=>exact q.elim
def wU(q:Wh s P):∃k,s=Oh (Oh (.int k))/\P k:=by
 rcases s with _|_|t
 .exact q.elim
 .exact q.elim
 .cases t<;>first|exact⟨_,rfl,q⟩|exact q.elim
def wV{P P':List On->List (LL)->Prop}(h:∀as ll,P as ll->P' as ll)(q:VH s P):VH s P':=by
 obtain⟨as,ll,e,p⟩:=rV q;subst e;exact h as ll p
def Hx{P P':Int->Prop}(h:∀k,P k->P' k)(q:Wh s P):Wh s P':=by
 obtain⟨k,e,p⟩:=wU q;subst e;exact h k p
noncomputable def gA(s:Option (Option TV))(P:List TV->Prop):Prop:=match s with|some (Oh (.own l))=>P l|_=>False
noncomputable def VI(m:MM)(l:List TV)(ts:List TV)(K:TV->List TV->Prop):Prop:=match m,ts with
 |.append,[t]=>t.nb=Oi/\l.length<Oq/\K .non (l++[t.fz])
 |.insert,[u,t]=>i1 u λ i=>t.nb=Oi/\(0<=i/\i<=l.length)/\l.length<Oq/\K .non (l.take i.toNat++t.fz::l.drop i.toNat)
 |.extend b,[t]=>t.nb=Oi/\k1 b t λ m=>l.length+m.length<=Oq/\K .non (l++m)
 |.pop,[]=>∃y,l[l.length-1]?=Oh y/\K y l.dropLast
 |.pop,[u]=>i1 u λ i=>(-(2 ^ 63)<=i/\i<2 ^ 63)/\∃k y,QG i l.length=Oh k/\l[k]?=Oh y/\K y (l.eraseIdx k)
 |_,_=>False
section
variable (FT:List Tf)(GT:List TV)
noncomputable def wS:Ct->En->(En->Prop)->(TV->Prop)->Prop
 |.nil,ρ,nx,_=>nx ρ
 |.never,_,_,_=>False
 |.ret c,ρ,_,rt=>wE FT GT c (fzC c ρ) λ t=>t.nb=Oi/\rt t.fz
 |.set i c r,ρ,nx,rt=>wE FT GT c (fzC c ρ) λ t=>t.nb=Oi/\wS r ((fzC c ρ).set i (Oh t)) nx rt
 |.sets is c r,ρ,nx,rt=>wE FT GT c ρ λ t=>(match t with|.tup _=>Ud ρ is t λ ρ'=>wS r ρ' nx rt|_=>False)
 |.fz i r,ρ,nx,rt=>wS r (VG ρ i) nx rt
 |.ex c r,ρ,nx,rt=>wE FT GT c ρ λ _=>wS r ρ nx rt
 |.met m i l r,ρ,nx,rt=>gA (fzV l ρ)[i]? λ xs=>wL FT GT l (fzV l ρ) λ ts=>VI m xs ts λ _ ys=>wS r ((fzV l ρ).set i (Oh (.own ys))) nx rt
 |.put i c d r,ρ,nx,rt=>gA (fzC d ρ)[i]? λ xs=>wE FT GT d (fzC d ρ) λ t=>t.nb=Oi/\wE FT GT c (fzC d ρ) λ u=>i1 u λ k=>∃n,UQ xs.length k=Oh n/\wS r ((fzC d ρ).set i (Oh (.own (xs.set n t.fz)))) nx rt
 |.ite c a b r,ρ,nx,rt=>wE FT GT c ρ λ t=>b1 t λ k=>if k=Oi then wS a ρ (λ ρ'=>wS r ρ' nx rt) rt else wS b ρ (λ ρ'=>wS r ρ' nx rt) rt
 |.for tg k it b r,ρ,nx,rt=>wL FT GT it (fzV it ρ) λ ts=>ts.all TV.nb=Oi/\Ve k ts λ its=>UU (λ t ρ K=>Ud ρ tg t λ ρ'=>wS b ρ' K rt) its (fzV it ρ) λ ρ'=>wS r ρ' nx rt
 |.tri b r,ρ,nx,rt=>wS b ρ (λ ρ'=>wS r ρ' nx rt) rt
 |.nl i _ k it r,ρ,nx,rt=>rR ρ=Oi/\wL FT GT it ρ λ ts=>Ve k ts λ its=>its.length<Oq/\∀as:List On,as.Nodup->as.length=its.length->wS r (ρ.set i (Oh (.obj (.lls as (Os as.length []))))) nx rt
 |.pu i j e r,ρ,nx,rt=>VH ρ[i]? λ as ll=>Wh ρ[j]? λ k=>∃(n:Nat) (l:LL),k=n/\ll[n]?=Oh l/\l.length<1000/\wE FT GT e ρ λ t=>∃ks,t=kT ks/\wS r (ρ.set i (Oh (.obj (.lls as (ll.set n (l++[ks])))))) nx rt
 |.fu i r,ρ,nx,rt=>VH ρ[i]? λ _ ll=>wS r (ρ.set i (Oh (.lst (ll.map λ l=>.lst (l.map kT))))) nx rt
 |.xl i f l r,ρ,nx,rt=>gA ρ[i]? λ xs=>wL FT GT l ρ λ ts=>∃P,(∃S,FT[f]?=Oh S/\S (ts.map .fz) P)/\∀t,P t->∃m,t=.lst m/\(∀x∈m,LF x)/\xs.length+m.length<=Oq/\wS r (ρ.set i (Oh (.own (xs++m)))) nx rt
end
def mj{P P':List TV->Prop}(h:∀l,P l->P' l)(q:gA s P):gA s P':=by
 unfold gA at *;split at q
 .exact h _ q
 .exact q.elim
def mq(q:gA s P):∃l,s=Oh (Oh (.own l))/\P l:=by
 unfold gA at q;split at q
 .exact⟨_,O,q⟩
 .exact q.elim
def wW{K K':TV->List TV->Prop}(h:∀y ys,K y ys->K' y ys)(q:VI m l ts K):VI m l ts K':=by
 rcases ts with _|⟨t,_|⟨u,_|⟨w,r⟩⟩⟩
 .cases m with
  |pop=>obtain⟨y,e,q⟩:=q;exact⟨y,e,h _ _ q⟩
  |_=>exact q.elim
 .cases m with
  |append=>exact⟨q.1,q.2.1,h _ _ q.2.2⟩
  |extend b=>exact⟨q.1,iA (λ m q=>⟨q.1,h _ _ q.2⟩) q.2⟩
  |pop=>exact gu (λ i ⟨c,k,y,e,f,q⟩=>⟨c,k,y,e,f,h _ _ q⟩) q
  |_=>exact q.elim
 .cases m with
  |insert=>exact gu (λ i ⟨a,b,c,q⟩=>⟨a,b,c,h _ _ q⟩) q
  |_=>exact q.elim
 .cases m<;>exact q.elim
section
variable {FT:List Tf}{GT:List TV}
theorem bE:∀(c:Ct) {ρ:En}{nx nx':En->Prop}{rt rt':TV->Prop},(∀ρ,nx ρ->nx' ρ)->(∀t,rt t->rt' t)->wS FT GT c ρ nx rt->wS FT GT c ρ nx' rt'
 |.nil,_,_,_,_,_,h,_,q=>h _ q
 |.never,_,_,_,_,_,_,_,q=>q.elim
 |.ret c,_,_,_,_,_,_,g,q=>av c (λ t q=>⟨q.1,g _ q.2⟩) q
 |.set i c r,_,_,_,_,_,h,g,q=>av c (λ t q=>⟨q.1,bE r h g q.2⟩) q
 | .sets is c r,_,_,_,_,_,h,g,q=>av c (λ t q=>by
   cases t with
   |tup l=>exact fO (λ ρ' q=>bE r h g q) q
   |_=>exact q.elim) q
 |.fz i r,ρ,nx,_,rt,_,h,g,q=>bE r h g (show wS FT GT r (VG ρ i) nx rt from q)
 |.ex c r,_,_,_,_,_,h,g,q=>av c (λ t q=>bE r h g q) q
 |.met m i l r,_,_,_,_,_,h,g,q=>mj (λ xs q=>bH l (λ ts q=>wW (λ y ys q=>bE r h g q) q) q) q
 |.put i c d r,_,_,_,_,_,h,g,q=>mj (λ xs q=>av d (λ t q=>⟨q.1,av c (λ u q=>gu (λ k ⟨n,e,q⟩=>⟨n,e,bE r h g q⟩) q) q.2⟩) q) q
 | .ite c a b r,_,_,_,_,_,h,g,q=>av c (λ t q=>cD (λ k q=>by
   split at q
   .rw[XT (by assumption)];exact bE a (λ ρ q=>bE r h g q) g q
   .rw[XR (by assumption)];exact bE b (λ ρ q=>bE r h g q) g q) q) q
 |.for tg k it b r,_,nx,nx',rt,rt',h,g,q=>by
   refine bH it (λ ts q=>⟨q.1,gv (λ its q=>?_) q.2⟩) q
   have e:∀(l:List TV) (ρ:En),UU (λ t ρ K=>Ud ρ tg t λ ρ'=>wS FT GT b ρ' K rt) l ρ (λ ρ'=>wS FT GT r ρ' nx rt)->UU (λ t ρ K=>Ud ρ tg t λ ρ'=>wS FT GT b ρ' K rt') l ρ (λ ρ'=>wS FT GT r ρ' nx' rt'):=by
    intro l
    induction l with
    |nil=>intro ρ q;exact bE r h g q
    |cons t l ih=>
     intro ρ q;have q:Ud ρ tg t λ ρ'=>wS FT GT b ρ' (λ ρ''=>UU (λ t ρ K=>Ud ρ tg t λ ρ'=>wS FT GT b ρ' K rt) l ρ'' λ ρ'=>wS FT GT r ρ' nx rt) rt:=q;exact fO (λ ρ' q=>bE b (λ ρ'' q=>ih ρ'' q) g q) q
   exact e _ _ q
 |.tri b r,ρ,nx,_,rt,_,h,g,q=>bE b (λ ρ q=>bE r h g q) g (show wS FT GT b ρ (λ ρ'=>wS FT GT r ρ' nx rt) rt from q)
 |.nl i own k it r,_,_,_,_,_,h,g,q=>⟨q.1,bH it (λ ts q=>gv (λ its q=>⟨q.1,λ as a b=>bE r h g (q.2 as a b)⟩) q) q.2⟩
 |.pu i j e r,_,_,_,_,_,h,g,q=>wV (λ as ll q=>Hx (λ k ⟨n,l,a,b,c,q⟩=>⟨n,l,a,b,c,av e (λ t ⟨ks,z,q⟩=>⟨ks,z,bE r h g q⟩) q⟩) q) q
 |.fu i r,_,_,_,_,_,h,g,q=>wV (λ as ll q=>bE r h g q) q
 |.xl i f l r,_,_,_,_,_,h,g,q=>mj (λ xs q=>bH l (λ ts ⟨P,sp,q⟩=>⟨P,sp,λ t pt=>let ⟨m,e,lf,lz,q⟩:=q t pt;⟨m,e,lf,lz,bE r h g q⟩⟩) q) q
end
noncomputable def LLd(H0:Hp)(σ:St)(ρ:En):Prop:=∀(i:Nat) as ll,ρ[i]?=Oh (Oh (.obj (.lls as ll)))->(∀a∈as,H0 a=Oj)/\(∀(j:Nat) l a,ρ[j]?=Oh (Oh (.own l))->σ[j]?=Oh (Oh (.ref a))->a ∉ as)/\∀(j:Nat) as' ll',ρ[j]?=Oh (Oh (.obj (.lls as' ll')))->j=i
structure ER (K:FG)(J:Hp->Prop)(F0:Fz)(H0:Hp)(PN:List (TV×V))(F:Fz)(H:Hp)(σ:St)(ρ:En):Prop where
 ev:EV K J F H σ ρ
 gr:Grow J F0 H0 F H
 nb:∀(i:Nat) l a,ρ[i]?=Oh (Oh (.own l))->σ[i]?=Oh (Oh (.ref a))->H0 a=Oj
 di:∀(i k:Nat) l l' v,ρ[i]?=Oh (Oh (.own l))->ρ[k]?=Oh (Oh (.own l'))->σ[i]?=Oh (Oh v)->σ[k]?=Oh (Oh v)->i=k
 pn:∀p∈PN,Rp K F H p.1 p.2
 ol:LLd H0 σ ρ
section
variable {K:FG}{J:Hp->Prop}{F0 F F':Fz}{H0 H H':Hp}{σ:St}{ρ:En}{PN:List (TV×V)}
def ER.grow(e:ER K J F0 H0 PN F H σ ρ)(g:Grow J F H F' H'):ER K J F0 H0 PN F' H' σ ρ:=⟨e.ev.grow g,e.gr.trans g,e.nb,e.di,λ p hp=>(e.pn p hp).ke g.ke,e.ol⟩
def cR{ρ:En}{i j:Nat}(h:(ρ.set i (Oh t))[j]?=Oh (Oh (.own l))):(i=j/\t=.own l)\/(i≠j/\ρ[j]?=Oh (Oh (.own l))):=by
 rw[cW] at h;split at h
 .rename_i c;split at h
  .cases h;exact .inl ⟨c,rfl⟩
  .cases h
 .rename_i c;exact .inr ⟨c,h⟩
def dz{σ:St}{i j:Nat}(n:i≠j):(σ.set i v)[j]?=σ[j]?:=by rw[cW,XR n]
def dH{ρ:En}{i j:Nat}(h:(ρ.set i (Oh t))[j]?=Oh (Oh u)):(i=j/\t=u)\/(i≠j/\ρ[j]?=Oh (Oh u)):=by
 rw[cW] at h;split at h
 .rename_i c;split at h
  .cases h;exact .inl ⟨c,rfl⟩
  .cases h
 .rename_i c;exact .inr ⟨c,h⟩
def LLd.set{t:TV}(h:LLd H0 σ ρ)(no:∀l,t≠.own l)(no':∀as ll,t≠.obj (.lls as ll)):LLd H0 (σ.set i v) (ρ.set i (Oh t)):=λ k as ll e=>by
 rcases dH e with ⟨_,z⟩|⟨n,z⟩
 .exact XU z (no' _ _)
 .obtain⟨h1,h2,h3⟩:=h k as ll z;refine⟨h1,λ j l a e1 e2=>?_,λ j as' ll' e1=>?_⟩
  .rcases dH e1 with ⟨_,y⟩|⟨m,y⟩
   .exact XU y (no _)
   .rw[dz m] at e2;exact h2 j l a y e2
  .rcases dH e1 with ⟨_,y⟩|⟨m,y⟩
   .exact XU y (no' _ _)
   .exact h3 j as' ll' y
def LLd.sub{ρ':En}(h:LLd H0 σ ρ)(f1:∀(j:Nat) l,ρ'[j]?=Oh (Oh (.own l))->∃l',ρ[j]?=Oh (Oh (.own l')))(f2:∀(j:Nat) as ll,ρ'[j]?=Oh (Oh (.obj (.lls as ll)))->∃ll',ρ[j]?=Oh (Oh (.obj (.lls as ll')))):LLd H0 σ ρ':=λ k as ll e=>by
 obtain⟨ll0,e0⟩:=f2 k as ll e;obtain⟨h1,h2,h3⟩:=h k as ll0 e0;exact⟨h1,λ j l a e1 e2=>let ⟨l',z⟩:=f1 j l e1;h2 j l' a z e2,λ j as' ll' e1=>let ⟨ll2,z⟩:=f2 j as' ll' e1;h3 j as' ll2 z⟩
def ER.set{i:Nat}(e:ER K J F0 H0 PN F H σ ρ)(h:Rp K F H t v)(hi:i<σ.length):ER K J F0 H0 PN F H (σ.set i (Oh v)) (ρ.set i (Oh t)):=by
 have no:∀l,t≠.own l:=λ l z=>by subst z;exact h.elim
 refine⟨e.ev.set h hi,e.gr,λ j l a h1 h2=>?_,λ j k l l' w h1 h2 h3 h4=>?_,e.pn,e.ol.set no λ as ll z=>by subst z;exact h.elim⟩
 .rcases cR h1 with ⟨_,z⟩|⟨n,z⟩
  .exact XU z (no l)
  .rw[dz n] at h2;exact e.nb j l a z h2
 .rcases cR h1 with ⟨_,z⟩|⟨n,z⟩
  .exact XU z (no l)
  .rcases cR h2 with ⟨_,z'⟩|⟨n',z'⟩
   .exact XU z' (no l')
   .rw[dz n] at h3;rw[dz n'] at h4;exact e.di j k l l' w z z' h3 h4
def ER.own{i:Nat}(e:ER K J F0 H0 PN F H σ ρ)(g:Grow J F H F' H')(h:Rr K H F' H' (.own l) v)(hi:i<σ.length):ER K J F0 H0 PN F' H' (σ.set i (Oh v)) (ρ.set i (Oh (.own l))):=by
 obtain⟨a,vs,rfl,na,nf,q,r⟩:=h;have na0:H0 a=Oj:=e.gr.none na
 have old:∀(j:Nat) l',ρ[j]?=Oh (Oh (.own l'))->σ[j]?≠Oh (Oh (.ref a)):=λ j l' h1 h2=>by
  obtain⟨v,e1,b,ws,rfl,_,qb,_⟩:=e.ev.sl j _ h1;rw[h2] at e1;cases e1;rw[na] at qb;cases qb
 have eg:=e.grow g
 have ll:LLd H0 (σ.set i (Oh (.ref a))) (ρ.set i (Oh (.own l))):=λ k as ll z=>by
  rcases dH z with ⟨_,y⟩|⟨n,z⟩
  .cases y
  .obtain⟨h1,h2,h3⟩:=e.ol k as ll z;refine⟨h1,λ j l' b e1 e2=>?_,λ j as' ll' e1=>?_⟩
   .rcases dH e1 with ⟨rfl,y⟩|⟨m,y⟩
    .rw[cW] at e2;simp[hi] at e2;subst e2;intro hb;obtain⟨v0,_,a0,_,_,_,hl,hh⟩:=e.ev.sl k _ z;obtain⟨jj,ej⟩:=mx hb;obtain⟨_,us,q',_⟩:=hh jj a (ll[jj]'(by rw[<- hl];exact(aY.mp ej).1)) ej (bc _);rw[na] at q';cases q'
    .rw[dz m] at e2;exact h2 j l' b y e2
   .rcases dH e1 with ⟨_,y⟩|⟨m,y⟩
    .cases y
    .exact h3 j as' ll' y
 refine⟨⟨eg.ev.w,λ j t hj=>?_⟩,eg.gr,λ j l' b h1 h2=>?_,λ j k l1 l2 w h1 h2 h3 h4=>?_,eg.pn,ll⟩
 .rw[cW] at hj;split at hj
  .rename_i c;subst c;split at hj
   .cases hj;exact⟨.ref a,by rw[cW];simp[hi],a,vs,O,nf,q,r⟩
   .cases hj
  .rename_i c;obtain⟨w,e1,z⟩:=eg.ev.sl j t hj;exact⟨w,by rw[dz c];exact e1,z⟩
 .rcases cR h1 with ⟨rfl,_⟩|⟨n,z⟩
  .rw[cW] at h2;simp[hi] at h2;subst h2;exact na0
  .rw[dz n] at h2;exact e.nb j l' b z h2
 .rcases cR h1 with ⟨rfl,_⟩|⟨n,z⟩
  .rcases cR h2 with ⟨rfl,_⟩|⟨n',z'⟩
   .rfl
   .rw[cW] at h3;simp[hi] at h3;subst h3;rw[dz n'] at h4;exact XU h4 (old k l2 z')
  .rcases cR h2 with ⟨rfl,_⟩|⟨n',z'⟩
   .rw[cW] at h4;simp[hi] at h4;subst h4;rw[dz n] at h3;exact XU h3 (old j l1 z)
   .rw[dz n] at h3;rw[dz n'] at h4;exact e.di j k l1 l2 w z z' h3 h4
set_option tactic.hygienic true in
def ER.fz(e:ER K J F0 H0 PN F H σ ρ)(i:Nat):∃F',ER K J F0 H0 PN F' H σ (VG ρ i)/\∀a,F a->F' a:=by
 unfold VG;split
 .rename_i l hl;obtain⟨v,ev,a,vs,rfl,nf,q,r⟩:=e.ev.sl i _ hl;have na:H0 a=Oj:=e.nb i l a hl ev;have up:Ke K F H (λ b=>F b\/b=a) H:=.up λ _ f=>.inl f;have ilt:i<σ.length:=(aY.mp ev).1
  refine⟨λ b=>F b\/b=a,⟨⟨⟨e.ev.w.j,λ b f=>?_⟩,λ j t hj=>?_⟩,e.gr.frz na (by rw[q];simp),λ j l' b h1 h2=>?_,λ j k l1 l2 w h1 h2 h3 h4=>?_,λ p hp=>(e.pn p hp).ke up,e.ol.sub (λ j l' z=>by
   rcases cR z with ⟨_,y⟩|⟨_,y⟩
   .cases y
   .exact⟨_,y⟩) (λ j as ll z=>by
   rcases dH z with ⟨_,y⟩|⟨_,y⟩
   .cases y
   .exact⟨_,y⟩)⟩,λ _ f=>.inl f⟩
  .rcases f with f|rfl
   .exact e.ev.w.d b f
   .rw[q];simp
  .rw[cW] at hj;split at hj
   .rename_i c;subst c;split at hj
    .cases hj;exact⟨.ref a,ev,a,vs,rfl,.inl ⟨.inr rfl,.of q⟩,r.ke up⟩
    .cases hj
   .rename_i c;obtain⟨w,e1,z⟩:=e.ev.sl j t hj;refine⟨w,e1,?_⟩
    cases t with
    |own l'=>
     obtain⟨b,ws,rfl,nf',q',r'⟩:=z;refine⟨b,ws,O,λ z=>?_,q',r'.ke up⟩
     rcases z with z|z
     .exact nf' z
     .subst z;exact c (e.di i j l l' _ hl hj ev e1)
    |obj o=>
     cases o with
     |lls as ll=>
      obtain⟨a0,e2,l0,nd,hl2,hh⟩:=z;refine⟨a0,e2,up.l _ _ l0,nd,hl2,λ jj b ks e3 e4=>?_⟩;obtain⟨nf2,us,q2,r2⟩:=hh jj b ks e3 e4;refine⟨λ y=>?_,us,q2,r2.ke up⟩
      rcases y with y|y
      .exact nf2 y
      .subst y;exact(e.ol j as ll hj).2.1 i l b hl ev (aE e3)
     |_=>exact z
    |_=>exact Rp.ke up z
  .rcases cR h1 with ⟨_,z⟩|⟨n,z⟩
   .cases z
   .exact e.nb j l' b z h2
  .rcases cR h1 with ⟨_,z⟩|⟨n,z⟩
   .cases z
   .rcases cR h2 with ⟨_,z'⟩|⟨n',z'⟩
    .cases z'
    .exact e.di j k l1 l2 w z z' h3 h4
 .exact⟨F,e,λ _ f=>f⟩
def ER.fzC(e:ER K J F0 H0 PN F H σ ρ)(c:Cd):∃F',ER K J F0 H0 PN F' H σ (fzC c ρ)/\∀a,F a->F' a:=by
 cases c<;>first|exact e.fz _|exact⟨F,e,λ _ f=>f⟩
def ER.fzV(c:Cd):∀ {F:Fz}{ρ:En},ER K J F0 H0 PN F H σ ρ->∃F',ER K J F0 H0 PN F' H σ (fzV c ρ)/\∀a,F a->F' a:=by
 induction c with
 |cons a r _ ih=>
  intro F ρ e;obtain⟨F1,e1,u1⟩:=e.fzC a;obtain⟨F2,e2,u2⟩:=ih e1;exact⟨F2,e2,λ b f=>u2 b (u1 b f)⟩
 |_=>intro F ρ e;exact⟨F,e,λ _ f=>f⟩
def ER.mut(hJ:JS J){i:Nat}(e:ER K J F0 H0 PN F H σ ρ)(h:ρ[i]?=Oh (Oh (.own l)))(hs:σ[i]?=Oh (Oh (.ref a)))(r:RpL K F H l' ws):ER K J F0 H0 PN F (Ti H a (.lst ws)) σ (ρ.set i (Oh (.own l')))/\Ke K F H F (Ti H a (.lst ws)):=by
 obtain⟨v,ev,b,vs,rfl,nf,q,_⟩:=e.ev.sl i _ h;rw[hs] at ev;cases ev;have na:H0 a=Oj:=e.nb i l a h hs
 have dom:∀b,H b≠Oj->Ti H a (.lst ws) b≠Oj:=λ b hb=>by
  by_cases c:b=a
  .subst c;rw[bU];simp
  .rw[aA c];exact hb
 have rd:∀b u,(∀vs,u≠.lst vs)->Rd H b u->Rd (Ti H a (.lst ws)) b u:=λ b u n h=>by
  rcases h with h|⟨o,h⟩
  .exact .inl (by rw[aA (λ z=>by subst z;rw[q] at h;cases h;exact n _ rfl)];exact h)
  .exact .inr ⟨o,by rw[aA (λ z=>by subst z;rw[q] at h;cases h)];exact h⟩
 have ke:Ke K F H F (Ti H a (.lst ws)):=⟨λ b vs h=>by
  rcases h with h|h
  .exact .inl (rd _ _ (λ _ z=>by cases z) h)
  .exact .inr h,λ b vs h=>h.imp λ f h=>⟨f,by
  have ba:b≠a:=λ z=>by subst z;exact nf f
  rcases h with h|h
  .refine .inl ?_
   rcases h with h|⟨o,h⟩
   .exact .inl (by rw[aA ba];exact h)
   .exact .inr ⟨o,by rw[aA ba];exact h⟩
  .exact .inr h⟩⟩
 have ilt:i<ρ.length:=(aY.mp h).1
 refine⟨⟨⟨⟨hJ.mu H a vs ws q e.ev.w.j,λ b f=>dom b (e.ev.w.d b f)⟩,λ j t hj=>?_⟩,⟨λ b o n hb=>?_,λ b hb=>dom b (e.gr.dm b hb),e.gr.up,e.gr.nw,hJ.mu H a vs ws q e.ev.w.j,λ b f=>dom b (e.ev.w.d b f)⟩,λ j l1 b h1 h2=>?_,λ j k l1 l2 w h1 h2 h3 h4=>?_,λ p hp=>(e.pn p hp).ke ke,e.ol.sub (λ j l1 z=>by
   rcases cR z with ⟨rfl,_⟩|⟨_,y⟩
   .exact⟨l,h⟩
   .exact⟨_,y⟩) (λ j as ll z=>by
   rcases dH z with ⟨_,y⟩|⟨_,y⟩
   .cases y
   .exact⟨_,y⟩)⟩,ke⟩
 .rw[cW] at hj;split at hj
  .rename_i c;subst c;cases hj;exact⟨.ref a,hs,a,ws,O,nf,bU,r.ke ke⟩
  .rename_i c;obtain⟨w,e1,z⟩:=e.ev.sl j t hj;refine⟨w,e1,?_⟩
   cases t with
   |own l1=>
    obtain⟨b,us,rfl,nf',q',r'⟩:=z;have ba:b≠a:=λ z=>by subst z;exact c (e.di i j l l1 _ h hj hs e1)
    exact⟨b,us,O,nf',by rw[aA ba];exact q',r'.ke ke⟩
   |obj o=>
    cases o with
    |dct l'=>obtain⟨b,e2,q'⟩:=z;exact⟨b,e2,by rw[aA (λ z=>by subst z;rw[q] at q';cases q')];exact q'⟩
    |fn b=>obtain⟨e2,φ,q',kf⟩:=z;exact⟨e2,φ,by rw[aA (λ z=>by subst z;rw[q] at q';cases q')];exact q',kf⟩
    |lls as ll=>
     obtain⟨a0,e2,l0,nd,hl2,hh⟩:=z;refine⟨a0,e2,ke.l _ _ l0,nd,hl2,λ jj b ks e3 e4=>?_⟩;obtain⟨nf2,us,q2,r2⟩:=hh jj b ks e3 e4;exact⟨nf2,us,by rw[aA (λ y=>by subst y;exact(e.ol j as ll hj).2.1 i l b h hs (aE e3))];exact q2,r2.ke ke⟩
   |_=>exact Rp.ke ke z
 .rw[aA (λ z=>by subst z;rw[na] at hb;cases hb)];exact e.gr.sm b o n hb
 .rcases cR h1 with ⟨rfl,_⟩|⟨n,z⟩
  .rw[hs] at h2;cases h2;exact na
  .exact e.nb j l1 b z h2
 .have f:∀(j:Nat) (l:List TV),(ρ.set i (Oh (TV.own l')))[j]?=Oh (Oh (TV.own l))->∃l,ρ[j]?=Oh (Oh (TV.own l)):=λ j l1 h1=>by
   rcases cR h1 with ⟨rfl,_⟩|⟨n,z⟩
   .exact⟨l,h⟩
   .exact⟨l1,z⟩
  obtain⟨m1,z1⟩:=f j l1 h1;obtain⟨m2,z2⟩:=f k l2 h2;exact e.di j k m1 m2 w z1 z2 h3 h4
end
noncomputable def WK:MM->Str
 |.append=> "append" |.insert=> "insert" |.extend Oi=> "__name__" |.extend Ol=> "extend" |.pop=> "pop"
noncomputable def Vu:Expr->Bool
 |.ListComp ..=>Ol|.SetComp ..=>Ol|.DictComp ..=>Ol|.Tuple ..=>Ol|.List ..=>Ol|_=>Oi
noncomputable def Wi(N:List Str)(nm:List (Str×OD))(i:Nat)(x:Str):Bool:=decide (N[i]?=Oh x)&&(decide (nm.lookup x=Oh .local) || decide (nm.lookup x=Oh .cell))
noncomputable def Xh(fs gs:List Str)(N:List Str)(nm:List (Str×OD))(m:MM)(i:Nat)(l:Cd)(e:Expr):Bool:=dy e λ g es w cp=>ou g λ o name ap=>bL o λ x _=>w.isEmpty&&decide (N[i]?=Oh x)&&vs nm x&&Ui x&&decide (name=WK m)&&decide (name ≠ "__name__" /\ ap.endLine=cp.line/\es.length<20)&&ckL fs gs l N nm es
noncomputable def VJ(l:List Ox)(k:List Expr->Expr->Pos->List Ox->Bool):Bool:=match l with|.Assign x p q::l=>k x p q l|_=>Ol
@[elab_as_elim] theorem oH{motive:List Ox->Prop}{l:List Ox}{k:List Expr->Expr->Pos->List Ox->Bool}(h:VJ l k=Oi)(f:∀x p q t,k x p q t=Oi->motive (.Assign x p q::t)):motive l:=by
 cases l with
 |nil=>exact Om h
 |cons a t=>cases a<;>first|exact f _ _ _ _ h|exact Om h
noncomputable def Xi(l:List Ox)(k:Option Expr->Pos->List Ox->Bool):Bool:=match l with|.Return x p::l=>k x p l|_=>Ol
@[elab_as_elim] theorem Hy{motive:List Ox->Prop}{l:List Ox}{k:Option Expr->Pos->List Ox->Bool}(h:Xi l k=Oi)(f:∀x p t,k x p t=Oi->motive (.Return x p::t)):motive l:=by
 cases l with
 |nil=>exact Om h
 |cons a t=>cases a<;>first|exact f _ _ _ h|exact Om h
noncomputable def VL(l:List Ox)(k:Expr->Pos->List Ox->Bool):Bool:=match l with|.Expr x p::l=>k x p l|_=>Ol
@[elab_as_elim] theorem oJ{motive:List Ox->Prop}{l:List Ox}{k:Expr->Pos->List Ox->Bool}(h:VL l k=Oi)(f:∀x p t,k x p t=Oi->motive (.Expr x p::t)):motive l:=by
 cases l with
 |nil=>exact Om h
 |cons a t=>cases a<;>first|exact f _ _ _ h|exact Om h
noncomputable def Xj(l:List Ox)(k:Expr->List Ox->List Ox->Pos->List Ox->Bool):Bool:=match l with|.If x p q r::l=>k x p q r l|_=>Ol
@[elab_as_elim] theorem Hz{motive:List Ox->Prop}{l:List Ox}{k:Expr->List Ox->List Ox->Pos->List Ox->Bool}(h:Xj l k=Oi)(f:∀x p q r t,k x p q r t=Oi->motive (.If x p q r::t)):motive l:=by
 cases l with
 |nil=>exact Om h
 |cons a t=>cases a<;>first|exact f _ _ _ _ _ h|exact Om h
noncomputable def Xk(l:List Ox)(k:Expr->Expr->List Ox->List Ox->Pos->List Ox->Bool):Bool:=match l with|.For x p q r s::l=>k x p q r s l|_=>Ol
@[elab_as_elim] theorem HA{motive:List Ox->Prop}{l:List Ox}{k:Expr->Expr->List Ox->List Ox->Pos->List Ox->Bool}(h:Xk l k=Oi)(f:∀x p q r s t,k x p q r s t=Oi->motive (.For x p q r s::t)):motive l:=by
 cases l with
 |nil=>exact Om h
 |cons a t=>cases a<;>first|exact f _ _ _ _ _ _ h|exact Om h
noncomputable def Xl(l:List Ox)(k:List Ox->List QS->List Ox->List Ox->Pos->List Ox->Bool):Bool:=match l with|.Try x p q r s::l=>k x p q r s l|_=>Ol
def HB(h:Xl l k=Oi):∃x p q r s t,l=.Try x p q r s::t/\k x p q r s t=Oi:=by
 cases l with
 |nil=>exact Om h
 |cons a t=>cases a<;>first|exact⟨_,_,_,_,_,_,rfl,h⟩|exact Om h
section
variable (fs gs:List Str)(N:List Str)(nm:List (Str×OD))
noncomputable def br:Bool->Ct->List Ox->Bool
 |_,.nil,sts=>sts.isEmpty
 |_,.never,_=>Oi
 |_,.ret c,sts=>Xi sts λ e _ _=>(match e with|some e=>ck fs gs c N nm e|none=>Ol)
 |lp,.set i c r,sts=>VJ sts λ ts e _ Tg=>c1 ts λ t=>bL t λ x _=>Wi N nm i x&&ck fs gs c N nm e&&br lp r Tg
 |lp,.sets is c r,sts=>VJ sts λ ts e _ Tg=>c1 ts λ tg=>Vn Oi N nm is tg&&kA tg&&Vu e&&ck fs gs c N nm e&&br lp r Tg
 |lp,.fz _ r,sts=>br lp r sts
 |lp,.ex c r,sts=>VL sts λ e _ Tg=>Vu e&&ck fs gs c N nm e&&br lp r Tg
 |lp,.met m i l r,sts=>VL sts λ e _ Tg=>Xh fs gs N nm m i l e&&br lp r Tg
 |lp,.put i c d r,sts=>VJ sts λ ts e _ Tg=>c1 ts λ t=>kz t λ o y _=>bL o λ x _=>decide (N[i]?=Oh x)&&vs nm x&&Ui x&&jq y&&ck fs gs c N nm y&&ck fs gs d N nm e&&br lp r Tg
 |lp,.ite c a b r,sts=>Xj sts λ t x y _ Tg=>tB' c t&&ck fs gs c N nm t&&br lp a x&&br lp b y&&br lp r Tg
 |lp,.for tg k it b r,sts=>Xk sts λ t iter body els _ Tg=>els.isEmpty&&lp&&Vn Oi N nm tg t&&ckI fs gs it k t N nm iter&&br lp b body&&br lp r Tg
 |lp,.tri b r,sts=>Xl sts λ body hs els fi _ Tg=>!hs.isEmpty&&els.isEmpty&&fi.isEmpty&&br Ol b body&&br lp r Tg
 |lp,.nl i own k it r,sts=>VJ sts λ ts e _ Tg=>c1 ts λ t=>bL t λ x _=>Wi N nm i x&&ck fs gs (.comp own [] [] [0] k it (.lst .nil)) N nm e&&br lp r Tg
 |lp,.pu i j e r,sts=>VL sts λ q _ Tg=>dy q λ g as w cp=>ou g λ o name ap=>kz o λ u v _=>bL u λ x _=>bL v λ z _=>c1 as λ a=>(w.isEmpty&&decide (N[i]?=Oh x/\N[j]?=Oh z/\name="append" /\ ap.endLine=cp.line)&&vs nm x&&Ui x)&&vs nm z&&Ui z&&aX a&&ck fs gs e N nm a&&br lp r Tg
 |lp,.fu _ r,sts=>br lp r sts
 |lp,.xl i f l r,sts=>VL sts λ q _ Tg=>dy q λ g as w cp=>ou g λ o name ap=>bL o λ x _=>c1 as λ u=>dy u λ g2 es w2 _=>bL g2 λ y _=>(w.isEmpty&&w2.isEmpty&&decide (N[i]?=Oh x/\name="extend" /\ ap.endLine=cp.line/\fs[f]?=Oh y)&&vs nm x&&Ui x)&&gl nm y&&Ui y && !es.isEmpty&&ckL fs gs l N nm es&&br lp r Tg
end
section
variable {J:Hp->Prop}{FT:List Tf}{GT:List TV}{fs gs:List Str}{N:List Str}{nm:List (Str×OD)}{F0:Fz}{H0:Hp}{PN:List (TV×V)}
def PSs.imp{st:List Ox}{t t':TS}(h:PSs X st t)(i:∀D σ H,t' D σ H->t D σ H):PSs X st t':=λ Te s σ H D I q=>h Te s σ H D I (i D σ H q)
noncomputable def Wj(K:FG)(J:Hp->Prop)(F0:Fz)(H0:Hp)(PN:List (TV×V))(n:Nat)(P:St->Hp->Prop)(ρ:En):Prop:=∀F' H' σ',ER K J F0 H0 PN F' H' σ' ρ->σ'.length=n->P σ' H'
noncomputable def Xm(K:FG)(J:Hp->Prop)(F0:Fz)(H0:Hp)(P:VK)(t:TV):Prop:=∀F' H' v,Grow J F0 H0 F' H'->Rp K F' H' t v->P v H'
noncomputable def rS(K:FG)(J:Hp->Prop)(FT:List Tf)(GT:List TV)(n:Nat)(F0:Fz)(H0:Hp)(PN:List (TV×V))(c:Ct):TS:=λ D σ H=>∃F ρ,ER K J F0 H0 PN F H σ ρ/\σ.length=n/\wS FT GT c ρ (Wj K J F0 H0 PN n D.nx) (Xm K J F0 H0 D.rt)
def ER.rr{K:FG}{i:Nat}(e:ER K J F0 H0 PN F H σ ρ)(g:Grow J F H F' H')(h:Rr K H F' H' t v)(nb:t.nb=Oi)(hi:i<σ.length):ER K J F0 H0 PN F' H' (σ.set i (Oh v)) (ρ.set i (Oh t)):=by
 cases t with
 |own l=>exact e.own g h hi
 |bor l=>cases nb
 |_=>exact(e.grow g).set h hi
def wX{x:Str}(xs:XS X N nm)(hf:∀x,X.env.scope.names.lookup x=Oh .cell->X.fn x=Oi)(h:Wi N nm i x=Oi):X.N[i]?=Oh x/\UH X.env.scope x/\(X.fn x=Oi\/X.env.scope.names.lookup x=Oh .local)/\i<N.length:=by
 unfold Wi at h;rw[bp,iF] at h;have e:=aC h.1;have lo:UH X.env.scope x:=by unfold UH;rw[xs.nm];exact h.2.imp aC aC
 exact⟨by rw[xs.N];exact e,lo,lo.elim .inr λ z=>.inl (hf x z),(aY.mp e).1⟩
def oK(h:Vu e=Oi):PP e t n env=OF Ol:=by cases e<;>first|rfl|cases h
def HD{own fv:List Str}{js tgs:List Nat}(hJ:JS J)(lt:∀i∈tgs,i<own.length)(h:rE X.K J FT GT (.comp own fv js tgs k it e) σ H Q):gp (rW X.K J FT GT k it) own.length js (Uw X.K tgs) (rE X.K J FT GT e) σ H Q:=by
 obtain⟨F,ρ,ev,w⟩:=h;refine⟨F,ρ,ev,bH it (λ ts w=>gv (λ its w F1 H1 xs Jt g1 rx ok=>?_) w) w⟩;obtain⟨hn,w⟩:=w
 have z:=oE (tc:=λ σ H Q=>Q Oi H) (te:=rE X.K J FT GT e) hJ g1 rx ok ev lt hn (λ t K'=>Ud (UL own js ρ) tgs t λ ρ'=>wE FT GT e ρ' λ y=>(y.nb=Oi/\K' [y.fz])) (λ t K K' h q=>fO (λ ρ' q=>av e (λ y q=>⟨q.1,h _ q.2⟩) q) q) w
  (λ t P x F' H' σ' b ev' sl rt R fin=>oA b ev' rt (λ i hi=>by rw[sl];unfold dw;simp;have:=lt i hi;lia) λ σ2 ρ2 p ev2 sl2 keep=>by
   show if Oi=Oi then _ else _;rw[XT rfl];refine⟨F',ρ2,ev2,av e (λ y ⟨nb,p⟩ F2 H2 v g r=>?_) p⟩;obtain⟨F3,g3,_,_,rp⟩:=r.frz g nb
   exact fin [y.fz] [v] σ2 F3 H2 p (ao _) g3 ⟨v,[],O,rp,O⟩ ((keep _ ev' λ i hi u=>oD (lt i hi) u).grow g3) sl2)
 simpa only[eO] using z
def HE{own fv:List Str}{js tgs:List Nat}(hJ:JS J)(lt:∀i∈tgs,i<own.length)(h:rE X.K J FT GT (.compI own fv js tgs k it c e) σ H Q):jb (rW X.K J FT GT k it) own.length js (Uw X.K tgs) (rT X.K J FT GT c) (rE X.K J FT GT e) σ H Q:=by
 obtain⟨F,ρ,ev,w⟩:=h;refine⟨F,ρ,ev,bH it (λ ts w=>gv (λ its w F1 H1 xs Jt g1 rx ok=>?_) w) w⟩;obtain⟨hn,w⟩:=w
 exact oE (tc:=rT X.K J FT GT c) (te:=rE X.K J FT GT e) hJ g1 rx ok ev lt hn (λ t K'=>Ud (UL own js ρ) tgs t λ ρ'=>wE FT GT c ρ' λ x=>b1 x λ q=>if q=Oi then wE FT GT e ρ' λ y=>(y.nb=Oi/\K' [y.fz]) else K' []) (λ t K K' h q=>fO (λ ρ' q=>av c (λ x q=>cD (λ z q=>by
   split at q
   .rw[XT (by assumption)];exact av e (λ y q=>⟨q.1,h _ q.2⟩) q
   .rw[XR (by assumption)];exact h _ q) q) q) q) w
  (λ t P x F' H' σ' b ev' sl rt R fin=>oA b ev' rt (λ i hi=>by rw[sl];unfold dw;simp;have:=lt i hi;lia) λ σ2 ρ2 p ev2 sl2 keep=>by
   have kp:=keep _ ev' λ i hi u=>oD (own:=own) (js:=js) (ρ:=ρ) (lt i hi) u;refine⟨F',ρ2,ev2,av c (λ x w=>cD (λ q w2 F2 H2 g2=>?_) w) p⟩;split at w2
   .rw[XT (by assumption)];refine⟨F2,ρ2,ev2.grow g2,av e (λ y ⟨nb,p⟩ F3 H3 v g r=>?_) w2⟩;obtain⟨F4,g4,_,_,rp⟩:=r.frz g nb;exact fin [y.fz] [v] σ2 F4 H3 p (ao _) (g2.trans g4) ⟨v,[],O,rp,O⟩ ((kp.grow g2).grow g4) sl2
   .rw[XR (by assumption)]
    exact fin [] [] σ2 F2 H2 w2 (bP _) g2 rfl (kp.grow g2) sl2)
theorem HG{i:Nat}(xo:Tv X J FT GT fs gs)(xs:XS X N nm)(hN:X.N.Nodup)(hi:X.N[i]?=Oh x)(hx:UH X.env.scope x)(hf:X.fn x=Oi\/X.env.scope.names.lookup x=Oh .local)(h:ck fs gs c N nm e=Oi) :
  PS X (.Assign [.Name x p'] e pos) (iT (rE X.K J FT GT c) (cV i)):=by
 have plain:PP e (Oh (.Name x p')) pos.line X.env=OF Ol->PS X (.Assign [.Name x p'] e pos) (iT (rE X.K J FT GT c) (cV i)):=λ hs=>uj hN hi hx (sE c xo xs h) hs hf
 cases e with
 |ListComp elt gens sc lp=>
  cases hb:(X.env.blockKind == .function&&X.env.kindOf x == Oh .local&&p'.line == (Expr.ListComp elt gens sc lp).pos.line && !(sc.names.any λ(n,k)=>n == x&&(k == .local || k == .cell))) with
  |false=>exact plain (by show(OF _:Sem Bool)=_;rw[<- hb])
  |true=>
   have hsw:PP (.ListComp elt gens sc lp) (Oh (.Name x p')) pos.line X.env=OF Oi:=by show(OF _:Sem Bool)=_;rw[<- hb]
   cases c with
   |comp own fv js tgs k it e=>
    obtain⟨_,_,_,_,e1,g⟩:=mf h;cases e1;obtain⟨⟨t,iter,ifs,z⟩,rfl,g'⟩:=iE g;obtain⟨g0,g1,h1,h2,h3,h4,h5⟩:=a7 g';cases (show ifs=[] from rQ.mp g0);cases aC g1;intro Te s σ H D I q;obtain⟨cl,S⟩:=kB I.ok xs h1;have yx:∀(C:On) (ex:List On) (s:Oo) (H:Hp),XS (bz X (own++fv) sc cl C ex s H) (own++fv) (cE nm sc.names):=λ C ex s H=>⟨rfl,S.rel⟩;have lt:∀i∈tgs,i<own.length:=λ i hi=>aC (gq.mp h4 i hi);exact vJ (g:=Uw X.K tgs) (te:=rE X.K J FT GT e) hN hi hx hf xo.calm (sI it k xo xs h2) S.clos S.cell S.kind S.names S.sub S.has S.len S.cap (λ C ex s H=>(iG (X:=bz X (own++fv) sc cl C ex s H) S.nd xo.calm (yx C ex s H) (λ z=>by cases z) h3).1) (λ C ex s H=>sE e (kC xo) (yx C ex s H) h5) hsw (λ x=>ju (jw h2)) Te s σ H D I (HD xo.hJ lt q)
   |compI own fv js tgs k it c e=>
    obtain⟨_,_,_,_,e1,g⟩:=mf h;cases e1;obtain⟨⟨t,iter,ifs,z⟩,rfl,g'⟩:=iE g;obtain⟨cnd,e2,g⟩:=iE g';cases e2;obtain⟨g1,h1,h2,h3,h4,h7,h5,h6⟩:=a8 g;cases aC g1;intro Te s σ H D I q;obtain⟨cl,S⟩:=kB I.ok xs h1;have yx:∀(C:On) (ex:List On) (s:Oo) (H:Hp),XS (bz X (own++fv) sc cl C ex s H) (own++fv) (cE nm sc.names):=λ C ex s H=>⟨rfl,S.rel⟩;have lt:∀i∈tgs,i<own.length:=λ i hi=>aC (gq.mp h4 i hi);exact FN (g:=Uw X.K tgs) (tc:=rT X.K J FT GT c) (te:=rE X.K J FT GT e) hN hi hx hf xo.calm (sI it k xo xs h2) S.clos S.cell S.kind S.names S.sub S.has S.len S.cap (λ C ex s H=>(iG (X:=bz X (own++fv) sc cl C ex s H) S.nd xo.calm (yx C ex s H) (λ z=>by cases z) h3).1) (λ C ex s H=>sE e (kC xo) (yx C ex s H) h6) (λ C ex s H=>sT c (kC xo) (yx C ex s H) h7 h5) hsw (λ x=>ju (jw h2)) Te s σ H D I (HE xo.hJ lt q)
   |_=>exact Om h
 |SetComp|DictComp=>cases c<;>exact Om h
 |_=>exact plain rfl
end
section
variable {pg:Ov}{wd:Ow}{B:Oy}{X0:VS}{z0:Oo}
theorem HH{l b:On}{R:VS}(gl:z0.heap.get? l=Oh { cls:=.type "list",dict:=Oj,data:=.seq xs k,slots:=#[] })(gb:z0.heap.get? b=Oh u)(cb:u.cls=.type "list")(db:u.data=.seq ys n)(fit:xs.size+ys.size<=Oq)
  (fin:R .none { z0 with heap:=z0.heap.update l (Pd (·++ys)) }):Op (Ou pg wd) B (call (.builtin "list.extend") [.ref l,.ref b]) R X0 z0:=by
 refine fJ rX ⟨_,gl,O⟩ PySem.F.entry_list_extend ?_ (PySem.F.args_list_extend_2 _ _);show Op _ _ (OU (.ref l) (.ref b) .none) _ _ z0;unfold OU;refine ae (ig ⟨u,gb,cb⟩ ?_);have one:(Pi (.ref l) (.ref b) || Pq "list" == Pq "list" || Pq "list" == Pq "tuple")=Oi:=on;rw[XT one];refine ae ?_;unfold Tb;refine ae (jg gb db (au ?_));refine ae ?_;refine ae (jg gl rfl (au ?_));have two:¬(!xs.isEmpty&&Pb (xs.size+ys.size))=Oi:=by rw[uU fit,lW];exact bN
 rw[XR two];show Op _ _ (PR l (·++ys) >>= λ _=>ret OW) _ _ z0;refine ae (jV gl rfl ?_ Z (by rw[Array.size_append];lia));exact au ⟨_,O,fin⟩
end
noncomputable def wY(K:FG):V->List V->Hp->VK->Prop:=λ x vs H Q=>∃l b xs zs,x=.ref l/\vs=[.ref b]/\H l=Oh (.lst xs)/\SqL K H b zs/\xs.length+zs.length<=Oq/\Q .non (Ti H l (.lst (xs++zs)))
def wZ:VC X "list.extend" (wY X.K):=by
 intro Te s σ H x vs v us Q I rx rv h;obtain⟨l,b,xs,zs,rfl,rfl,hH,hB,hz,q⟩:=h;cases rx;obtain⟨u,rfl,ru⟩:=cB rv;cases ru;obtain⟨z,its,n,r,hl,e⟩:=I.lstM hH;obtain⟨its2,r2,⟨o2,n2,g2,c2,_,d2⟩,hz2⟩:=I.list hB;have hl2:=r2.length;refine HH e g2 c2 d2 (by simp only[aZ];lia) ?_;refine⟨.non,_,I.lset (its':=its++its2) hH e on (r.append r2) ?_,O,q⟩;rw[aF];lia
section
variable {J:Hp->Prop}{FT:List Tf}{GT:List TV}{fs gs:List Str}{N:List Str}{nm:List (Str×OD)}{F0:Fz}{H0:Hp}{PN:List (TV×V)}
noncomputable def rM(K:FG)(J:Hp->Prop)(FT:List Tf)(GT:List TV)(F0:Fz)(H0:Hp)(PN:List (TV×V))(m:MM)(i:Nat)(l:Cd):TE:=λ σ H Q=>∃F ρ,ER K J F0 H0 PN F H σ ρ/\gA ρ[i]? λ xs=>wL FT GT l ρ λ ts=>VI m xs ts λ y ys=>∀F' H' v,ER K J F0 H0 PN F' H' σ (ρ.set i (Oh (.own ys)))->Rp K F' H' y v->Q v H'
def ER.at_{K:FG}{i:Nat}(e:ER K J F0 H0 PN F H σ ρ)(h:ρ[i]?=Oh (Oh (.own l))):∃a vs,σ[i]?=Oh (Oh (.ref a))/\H a=Oh (.lst vs)/\RpL K F H l vs:=by
 obtain⟨v,e1,a,vs,rfl,_,q,r⟩:=e.ev.sl i _ h;exact⟨a,vs,e1,q,r⟩
def rl2{K:FG}{t u:TV}{vs:List V}(h:RpL K F H [t,u] vs):∃x y,vs=[x,y]/\Rp K F H t x/\Rp K F H u y:=by
 obtain⟨x,r,rfl,h1,y,r',rfl,h2,rfl⟩:=h;exact⟨x,y,O,h1,h2⟩
def rl1{K:FG}{t:TV}{vs:List V}(h:RpL K F H [t] vs):∃x,vs=[x]/\Rp K F H t x:=by
 obtain⟨x,r,rfl,h1,rfl⟩:=h;exact⟨x,O,h1⟩
def RpL.dropLast{K:FG}{vs:List V}(h:RpL K F H l vs):RpL K F H l.dropLast vs.dropLast:=by
 rw[xa,xa,<- h.length];exact h.take _
def RpL.eraseIdx{K:FG}{vs:List V}(h:RpL K F H l vs)(k:Nat):RpL K F H (l.eraseIdx k) (vs.eraseIdx k):=by
 rw[jx,jx];exact(h.take k).append (h.drop _)
theorem HI(hJ:JS J){i:Nat}{Q:VK}(e:ER X.K J F0 H0 PN F H σ ρ)(h:ρ[i]?=Oh (Oh (.own l)))(ha:σ[i]?=Oh (Oh (.ref a)))(g:Grow J F H F1 H1)(r:RrL X.K H F1 H1 ts ws)
  (w:VI m l ts λ y ys=>∀F' H' v,ER X.K J F0 H0 PN F' H' σ (ρ.set i (Oh (.own ys)))->Rp X.K F' H' y v->Q v H') :
  (m=.append/\nC (.ref a) ws H1 Q)\/(m=.insert/\nZ (.ref a) ws H1 Q)\/(∃b,m=.extend b/\∃c vs zs,ws=[.ref c]/\VD X.K b H1 c zs/\H1 a=Oh (.lst vs)/\vs.length+zs.length<=Oq/\Q .non (Ti H1 a (.lst (vs++zs))))\/(m=.pop/\nD (.ref a) ws H1 Q)\/(m=.pop/\lJ (.ref a) ws H1 Q):=by
 rcases ts with _|⟨t,_|⟨u,_|⟨z,rr⟩⟩⟩
 .cases m with
  |pop=>
   cases r;obtain⟨y,ey,w⟩:=w;have e1:=e.grow g;obtain⟨b,vs,eb,q,rl⟩:=e1.at_ h;rw[ha] at eb;cases eb;obtain⟨v,ev,rv⟩:=rl.get ey;obtain⟨em,ke⟩:=e1.mut hJ h ha rl.dropLast;exact .inr (.inr (.inr (.inl ⟨O,a,vs,v,O,O,q,by rw[<- rl.length];exact ev,w _ _ _ em (rv.ke ke)⟩)))
  |_=>exact w.elim
 .cases m with
  |append=>
   obtain⟨nb,lz,w⟩:=w;obtain⟨F2,g2,_,r2⟩:=gz g r (by rw[cP,nb];rfl);obtain⟨x,rfl,rx⟩:=rl1 r2;have e1:=e.grow g2;obtain⟨b,vs,eb,q,rl⟩:=e1.at_ h;rw[ha] at eb;cases eb;obtain⟨em,ke⟩:=e1.mut hJ h ha (rl.append (show RpL X.K F2 H1 [t.fz] [x] from ⟨x,[],rfl,rx,rfl⟩));exact .inl ⟨O,a,vs,x,O,O,q,by rw[<- rl.length];exact lz,w _ _ _ em rfl⟩
  |extend bb=>
   obtain⟨nb,w⟩:=w;obtain⟨mm,em',lz,w⟩:=oC w;have e1:=e.grow g;obtain⟨b,vs,eb,q,rl⟩:=e1.at_ h;rw[ha] at eb;cases eb;obtain⟨x,rfl,rt⟩:=kw r;obtain⟨c,zs,rfl,qc,rz⟩:=rt.vw.b em';obtain⟨em,ke⟩:=e1.mut hJ h ha (rl.append rz);exact .inr (.inr (.inl ⟨bb,O,c,vs,zs,O,qc,q,by rw[<- rl.length,<- rz.length];exact lz,w _ _ _ em rfl⟩))
  |pop=>
   obtain⟨k,rfl,c,n,y,e2,ey,w⟩:=gx w;obtain⟨x,rfl,rt⟩:=kw r;cases rt;have e1:=e.grow g;obtain⟨b,vs,eb,q,rl⟩:=e1.at_ h;rw[ha] at eb;cases eb;obtain⟨v,ev,rv⟩:=rl.get ey;obtain⟨em,ke⟩:=e1.mut hJ h ha (rl.eraseIdx n);exact .inr (.inr (.inr (.inr ⟨O,a,vs,k,n,v,O,O,q,c.1,c.2,by rw[<- rl.length];exact e2,ev,w _ _ _ em (rv.ke ke)⟩)))
  |_=>exact w.elim
 .cases m with
  |insert=>
   obtain⟨k,rfl,nb,c,lz,w⟩:=gx w;obtain⟨F2,g2,_,r2⟩:=gz g r (by rw[cP,cP,nb];rfl);obtain⟨x,y,rfl,rx,ry⟩:=rl2 r2;cases rx;have e1:=e.grow g2;obtain⟨b,vs,eb,q,rl⟩:=e1.at_ h;rw[ha] at eb;cases eb;obtain⟨em,ke⟩:=e1.mut hJ h ha ((rl.take k.toNat).append (show RpL X.K F2 H1 (u.fz::l.drop k.toNat) (y::vs.drop k.toNat) from ⟨y,_,rfl,ry,rl.drop _⟩));exact .inr (.inl ⟨O,a,vs,k,y,O,O,q,c.1,by rw[<- rl.length];exact c.2,by rw[<- rl.length];exact lz,w _ _ _ em rfl⟩)
  |_=>exact w.elim
 .cases m<;>exact w.elim
def HJ{i:Nat}{p ap cp:Pos}{es:List Expr}(xo:Tv X J FT GT fs gs)(xs:XS X N nm)(h1:N[i]?=Oh x)(h2:vs nm x=Oi)(h3:Ui x=Oi)(h0:WK m ≠ "__name__")(h5:ap.endLine=cp.line)(h6:es.length<20)(h7:ckL fs gs l N nm es=Oi):PE X (.Call (.Attribute (.Name x p) (WK m) ap) es [] cp) (rM X.K J FT GT F0 H0 PN m i l):=by
 obtain⟨d1,d2,_⟩:=dW h3;have hv:PE X (.Name x p) (cj i):=gG (by rw[xs.N];exact h1) (gR xs h2) d1 d2;have hl:=beq_iff_eq.mpr h5;have st:=iI h7;have ha:=sL l xo xs h7
 have rd:∀ {r:V->List V->Hp->VK->Prop}{σ:St}{H:Hp}{Q:VK},rM X.K J FT GT F0 H0 PN m i l σ H Q->(∀ {a ws H1},((m=.append/\nC (.ref a) ws H1 Q)\/(m=.insert/\nZ (.ref a) ws H1 Q)\/(∃b,m=.extend b/\∃c vs zs,ws=[.ref c]/\VD X.K b H1 c zs/\H1 a=Oh (.lst vs)/\vs.length+zs.length<=Oq/\Q .non (Ti H1 a (.lst (vs++zs))))\/(m=.pop/\nD (.ref a) ws H1 Q)\/(m=.pop/\lJ (.ref a) ws H1 Q))->r (.ref a) ws H1 Q) ->
   ∃a,σ[i]?=Oh (Oh (.ref a))/\(VY X.K "list" (.ref a) H)/\rA X.K J FT GT l σ H λ ws H1=>r (.ref a) ws H1 Q:=λ {r σ H Q} ⟨F,ρ,e,w⟩ hr=>by
  obtain⟨ys,hy,w⟩:=mq w;obtain⟨a,vs,ea,q,_⟩:=e.at_ hy;exact⟨a,ea,.inl ⟨O,vs,.of q⟩,F,ρ,e.ev,bH l (λ ts w F1 H1 ws g r=>hr (HI xo.hJ e hy ea g r w)) w⟩
 have tv:∀ {σ:St}{H:Hp}{P:VK}{a:On},σ[i]?=Oh (Oh (.ref a))->P (.ref a) H->cj i σ H P:=λ {σ H P a} e p=>by unfold cj;rw[e];exact p
 cases es with
 |nil=>
  cases m with
  |pop=>
   refine(Dk (apos:=ap) (cpos:=cp) jy xc xg Dm hv rfl hl).imp λ σ H Q q=>?_
   have l0:l=.nil:=by cases l<;>first|rfl|exact Om h7
   subst l0
   obtain⟨a,ea,ty,F,ρ,ev,w⟩:=rd (r:=λ x ws H Q=>ws=[]->nD x [] H Q) q (λ h z=>by
    subst z
    rcases h with ⟨z,_⟩|⟨z,_⟩|⟨_,z,_⟩|⟨_,h⟩|⟨_,h⟩
    .cases z
    .cases z
    .cases z
    .exact h
    .obtain⟨_,_,_,_,_,_,z,_⟩:=h;cases z)
   exact tv ea ⟨ty,w F H [] (.refl ev.w) .nil rfl⟩
  |append|insert=>
    intro Te s σ H Q I q
    have l0:l=.nil:=by cases l<;>first|rfl|exact Om h7
    subst l0;obtain⟨F,ρ,e,w⟩:=q;obtain⟨_,_,w⟩:=mq w;exact w.elim
  |extend b=>
   cases b with
   |true=>exact XU rfl h0
   |false=>
    intro Te s σ H Q I q
    have l0:l=.nil:=by cases l<;>first|rfl|exact Om h7
    subst l0;obtain⟨F,ρ,e,w⟩:=q;obtain⟨_,_,w⟩:=mq w;exact w.elim
 |cons y es=>
  have sy:aX y=Oi:=by rw[cP,bp] at st;exact st.1
  have ss:es.all aX=Oi:=by rw[cP,bp] at st;exact st.2
  cases m with
  |append=>
   refine(jS (apos:=ap) (cpos:=cp) jy xh xj uV hv ha rfl (kD st h6) hl (bj sy) (fQ ss)).imp λ σ H Q q=>?_
   obtain⟨a,ea,ty,w⟩:=rd (r:=nC) q (λ h=>by
    rcases h with ⟨_,h⟩|⟨z,_⟩|⟨_,z,_⟩|⟨z,_⟩|⟨z,_⟩
    .exact h
    all_goals cases z)
   exact tv ea ⟨ty,w⟩
  |insert=>
   refine(jS (apos:=ap) (cpos:=cp) jy PySem.F.slot_list_insert PySem.F.type_list_insert FF hv ha rfl (kD st h6) hl (bj sy) (fQ ss)).imp λ σ H Q q=>?_
   obtain⟨a,ea,ty,w⟩:=rd (r:=nZ) q (λ h=>by
    rcases h with ⟨z,_⟩|⟨_,h⟩|⟨_,z,_⟩|⟨z,_⟩|⟨z,_⟩
    .cases z
    .exact h
    all_goals cases z)
   exact tv ea ⟨ty,w⟩
  |pop=>
   refine(jS (apos:=ap) (cpos:=cp) jy xc xg EY hv ha rfl (kD st h6) hl (bj sy) (fQ ss)).imp λ σ H Q q=>?_
   obtain⟨a,ea,ty,w⟩:=rd (r:=λ x ws H Q=>ws≠[]->lJ x ws H Q) q (λ h n=>by
    rcases h with ⟨z,_⟩|⟨z,_⟩|⟨_,z,_⟩|⟨_,h⟩|⟨_,h⟩
    .cases z
    .cases z
    .cases z
    .obtain⟨_,_,_,_,z,_⟩:=h;exact XU z n
    .exact h)
   refine tv ea ⟨ty,?_⟩;obtain⟨F,ρ,ev,w⟩:=w;refine⟨F,ρ,ev,?_⟩
   cases l with
   |cons b r=>exact av b (λ t w=>bH r (λ ts w F' H' vs g rr=>w F' H' vs g rr (λ z=>by subst z;cases rr)) w) w
   |_=>exact Om h7
  |extend b=>
   cases b with
   |true=>exact XU rfl h0
   |false=>
    refine(jS (apos:=ap) (cpos:=cp) jy rX xk wZ hv ha rfl (kD st h6) hl (bj sy) (fQ ss)).imp λ σ H Q q=>?_
    obtain⟨a,ea,ty,w⟩:=rd (r:=wY X.K) q (λ {a ws H1} h=>by
     rcases h with ⟨z,_⟩|⟨z,_⟩|⟨bb,z,c,vs,zs,e1,e2,e3,e4,e5⟩|⟨z,_⟩|⟨z,_⟩
     .cases z
     .cases z
     .cases z;exact⟨a,c,vs,zs,O,e1,e3,e2,e4,e5⟩
     all_goals cases z)
    exact tv ea ⟨ty,w⟩
def HK(xo:Tv X J FT GT fs gs)(xs:XS X N nm)(h:Xh fs gs N nm m i l e=Oi):PE X e (rM X.K J FT GT F0 H0 PN m i l)/\Vu e=Oi:=by
 refine dG h λ g es w cp k1=>?_;refine rC k1 λ o name ap k2=>?_;refine bA k2 λ x p k3=>?_;obtain⟨z0,h1,h2,h3,z1,z2,h7⟩:=a7 k3;refine dn z0 ?_;cases aC z1;obtain⟨h0,h5,h6⟩:=aC z2;exact⟨HJ xo xs (aC h1) h2 h3 h0 h5 h6 h7,O⟩
noncomputable def rXl(K:FG)(J:Hp->Prop)(FT:List Tf)(GT:List TV)(F0:Fz)(H0:Hp)(PN:List (TV×V))(i f:Nat)(l:Cd):TE:=λ σ H Q=>∃F ρ,ER K J F0 H0 PN F H σ ρ/\gA ρ[i]? λ xs=>wL FT GT l ρ λ ts=>∃P,(∃S,FT[f]?=Oh S/\S (ts.map .fz) P)/\∀t,P t->∃m,t=.lst m/\(∀x∈m,LF x)/\xs.length+m.length<=Oq/\∀F' H',ER K J F0 H0 PN F' H' σ (ρ.set i (Oh (.own (xs++m))))->Q .non H'
def HL{i f:Nat}{a:Expr}{es:List Expr}{p ap cp p2 p3:Pos}(xo:Tv X J FT GT fs gs)(xs:XS X N nm)(h1:N[i]?=Oh x)(h2:vs nm x=Oi)(h3:Ui x=Oi)(hl:ap.endLine=cp.line)(hf:fs[f]?=Oh y)(hg:gl nm y=Oi)(ho:Ui y=Oi)(h7:ckL fs gs l N nm (a::es)=Oi):PE X (.Call (.Attribute (.Name x p) "extend" ap) [.Call (.Name y p2) (a::es) [] p3] [] cp) (rXl X.K J FT GT F0 H0 PN i f l):=by
 obtain⟨d1,d2,_⟩:=dW h3;have hv:PE X (.Name x p) (cj i):=gG (by rw[xs.N];exact h1) (gR xs h2) d1 d2;have fo:=kD (e:=.Call (.Name y p2) (a::es) [] p3) (es:=[]) (env:=X.env) (cp:=cp) rfl (show 1<20 by decide);have st:=iI h7;rw[cP,bp] at st;obtain⟨S,eS⟩:∃S,FT[f]?=Oh S:=fP (bG (aY.mp hf).1 xo.len);obtain⟨k,ps,hr,c⟩:=xo.fns f y S hf eS;have ha:=da (qF (p:=p2) (pos:=p3) c hr (UK xs hg) qC (sL l xo xs h7) (dW ho).1 (bj st.1) (fQ st.2)) pa_nil rfl;refine(jS (apos:=ap) (cpos:=cp) jy rX xk wZ hv ha rfl fo (beq_iff_eq.mpr hl) rfl rfl).imp λ σ H Q ⟨F,ρ,er,w⟩=>?_;obtain⟨ls,hy,w⟩:=mq w;obtain⟨b,vs,ea,q,_⟩:=er.at_ hy;unfold WB cj;rw[ea];refine⟨.inl ⟨O,vs,.of q⟩,F,ρ,er.ev,bH l (λ ts w F1 H1 us g1 r1=>?_) w⟩;obtain⟨P,⟨S',e',sp⟩,w⟩:=w;rw[eS] at e';cases e';rw[ef];obtain⟨F2,w2,r2⟩:=wN g1.w r1;refine⟨F2,_,P,w2,r2,sp,λ t pt F' H' v g' r'=>?_⟩;obtain⟨m,rfl,lf,lz,w⟩:=w t pt;have gg:Grow J F1 H1 F1 H':=⟨g'.sm,g'.dm,λ _ h=>h,λ _ h=>.inl h,g'.w.j,λ b f=>g'.dm b (g1.w.d b f)⟩;have e1:=(er.grow g1).grow gg;obtain⟨b',xs',eb,qb,rl⟩:=e1.at_ hy;rw[ea] at eb;cases eb;obtain⟨cc,zs,rfl,qc,rz⟩:=(Rr.of (H:=H) r').vw.b (show(TV.lst m).items=Oh (Ol,m) from rfl);have rz':RpL X.K F1 H' m zs:=LF.rpl lf rz;obtain⟨em,ke⟩:=e1.mut xo.hJ hy ea (rl.append rz');exact⟨b,cc,xs',zs,O,O,qb,qc,by rw[<- rl.length,<- rz'.length];exact lz,w _ _ em⟩
end
section
variable {J:Hp->Prop}{FT:List Tf}{GT:List TV}{fs gs:List Str}{N:List Str}{nm:List (Str×OD)}{F0:Fz}{H0:Hp}
theorem HM{K:QB}{ts its:List TV}{n:Nat}{D:UI}{tb:TS}(b:TV->En->(En->Prop)->Prop)(P:En->Prop)
  (e1:ER K J F0 H0 PN F1 H1 σ ρ) (sl:σ.length=n) (rx:RpL K F1 H1 (ts.map TV.fz) xs) (ok:TU K J Jt its ts xs) (w:UU b its ρ P) (fin:∀ρ',P ρ'->Wj K J F0 H0 PN n D.nx ρ')
  (st:∀t ρ' F' H' σ' x (Q:En->Prop) (D':UI),b t ρ' Q->ER K J F0 H0 ((ts.map TV.fz).zip xs++PN) F' H' σ' ρ'->σ'.length=n->Rp K F' H' t x->D'.rt=D.rt->(∀ρ2,Q ρ2->Wj K J F0 H0 ((ts.map TV.fz).zip xs++PN) n D'.nx ρ2)->Uw K tgs x σ' H' λ σ2 H2=>tb D' σ2 H2) :
  ∃W:Nat->Nat->St->Hp->Prop,(∃m,W 0 m σ H1)/\∀i m σ H,W i m σ H ->
   (Jt.stop i H/\D.nx σ H)\/(Jt.go i H/\∃N:St->Hp->Prop,(∀σ' H',N σ' H'->∃m',m'<m/\W (i+1) m' σ' H')/\∀x H',Jt.yld i H x H'->Uw K tgs x σ H' λ σ2 H2=>tb { D with nx:=N,ct:=N,bk:=D.nx } σ2 H2):=by
 have zl:(ts.map TV.fz).length=xs.length:=rx.length
 have pin0:∀p∈(ts.map TV.fz).zip xs,Rp K F1 H1 p.1 p.2:=by
  intro p hp;obtain⟨i,hi⟩:=mx hp;rw[wG] at hi;obtain⟨v,ev,rv⟩:=rx.get hi.1;rw[hi.2] at ev;cases ev;exact rv
 have vw:∀ {F:Fz}{H:Hp}{σ:St}{ρ:En},ER K J F0 H0 ((ts.map TV.fz).zip xs++PN) F H σ ρ->Pv (Vw K F H) ts xs:=λ {F H σ ρ} e=>by
  have f:=e.pn;clear rx ok w fin st pin0 e1
  revert xs
  induction ts with
  |nil=>intro xs zl e f;cases xs with|nil=>exact .nil|cons x xs=>simp at zl
  |cons t ts ih=>
   intro xs zl e f
   cases xs with
   |nil=>simp at zl
   |cons x xs=>
    refine .cons (Rp.vw (f (t.fz,x) on)) (ih (by simpa using zl) ⟨e.ev,e.gr,e.nb,e.di,λ p hp=>f p (by
     rw[cO,s1c,nT]
     exact aW _ hp),e.ol⟩ λ p hp=>f p (by
     rw[cO,s1c,nT]
     exact aW _ hp))
 refine⟨λ i m σ H=>i≤its.length/\m=its.length - i/\∃F ρ,ER K J F0 H0 ((ts.map TV.fz).zip xs++PN) F H σ ρ/\σ.length=n/\UU b (its.drop i) ρ P,
  ⟨_,bP _,rfl,F1,ρ,⟨e1.ev,e1.gr,e1.nb,e1.di,λ p hp=>(bY.mp hp).elim (pin0 p) (e1.pn p),e1.ol⟩,sl,w⟩,?_⟩
 rintro i m σ H ⟨hi,rfl,F,ρ,e,s,w⟩;have v:=vw e;by_cases c:i<its.length
 .refine .inr ⟨ok.go F H i e.ev.w v c,λ σ' H'=>∃F ρ,ER K J F0 H0 ((ts.map TV.fz).zip xs++PN) F H' σ' ρ/\σ'.length=n/\UU b (its.drop (i+1)) ρ P,λ σ' H' q=>⟨_,Z,c,O,q⟩,λ x H' y=>?_⟩;obtain⟨t,et,gy,rt⟩:=ok.yld F H i x H' e.ev.w v c y
  have ed:its.drop i=t::its.drop (i+1):=by
   rw[rO c]
   congr 1
   rw[bc c] at et;exact bv et
  rw[ed] at w;exact st t ρ F H' σ x _ _ w (e.grow gy) s rt rfl λ ρ2 q F2 H2 σ2 e2 s2=>⟨F2,ρ2,e2,s2,q⟩
 .have ei:i=its.length:=by lia
  subst ei;rw[rP] at w;refine .inl ⟨ok.stop F H e.ev.w v,fin ρ w F H σ ⟨e.ev,e.gr,e.nb,e.di,λ p hp=>e.pn p (bK _ hp),e.ol⟩ s⟩
theorem HN{K:FG}{own:List Str}{Q:VK}{R:List On->Prop}(hJ:JS J)(e:EV K J F H σ ρ)(w:wL FT GT it ρ λ ts=>Ve k ts λ its=>its.length<Oq/\∀as:List On,as.Nodup->as.length=its.length->R as)
  (fin:∀as F' H' a0,R as->as.Nodup->Grow J F H F' H'->H a0=Oj->¬F' a0->H' a0=Oh (.lst (as.map V.ref))->(∀a∈as,H a=Oj/\¬F' a/\H' a=Oh (.lst []))->a0 ∉ as->Q (.ref a0) H'):gp (rW K J FT GT k it) own.length [] (Uw K [0]) (iX iW) σ H Q:=by
 refine⟨F,ρ,e,bH it (λ ts w=>gv (λ its w F1 H1 xs Jt g1 rx ok=>?_) w) w⟩;obtain⟨hn,w⟩:=w;refine⟨λ i m ys σ' H'=>i<=its.length/\m=its.length-i/\∃F' as,Grow J F1 H1 F' H'/\ys=as.map V.ref/\as.length=i/\as.Nodup/\∀a∈as,H1 a=Oj/\¬F' a/\H' a=Oh (.lst []),⟨_,bP _,O,F1,[],.refl g1.w,O,O,.nil,λ a ha=>nomatch ha⟩,?_⟩;rintro i m ys σ' H' ⟨hi,rfl,F',as,g',rfl,al,nd,ha⟩;have vw:Pv (Vw K F' H') ts xs:=Paired.mapP (rx.grow g') λ _ _ r=>r.vw;by_cases c:i<its.length
 .refine .inr ⟨ok.go F' H' i g'.w vw c,by rw[ag];lia,λ zs σ2 H2=>∃F2 as2,Grow J F1 H1 F2 H2/\zs=as2.map V.ref/\as2.length=i+1/\as2.Nodup/\∀a∈as2,H1 a=Oj/\¬F2 a/\H2 a=Oh (.lst []),λ zs σ2 H2 ⟨F2,as2,q⟩=>⟨_,Z,c,O,F2,as2,q⟩,λ x H2 y=>?_⟩;obtain⟨t,et,gy,rt⟩:=ok.yld F' H' i x H2 g'.w vw c y;refine⟨bP _,λ p hp=>?_⟩;have g2:=gy.trans (Grow.new hJ gy.w (.lst []) hp);have np:∀a∈as,a≠p:=λ a h z=>by have:=gy.sm _ _ (λ ps z=>by cases z) (ha a h).2.2;rw[z,hp] at this;cases this
  refine⟨F',as++[p],g'.trans g2,by rw[aG];rfl,by rw[aF,al];rfl,List.nodup_append.mpr ⟨nd,gi.mpr ⟨on,List.nodup_nil⟩,λ a h b hb=>by cases aI.mp hb;exact np a h⟩,λ a hm=>?_⟩
  rcases bY.mp hm with h|h
  .obtain⟨z1,z2,z3⟩:=ha a h;exact⟨z1,z2,g2.sm _ _ (λ ps z=>by cases z) z3⟩
  .cases aI.mp h;exact⟨(g'.trans gy).none hp,λ f=>gy.w.d _ f hp,bU⟩
 .have e:i=its.length:=by lia
  refine .inl ⟨e ▸ ok.stop F' H' g'.w vw,λ p hp=>?_⟩;have np:∀a∈as,a≠p:=λ a h z=>by have:=(ha a h).2.2;rw[z,hp] at this;cases this
  exact fin as F' _ p (w as nd Z) nd ((g1.trans g').trans (.new hJ g'.w _ hp)) ((g1.trans g').none hp) (λ f=>g'.w.d _ f hp) bU (λ a h=>⟨g1.none (ha a h).1,(ha a h).2.1,by rw[aA (np a h)];exact(ha a h).2.2⟩) λ h=>np p h rfl
def xn(h:rR ρ=Oi){k:Nat}(e:ρ[k]?=Oh (Oh (.obj (.lls as ll)))):False:=by
 have:=gq.mp h _ (aE e);cases this
theorem ER.setL{K:FG}{i:Nat}{as:List On}(e:ER K J F0 H0 PN F H σ ρ)(no:rR ρ=Oi)(g:Grow J F H F' H')(n0:H a0=Oj)(nf0:¬F' a0)(q0:H' a0=Oh (.lst (as.map V.ref)))(nd:as.Nodup)(ha:∀a∈as,H a=Oj/\¬F' a/\H' a=Oh (.lst []))(na:a0 ∉ as)(hi:i<σ.length) :
  ER K J F0 H0 PN (λ b=>F' b\/b=a0) H' (σ.set i (Oh (.ref a0))) (ρ.set i (Oh (.obj (.lls as (Os as.length []))))):=by
 have eg:=e.grow (g.frz n0 (by rw[q0];simp));refine⟨⟨eg.ev.w,λ j t hj=>?_⟩,eg.gr,λ j l' b h1 h2=>?_,λ j k l1 l2 w h1 h2 h3 h4=>?_,eg.pn,λ k as' ll' z=>?_⟩
 .rw[cW] at hj;split at hj
  .rename_i c;subst c;split at hj
   .cases hj;refine⟨.ref a0,by rw[cW];simp[hi],a0,O,.inl ⟨.inr rfl,.of q0⟩,nd,on,λ jj a ks e1 e2=>?_⟩;have m:=aE e1;obtain⟨_,z2,z3⟩:=ha a m;rw[fI] at e2;split at e2
    .cases e2;refine⟨λ y=>?_,[],z3,O⟩
     rcases y with y|y
     .exact z2 y
     .subst y;exact na m
    .cases e2
   .cases hj
  .rename_i c;obtain⟨w,e1,z⟩:=eg.ev.sl j t hj;exact⟨w,by rw[dz c];exact e1,z⟩
 .rcases cR h1 with ⟨_,z⟩|⟨n,z⟩
  .cases z
  .rw[dz n] at h2;exact e.nb j l' b z h2
 .rcases cR h1 with ⟨_,z⟩|⟨n,z⟩
  .cases z
  .rcases cR h2 with ⟨_,z'⟩|⟨n',z'⟩
   .cases z'
   .rw[dz n] at h3;rw[dz n'] at h4;exact e.di j k l1 l2 w z z' h3 h4
 .rcases dH z with ⟨rfl,y⟩|⟨n,y⟩
  .cases y;refine⟨λ a h=>e.gr.none (ha a h).1,λ j l b e1 e2 hb=>?_,λ j as' ll' e1=>?_⟩
   .rcases dH e1 with ⟨_,y⟩|⟨m,y⟩
    .cases y
    .rw[dz m] at e2;obtain⟨v,e3,b',ws,rfl,_,qb,_⟩:=e.ev.sl j _ y;rw[e2] at e3;cases e3;rw[(ha b hb).1] at qb;cases qb
   .rcases dH e1 with ⟨y,_⟩|⟨m,y⟩
    .exact y.symm
    .exact(xn no y).elim
  .exact(xn no y).elim
def HP{K:FG}{F:Fz}{H:Hp}{vs ws:List V}(nf:¬F a)(q:H a=Oh (.lst vs)):Ke K F H F (Ti H a (.lst ws)):=by
 have rd:∀b u,(∀vs,u≠.lst vs)->Rd H b u->Rd (Ti H a (.lst ws)) b u:=λ b u n h=>by
  rcases h with h|⟨o,h⟩
  .exact .inl (by rw[aA (λ z=>by subst z;rw[q] at h;cases h;exact n _ rfl)];exact h)
  .exact .inr ⟨o,by rw[aA (λ z=>by subst z;rw[q] at h;cases h)];exact h⟩
 exact⟨λ b vs h=>by
  rcases h with h|h
  .exact .inl (rd _ _ (λ _ z=>by cases z) h)
  .exact .inr h,λ b vs h=>h.imp λ f h=>⟨f,by
  have ba:b≠a:=λ z=>by subst z;exact nf f
  rcases h with h|h
  .refine .inl ?_
   rcases h with h|⟨o,h⟩
   .exact .inl (by rw[aA ba];exact h)
   .exact .inr ⟨o,by rw[aA ba];exact h⟩
  .exact .inr h⟩⟩
theorem ER.push{K:FG}{i n:Nat}(hJ:JS J)(e:ER K J F0 H0 PN F H σ ρ)(hi:ρ[i]?=Oh (Oh (.obj (.lls as ll))))(eb:as[n]?=Oh b)(hn:ll[n]?=Oh l)(q:H b=Oh (.lst us))(r:RpL K F H (l.map kT) us)(rv:Rp K F H (kT ks) v) :
  ER K J F0 H0 PN F (Ti H b (.lst (us++[v]))) σ (ρ.set i (Oh (.obj (.lls as (ll.set n (l++[ks])))))):=by
 obtain⟨o1,o2,o3⟩:=e.ol i as ll hi;have bm:=aE eb;obtain⟨v0,ev0,a0,e0,l0,nd,hl,hh⟩:=e.ev.sl i _ hi;have nf:=(hh n b l eb hn).1;have ke:Ke K F H F (Ti H b (.lst (us++[v]))):=HP nf q
 have dom:∀c,H c≠Oj->Ti H b (.lst (us++[v])) c≠Oj:=λ c hc=>by
  by_cases z:c=b
  .subst z;rw[bU];simp
  .rw[aA z];exact hc
 have f:∀(j:Nat) (m:List TV),(ρ.set i (Oh (.obj (.lls as (ll.set n (l++[ks]))))))[j]?=Oh (Oh (TV.own m))->ρ[j]?=Oh (Oh (TV.own m)):=λ j m h1=>by
  rcases cR h1 with ⟨_,y⟩|⟨_,z⟩
  .cases y
  .exact z
 refine⟨⟨⟨hJ.mu H b us _ q e.ev.w.j,λ c f=>dom c (e.ev.w.d c f)⟩,λ j t hj=>?_⟩,⟨λ c o nt hc=>by rw[aA (λ z=>by subst z;rw[o1 c bm] at hc;cases hc)];exact e.gr.sm c o nt hc,λ c hc=>dom c (e.gr.dm c hc),e.gr.up,e.gr.nw,hJ.mu H b us _ q e.ev.w.j,λ c f=>dom c (e.ev.w.d c f)⟩,λ j m c h1 h2=>e.nb j m c (f j m h1) h2,λ j k m1 m2 w h1 h2 h3 h4=>e.di j k m1 m2 w (f j m1 h1) (f k m2 h2) h3 h4,λ p hp=>(e.pn p hp).ke ke,e.ol.sub (λ j m z=>⟨m,f j m z⟩) λ j as' ll' z=>?_⟩
 .rcases dH hj with ⟨rfl,y⟩|⟨c,y⟩
  .subst y;refine⟨v0,ev0,a0,e0,ke.l _ _ l0,nd,by rw[dE];exact hl,λ jj a ks' e1 e2=>?_⟩;by_cases z:jj=n
   .subst z;rw[eb] at e1;cases e1;rw[iR (aY.mp hn).1] at e2;cases e2;refine⟨nf,_,bU,?_⟩;rw[aG];exact(r.ke ke).append ⟨v,[],O,rv.ke ke,O⟩
   .rw[jK (λ y=>z y.symm)] at e2;obtain⟨nf2,us2,q2,r2⟩:=hh jj a ks' e1 e2;have ne:a≠b:=λ y=>by subst y;exact z ((List.getElem?_inj (aY.mp e1).1 nd).mp (e1.trans eb.symm))
    exact⟨nf2,us2,by rw[aA ne];exact q2,r2.ke ke⟩
  .obtain⟨w,e1,z⟩:=e.ev.sl j t y;refine⟨w,e1,?_⟩
   cases t with
   |own l1=>
    obtain⟨d,us',rfl,nf',q',r'⟩:=z;exact⟨d,us',O,nf',by rw[aA (λ y'=>by subst y';exact o2 j l1 d y e1 bm)];exact q',r'.ke ke⟩
   |obj o=>
    cases o with
    |dct l'=>obtain⟨d,e2,q'⟩:=z;exact⟨d,e2,by rw[aA (λ z=>by subst z;rw[q] at q';cases q')];exact q'⟩
    |fn d=>obtain⟨e2,φ,q',kf⟩:=z;exact⟨e2,φ,by rw[aA (λ z=>by subst z;rw[q] at q';cases q')];exact q',kf⟩
    |lls as' ll'=>exact XU (o3 j as' ll' y).symm c
   |_=>exact Rp.ke ke z
 .rcases dH z with ⟨rfl,y⟩|⟨_,y⟩
  .cases y;exact⟨ll,hi⟩
  .exact⟨ll',y⟩
theorem RpL.mk{K:FG}:∀ {ts:List TV}{vs:List V},ts.length=vs.length->(∀(j:Nat) t v,ts[j]?=Oh t->vs[j]?=Oh v->Rp K F H t v)->RpL K F H ts vs
 |[],[],_,_=>rfl
 |_::_,v::vs,hl,h=>⟨v,vs,rfl,h 0 _ _ rfl rfl,RpL.mk (by simpa using hl) λ j t v e1 e2=>h (j+1) t v e1 e2⟩
def ER.fu{K:FG}{i:Nat}(e:ER K J F0 H0 PN F H σ ρ)(hi:ρ[i]?=Oh (Oh (.obj (.lls as ll)))):∃F',ER K J F0 H0 PN F' H σ (ρ.set i (Oh (.lst (ll.map λ l=>.lst (l.map kT))))):=by
 obtain⟨o1,o2,o3⟩:=e.ol i as ll hi;obtain⟨v0,ev0,a0,e0,l0,nd,hl,hh⟩:=e.ev.sl i _ hi;have up:Ke K F H (λ b=>F b\/b∈as) H:=.up λ _ f=>.inl f
 have there:∀a∈as,H a≠Oj:=λ a ha=>by
  obtain⟨jj,ej⟩:=mx ha;obtain⟨_,us,q',_⟩:=hh jj a (ll[jj]'(by rw[<- hl];exact(aY.mp ej).1)) ej (bc _);rw[q'];simp
 have wd:Wd J (λ b=>F b\/b∈as) H:=⟨e.ev.w.j,λ b f=>f.elim (e.ev.w.d b) (there b)⟩
 have f:∀(j:Nat) (m:List TV),(ρ.set i (Oh (.lst (ll.map λ l=>.lst (l.map kT)))))[j]?=Oh (Oh (TV.own m))->ρ[j]?=Oh (Oh (TV.own m)):=λ j m h1=>by
  rcases cR h1 with ⟨_,y⟩|⟨_,z⟩
  .cases y
  .exact z
 refine⟨λ b=>F b\/b∈as,⟨wd,λ j t hj=>?_⟩,⟨e.gr.sm,e.gr.dm,λ b z=>.inl (e.gr.up b z),λ b z=>z.elim (e.gr.nw b) λ h=>.inr (o1 b h),wd⟩,λ j m c h1 h2=>e.nb j m c (f j m h1) h2,λ j k m1 m2 w h1 h2 h3 h4=>e.di j k m1 m2 w (f j m1 h1) (f k m2 h2) h3 h4,λ p hp=>(e.pn p hp).ke up,e.ol.sub (λ j m z=>⟨m,f j m z⟩) λ j as' ll' z=>?_⟩
 .rcases dH hj with ⟨rfl,y⟩|⟨c,y⟩
  .subst y;refine⟨v0,ev0,a0,_,e0,up.l _ _ l0,RpL.mk (by rw[ag,ag,hl]) λ jj t v e1 e2=>?_⟩;rw[bh] at e1 e2;obtain⟨l,el,rfl⟩:=kE.mp e1;obtain⟨a,ea,rfl⟩:=kE.mp e2;obtain⟨_,us,q',r'⟩:=hh jj a l ea el;exact⟨a,us,O,.inl ⟨.inr (aE ea),.of q'⟩,r'.ke up⟩
  .obtain⟨w,e1,z⟩:=e.ev.sl j t y;refine⟨w,e1,?_⟩
   cases t with
   |own l1=>
    obtain⟨d,us',rfl,nf',q',r'⟩:=z;refine⟨d,us',O,λ y'=>?_,q',r'.ke up⟩
    rcases y' with y'|y'
    .exact nf' y'
    .exact o2 j l1 d y e1 y'
   |obj o=>
    cases o with
    |lls as' ll'=>exact XU (o3 j as' ll' y).symm c
    |_=>exact z
   |_=>exact Rp.ke up z
 .rcases dH z with ⟨_,y⟩|⟨_,y⟩
  .cases y
  .exact⟨ll',y⟩
structure Xn (X:Cx)(J:Hp->Prop)(FT:List Tf)(GT:List TV)(fs gs N:List Str)(nm:List (Str×OD))(lp:Bool):Prop where
 xo:Tv X J FT GT fs gs
 xs:XS X N nm
 nd:N.Nodup
 fn:∀x,X.env.scope.names.lookup x=Oh .cell->X.fn x=Oi
 ps:lp=Oi->PassesOwn (Ou X.prog X.w) X.A X.env X.xe
theorem xp{K:FG}{Q:St->Hp->Prop}(h:Ud ρ is t P)(e:ER K J F0 H0 PN F H σ ρ)(rt:Rp K F H t v)(hl:∀i∈is,i<σ.length)
  (fin:∀σ' ρ',P ρ'->ER K J F0 H0 PN F H σ' ρ'->σ'.length=σ.length->Q σ' H):Uw K is v σ H Q:=by
 match is,h with
 |[i],h=>exact fin _ _ h (e.set rt (hl i on)) on
 |[i,j],h=>
  cases t with
  |tup l=>
   match l,h with
   |[x,y],h=>
    obtain⟨a,ws,rfl,q,v1,r1,rfl,h1,v2,r2,rfl,h2,rfl⟩:=rt;exact⟨a,_,O,q,O,v1,_,O,v2,_,O,O,fin _ _ h ((e.set h1 (hl i on)).set h2 (by simpa using hl j on)) on⟩
   |[],h=>exact h.elim
   |[_],h=>exact h.elim
   |_::_::_::_,h=>exact h.elim
  |_=>exact h.elim
 |[i,j,k],h=>
  cases t with
  |tup l=>
   match l,h with
   |[x,y,z],h=>
    obtain⟨a,ws,rfl,q,v1,r1,rfl,h1,v2,r2,rfl,h2,v3,r3,rfl,h3,rfl⟩:=rt;exact⟨a,_,O,q,O,v1,_,O,v2,_,O,v3,_,O,O,fin _ _ h (((e.set h1 (hl i on)).set h2 (by simpa using hl j on)).set h3 (by simpa using hl k on)) on⟩
   |[],h=>exact h.elim
   |[_],h=>exact h.elim
   |[_,_],h=>exact h.elim
   |_::_::_::_::_,h=>exact h.elim
  |_=>exact h.elim
 |[i,j,k,m],h=>
  cases t with
  |tup l=>
   match l,h with
   |[x,y,z,w],h=>
    obtain⟨a,ws,rfl,q,v1,r1,rfl,h1,v2,r2,rfl,h2,v3,r3,rfl,h3,v4,r4,rfl,h4,rfl⟩:=rt;exact⟨a,_,O,q,O,v1,_,O,v2,_,O,v3,_,O,v4,_,O,O,fin _ _ h ((((e.set h1 (hl i on)).set h2 (by simpa using hl j on)).set h3 (by simpa using hl k on)).set h4 (by simpa using hl m on)) on⟩
   |[],h=>exact h.elim
   |[_],h=>exact h.elim
   |[_,_],h=>exact h.elim
   |[_,_,_],h=>exact h.elim
   |_::_::_::_::_::_,h=>exact h.elim
  |_=>exact h.elim
 |[],h=>exact h.elim
 |_::_::_::_::_::_,h=>exact h.elim
end
section
variable {J:Hp->Prop}{FT:List Tf}{GT:List TV}{fs gs:List Str}{N:List Str}{nm:List (Str×OD)}{F0:Fz}{H0:Hp}
def HQ{tg e:Expr}(h:Vu e=Oi):QW [tg] e n env=OF Ol:=oK h
def HR:QW [.Subscript o i p] e n env=OF Ol:=by cases e<;>rfl
def HS:QV [.Subscript o i p] e env=OF Oj:=by cases e<;>rfl
def HU{tg e:Expr}(h:Vu e=Oi):QV [tg] e env=OF Oj:=by
 cases tg<;>first|rfl|(cases e<;>first|rfl|cases h)
theorem HV(h:jq i=Oi):∀v,PJ (.Subscript o i p) env v=(do
   let ov <- Pz [v] (eval o env)
   let iv <- Pz [v,ov] (eval i env)
   Qz p
   Pz [v,ov,iv] (setItem ov iv v)
   release [v,ov,iv] []):=by
 intro v
 cases i<;>first|rfl|(cases h;done)
theorem HW{i:Nat}(xo:Tv X J FT GT fs gs)(xs:XS X N nm)(hN:X.N.Nodup)(hi:X.N[i]?=Oh x)(hx:UH X.env.scope x)(hf:X.fn x=Oi\/X.env.scope.names.lookup x=Oh .local)(h:ck fs gs (.comp own [] [] [0] k it (.lst .nil)) N nm e=Oi) :
  PS X (.Assign [.Name x p'] e pos) (iT (gp (rW X.K J FT GT k it) own.length [] (Uw X.K [0]) (iX iW)) (cV i)):=by
 obtain⟨elt,gens,sc,lp,e1,g⟩:=mf h;cases e1;obtain⟨⟨t,iter,ifs,z⟩,rfl,g'⟩:=iE g;obtain⟨g0,g1,h1,h2,h3,h4,h5⟩:=a7 g';cases (show ifs=[] from rQ.mp g0);cases aC g1
 obtain⟨lp5,rfl⟩:∃p,elt=.List [] p:=by
  refine wB h5 λ es p k=>?_
  cases es with
  |nil=>exact⟨p,rfl⟩
  |cons a r=>exact Om k
 intro Te s σ H D I q;obtain⟨cl,S⟩:=kB I.ok xs h1;have yx:∀(C:On) (ex:List On) (s:Oo) (H:Hp),XS (bz X (own++[]) sc cl C ex s H) (own++[]) (cE nm sc.names):=λ C ex s H=>⟨rfl,S.rel⟩
 cases hb:(X.env.blockKind == .function&&X.env.kindOf x == Oh .local&&p'.line == (Expr.ListComp (.List [] lp5) [⟨t,iter,[],0⟩] sc lp).pos.line && !(sc.names.any λ(n,k)=>n == x&&(k == .local || k == .cell))) with
 |false=>
  have hpe:PE X (.ListComp (.List [] lp5) [⟨t,iter,[],0⟩] sc lp) (gp (rW X.K J FT GT k it) own.length [] (Uw X.K [0]) (iX iW)):=λ Te s σ H Q I q=>by
   obtain⟨cl,S⟩:=kB I.ok xs h1;have yx:∀(C:On) (ex:List On) (s:Oo) (H:Hp),XS (bz X (own++[]) sc cl C ex s H) (own++[]) (cE nm sc.names):=λ C ex s H=>⟨rfl,S.rel⟩;exact vg (g:=Uw X.K [0]) (te:=iX iW) xo.calm (sI it k xo xs h2) S.clos S.cell S.kind S.names S.sub S.has S.len S.cap (λ C ex s H=>(iG (X:=bz X (own++[]) sc cl C ex s H) S.nd xo.calm (yx C ex s H) (λ z=>by cases z) h3).1) (λ C ex s H=>qm pa_nil) (λ x=>ju (jw h2)) Te s σ H Q I q
  exact uj hN hi hx hpe (by show(OF _:Sem Bool)=_;rw[<- hb]) hf Te s σ H D I q
 |true=>
  have hsw:PP (.ListComp (.List [] lp5) [⟨t,iter,[],0⟩] sc lp) (Oh (.Name x p')) pos.line X.env=OF Oi:=by show(OF _:Sem Bool)=_;rw[<- hb]
  exact vJ (g:=Uw X.K [0]) (te:=iX iW) hN hi hx hf xo.calm (sI it k xo xs h2) S.clos S.cell S.kind S.names S.sub S.has S.len S.cap (λ C ex s H=>(iG (X:=bz X (own++[]) sc cl C ex s H) S.nd xo.calm (yx C ex s H) (λ z=>by cases z) h3).1) (λ C ex s H=>qm pa_nil) hsw (λ x=>ju (jw h2)) Te s σ H D I q
theorem HX{i j:Nat}{p p2 p3 ap cp:Pos}(xo:Tv X J FT GT fs gs)(xs:XS X N nm)(h1:N[i]?=Oh x)(h2:vs nm x=Oi)(h3:Ui x=Oi)(h4:N[j]?=Oh z)(h5:vs nm z=Oi)(h6:Ui z=Oi)(hl:ap.endLine=cp.line)(st:aX a=Oi)(ha:PE X a (rE X.K J FT GT c)) :
  PE X (.Call (.Attribute (.Subscript (.Name x p) (.Name z p2) p3) "append" ap) [a] [] cp) (λ σ H Q=>∃F ρ as ll n l,ER X.K J F0 H0 PN F H σ ρ/\ρ[i]?=Oh (Oh (.obj (.lls as ll)))/\ρ[j]?=Oh (Oh (.int (n:Nat)))/\ll[n]?=Oh l/\l.length<1000/\wE FT GT c ρ λ t=>∃ks,t=kT ks/\∀F' H',ER X.K J F0 H0 PN F' H' σ (ρ.set i (Oh (.obj (.lls as (ll.set n (l++[ks]))))))->Q .non H'):=by
 obtain⟨d1,d2,_⟩:=dW h3;obtain⟨d3,d4,_⟩:=dW h6;have hv:PE X (.Subscript (.Name x p) (.Name z p2) p3) (Vr (qx X.K) (cj i) (cj j)):=uL ix_list (gG (by rw[xs.N];exact h1) (gR xs h2) d1 d2) (gG (by rw[xs.N];exact h4) (gR xs h5) d3 d4) (rK rfl);refine(jS (apos:=ap) (cpos:=cp) jy xh xj uV hv (da ha pa_nil (bj st)) rfl (kD (by rw[cP,st];rfl) (show 1<20 by decide)) (beq_iff_eq.mpr hl) (bj st) rfl).imp λ σ H Q ⟨F,ρ,as,ll,n,l,e,hi,hj,hn,ln,w⟩=>?_;obtain⟨v,ev,a0,rfl,l0,nd,Tj,hh⟩:=e.ev.sl i _ hi;obtain⟨v2,ev2,e3⟩:=e.ev.sl j _ hj;cases (show v2=V.int (n:Nat) from e3);obtain⟨b,eb⟩:∃b,as[n]?=Oh b:=⟨_,bc (by rw[Tj];exact(aY.mp hn).1)⟩;obtain⟨nf,us,q,r⟩:=hh n b l eb hn;unfold WB Vr;show cj i σ H _;unfold cj;rw[ev];simp only[ev2];refine⟨a0,as.map V.ref,n,.ref b,O,O,l0.sq,?_,.inl ⟨O,us,.of q⟩,F,ρ,e.ev,av c (λ t ⟨ks,et,w⟩ F1 H1 v g r1=>?_) w⟩
 .exact jR (by rw[bh,eb];rfl)
 .subst et;have q1:=g.sm _ _ (λ ps z=>by cases z) q;have ul:us.length=l.length:=by rw[<- r.length,ag]
  exact⟨b,us,v,O,O,q1,by rw[ul];exact bG ln (dN (aL (ao _))),w F1 _ (ER.push xo.hJ (e.grow g) hi eb hn q1 (r.ke g.ke) r1)⟩
theorem sS:∀(c:Ct) {X:Cx}{lp:Bool}{PN:List (TV×V)}{sts:List Ox},Xn X J FT GT fs gs N nm lp->br fs gs N nm lp c sts=Oi->PSs X sts (rS X.K J FT GT N.length F0 H0 PN c)
 |.nil,X,lp,PN,sts,y,h=>by
  refine dn h ?_;exact pss_nil.imp λ D σ H ⟨F,ρ,e,s,w⟩=>w F H σ e s
 |.never,X,lp,PN,sts,y,h=>pss_never.imp λ D σ H ⟨F,ρ,e,s,w⟩=>w.elim
 |.ret c,X,lp,PN,sts,y,h=>by
  refine Hy h λ o _ _ g=>?_
  cases o with
  |none=>exact Om g
  |some e=>
   refine(dO (pZ (sE c y.xo y.xs g)) pss_never).imp λ D σ H ⟨F,ρ,e,s,w⟩=>?_;obtain⟨F',e',_⟩:=e.fzC c;refine⟨F',_,e'.ev,av c (λ t ⟨nb,w⟩ F1 H1 v g r=>?_) w⟩;obtain⟨F2,g2,_,_,rp⟩:=r.frz g nb;exact w F2 H1 v (e'.gr.trans g2) rp
 |.set i c r,X,lp,PN,sts,y,h=>by
  .refine oH h λ ts e _ Tg k1=>?_;refine eZ k1 λ t k2=>?_;refine bA k2 λ x _ k3=>?_;obtain⟨h1,h2,h3⟩:=_L.a3 k3;obtain⟨a1,a2,a3,a4⟩:=wX y.xs y.fn h1;refine(dO (HG y.xo y.xs (by rw[y.xs.N];exact y.nd) a1 a2 a3 h2) (sS r (PN:=PN) y h3)).imp λ D σ H ⟨F,ρ,e,s,w⟩=>?_;obtain⟨F',e',_⟩:=e.fzC c;exact⟨F',_,e'.ev,av c (λ t ⟨nb,w⟩ F1 H1 v g r=>⟨F1,_,e'.rr g r nb Z,by rw[dE];exact s,w⟩) w⟩
 |.sets is c r,X,lp,PN,sts,y,h=>by
  .refine oH h λ ts e _ Tg k1=>?_;refine eZ k1 λ tg k2=>?_;obtain⟨h1,h2,h3,h4,h5⟩:=a5 k2;obtain⟨pg,lt⟩:=iG (X:=X) (by rw[y.xs.N];exact y.nd) y.xo.calm y.xs (λ _=>y.fn) h1;obtain⟨tes,tk,tp,rfl⟩:=wT h2;refine(dO (uh (sE c y.xo y.xs h4) pg (HQ h3) (HU h3) rfl) (sS r (PN:=PN) y h5)).imp λ D σ H ⟨F,ρ,e,s,w⟩=>?_;refine⟨F,ρ,e.ev,av c (λ t w F1 H1 v g rr=>?_) w⟩
   cases t with
   |tup l=>exact xp w (e.grow g) rr (λ i hi=>by rw[s];exact lt i hi) λ σ' ρ' p e' s'=>⟨F1,ρ',e',s'.trans s,p⟩
   |_=>exact w.elim
 |.fz i r,X,lp,PN,sts,y,h=>by
  refine(sS r (PN:=PN) y (show br fs gs N nm lp r sts=Oi from h)).imp λ D σ H ⟨F,ρ,e,s,w⟩=>?_;obtain⟨F',e',_⟩:=e.fz i;exact⟨F',_,e',s,w⟩
 |.ex c r,X,lp,PN,sts,y,h=>by
  .refine oJ h λ e _ Tg k1=>?_;obtain⟨h1,h2,h3⟩:=_L.a3 k1;exact(dO (mW (sE c y.xo y.xs h2) (oK h1)) (sS r (PN:=PN) y h3)).imp λ D σ H ⟨F,ρ,e,s,w⟩=>⟨F,ρ,e.ev,av c (λ t w F1 H1 v g rr=>⟨F1,ρ,e.grow g,s,w⟩) w⟩
 |.met m i l r,X,lp,PN,sts,y,h=>by
  .refine oJ h λ e _ Tg k1=>?_;obtain⟨h1,h2⟩:=an k1;obtain⟨pe,pl⟩:=HK (F0:=F0) (H0:=H0) (PN:=PN) (J:=J) (FT:=FT) (GT:=GT) y.xo y.xs h1;refine(dO (mW pe (oK pl)) (sS r (PN:=PN) y h2)).imp λ D σ H ⟨F,ρ,e,s,w⟩=>?_;obtain⟨F',e',_⟩:=ER.fzV l e;exact⟨F',_,e',mj (λ xs w=>bH l (λ ts w=>wW (λ y ys w F1 H1 v e1 _=>⟨F1,_,e1,s,w⟩) w) w) w⟩
 |.put i c d r,X,lp,PN,sts,y,h=>by
  .refine oH h λ ts e _ Tg k1=>?_;refine eZ k1 λ t k2=>?_;refine lZ k2 λ o yy _ k3=>?_;refine bA k3 λ x _ k4=>?_;obtain⟨h1,h2,h3,h4,h5,h6,h7⟩:=a7 k4;replace h1:=aC h1;obtain⟨d1,d2,_⟩:=dW h3;refine(dO (uh (sE d y.xo y.xs h6) (BF (gG (by rw[y.xs.N];exact h1) (gR y.xs h2) d1 d2) (sE c y.xo y.xs h5) CY (HV h4)) HR HS rfl) (sS r (PN:=PN) y h7)).imp λ D σ H ⟨F,ρ,e,s,w⟩=>?_;obtain⟨F',e',_⟩:=e.fzC d;obtain⟨xs,hx,w⟩:=mq w;refine⟨F',_,e'.ev,av d (λ t ⟨nb,w⟩ F1 H1 v g rr=>?_) w⟩;obtain⟨F2,g2,_,_,rp⟩:=rr.frz g nb;have e2:=e'.grow g2;obtain⟨a,vs,ea,q,_⟩:=e2.at_ hx;show cj i σ H1 _;unfold cj;rw[ea];refine⟨F2,_,e2.ev,av c (λ u w F3 H3 v3 g3 r3=>?_) w⟩;obtain⟨k,rfl,n,en,w⟩:=gx w;cases r3;have e3:=e2.grow g3;obtain⟨a',vs',ea',q',rl⟩:=e3.at_ hx;rw[ea] at ea';cases ea';obtain⟨em,_⟩:=e3.mut y.xo.hJ hx ea (rl.set (rp.ke g3.ke) n);exact⟨a,vs',k,n,O,O,q',by rw[<- rl.length];exact en,F3,_,em,s,w⟩
 |.ite c a b r,X,lp,PN,sts,y,h=>by
  .refine Hz h λ t x yy _ Tg k1=>?_;obtain⟨h1,h2,h3,h4,h5⟩:=a5 k1;refine(dO (ud (sT c y.xo y.xs h1 h2) (sS a (PN:=PN) y h3) (sS b (PN:=PN) y h4)) (sS r (PN:=PN) y h5)).imp λ D σ H ⟨F,ρ,e,s,w⟩=>?_;refine⟨F,ρ,e.ev,av c (λ t w=>cD (λ k w F1 H1 g=>?_) w) w⟩;split at w
   .rw[XT (by assumption)];exact⟨F1,ρ,e.grow g,s,bE a (λ ρ' w F' H' σ' e s=>⟨F',ρ',e,s,w⟩) (λ _ h=>h) w⟩
   .rw[XR (by assumption)];exact⟨F1,ρ,e.grow g,s,bE b (λ ρ' w F' H' σ' e s=>⟨F',ρ',e,s,w⟩) (λ _ h=>h) w⟩
 |.for tg k it b r,X,lp,PN,sts,y,h=>by
  .refine HA h λ t iter body els _ Tg k1=>?_;obtain⟨z0,h0,h1,h2,h3,h4⟩:=a6 k1;refine dn z0 ?_;obtain⟨pg,lt⟩:=iG (X:=X) (by rw[y.xs.N];exact y.nd) y.xo.calm y.xs (λ _=>y.fn) h1;have hb:PSs X _ (λ D σ H=>∃PN,rS X.K J FT GT N.length F0 H0 PN b D σ H):=λ Te s σ H D I ⟨PN,q⟩=>sS b (PN:=PN) y h3 Te s σ H D I q;refine(dO (BQ (y.ps h0) y.xo.calm (sI it k y.xo y.xs h2) pg hb (λ x=>ju (jw h2))) (sS r (PN:=PN) y h4)).imp λ D σ H ⟨F,ρ,e,s,w⟩=>?_;obtain⟨F',e',_⟩:=ER.fzV it e;refine⟨F',_,e'.ev,bH it (λ ts ⟨nb,w⟩=>gv (λ its w F1 H1 xs Jt g rx ok=>?_) w) w⟩;obtain⟨F2,g2,_,r2⟩:=gz g rx nb;refine HM (n:=N.length) (tb:=λ D σ H=>∃PN,rS X.K J FT GT N.length F0 H0 PN b D σ H) _ _ (e'.grow g2) s r2 ok w (λ ρ' w F3 H3 σ3 e3 s3=>⟨F3,ρ',e3,s3,w⟩) λ t ρ' F3 H3 σ3 x Q D' bt e3 s3 rt ert fin=>?_;exact xp bt e3 rt (λ i hi=>by rw[s3];exact lt i hi) λ σ4 ρ4 p e4 s4=>⟨_,F3,ρ4,e4,s4.trans s3,bE b (λ ρ5 q=>fin ρ5 q) (λ u hu=>by rw[ert];exact hu) p⟩
 |.nl i own k it r,X,lp,PN,sts,y,h=>by
  .refine oH h λ ts e _ Tg k1=>?_;refine eZ k1 λ t k2=>?_;refine bA k2 λ x _ k3=>?_;obtain⟨h1,h2,h3⟩:=_L.a3 k3;obtain⟨a1,a2,a3,a4⟩:=wX y.xs y.fn h1;refine(dO (HW y.xo y.xs (by rw[y.xs.N];exact y.nd) a1 a2 a3 h2) (sS r (PN:=PN) y h3)).imp λ D σ H ⟨F,ρ,e,s,no,w⟩=>?_;show gp (rW X.K J FT GT k it) own.length [] (Uw X.K [0]) (iX iW) σ H (λ x H1=>rS X.K J FT GT N.length F0 H0 PN r D (σ.set i (Oh x)) H1);refine HN (own:=own) (R:=λ as=>wS FT GT r (ρ.set i (Oh (.obj (.lls as (Os as.length []))))) (Wj X.K J F0 H0 PN N.length D.nx) (Xm X.K J F0 H0 D.rt)) y.xo.hJ e.ev w λ as F' H' a0 wr nd g n0 nf0 q0 ha na=>?_;exact⟨_,_,e.setL no g n0 nf0 q0 nd ha na Z,by rw[dE];exact s,wr⟩
 |.pu i j c r,X,lp,PN,sts,y,h=>by
  .refine oJ h λ qe _ Tg k1=>?_;refine dG k1 λ g as w cp k2=>?_;refine rC k2 λ o name ap k3=>?_;refine lZ k3 λ u v p3 k4=>?_;refine bA k4 λ x p k5=>?_;refine bA k5 λ z p2 k6=>?_;refine eZ k6 λ a k7=>?_;obtain⟨k8,g5,g6,g7,g8,g9⟩:=a6 k7;obtain⟨g0,g1,g2,g3⟩:=a4 k8;refine dn g0 ?_;obtain⟨b1,b2,rfl,b4⟩:=aC g1;have pe:=HX (F0:=F0) (H0:=H0) (PN:=PN) (p:=p) (p2:=p2) (p3:=p3) y.xo y.xs b1 g2 g3 b2 g5 g6 b4 g7 (sE c y.xo y.xs g8);refine(dO (mW pe rfl) (sS r (PN:=PN) y g9)).imp λ D σ H ⟨F,ρ,e,s,w⟩=>?_;obtain⟨as,ll,e1,w⟩:=rV w;obtain⟨k,e2,n,l,rfl,e3,ln,w⟩:=wU w;exact⟨F,ρ,as,ll,n,l,e,e1,e2,e3,ln,av c (λ t ⟨ks,et,w⟩=>⟨ks,et,λ F' H' e'=>⟨F',_,e',s,w⟩⟩) w⟩
 |.fu i r,X,lp,PN,sts,y,h=>by
  .refine(sS r (PN:=PN) y h).imp λ D σ H ⟨F,ρ,e,s,w⟩=>?_;obtain⟨as,ll,e1,w⟩:=rV w;obtain⟨F',e'⟩:=e.fu e1;exact⟨F',_,e',s,w⟩
 |.xl i f l r,X,lp,PN,sts,y,h=>by
  .refine oJ h λ qe _ Tg k1=>?_;refine dG k1 λ g as w cp k2=>?_;refine rC k2 λ o name ap k3=>?_;refine bA k3 λ x p k4=>?_;refine eZ k4 λ u k5=>?_;refine dG k5 λ g2 es w2 p3 k6=>?_;refine bA k6 λ z p2 k7=>?_;obtain⟨k8,g4,g5,g6,g7,g8⟩:=a6 k7;obtain⟨z0,z1,z2,g2,g3⟩:=a5 k8;refine dn z0 ?_;refine dn z1 ?_;obtain⟨b1,rfl,b3,b4⟩:=aC z2
   cases es with
   |nil=>exact Om g6
   |cons a es=>
   refine(dO (mW (HL (F0:=F0) (H0:=H0) (PN:=PN) (p:=p) (p2:=p2) (p3:=p3) y.xo y.xs b1 g2 g3 b3 b4 g4 g5 g7) (oK rfl)) (sS r (PN:=PN) y g8)).imp λ D σ H ⟨F,ρ,e,s,w⟩=>?_;exact⟨F,ρ,e,mj (λ xs w=>bH l (λ ts ⟨P,sp,w⟩=>⟨P,sp,λ t pt=>let ⟨m,e,lf,lz,w⟩:=w t pt;⟨m,e,lf,lz,λ F' H' e'=>⟨F',_,e',s,w⟩⟩⟩) w) w⟩
 |.tri b r,X,lp,PN,sts,y,h=>by
  .obtain⟨body,hs,els,fi,_,Tg,rfl,k1⟩:=HB h;obtain⟨z0,z1,z2,h1,h2⟩:=a5 k1;refine dn z1 ?_;refine dn z2 ?_
   cases hs with
   |nil=>exact Om z0
   |cons h0 hs=>
   have hb:∀(xe:VS) (pn:LO),PSs (X.more xe pn) _ (rS X.K J FT GT N.length F0 H0 PN b):=λ xe pn=>sS b (X:=X.more xe pn) (PN:=PN) (lp:=Ol) ⟨⟨y.xo.calm,y.xo.units,y.xo.hJ,y.xo.fns,y.xo.glb,y.xo.dic,y.xo.blt,y.xo.len,y.xo.hof⟩,⟨y.xs.N,y.xs.nm⟩,y.nd,y.fn,λ z=>by cases z⟩ h1;exact(dO (FO hb) (sS r (PN:=PN) y h2)).imp λ D σ H ⟨F,ρ,e,s,w⟩=>⟨F,ρ,e,s,bE b (λ ρ' w F' H' σ' e s=>⟨F',ρ',e,s,w⟩) (λ _ h=>h) (w)⟩
end
noncomputable def TN(n:Nat)(ts:List TV):En:=ts.map Oh++Os (n-ts.length) Oj
section
variable {P:Ov}{w:Ow}{K:FG}{mg:SV}{base:Oz}{J:Hp->Prop}{FT:List Tf}{GT:List TV}{fs gs:List Str}
structure MOk (P:Ov)(w:Ow)(K:FG)(mg:SV)(J:Hp->Prop)(GT:List TV)(gs:List Str):Prop where
 hJ:JS J
 glb:∀(g:Nat) x t,gs[g]?=Oh x->GT[g]?=Oh t->t.nb=Oi->∃v u,mg x=Oh u/\RelV v u/\∀F H,Rp K F H t v
 dic:∀(g:Nat) x l,gs[g]?=Oh x->GT[g]?=Oh (.bor l)->Xg P w K mg x l
 blt:∀x∈BN,mg x=Oj
def Wl{vs:List V}(wd:Wd J F H)(r:RpL K F H ts vs):ER K J F H [] F H (Tn N vs) (TN N.length ts):=by
 have get:∀(i:Nat) t,(TN N.length ts)[i]?=Oh (Oh t)->ts[i]?=Oh t:=λ i t h=>by
  unfold TN at h;by_cases c:i<ts.length
  .rw[cN (by simpa using c),bh] at h
   cases q:ts[i]? with
   |none=>rw[q] at h;cases h
   |some u=>rw[q] at h;cases h;rfl
  .rw[cM (by simpa using c),fI] at h;split at h<;>cases h
 have sl:∀(i:Nat) t,(TN N.length ts)[i]?=Oh (Oh t)->∃v,(Tn N vs)[i]?=Oh (Oh v)/\Rp K F H t v:=λ i t h=>by
  obtain⟨v,ev,rv⟩:=r.get (get i t h);refine⟨v,?_,rv⟩;unfold Tn;rw[cN (by simpa using (aY.mp ev).1),bh,ev];rfl
 refine⟨⟨wd,λ i t h=>let ⟨v,e,q⟩:=sl i t h;⟨v,e,wH q⟩⟩,.refl wd,λ i l a h1 h2=>?_,λ i k l l' v h1 h2 h3 h4=>?_,(λ p hp=>by cases hp),λ i as ll h=>by obtain⟨v,_,q⟩:=sl i _ h;exact q.elim⟩
 .obtain⟨v,_,q⟩:=sl i _ h1;exact q.elim
 .obtain⟨v,_,q⟩:=sl i _ h1;exact q.elim
theorem xq{st:Ox}(code:Ct)(F:Fun K x qual st f fd)(sc:Tw N ps (aD st))(m:MOk P w K mg J GT gs)(hl:fs.length=FT.length)
  (fns:∀(f:Nat) x S,fs[f]?=Oh x->FT[f]?=Oh S->∃ps,Callee P w K mg base Tu k x ps (Ur K J S))
  (hck:br fs gs N (aD st).names Oi code (aN st)=Oi) (Tj:∀ts Q,S ts Q->ts.length=ps.length)
  (hw:∀ts Q,S ts Q->wS FT GT code (TN N.length ts) (λ _=>Q .non) Q):FnOk P w K mg base Tu (k+1) f fd ps (Ur K J S):=by
 refine F.ok sc (λ vs H Q E ⟨F1,ts,P1,wd,r,s,_⟩=>by rw[<- r.length];exact Tj _ _ s) (λ cdv A outer s H vs Q E hr h=>?_);obtain⟨F1,ts,P1,wd,r,sp,fin⟩:=h
 have nl:vs.length<=N.length:=by
  have z:=bw Ph sc.pre;rw[aQ] at z;have:=Tj _ _ sp;rw[<- r.length];lia
 have xo:Tv (dP Tu P w K mg base N qual (aD st) f cdv A outer s H E).nox J FT GT fs gs:=⟨rfl,by have:=hr.un;show(A.deeper _).units+120<Pu;lia,m.hJ,λ g y S h1 h2=>let ⟨ps,c⟩:=fns g y S h1 h2;⟨k,ps,hr,c⟩,m.glb,m.dic,m.blt,s1l hl,wD hl⟩;refine⟨_,sS (F0:=F1) (H0:=H) (PN:=[]) code (lp:=Oi) ⟨xo,⟨O,O⟩,sc.nd,λ _ _=>rfl,λ _=>oM⟩ hck,F1,TN N.length ts,Wl wd r,?_,?_⟩
 .unfold Tn;rw[aF,ag,dC];show vs.length+(N.length-vs.length)=N.length;lia
 .exact bE code (λ ρ' q F' H' σ' e _=>fin .non q F' H' .non e.gr rfl) (λ t q F' H' v g r=>fin t q F' H' v g r) (hw ts P1 sp)
end
structure Gl' (K:FG)(x:Str)(st:Ox)(f:On)(fd:OP):Prop where
 F:Fun K x x st f fd
 a:W.nsIn K OC x=Oh (Oh (.ref f))
noncomputable def Gx(K:FG)(x:Str)(st:Ox):Prop:=∃f fd,Gl' K x st f fd
section
variable {K:FG}{x:Str}{st:Ox}{f:On}{oc:Value}{od an:OA}{osl:AV}{kV doc pm cdv ct:Value}
def gl_ex(a:W.nsIn K OC x=Oh (Oh (.ref f)))(l:K.lookup f=Oh ⟨oc,od,.func (W.fnOf x x (gm st) (aN st) (aD st) .none kV doc pm an cdv ct),osl⟩)(c:W.codeIn K cdv x=Oi)(k:W.keepIn K (.ref f)=Oi):Gx K x st:=⟨_,_,vc l c k,a⟩
def gx_int(h:W.nsIn K OC x=Oh (Oh (.int i t))):∃t,W.nsIn K OC x=Oh (Oh (.int i t)):=⟨_,h⟩
end
noncomputable abbrev DR:=Str×List Str×Tf
noncomputable def Uy(L:List DR)(j:Nat):List Str:=(L.take j).map (·.1)
noncomputable def Um(L:List DR)(j:Nat):List Tf:=(L.take j).map (·.2.2)
section
variable {P:Ov}{w:Ow}{K:FG}{mg:SV}{base:Oz}{J:Hp->Prop}{GT:List TV}{gs:List Str}{L:List DR}
noncomputable def Xo(P:Ov)(w:Ow)(K:FG)(mg:SV)(base:Oz)(J:Hp->Prop)(L:List DR)(j:Nat):Prop:=∀x ps S,L[j]?=Oh (x,ps,S)->Callee P w K mg base Tu (j+1) x ps (Ur K J S)
noncomputable def Cals(P:Ov)(w:Ow)(K:FG)(mg:SV)(base:Oz)(J:Hp->Prop)(L:List DR)(j:Nat):Prop:=∀i,i<j->Xo P w K mg base J L i
def Cals.z:Cals P w K mg base J L 0:=λ i h=>XU h (Nat.not_lt_zero _)
def Cals.s(C:Cals P w K mg base J L j)(c:Xo P w K mg base J L j):Cals P w K mg base J L (j+1):=λ i h=>by
 by_cases e:i=j
 .subst e;exact c
 .exact C i Z
def Cals.fns(C:Cals P w K mg base J L j):∀(f:Nat) x S,(Uy L j)[f]?=Oh x->(Um L j)[f]?=Oh S->∃ps,Callee P w K mg base Tu j x ps (Ur K J S):=λ f x S h1 h2=>by
 unfold Uy at h1;unfold Um at h2;rw[bh] at h1 h2
 cases q:(L.take j)[f]? with
 |none=>rw[q] at h1;cases h1
 |some d=>
  rw[q] at h1 h2;cases h1;cases h2;have lt:f<j:=by have:=(aY.mp q).1;rw[aQ] at this;lia
  rw[s1d,XT lt] at q;exact⟨_,(C f lt d.1 d.2.1 d.2.2 q).mono Z⟩
def fb(j:Nat):(Uy L j).length=(Um L j).length:=by unfold Uy Um;rw[ag,ag]
theorem HY{x:Str}{ps N:List Str}{st:Ox}{S:Tf}(code:Ct)(C:Cals P w K mg base J L j)(m:MOk P w K mg J GT gs)(hm:∀ {x:Str}{v:Option Value},W.nsIn K OC x=Oh v->mg x=v)(e:L[j]?=Oh (x,ps,S))(g:Gx K x st)(sc:Tw N ps (aD st))
  (b:∀f fd,Fun K x x st f fd->Binds K fd ps []) (hck:br (Uy L j) gs N (aD st).names Oi code (aN st)=Oi) (Tj:∀ts Q,S ts Q->ts.length=ps.length)
  (hw:∀ts Q,S ts Q->wS (Um L j) GT code (TN N.length ts) (λ _=>Q .non) Q):Cals P w K mg base J L (j+1):=by
 refine C.s λ x' ps' S' e'=>?_;rw[e] at e';cases e';obtain⟨f,fd,gf⟩:=g;exact Callee.mk' gf.F (hm gf.a) (b f fd gf.F) (xq code gf.F sc m (fb j) C.fns hck Tj hw)
noncomputable def rY:Tf:=λ ts Q=>∃ns:LI,ts=[.lst (ns.map .int)]/\ns.length<=63/\Q (.bl Oi)
noncomputable def rZ(K:FG)(J:Hp->Prop):Sp:=λ vs H Q _=>∃(a:On) (ns:LI),vs=[.ref a]/\SqL K H a (ns.map V.int)/\ns.length<=63/\J H/\∀H',Q (.bl Oi) H'
def HZ(F:FnOk P w K mg base Tu k f fd ps (Ur K J rY)):FnOk P w K mg base Tu k f fd ps (rZ K J):=F.imp λ vs H Q E ⟨a,ns,e,sq,l,j,q⟩=>by
 subst e
 rcases sq with rd|kk
 .have ha:H a≠Oj:=by rcases rd with h|⟨o,h⟩<;>rw[h]<;>simp
  exact⟨λ b=>b=a,[.lst (ns.map .int)],_,⟨j,λ b e=>by rw[show b=a from e];exact ha⟩,⟨_,_,O,⟨a,_,O,.inl ⟨O,.inl rd⟩,RpL.ofInts ns⟩,O⟩,⟨ns,O,l,O⟩,λ t e F' H' v _ r=>by subst e;cases r;exact q H'⟩
 .exact⟨λ _=>False,[.lst (ns.map .int)],_,⟨j,λ b e=>e.elim⟩,⟨_,_,O,⟨a,_,O,.inr kk,RpL.ofInts ns⟩,O⟩,⟨ns,O,l,O⟩,λ t e F' H' v _ r=>by subst e;cases r;exact q H'⟩
variable {FT:List Tf}
def cS{its:List TV}{Kn:En->Prop}(I:Nat->En->Prop)(h0:I 0 ρ)(st:∀i t ρ,its[i]?=Oh t->I i ρ->Ud ρ tg t λ ρ'=>wS FT GT c ρ' (I (i+1)) rt)(fin:∀ρ,I its.length ρ->Kn ρ):UU (λ t ρ K=>Ud ρ tg t λ ρ'=>wS FT GT c ρ' K rt) its ρ Kn:=by
 have go:∀(r:List TV) (i:Nat) (ρ:En),its.drop i=r->i<=its.length->I i ρ->UU (λ t ρ K=>Ud ρ tg t λ ρ'=>wS FT GT c ρ' K rt) r ρ Kn:=by
  intro r
  induction r with
  |nil=>
   intro i ρ e li h;have:i=its.length:=by have:=bw Ph e;rw[bO] at this;simp at this;lia
   subst this;exact fin ρ h
  |cons t r ih=>
   intro i ρ e li h;have lt:i<its.length:=by have:=bw Ph e;rw[bO] at this;simp at this;lia
   rw[rO lt] at e
   injection e with e1 e2
   have et:its[i]?=Oh t:=by rw[bc lt,e1]
   exact fO (λ ρ' q=>bE c (λ ρ'' q=>ih (i+1) ρ'' e2 Z q) (λ _ q=>q) q) (st i t ρ et h)
 exact go its 0 ρ rfl (bP _) h0
end
end _L
namespace _L
open TV renaming int->XV,tup->XW,str->XX
open PySem PySem.Spec PyProof.Rows PySem.W PySem.Calls
theorem Ia{K:FG}{qual:Str}{cl:LA}{vs vcs:List V}{H:Hp}{Q:VK}
  (S:Tx N ps fv scope) (hcl:cl.map (·.1)=fv)
  (hb:∀(pm ctv:Value) (us:LV),us.length=ps.length->Pe (kla_fn "<lambda>" qual params body scope cl pm (.ref c') ctv) ⟨us,[]⟩=OF (ps.zip us)) (hl:vs.length=ps.length)
  (L1:H fa=Oh (eX fa c' qual params body scope cl)) (_L:H c'=Oh (cr c' qual)) (hc:CelAt H cl vcs)
  (hbody:∀(A:Oy) (outer:List Env) (s:Oo),Room k (A.deeper (envX qual scope s.heap.objs.size fa (.ref c') (OH (s.heap.objs.size+1) scope.names []++cl)))->PE (iw P w K mg base N qual scope fa (.ref c') cl A outer s (minC H cl)) body te)
  (hq:te (Tn N (vs++vcs)) (minC H cl) (λ v H'=>(∀q∈cl,H' q.2=Oj)->Q v (TH H H' cl))):lU P w K mg base (k+1) fa vs H Q:=by
 intro A outer s us hr e0 r;obtain⟨⟨pm,ctv,ho⟩,_⟩:=e0.hok fa _ L1;obtain⟨hcd,_⟩:=e0.hok c' _ _L;have lim:s.heap.NoLimit:=e0.mod.nolimit.keeps λ b o e=>(e0.bs b o e).1
 have Tp:∀y∈ps.zip us,scope.names.lookup y.1=Oh .local\/(scope.names.lookup y.1=Oh .cell/\((OH (s.heap.objs.size+1) scope.names []).lookup y.1).isSome=Oi):=λ⟨n,v⟩ hy=>by
  rcases S.par n (ly hy).1 with q|q
  .exact .inl q
  .exact .inr ⟨q,jQ _ _ _ (.inl q)⟩
 refine kla_callFunE hr.depth ho rfl S.co S.gen rfl hcd ?_;rw[hb pm ctv us (by rw[<- r.length];exact hl)];refine au (vS S.kind Tp λ env he s1 x=>?_);subst he;refine⟨lim.keeps x.toInCall.keep,kla_codeExpr ?_⟩;have I:Inv (iw P w K mg base N qual scope fa (.ref c') cl A outer s (minC H cl)) [] (Tn N (vs++vcs)) (minC H cl) s1:=vT S hr.hd e0 hl r hcl hc x;refine cz (hbody A outer s (hr.deeper _) [] s1 _ _ _ I hq) (λ u s' hs=>?_) (λ e s' hs=>OV hs);obtain⟨v,H',J,rv,q⟩:=hs;have un:Un (Uu outer) [] (minC H cl) H' s.heap s'.heap:=J.base
 have nfr:∀q∈cl,q.2 ∉ Uu outer:=λ q hq z=>by
  obtain⟨o,v,e⟩:=hc.mem hq;rw[e0.frf _ z] at e;cases e
 have kc:∀q∈cl,∀o,s.heap.get? q.2=Oh o->s'.heap.get? q.2=Oh o/\H' q.2=Oj:=λ q hq o e=>⟨un.keep _ o e (jY hq) (nfr q hq) on,un.free _ o e (jY hq) on⟩
 have there:∀q∈cl,∃o,s.heap.get? q.2=Oh o:=λ q hq=>by
  obtain⟨o,v,e⟩:=hc.mem hq;exact⟨o,(e0.hok _ _ e).1⟩
 have split:∀b,(∃q∈cl,q.2=b)\/∀q∈cl,q.2≠b:=λ b=>by
  by_cases c:∃q∈cl,q.2=b
  .exact .inl c
  .exact .inr λ q hq e=>c ⟨q,hq,e⟩
 refine⟨v,TH H H' cl,J.os,J.bare,⟨λ b o e n hb hx=>un.keep b o e (gO n) hb hx,λ b o e n hb hx=>un.slot b o e (gO n) hb hx,λ b o e n hx=>?_,un.there,λ b xs e=>?_,λ b o u e=>?_,λ b ps e=>?_⟩,λ b o e=>?_,rv,q λ p hp=>let ⟨o,eo⟩:=there p hp;(kc p hp o eo).2⟩
 .rcases split b with ⟨q,hq,rfl⟩|hn
  .rw[eY hq];exact n
  .rw[cQ hn];exact un.free b o e (gO n) hx
 .rcases split b with ⟨q,hq,rfl⟩|hn
  .rw[eY hq];exact e
  .rw[cQ hn];exact un.tups b xs (by rw[bV hn];exact e)
 .rcases split b with ⟨q,hq,rfl⟩|hn
  .rw[eY hq];exact e
  .rw[cQ hn];exact un.frzs b o u (by rw[bV hn];exact e)
 .rcases split b with ⟨q,hq,rfl⟩|hn
  .obtain⟨o,v,e2⟩:=hc.mem hq;rw[e] at e2;cases e2
  .rw[cQ hn];exact un.tbls b ps (by rw[bV hn];exact e)
 .rcases split b with ⟨q,hq,rfl⟩|hn
  .rw[eY hq] at e;obtain⟨o2,v2,e2⟩:=hc.mem hq;rw[e] at e2;cases e2;obtain⟨g1,⟨u2,ru,ic⟩,_,st⟩:=e0.hok _ _ e;have k1:=(kc q hq _ g1).1;refine⟨k1,⟨u2,ru,?_⟩,⟨_,k1⟩,st⟩;obtain⟨o3,e3,d3⟩:=ic;rw[g1] at e3;cases e3;exact⟨_,k1,d3⟩
  .rw[cQ hn] at e
   have nf:∀c u,H' c=Oh u->TH H H' cl c=Oh u:=λ c u e2=>by
    rcases split c with ⟨q,hq,rfl⟩|hn
    .obtain⟨o,eo⟩:=there q hq;rw[(kc q hq o eo).2] at e2;cases e2
    .rw[cQ hn];exact e2
   exact(J.hok b o e).stay (λ _ _ _ q=>q) (λ c q=>nf c _ q) λ c xs q=>nf c _ q
theorem Ib{K:FG}{cl:LA}{vs vcs:List V}{H:Hp}{Q:VK}
  (S:Tx N ps fv scope) (hcl:cl.map (·.1)=fv)
  (hb:∀(doc pm ctv:Value) (us:LV),us.length=ps.length->Pe (fnX name qual params body scope cl .none .none doc pm Oj (.ref c') ctv) ⟨us,[]⟩=OF (ps.zip us)) (hl:vs.length=ps.length)
  (L1:H fa=Oh (dS fa c' name qual params body scope cl)) (_L:H c'=Oh (cr c' qual)) (hc:CelAt H cl vcs)
  (hbody:∀(A:Oy) (outer:List Env) (s:Oo),Room k (A.deeper (envX qual scope s.heap.objs.size fa (.ref c') (OH (s.heap.objs.size+1) scope.names []++cl)))->PSs (iw P w K mg base N qual scope fa (.ref c') cl A outer s (minC H cl)) body ts)
  (hq:ts { nx:=λ _ H'=>(∀q∈cl,H' q.2=Oj)->Q .non (TH H H' cl),rt:=λ v H'=>(∀q∈cl,H' q.2=Oj)->Q v (TH H H' cl) } (Tn N (vs++vcs)) (minC H cl)):lU P w K mg base (k+1) fa vs H Q:=by
 intro A outer s us hr e0 r;obtain⟨⟨doc,pm,ctv,ho⟩,_⟩:=e0.hok fa _ L1;obtain⟨hcd,_⟩:=e0.hok c' _ _L;have lim:s.heap.NoLimit:=e0.mod.nolimit.keeps λ b o e=>(e0.bs b o e).1
 have Tp:∀y∈ps.zip us,scope.names.lookup y.1=Oh .local\/(scope.names.lookup y.1=Oh .cell/\((OH (s.heap.objs.size+1) scope.names []).lookup y.1).isSome=Oi):=λ⟨n,v⟩ hy=>by
  rcases S.par n (ly hy).1 with q|q
  .exact .inl q
  .exact .inr ⟨q,jQ _ _ _ (.inl q)⟩
 refine uE hr.depth ho rfl S.co S.gen rfl hcd ?_;rw[hb doc pm ctv us (by rw[<- r.length];exact hl)];refine au (vS S.kind Tp λ env he s1 x=>?_);subst he;refine⟨lim.keeps x.toInCall.keep,codeAny_func ?_⟩;have I:Inv (iw P w K mg base N qual scope fa (.ref c') cl A outer s (minC H cl)) [] (Tn N (vs++vcs)) (minC H cl) s1:=vT S hr.hd e0 hl r hcl hc x;refine cz (hbody A outer s (hr.deeper _) [] s1 _ _ _ I hq) (λ fl s' hs=>?_) (λ e s' hs=>OV hs);have fin:∀ {v:V}{u:Value}{σ':St}{H':Hp},Inv (iw P w K mg base N qual scope fa (.ref c') cl A outer s (minC H cl)) [] σ' H' s'->RelV v u->((∀q∈cl,H' q.2=Oj)->Q v (TH H H' cl))->CE outer P w H s Q u s':=?_
 .cases fl with
  |ret u=>
   obtain⟨v,σ',H',J,rv,q⟩:=hs;exact fin J rv q
  |next=>
   obtain⟨σ',H',J,q⟩:=hs;exact fin (v:=V.non) (u:=OW) J rfl q
  |brk|cont=>obtain⟨_,_,_,q⟩:=hs;exact OV q
 intro v u σ' H' J rv q;have un:Un (Uu outer) [] (minC H cl) H' s.heap s'.heap:=J.base
 have nfr:∀q∈cl,q.2 ∉ Uu outer:=λ q hq z=>by
  obtain⟨o,v,e⟩:=hc.mem hq;rw[e0.frf _ z] at e;cases e
 have kc:∀q∈cl,∀o,s.heap.get? q.2=Oh o->s'.heap.get? q.2=Oh o/\H' q.2=Oj:=λ q hq o e=>⟨un.keep _ o e (jY hq) (nfr q hq) on,un.free _ o e (jY hq) on⟩
 have there:∀q∈cl,∃o,s.heap.get? q.2=Oh o:=λ q hq=>by
  obtain⟨o,v,e⟩:=hc.mem hq;exact⟨o,(e0.hok _ _ e).1⟩
 have split:∀b,(∃q∈cl,q.2=b)\/∀q∈cl,q.2≠b:=λ b=>by
  by_cases c:∃q∈cl,q.2=b
  .exact .inl c
  .exact .inr λ q hq e=>c ⟨q,hq,e⟩
 refine⟨v,TH H H' cl,J.os,J.bare,⟨λ b o e n hb hx=>un.keep b o e (gO n) hb hx,λ b o e n hb hx=>un.slot b o e (gO n) hb hx,λ b o e n hx=>?_,un.there,λ b xs e=>?_,λ b o u e=>?_,λ b ps e=>?_⟩,λ b o e=>?_,rv,q λ p hp=>let ⟨o,eo⟩:=there p hp;(kc p hp o eo).2⟩
 .rcases split b with ⟨q,hq,rfl⟩|hn
  .rw[eY hq];exact n
  .rw[cQ hn];exact un.free b o e (gO n) hx
 .rcases split b with ⟨q,hq,rfl⟩|hn
  .rw[eY hq];exact e
  .rw[cQ hn];exact un.tups b xs (by rw[bV hn];exact e)
 .rcases split b with ⟨q,hq,rfl⟩|hn
  .rw[eY hq];exact e
  .rw[cQ hn];exact un.frzs b o u (by rw[bV hn];exact e)
 .rcases split b with ⟨q,hq,rfl⟩|hn
  .obtain⟨o,v,e2⟩:=hc.mem hq;rw[e] at e2;cases e2
  .rw[cQ hn];exact un.tbls b ps (by rw[bV hn];exact e)
 .rcases split b with ⟨q,hq,rfl⟩|hn
  .rw[eY hq] at e;obtain⟨o2,v2,e2⟩:=hc.mem hq;rw[e] at e2;cases e2;obtain⟨g1,⟨u2,ru,ic⟩,_,st⟩:=e0.hok _ _ e;have k1:=(kc q hq _ g1).1;refine⟨k1,⟨u2,ru,?_⟩,⟨_,k1⟩,st⟩;obtain⟨o3,e3,d3⟩:=ic;rw[g1] at e3;cases e3;exact⟨_,k1,d3⟩
  .rw[cQ hn] at e
   have nf:∀c u,H' c=Oh u->TH H H' cl c=Oh u:=λ c u e2=>by
    rcases split c with ⟨q,hq,rfl⟩|hn
    .obtain⟨o,eo⟩:=there q hq;rw[(kc q hq o eo).2] at e2;cases e2
    .rw[cQ hn];exact e2
   exact(J.hok b o e).stay (λ _ _ _ q=>q) (λ c q=>nf c _ q) λ c xs q=>nf c _ q
noncomputable def TbJ(L:List (On×Pos×Str))(H:Hp):Prop:=∀x∈L,TabOk H x.1 x.2.1 x.2.2
def TabOk.sm{H H':Hp}(h:TabOk H T pos qual)(s:∀a o,(∀vs,o≠.lst vs)->(∀b u,o≠.frz b u)->H a=Oh o->H' a=Oh o):TabOk H' T pos qual:=by
 obtain⟨ps,e,t,q⟩:=h;refine⟨ps,s _ _ (λ _ z=>nomatch z) (λ _ _ z=>nomatch z) e,t,q.imp id λ⟨c,e1,e2⟩=>⟨c,e1,s _ _ (λ _ z=>nomatch z) (λ _ _ z=>nomatch z) e2⟩⟩
section
variable {K:FG}{L:List (On×Pos×Str)}{F F1 F2 F':Fz}{H H1 H2 H':Hp}{cl:LA}{vcs:List V}
def TbJ.sm(h:TbJ L H)(s:∀a o,(∀vs,o≠.lst vs)->(∀b u,o≠.frz b u)->H a=Oh o->H' a=Oh o):TbJ L H':=λ x hx=>(h x hx).sm s
def TbJ.js:JS (TbJ L):=⟨λ H p o n h=>h.sm λ a u _ _ e=>by rw[aA (λ z=>by rw[z,n] at e;cases e)];exact e,
 λ H p vs ws n h=>h.sm λ a u k _ e=>by rw[aA (λ z=>by rw[z,n] at e;cases e;exact k _ rfl)];exact e⟩
def oN(cl:LA)(b:On):(∃q∈cl,q.2=b)\/∀q∈cl,q.2≠b:=by
 by_cases c:∃q∈cl,q.2=b
 .exact .inl c
 .exact .inr λ q hq e=>c ⟨q,hq,e⟩
def jz(hc:CelAt H cl vcs)(h:H a=Oh o)(n:∀b c v,o≠.frz b (jX c v)):minC H cl a=Oh o:=by
 rw[bV λ q hq z=>by obtain⟨b,v,e⟩:=hc.mem hq;rw[z,h] at e;exact n _ _ _ (bv e)];exact h
def Rd.min{u:HO}(hc:CelAt H cl vcs)(n:∀φ,u≠.ext φ)(k:∀b v,u≠.frz b v)(h:Rd H a u):Rd (minC H cl) a u:=by
 rcases h with h|⟨o,h⟩
 .exact .inl (jz hc h λ _ _ _=>k _ _)
 .exact .inr ⟨o,jz hc h λ b c v z=>by injection z with _ z;exact n _ z⟩
def sa(hc:CelAt H cl vcs):Ke K F H F (minC H cl):=⟨λ a vs h=>h.imp (λ h=>h.min hc (λ _ z=>nomatch z) (λ _ _ z=>nomatch z)) id,λ a vs h=>h.imp λ f h=>⟨f,h.imp (λ h=>h.min hc (λ _ z=>nomatch z) (λ _ _ z=>nomatch z)) id⟩⟩
def Ic(hc:CelAt H cl vcs)(nf:∀q∈cl,¬F q.2)(w:Wd (TbJ L) F H):Wd (TbJ L) F (minC H cl):=⟨w.j.sm λ a o _ k e=>jz hc e λ _ _ _=>k _ _,λ a f=>by
 rw[bV λ q hq z=>nf q hq (z ▸ f)];exact w.d a f⟩
def oO(hz:∀q∈cl,H' q.2=Oj)(h:H' a≠Oj):TH H1 H' cl a=H' a:=cQ λ q hq z=>h (z ▸ hz q hq)
def Rd.res(hz:∀q∈cl,H' q.2=Oj)(h:Rd H' a u):Rd (TH H1 H' cl) a u:=by
 rcases h with h|⟨o,h⟩
 .exact .inl (by rw[oO hz (by rw[h];simp)];exact h)
 .exact .inr ⟨o,by rw[oO hz (by rw[h];simp)];exact h⟩
def xr(hz:∀q∈cl,H' q.2=Oj):Ke K F H' F (TH H1 H' cl):=⟨λ a vs h=>h.imp (λ h=>h.res hz) id,λ a vs h=>h.imp λ f h=>⟨f,h.imp (λ h=>h.res hz) id⟩⟩
structure Hand (cl:LA)(vcs:List V)(H1 H2:Hp):Prop where
 fr:∀q∈cl,H1 q.2=Oj
 at_:CelAt H2 cl vcs
 eq:∀b,(∀q∈cl,q.2≠b)->H2 b=H1 b
def Hand.to(h:Hand cl vcs H1 H2)(e:H1 a=Oh o):H2 a=Oh o:=by
 rw[h.eq a λ q hq z=>by have:=h.fr q hq;rw[z,e] at this;cases this];exact e
def Hand.wd(h:Hand cl vcs H1 H2)(w:Wd (TbJ L) F H1):Wd (TbJ L) F H2:=⟨w.j.sm λ a o _ _ e=>h.to e,λ a f=>by
 cases e:H1 a with
 |none=>exact XU e (w.d a f)
 |some o=>rw[h.to e];simp⟩
def Hand.ke(h:Hand cl vcs H1 H2):Ke K F H1 F H2:=⟨λ a vs q=>q.sm λ a o _ e=>h.to e,λ a vs q=>q.imp λ f q=>⟨f,q.sm λ a o _ e=>h.to e⟩⟩
def Hand.nf(h:Hand cl vcs H1 H2)(w:Wd (TbJ L) F H1)(g:Grow (TbJ L) F H2 F' H'):∀q∈cl,¬F' q.2:=λ q hq f=>by
 rcases g.nw _ f with z|z
 .exact w.d _ z (h.fr q hq)
 .obtain⟨o,v,e⟩:=h.at_.mem hq;rw[z] at e;cases e
def Hand.cel(h:Hand cl vcs H1 H2)(g:Grow (TbJ L) F H2 F' H'):CelAt H' cl vcs:=⟨h.at_.len,λ i q e=>let ⟨v,o,e1,e2⟩:=h.at_.at_ i q e;⟨v,o,e1,g.sm _ _ (λ ps z=>nomatch z) e2⟩,h.at_.apart⟩
def Hand.back(h:Hand cl vcs H1 H2)(w:Wd (TbJ L) F H1)(g:Grow (TbJ L) F H2 F' H'):Grow (TbJ L) F H1 F' (minC H' cl):=by
 have nf:=h.nf w g;have ne:∀a,H1 a≠Oj->∀q∈cl,q.2≠a:=λ a e q hq z=>e (z ▸ h.fr q hq);refine⟨λ a o n e=>?_,λ a e=>?_,g.up,λ a f=>?_,Ic (h.cel g) nf g.w⟩
 .rw[bV (ne a (by rw[e];simp))];exact g.sm a o n (h.to e)
 .rw[bV (ne a e)];exact g.dm a (by rw[h.eq a (ne a e)];exact e)
 .rcases g.nw a f with z|z
  .exact .inl z
  .refine .inr ?_
   rwa [h.eq a λ q hq e=>nf q hq (e ▸ f)] at z
end
theorem xt(env:Env)(post:List Ox):∀pre:List Ox,Rb (pre++post) env=(Rb pre env >>= λ f=>match f with|.next=>Rb post env|f=>OF f)
 |[]=>by
  rw[nE];unfold Rb;simp
 |st::pre=>by
  rw[nT];rw[Rb,Rb,xt env post pre];simp[bind_assoc]
  congr 1;funext f;cases f<;>simp
def xv(h1:PSs X pre t)(h2:PSs X post u):PSs X (pre++post) (ua t u):=by
 intro Te s σ H D I h;rw[xt];refine ae (To (h1 Te s σ H { D with nx:=u D } I h) λ f s1 q=>?_)
 cases f with
 |next=>obtain⟨σ',H',I',q⟩:=q;exact h2 Te s1 σ' H' D I' q
 |ret v|brk|cont=>exact au q
noncomputable def Ue(l:List (Str×OD)):List Str:=((l.filter (·.2 == OT)).map (·.1)).reverse
theorem se{env:Env}:∀(l:List (Str×OD)) (cs:LA),(∀x,(x,OT)∈l->∃c,env.cells.lookup x=Oh c) ->
  ∃cl,(forIn l cs (λ(x:Str × OD) (r:LA)=>(match x with
   |(name,kind)=>if (kind == OT)=Oi then (do let y <- Ra env name;OF (Qg ((name,y)::r))) else OF (Qg r):Sem (ForInStep (LA)))):Sem (LA))=OF (cl++cs) /\
   cl.map (·.1)=Ue l/\∀q∈cl,env.cells.lookup q.1=Oh q.2
 |[],cs,_=>⟨[],rfl,rfl,λ q h=>by cases h⟩
 |(n,k)::l,cs,h=>by
  by_cases hk:k=.free
  .subst hk;obtain⟨c,hc⟩:=h n on;obtain⟨cl,e,q1,q2⟩:=se l ((n,c)::cs) λ x hx=>h x (by simp[hx]);refine⟨cl++[(n,c)],?_,?_,λ q hq=>?_⟩
   .rw[lQ];have:Ra env n=OF c:=by unfold Ra;rw[hc]
    simp only[this,jW,eO,s1q];rw[im];exact e
   .rw[aG,q1];unfold Ue;rw[xw on];simp
   .rcases bY.mp hq with z|z
    .exact q2 q z
    .cases aI.mp z;exact hc
  .obtain⟨cl,e,q1,q2⟩:=se l cs λ x hx=>h x (by simp[hx]);refine⟨cl,?_,?_,q2⟩
   .rw[lQ];have:(k == OT)=Ol:=by simpa using hk
    simp only[this,lT,iZ,s1q];exact e
   .rw[q1];unfold Ue;rw[xx (by simpa using hk)]
def xy{scope:Scope}{env:Env}(h:∀x∈Ue scope.names,∃c,env.cells.lookup x=Oh c):∃cl,OS scope env=OF cl/\OwnCl env.cells (Ue scope.names) cl:=by
 obtain⟨cl,e,q1,q2⟩:=se (env:=env) scope.names [] λ x hx=>h x (by unfold Ue;simp only[List.mem_reverse,bq,fZ];exact⟨_,⟨hx,on⟩,rfl⟩);refine⟨cl,?_,q1,q2⟩;unfold OS;simp only[bind_pure];rw[ef] at e;exact e
noncomputable def TV.pl:TV->Bool
 |.own _=>Ol
 |.bor _=>Ol
 |.obj _=>Ol
 |_=>Oi
section
variable {P:Ov}{w:Ow}{K:FG}{mg:SV}{base:Oz}{L:List (On×Pos×Str)}
def Ie{H F' H'}{t:TV}(p:t.pl=Oi)(h:Rr K H F' H' t v):Rp K F' H' t v:=by
 cases t<;>first|exact h|cases p
variable {FT:List Tf}{GT:List TV}{fs gs:List Str}{F F1:Fz}{Hm H2 H1:Hp}{cl:LA}{vcs:List V}{caps:List TV}{N ps fv:List Str}{fa c':On}{name qual:Str}{params:Pa}{scope:Scope}{k:Nat}{a b:TV}{p:V}{Q:VK}
end
section
variable {P:Ov}{w:Ow}{K:FG}{mg:SV}{base:Oz}{L:List (On×Pos×Str)}{FT FI:List Tf}{GT:List TV}{fs fi gs:List Str}
theorem xz{α β:Type}{f:α->β}:∀ {l:List α}{a b:α},(l.map f).Nodup->a∈l->b∈l->f a=f b->a=b
 |c::l,a,b,n,ha,hb,e=>by
  rw[cO,gi] at n
  rcases aB.mp ha with ea|ia<;>rcases aB.mp hb with eb|ib
  .rw[ea,eb]
  .exact XU (bq.mpr ⟨b,ib,by rw[<- e,ea]⟩) n.1
  .exact XU (bq.mpr ⟨a,ia,by rw[e,eb]⟩) n.1
  .exact xz n.2 ia ib e
def xA{T:On}{pos:Pos}{ql:Str}(nd:(L.map (·.1)).Nodup)(m:(T,pos,ql)∈L)(wd:Wd (TbJ L) F H)(t':TabOk H' T pos ql)(up:∀b o,b≠T->H b=Oh o->H' b=Oh o):Grow (TbJ L) F H F H':=by
 obtain⟨ps,e,_⟩:=wd.j _ m;obtain⟨ps',e',_⟩:=id t'
 have dm:∀a,H a≠Oj->H' a≠Oj:=λ a h=>by
  by_cases z:a=T
  .subst z;rw[e'];simp
  .cases q:H a with
   |none=>exact XU q h
   |some o=>rw[up a o z q];simp
 refine⟨λ a o n h=>up a o (λ z=>by rw[z,show H T=_ from e] at h;cases h;exact n _ rfl) h,dm,λ _ f=>f,λ _ f=>.inl f,⟨λ x hx=>?_,λ a f=>dm a (wd.d a f)⟩⟩;by_cases z:x.1=T
 .have:x=(T,pos,ql):=xz nd hx m z;subst this;exact t'
 .obtain⟨qs,h1,h2,h3⟩:=wd.j x hx;exact⟨qs,up _ _ z h1,h2,h3.imp id λ⟨c,q1,q2⟩=>⟨c,q1,up _ _ (λ y=>by rw[y,show H T=_ from e] at q2;cases q2) q2⟩⟩
variable {x tb at_ ql:Str}{st:Ox}{f c T:On}{fd:OP}{N ps pst N':List Str}{js:List Nat}{k kk:Nat}{S:Tf}{A:TV->List TV->Prop}{pre:List Ox}{e:Expr}{params:Pa}{scope:Scope}{pos p1 p2 p3 p4:Pos}
end
section
variable {P:Ov}{w:Ow}{K:FG}{mg:SV}{base:Oz}{L:List (On×Pos×Str)}{FT:List Tf}{GT:List TV}{fs gs:List Str}
variable {X:Cx}{N:List Str}{nm:List (Str×OD)}{kk fA:Nat}{A:TV->List TV->Prop}{SA:Tf}
variable {sd nf at_ aa:Str}{st:Ox}{f:On}{fd:OP}{k:Nat}{p1 p2 p3 p4 p5 p6 p7 p8 p9 p10 p11 p12 pos:Pos}{x1:Nat}{sc:Scope}
end
noncomputable abbrev Cd.a1(a:Cd):Cd:=.cons a .nil
noncomputable abbrev Cd.a2(a b:Cd):Cd:=.cons a (.cons b .nil)
noncomputable abbrev Cd.a3(a b c:Cd):Cd:=.cons a (.cons b (.cons c .nil))
noncomputable abbrev Cd.n(i:Int):Cd:=.c (.int i)
noncomputable abbrev Cd.w(x:Str):Cd:=.c (.str x)
noncomputable abbrev Cd.eq(a b:Cd):Cd:=.cmp .Eq a b
noncomputable abbrev dr(x:Str)(ps:List Str)(S:Tf):DR:=(x,ps,S)
section
variable {P:Ov}{w:Ow}{K:FG}{mg:SV}{base:Oz}{J:Hp->Prop}{GT:List TV}{gs:List Str}{D:List DR}{L:List (On×Pos×Str)}
theorem Cals.fn{x:Str}{ps:List Str}{st:Ox}{S:Tf}(C:Cals P w K mg base J D j)(hm:∀ {x:Str}{v:Option Value},W.nsIn K OC x=Oh v->mg x=v)(e:D[j]?=Oh (x,ps,S))(g:Gl' K x st f fd)
  (b:∀f fd,Fun K x x st f fd->Binds K fd ps []) (ok:FnOk P w K mg base Tu (j+1) f fd ps (Ur K J S)):Cals P w K mg base J D (j+1):=by
 refine C.s λ x' ps' S' e'=>?_;rw[e] at e';cases e';exact Callee.mk' g.F (hm g.a) (b f fd g.F) ok
def Cals.to{i j:Nat}(C:Cals P w K mg base J D j)(h:i<=j):Cals P w K mg base J D i:=λ n hn=>C n (bG hn h)
noncomputable def Vv(s:Scope)(ps N:List Str):Bool:=decide (s.kind=.function/\s.isCoroutine=Ol/\s.isGenerator=Ol/\N.Nodup/\N.take ps.length=ps/\(∀x∈ps,s.names.lookup x=Oh .local\/s.names.lookup x=Oh .cell)/\∀y∈s.names,y.2≠.free)
def kF(h:Vv s ps N=Oi):Tw N ps s:=let h:=aC h;⟨h.1,h.2.1,h.2.2.1,h.2.2.2.1,h.2.2.2.2.1,h.2.2.2.2.2.1,h.2.2.2.2.2.2⟩
structure Ua (K:FG)(x:Str)(st:Ox)(f:On)(fd:OP)(c T:On):Prop extends Gl' K x st f fd where
 hc:fd.code=.ref c
 tb:W.tabIn K x=Oh (c,T)
end
noncomputable abbrev V0:Cd:=.v 0
noncomputable abbrev V1:Cd:=.v 1
noncomputable abbrev V2:Cd:=.v 2
noncomputable abbrev V3:Cd:=.v 3
noncomputable abbrev V4:Cd:=.v 4
noncomputable abbrev V5:Cd:=.v 5
noncomputable abbrev V6:Cd:=.v 6
noncomputable abbrev V7:Cd:=.v 7
noncomputable abbrev V8:Cd:=.v 8
noncomputable abbrev V9:Cd:=.v 9
noncomputable abbrev Ux:Cd:=.v 10
noncomputable abbrev Vf:Cd:=.v 11
noncomputable abbrev N0:Cd:=.c (.int 0)
noncomputable abbrev N1:Cd:=.c (.int 1)
noncomputable abbrev N2:Cd:=.c (.int 2)
noncomputable abbrev N3:Cd:=.c (.int 3)
noncomputable abbrev N4:Cd:=.c (.int 4)
noncomputable abbrev N5:Cd:=.c (.int 5)
noncomputable abbrev N6:Cd:=.c (.int 6)
noncomputable abbrev N7:Cd:=.c (.int 7)
noncomputable abbrev N8:Cd:=.c (.int 8)
noncomputable abbrev N9:Cd:=.c (.int 9)
noncomputable abbrev VM:Cd:=.c (.int 10)
noncomputable abbrev Wm:Cd:=.c (.int 11)
noncomputable abbrev Cd.x(i:Nat)(j:Int):Cd:=.ix (.v i) (.c (.int j))
noncomputable abbrev Cd.c1(f:Nat)(a:Cd):Cd:=.call f (.a1 a)
noncomputable abbrev Cd.c2(f:Nat)(a b:Cd):Cd:=.call f (.a2 a b)
noncomputable abbrev Cd.c3(f:Nat)(a b c:Cd):Cd:=.call f (.a3 a b c)
noncomputable abbrev Cd.ln(a:Cd):Cd:=.bi .len (.a1 a)
noncomputable abbrev Cd.b1(f:BI)(a:Cd):Cd:=.bi f (.a1 a)
noncomputable abbrev Cd.b2(f:BI)(a b:Cd):Cd:=.bi f (.a2 a b)
noncomputable abbrev Cd.st(a b:Cd):Cd:=.sl a (.c .non) b
noncomputable abbrev Cd.sf(a b:Cd):Cd:=.sl a b (.c .non)
noncomputable abbrev Cd.es(a:Cd)(x:Str):Cd:=.cmp .Eq a (.c (.str x))
noncomputable abbrev Cd.t0:Cd:=.tup .nil
noncomputable abbrev Cd.l0:Cd:=.lst .nil
noncomputable abbrev Cd.t1(a:Cd):Cd:=.tup (.a1 a)
noncomputable abbrev Cd.t2(a b:Cd):Cd:=.tup (.a2 a b)
noncomputable abbrev Cd.t3(a b c:Cd):Cd:=.tup (.a3 a b c)
noncomputable abbrev Ct.nv(c:Cd)(r:Ct):Ct:=.ite c .never .nil r
noncomputable abbrev Ct.r(c x:Cd)(r:Ct):Ct:=.ite c (.ret x) .nil r
noncomputable abbrev Ct.i(c:Cd)(a r:Ct):Ct:=.ite c a .nil r
noncomputable abbrev Cd.ad(a b:Cd):Cd:=.bin .Add a b
noncomputable abbrev Cd.sb(a b:Cd):Cd:=.bin .Sub a b
noncomputable abbrev Cd.ml(a b:Cd):Cd:=.bin .Mult a b
noncomputable abbrev Cd.dv(a b:Cd):Cd:=.bin .FloorDiv a b
noncomputable abbrev Cd.md(a b:Cd):Cd:=.bin .Mod a b
noncomputable abbrev Cd.lt(a b:Cd):Cd:=.cmp .Lt a b
noncomputable abbrev Cd.gt(a b:Cd):Cd:=.cmp .Gt a b
noncomputable abbrev Cd.ne(a b:Cd):Cd:=.cmp .NotEq a b
noncomputable abbrev Cd.ge(a b:Cd):Cd:=.cmp .GtE a b
noncomputable def iJ:Nat->(LV->Prop)->Prop
 |0,Q=>Q []
 |n+1,Q=>∀u,iJ n λ l=>Q (u::l)
theorem oP:∀ {n:Nat}{Q:LV->Prop},iJ n Q->∀us:LV,us.length=n->Q us
 |0,_,h,us,e=>by rw[lX e];exact h
 |_+1,_,h,_::us,e=>oP (h _) us (Nat.succ.inj e)
structure CM (P:Ov)(w:Ow)(K:FG)(mg:SV)(base:Oz)(J:Hp->Prop)(GT:List TV)(gs:List Str)(D:List DR)(j:Nat):Prop where
 c:Cals P w K mg base J D j
 m:MOk P w K mg J GT gs
 hm:∀ {x:Str}{v:Option Value},W.nsIn K OC x=Oh v->mg x=v
noncomputable abbrev WL(D:List DR)(GT:List TV)(gs:List Str)(j:Nat)(st:Ox)(N:List Str)(n p:Nat)(S:Tf)(c:Ct):Prop:=(br (Uy D j) gs N (aD st).names Oi c (aN st)&&Vv (aD st) (N.take p) N&&decide (p<=N.length/\N.length=n))=Oi/\∀ts Q,S ts Q->ts.length=p/\wS (Um D j) GT c (TN n ts) (λ _=>Q .non) Q
section
variable {P:Ov}{w:Ow}{K:FG}{mg:SV}{base:Oz}{J:Hp->Prop}{GT:List TV}{gs:List Str}{D:List DR}{L:List (On×Pos×Str)}{j jj kk n n2 p i0:Nat}{x ql nn:Str}{N N' pst:List Str}{js:List Nat}{st:Ox}{S:Tf}{code:Ct}{A:TV->List TV->Prop}{f c T:On}{fd:OP}
noncomputable abbrev Bds(x:Str)(st:Ox)(ps:List Str)(p:Nat):Prop:=iJ p λ us=>∀(kV doc pm:Value) (an:OA) (cdv ct:Value),Pe (W.fnOf x x (gm st) (aN st) (aD st) .none kV doc pm an cdv ct) ⟨us,[]⟩=OF (ps.zip us)
def Bds.ok(h:Bds x st (N.take p) p)(l:p<=N.length)(f:On)(fd:OP)(F:Fun K x x st f fd):Binds K fd (N.take p) []:=F.binds λ kV doc pm an cdv ct us hl=>oP h us (by rw[hl,aQ,eE l]) kV doc pm an cdv ct
def CM.d(C:CM P w K mg base J GT gs D j)(g:Gx K x st)(z:WL D GT gs j st N n p S code)(e:D[j]?=Oh (x,N.take p,S):=by rfl)(b:Bds x st (N.take p) p:=by repeat' (first|rfl|(refine λ _=>?_))):CM P w K mg base J GT gs D (j+1):=by
 obtain⟨z1,z2⟩:=z;simp only[bp,dh] at z1;obtain⟨⟨k1,k2⟩,k3,rfl⟩:=z1;exact⟨HY code C.c C.m C.hm e g (kF k2) (b.ok k3) k1 (λ ts Q h=>by rw[(z2 ts Q h).1,aQ,eE k3]) λ ts Q h=>(z2 ts Q h).2,C.m,C.hm⟩
def CM.law(C:CM P w K mg base J GT gs D j)(g:Gl' K x st f fd)(z:WL D GT gs j st N n p rY code):FnOk P w K mg base Tu (j+1) f fd (N.take p) (rZ K J):=by
 obtain⟨z1,z2⟩:=z;simp only[bp,dh] at z1;obtain⟨⟨k1,k2⟩,k3,rfl⟩:=z1;exact HZ (xq code g.F (kF k2) C.m (fb j) C.c.fns k1 (λ ts Q h=>by rw[(z2 ts Q h).1,aQ,eE k3]) λ ts Q h=>(z2 ts Q h).2)
end
noncomputable def JH(L:List (On×Pos×Str))(D H:Hp):Prop:=TbJ L H/\∀a o,(∀vs,o≠.lst vs)->(∀ps,o≠.tbl ps)->D a=Oh o->H a=Oh o
section
variable {P:Ov}{w:Ow}{K:FG}{mg:SV}{base:Oz}{L:List (On×Pos×Str)}{D:Hp}{F F' F1 F2 F3:Fz}{H H' H1 H2 H3 H4:Hp}{FT FI:List Tf}{GT:List TV}{fs fi gs:List Str}{S:Tf}{k ki kf:Nat}{x:Str}{ps:List Str}
def JH.js:JS (JH L D):=⟨λ H p o n h=>⟨TbJ.js.nw H p o n h.1,λ a u n1 n2 e=>by rw[aA (λ z=>by have:=h.2 a u n1 n2 e;rw[z,n] at this;cases this)];exact h.2 a u n1 n2 e⟩,
 λ H p vs ws n h=>⟨TbJ.js.mu H p vs ws n h.1,λ a u n1 n2 e=>by rw[aA (λ z=>by have:=h.2 a u n1 n2 e;rw[z,n] at this;cases this;exact n1 _ rfl)];exact h.2 a u n1 n2 e⟩⟩
def Grow.jh(g:Grow (TbJ L) F H F' H')(w:JH L D H):Grow (JH L D) F H F' H':=⟨g.sm,g.dm,g.up,g.nw,⟨g.w.j,λ a o n1 n2 e=>g.sm a o n2 (w.2 a o n1 n2 e)⟩,g.w.d⟩
def Grow.tb(g:Grow (JH L D) F H F' H'):Grow (TbJ L) F H F' H':=⟨g.sm,g.dm,g.up,g.nw,g.w.j.1,g.w.d⟩
def Wd.tb(w:Wd (JH L D) F H):Wd (TbJ L) F H:=⟨w.j.1,w.d⟩
def Callee.imp{sp sp':Sp}(c:Callee P w K mg base Tu k x ps sp)(h:∀vs H Q E,sp' vs H Q E->sp vs H Q E):Callee P w K mg base Tu k x ps sp':=let ⟨f,fd,ok,m,kp,b⟩:=c.has;⟨⟨f,fd,ok.imp h,m,kp,b⟩⟩
def Callee.jh(c:Callee P w K mg base Tu k x ps (Ur K (TbJ L) S)):Callee P w K mg base Tu k x ps (Ur K (JH L D) S):=c.imp λ vs H Q E ⟨F,ts,P1,wd,r,s,q⟩=>⟨F,ts,P1,wd.tb,r,s,λ t pt F' H' v g rr=>q t pt F' H' v (g.jh wd.j) rr⟩
def MOk.jh(m:MOk P w K mg (TbJ L) GT gs):MOk P w K mg (JH L D) GT gs:=⟨JH.js,m.glb,m.dic,m.blt⟩
structure XF (P:Ov)(w:Ow)(K:FG)(mg:SV)(base:Oz)(J:Hp->Prop)(FT:List Tf)(GT:List TV)(fs gs:List Str)(k:Nat):Prop where
 m:MOk P w K mg J GT gs
 fns:∀(f:Nat) x S,fs[f]?=Oh x->FT[f]?=Oh S->∃ps,Callee P w K mg base Tu k x ps (Ur K J S)
 len:fs.length<=FT.length
 hof:∀A,Room k A->∀S,FT[fs.length]?=Oh S->WJ P w K mg base A J S
def XF.lam(x:XF P w K mg base J FT GT fs gs k){cl:LA}{A:Oy}{s:Oo}(hr:Room k (A.deeper (envX qual E s.heap.objs.size f cd (OH (s.heap.objs.size+1) E.names []++cl)))):Tv (iw P w K mg base N qual E f cd cl A outer s H) J FT GT fs gs :=
 ⟨rfl,by have:=hr.un;show(A.deeper _).units+120<Pu;lia,x.m.hJ,λ g y S h1 h2=>let ⟨ps,c⟩:=x.fns g y S h1 h2;⟨k,ps,hr,c⟩,x.m.glb,x.m.dic,x.m.blt,x.len,x.hof _ hr⟩
def XF.of0(m:MOk P w K mg (TbJ L) GT gs)(hl:fs.length=FT.length)(fns:∀(f:Nat) x S,fs[f]?=Oh x->FT[f]?=Oh S->∃ps,Callee P w K mg base Tu k x ps (Ur K (TbJ L) S)):XF P w K mg base (JH L D) FT GT fs gs k :=
 ⟨m.jh,λ f x S h1 h2=>let ⟨ps,c⟩:=fns f x S h1 h2;⟨ps,c.jh⟩,s1l hl,λ A _=>wD hl⟩
noncomputable def oQ(P:Ov)(w:Ow)(K:FG)(mg:SV)(base:Oz)(k:Nat)(L:List (On×Pos×Str))(D:Hp)(a:On)(Φ:Tf):Prop:=∀F H ts vs P' Q,Wd (JH L D) F H->RpL K F H ts vs->Φ ts P'->(∀t,P' t->∀F' H' v,Grow (JH L D) F H F' H'->Rp K F' H' t v->Q v H')->lU P w K mg base k a vs H Q
noncomputable def Uo(P:Ov)(w:Ow)(K:FG)(mg:SV)(base:Oz)(L:List (On×Pos×Str))(k:Nat)(S:Tf->Tf):Sp:=λ vs H Q _=>∃F a ts vs' D Φ P',vs=vs'++[.ref a]/\Wd (JH L D) F H/\FnV H a/\RpL K F H ts vs'/\S Φ ts P'/\oQ P w K mg base k L D a Φ/\∀t,P' t->∀F' H' v,Grow (JH L D) F H F' H'->Rp K F' H' t v->Q v H'
noncomputable def UR(HC:List (Str×(Tf->Tf)))(Φ:Tf)(a:On):Tf:=λ l P'=>(∃ts,l=.str "" :: .obj (.fn a)::ts/\Φ ts P')\/∃(x:Str) (S:Tf->Tf),x ≠ "" /\ HC.lookup x=Oh S/\(l=[.str x]\/∃ts,l=.str x::.obj (.fn a)::ts/\S Φ ts P')
theorem XF.of1{HC:List (Str×(Tf->Tf))}(m:MOk P w K mg (TbJ L) GT gs)(hl:fs.length=FT.length)(fns:∀(f:Nat) x S,fs[f]?=Oh x->FT[f]?=Oh S->∃ps,Callee P w K mg base Tu k x ps (Ur K (TbJ L) S))(kl:kf<=k)
  (hc:∀x S,HC.lookup x=Oh S->∃ps,Callee P w K mg base Tu k x ps (Uo P w K mg base L kf S)) (hf:oQ P w K mg base kf L D a Φ):XF P w K mg base (JH L D) (FT++[UR HC Φ a]) GT fs gs k:=by
 refine⟨m.jh,λ f x S h1 h2=>?_,by rw[aF];lia,λ A hr S e=>?_⟩
 .have lf:=(aY.mp h1).1;rw[cN Z] at h2;obtain⟨ps,c⟩:=fns f x S h1 h2;exact⟨ps,c.jh⟩
 .rw[hl,cM (ao _),gS] at e;cases e;refine⟨⟨kf,hr.mono kl,λ a' ts vs P' F H Q wd fv r s q=>?_⟩,λ x sx=>?_⟩
  .rcases s with ⟨ts',e,s⟩|⟨x,S,nx,_,e|⟨ts',e,_⟩⟩
   .cases e;exact hf F H ts vs P' Q wd r s q
   .cases e
   .injection e with e1 _;injection e1 with e1;exact XU e1.symm nx
  .rcases sx with ⟨ts',e,_⟩|⟨x',S,nx,lk,e|⟨ts',e,_⟩⟩
   .cases e
   .injection e with e1 _;injection e1 with e1;subst e1
    obtain⟨ps,c⟩:=hc x S lk;refine⟨k,ps,hr,c.imp λ vs H Q E ⟨F,a',ts,vs',P',e,wd,fv,r,s,q⟩=>?_⟩
    rcases s with ⟨ts',e2,_⟩|⟨x2,S2,_,lk2,e2|⟨ts',e2,s⟩⟩
    .injection e2 with e1 _;injection e1 with e1;exact XU e1 nx
    .cases e2
    .injection e2 with e1 e2;injection e1 with e1;subst e1
     cases e2;rw[lk] at lk2;cases lk2;exact⟨F,a,ts,vs',D,Φ,P',e,wd,fv,r,s,hf,q⟩
   .cases e
noncomputable def Rq(K:FG)(F:Fz)(H:Hp)(t:TV)(v:V):Prop:=match t with
 |.obj (.fn a)=>v=.ref a/\FnV H a
 |t=>Rp K F H t v
noncomputable abbrev RqL(K:FG)(F:Fz)(H:Hp):List TV->List V->Prop:=Pv (Rq K F H)
def Rq.sr(h:Rq K F H t v):Sr K F H t v:=by
 cases t with
 |obj o=>cases o<;>first|exact h|exact h.elim
 |_=>first|exact h|exact h.elim
def Rp.rq(h:Rp K F H t v):Rq K F H t v:=by
 cases t with
 |obj o=>exact h.elim
 |_=>exact h
theorem RpL.rq:∀ {ts:List TV}{vs:List V},RpL K F H ts vs->RqL K F H ts vs
 |[],_,h=>by cases h;exact .nil
 |_::_,_,⟨v,r,e,h1,h2⟩=>by subst e;exact .cons h1.rq (RpL.rq h2)
theorem RqL.get:∀ {ts:List TV}{vs:List V}{i:Nat}{t:TV},RqL K F H ts vs->ts[i]?=Oh t->∃v,vs[i]?=Oh v/\Rq K F H t v
 |_::_,_::_,0,_,.cons h _,e=>by cases e;exact⟨_,rfl,h⟩
 |_::_,_::_,i+1,_,.cons _ r,e=>RqL.get (i:=i) r e
theorem RqL.app:∀ {ts us:List TV}{vs ws:List V},RqL K F H ts vs->RqL K F H us ws->RqL K F H (ts++us) (vs++ws)
 |[],_,_,_,.nil,g=>g
 |_::_,_,_::_,_,.cons h r,g=>.cons h (RqL.app r g)
def Wn{vs:List V}(wd:Wd J F H)(r:RqL K F H ts vs):ER K J F H [] F H (Tn N vs) (TN N.length ts):=by
 have get:∀(i:Nat) t,(TN N.length ts)[i]?=Oh (Oh t)->ts[i]?=Oh t:=λ i t h=>by
  unfold TN at h;by_cases c:i<ts.length
  .rw[cN (by simpa using c),bh] at h
   cases q:ts[i]? with
   |none=>rw[q] at h;cases h
   |some u=>rw[q] at h;cases h;rfl
  .rw[cM (by simpa using c),fI] at h;split at h<;>cases h
 have sl:∀(i:Nat) t,(TN N.length ts)[i]?=Oh (Oh t)->∃v,(Tn N vs)[i]?=Oh (Oh v)/\Rq K F H t v:=λ i t h=>by
  obtain⟨v,ev,rv⟩:=r.get (get i t h);refine⟨v,?_,rv⟩;unfold Tn;rw[cN (by simpa using (aY.mp ev).1),bh,ev];rfl
 refine⟨⟨wd,λ i t h=>let ⟨v,e,q⟩:=sl i t h;⟨v,e,q.sr⟩⟩,.refl wd,λ i l a h1 h2=>?_,λ i k l l' v h1 h2 h3 h4=>?_,(λ p hp=>by cases hp),λ i as ll h=>by obtain⟨v,_,q⟩:=sl i _ h;exact q.elim⟩
 .obtain⟨v,_,q⟩:=sl i _ h1;exact q.elim
 .obtain⟨v,_,q⟩:=sl i _ h1;exact q.elim
theorem xB{HC:List (Str×(Tf->Tf))}{SF:Tf->Tf}{st:Ox}(code:Ct)(F0:Fun K x x st f fd)(sc:Tw N ps (aD st))(m:MOk P w K mg (TbJ L) GT gs)(hl:fs.length=FT.length)
  (fns:∀(f:Nat) x S,fs[f]?=Oh x->FT[f]?=Oh S->∃ps,Callee P w K mg base Tu k x ps (Ur K (TbJ L) S)) (kl:kf<=k)
  (hc:∀x S,HC.lookup x=Oh S->∃ps,Callee P w K mg base Tu k x ps (Uo P w K mg base L kf S))
  (hck:br fs gs N (aD st).names Oi code (aN st)=Oi) (Tj:∀Φ ts P',SF Φ ts P'->ts.length+1=ps.length)
  (hw:∀Φ a ts P',SF Φ ts P'->wS (FT++[UR HC Φ a]) GT code (TN N.length (ts++[.obj (.fn a)])) (λ _=>P' .non) P'):FnOk P w K mg base Tu (k+1) f fd ps (Uo P w K mg base L kf SF):=by
 refine F0.ok sc (λ vs H Q E ⟨F,a,ts,vs',D,Φ,P',e,wd,fv,r,s,_⟩=>by rw[e,aF,<- r.length];exact Tj _ _ _ s) (λ cdv A outer s H vs Q E hr h=>?_);obtain⟨F1,a,ts,vs',D,Φ,P',rfl,wd,fv,r,sp,hf,fin⟩:=h
 have nl:(vs'++[V.ref a]).length<=N.length:=by
  have z:=bw Ph sc.pre;rw[aQ] at z;have:=Tj _ _ _ sp;rw[aF,<- r.length];show ts.length+1<=_;lia
 have xf:XF P w K mg base (JH L D) (FT++[UR HC Φ a]) GT fs gs k:=.of1 m hl fns kl hc hf;have xo:Tv (dP Tu P w K mg base N x (aD st) f cdv A outer s H E).nox (JH L D) (FT++[UR HC Φ a]) GT fs gs:=⟨rfl,by have:=hr.un;show(A.deeper _).units+120<Pu;lia,xf.m.hJ,λ g y S h1 h2=>let ⟨ps,c⟩:=xf.fns g y S h1 h2;⟨k,ps,hr,c⟩,xf.m.glb,xf.m.dic,xf.m.blt,xf.len,xf.hof _ hr⟩;refine⟨_,sS (F0:=F1) (H0:=H) (PN:=[]) code (lp:=Oi) ⟨xo,⟨O,O⟩,sc.nd,λ _ _=>rfl,λ _=>oM⟩ hck,F1,TN N.length (ts++[.obj (.fn a)]),Wn wd (r.rq.app (.cons (show Rq K F1 H (.obj (.fn a)) (.ref a) from ⟨O,fv⟩) .nil)),?_,?_⟩
 .unfold Tn;rw[aF,ag,dC];show(vs'++[V.ref a]).length+(N.length-(vs'++[V.ref a]).length)=N.length;lia
 .exact bE code (λ ρ' q F' H' σ' e _=>fin .non q F' H' .non e.gr rfl) (λ t q F' H' v g r=>fin t q F' H' v g r) (hw Φ a ts P' sp)
end
section
variable {P:Ov}{w:Ow}{K:FG}{mg:SV}{base:Oz}{L:List (On×Pos×Str)}{D:Hp}{F F' F1 F2 F3:Fz}{H H' H1 H2 H3 H4:Hp}{FT FI:List Tf}{GT:List TV}{fs fi gs:List Str}{k ki:Nat}{cl:LA}{vcs:List V}{caps:List TV}{Φ:Tf}
noncomputable def kG(t:TV):Prop:=LF t\/∃a,t=.obj (.fn a)
mutual
theorem LF.mv(st:∀a vs,SqT K H a vs->SqT K H' a vs):∀ {t:TV}{v:V},LF t->Rp K F H t v->Rp K F' H' t v
 |.non,_,_,h=>h
 |.bl _,_,_,h=>h
 |.int _,_,_,h=>h
 |.str _,_,_,h=>h
 |.tup l,_,f,⟨a,vs,e,q,r⟩=>⟨a,vs,e,st _ _ q,LF.mvl st (λ x hx=>by simp only[LF] at f;exact f x hx) r⟩
 |.lst _,_,f,_=>by simp[LF] at f
 |.bor _,_,f,_=>by simp[LF] at f
 |.own _,_,f,_=>by simp[LF] at f
 |.obj _,_,f,_=>by simp[LF] at f
theorem LF.mvl(st:∀a vs,SqT K H a vs->SqT K H' a vs):∀ {ts:List TV}{vs:List V},(∀x∈ts,LF x)->RpL K F H ts vs->RpL K F' H' ts vs
 |[],_,_,h=>h
 |t::ts,_,f,⟨v,r,e,h1,h2⟩=>⟨v,r,e,LF.mv st (f t on) h1,LF.mvl st (λ x hx=>f x (by simp[hx])) h2⟩
end
theorem RqL.mv(st:∀a vs,SqT K H a vs->SqT K H' a vs)(fn:∀a,FnV H a->FnV H' a):∀ {ts:List TV}{vs:List V},(∀t∈ts,kG t)->RqL K F H ts vs->RqL K F' H' ts vs
 |[],[],_,.nil=>.nil
 | t::_,_::_,c,.cons h r=>.cons (by
   rcases c t on with lf|⟨a,rfl⟩
   .cases t with
    |obj o=>simp[LF] at lf
    |_=>exact LF.mv (F:=F) st lf h
   .exact⟨h.1,fn a h.2⟩) (RqL.mv st fn (λ t ht=>c t (by simp[ht])) r)
noncomputable def jA(F:Fz)(cl:LA):Fz:=λ a=>F a/\∀q∈cl,q.2≠a
def xC(hc:CelAt H cl vcs):Ke K F H (jA F cl) (minC H cl):=by
 have km:=sa (K:=K) (F:=F) hc;refine⟨km.t,λ a vs h=>?_⟩
 rcases h with ⟨f,sq⟩|h
 .rcases sq with rd|kk
  .refine .inl ⟨⟨f,λ q hq e=>?_⟩,.inl (rd.min hc (λ _ z=>nomatch z) (λ _ _ z=>nomatch z))⟩;obtain⟨o,v,ec⟩:=hc.mem hq;rw[e] at ec
   rcases rd with rd|⟨o',rd⟩<;>rw[ec] at rd<;>cases rd
  .exact .inr kk
 .exact .inr h
theorem Ig{qual:Str}(ci:Cd)(xi:XF P w K mg base (JH L D) FI GT fi gs ki)(S:Tx N' TB fv scope)(hcl:cl.map (·.1)=fv)
  (hb:∀(pm ctv:Value) (us:LV),us.length=TB.length->Pe (kla_fn "<lambda>" qual params body scope cl pm (.ref c') ctv) ⟨us,[]⟩=OF (TB.zip us))
  (hd:Hand cl vcs H3 H4) (dj:JH L D H3) (L1:H4 fa=Oh (eX fa c' qual params body scope cl)) (_L:H4 c'=Oh (cr c' qual)) (cp:RqL K F3 H4 caps vcs) (co:∀t∈caps,kG t) (cki:ck fi gs ci N' scope.names body=Oi)
  (hw:∀args P',Φ args P'->args.length=TB.length/\wE FI GT ci (TN N'.length (args++caps)) λ u=>u.pl=Oi/\P' u):oQ P w K mg base (ki+1) L H4 fa Φ:=by
 intro F1 H1 ts vs P' Q wd r hφ q;obtain⟨hl,hw⟩:=hw ts P' hφ;have up:∀ {a o},(∀vs,o≠.lst vs)->(∀ps,o≠.tbl ps)->H4 a=Oh o->H1 a=Oh o:=λ n1 n2 e=>wd.j.2 _ _ n1 n2 e;have hc:CelAt H1 cl vcs:=⟨hd.at_.len,λ i q e=>let ⟨v,o,e1,e2⟩:=hd.at_.at_ i q e;⟨v,o,e1,up (λ _ z=>nomatch z) (λ _ z=>nomatch z) e2⟩,hd.at_.apart⟩;have vl:vs.length=TB.length:=by rw[<- r.length,hl]
 have dm:∀a o,(∀vs,o≠.lst vs)->(∀ps,o≠.tbl ps)->D a=Oh o->minC H1 cl a=Oh o:=λ a o n1 n2 e=>by
  have e3:=dj.2 a o n1 n2 e;rw[bV λ q hq z=>by have:=hd.fr q hq;rw[z,e3] at this;cases this];exact up n1 n2 (hd.to e3)
 have wm:Wd (JH L D) (jA F1 cl) (minC H1 cl):=⟨⟨wd.j.1.sm λ a o _ k e=>jz hc e λ _ _ _=>k _ _,dm⟩,λ a f=>by rw[bV f.2];exact wd.d a f.1⟩
 have sq:∀a vs,SqT K H4 a vs->SqT K (minC H1 cl) a vs:=λ a vs h=>h.imp (λ h=>by
  have h1:Rd H1 a (.tup vs):=h.imp (λ h=>up (λ _ z=>nomatch z) (λ _ z=>nomatch z) h) λ⟨o,h⟩=>⟨o,up (λ _ z=>nomatch z) (λ _ z=>nomatch z) h⟩
  exact h1.min hc (λ _ z=>nomatch z) (λ _ _ z=>nomatch z)) id
 have fq:∀a,FnV H4 a->FnV (minC H1 cl) a:=λ a ⟨φ,e,kf⟩=>⟨φ,jz hc (up (λ _ z=>nomatch z) (λ _ z=>nomatch z) e) (λ _ _ _ z=>nomatch z),kf⟩;refine Ia (vcs:=vcs) S hcl hb vl (up (λ _ z=>nomatch z) (λ _ z=>nomatch z) L1) (up (λ _ z=>nomatch z) (λ _ z=>nomatch z) _L) hc (te:=rE K (JH L D) FI GT ci) (λ A outer s hr=>sE ci (xi.lam hr) ⟨O,O⟩ cki) ?_;refine⟨jA F1 cl,_,(Wn (N:=N') wm ((r.ke (xC hc)).rq.app (cp.mv sq fq co))).ev,av ci (λ u ⟨pl,pu⟩ F' H' v g rr hz=>?_) hw⟩;have nF:∀a,F' a->∀q∈cl,q.2≠a:=λ a f q hq z=>g.w.d a f (z ▸ hz q hq)
 have gg:Grow (JH L H4) F1 H1 (λ a=>F' a\/F1 a) (TH H1 H' cl):=by
  have sm:∀a o,(∀ps,o≠.tbl ps)->H1 a=Oh o->TH H1 H' cl a=Oh o:=λ a o n e=>by
   rcases oN cl a with ⟨q,hq,rfl⟩|hn
   .rw[eY hq];exact e
   .rw[cQ hn];exact g.sm a o n (by rw[bV hn];exact e)
  have dmm:∀a,H1 a≠Oj->TH H1 H' cl a≠Oj:=λ a e=>by
   rcases oN cl a with ⟨q,hq,rfl⟩|hn
   .rw[eY hq];exact e
   .rw[cQ hn];exact g.dm a (by rw[bV hn];exact e)
  refine⟨sm,dmm,λ a f=>.inr f,λ a f=>?_,⟨g.w.j.1.sm λ a o _ _ e=>by rw[oO hz (by rw[e];simp)];exact e,λ a o n1 n2 e=>sm a o n2 (up n1 n2 e)⟩,λ a f=>?_⟩
  .rcases f with f|f
   .rcases g.nw a f with z|z
    .exact .inl z.1
    .rw[bV (nF a f)] at z;exact .inr z
   .exact .inl f
  .rcases f with f|f
   .rw[cQ (nF a f)];exact g.w.d a f
   .exact dmm a (wd.d a f)
 exact q u pu _ _ v gg (((Ie pl rr).ke (xr hz)).ke (.up λ _ f=>.inl f))
theorem xD(xo:Tv X J FT GT fs gs)(xs:XS X N nm)(hst:aX e=Oi)(he:PE X e tl):∀(l:Cd) {es:List Expr},ckL fs gs l N nm es=Oi ->
  PA X (es++[e]) (λ σ H Q=>∃F ρ,EV X.K J F H σ ρ/\wL FT GT l ρ λ ts=>∀F' H' vs,Grow J F H F' H'->RrL X.K H F' H' ts vs->tl σ H' λ v H2=>Q (vs++[v]) H2):=λ l=>by
 induction l with
 |nil=>
  intro es h
  cases es with
  |nil=>exact(da he pa_nil (bj hst)).imp λ σ H Q ⟨F,ρ,ev,w⟩=>w F H [] (.refl ev.w) .nil
  |cons e es=>exact Om h
 |cons a r _ ih=>
  intro es h
  cases es with
  |nil=>exact Om h
  |cons e0 es=>
   obtain⟨h1,h3⟩:=an h;obtain⟨h1,h2⟩:=an h1;refine(da (sE a xo xs h2) (ih h3) (bj h1)).imp λ σ H Q ⟨F,ρ,ev,w⟩=>⟨F,ρ,ev,av a (λ t w F1 H1 v g1 r1=>⟨F1,ρ,ev.grow g1,bH r (λ ts w F2 H2 vs g2 r2=>?_) w⟩) w⟩;exact w F2 H2 (v::vs) (g1.trans g2) (.cons (r1.grow g2) (Paired.mapP r2 λ _ _ z=>z.late g1))
 |_=>intro es h;exact Om h
noncomputable def UV(FT FI:List Tf)(GT:List TV)(l:Cd)(js:List Nat)(ci:Cd)(na n2:Nat)(SF:Tf->Tf)(ρ:En)(Q:TV->Prop):Prop:=wL FT GT l ρ λ ts=>ts.all TV.nb=Oi/\∃caps Φ P',js.map (λ j=>ρ[j]?)=caps.map (λ t=>Oh (Oh t))/\(∀t∈caps,kG t)/\SF Φ (ts.map .fz) P'/\(∀args P'',Φ args P''->args.length=na/\wE FI GT ci (TN n2 (args++caps)) λ u=>u.pl=Oi/\P'' u)/\∀t,P' t->Q t
theorem sg(e:EV K J F H σ ρ):∀ {js:List Nat}{caps:List TV},js.map (λ j=>ρ[j]?)=caps.map (λ t=>Oh (Oh t))->(∀t∈caps,kG t)->∃vcs,js.map (λ j=>σ[j]?)=vcs.map (λ v=>Oh (Oh v))/\RqL K F H caps vcs
 |[],[],_,_=>⟨[],rfl,.nil⟩
 |[],_::_,h,_=>by cases h
 |_::_,[],h,_=>by cases h
 |j::js,t::caps,h,c=>by
  rw[cO,cO] at h
  injection h with h1 h2
  obtain⟨v,ev,r⟩:=e.sl j t h1;obtain⟨vs,e2,r2⟩:=sg e h2 λ t ht=>c t (by simp[ht]);refine⟨v::vs,by rw[cO,cO,ev,e2],.cons ?_ r2⟩
  rcases c t on with lf|⟨a,rfl⟩
  .cases t<;>first|exact r|(simp[LF] at lf)
  .exact r
theorem Ih{N nm}{tb ql:Str}{js:List Nat}{body e0:Expr}{es:List Expr}{pos p1 p2 p3:Pos}(l ci:Cd)(xo:Tv X (JH L D) FT GT fs gs)(xs:XS X N nm)(hr:Room k X.A)
  (ho:Callee X.prog X.w X.K X.mg X.base Tu k tb pst (Uo X.prog X.w X.K X.mg X.base L (ki+1) SF)) (xi:XF X.prog X.w X.K X.mg X.base (JH L D) FI GT fi gs ki) (gt:Gl X tb) (ntb:(tb == ("__debug__" : Str))=Ol) (TF:TL X.base X.mg c T) (hcd:X.env.code=.ref c) (mT:(T,pos,ql)∈L) (nd:(L.map (·.1)).Nodup)
  (hq:X.env.qual ++ "<lambda>"=ql) (df:PY params X.env=([],[])) (hcl:OS scope X.env=OF cl) (own:OwnCl X.env.cells fv cl) (hj:js.map (λ j=>X.N[j]?)=fv.map Oh) (hk:∀n∈fv,X.env.scope.names.lookup n=Oh .cell) (hf:∀n∈fv,X.fn n=Oi) (nf:fv.Nodup)
  (ls:Tx N' TB fv scope) (hb:∀(c':On) (pm ctv:Value) (us:LV),us.length=TB.length->Pe (kla_fn "<lambda>" ql params body scope cl pm (.ref c') ctv) ⟨us,[]⟩=OF (TB.zip us))
  (ckl:ckL fs gs l N nm (e0::es)=Oi) (cki:ck fi gs ci N' scope.names body=Oi) :
  PSs X [.Return (Oh (.Call (.Name tb p1) (e0::(es++[.Lambda params body scope pos])) [] p2)) p3] (λ R σ H=>∃F ρ,EV X.K (JH L D) F H σ ρ/\UV FT FI GT l js ci TB.length N'.length SF ρ λ t=>∀F' H' v,Grow (JH L D) F H F' H'->Rp X.K F' H' t v->R.rt v H'):=by
 have st:=iI ckl;rw[cP,bp] at st;have st2:(es++[Expr.Lambda params body scope pos]).all aX=Oi:=by rw[RD,st.2];rfl
 have hE:=vX (X:=X) (p:=p1) (pos:=p2) ho hr gt own hj hk hf nf (xD xo xs rfl (Fu (pos:=pos) (body:=body) hq hcd TF df hcl own) l ckl) ntb (bj st.1) (fQ st2);intro Te s σ H R I ⟨F,ρ,ev,q⟩;refine uc (pZ (pos:=p3) hE) Te s σ H R I ⟨F,ρ,ev,bH l (λ ts ⟨hn,caps,Φ,P',hc,co,sf,hw,fin⟩ F2 H2 vs g r=>⟨g.w.j.1 _ mT,λ fa c' cl1 H3 o1 ffa hfa hc3 t3 up3=>?_⟩) q⟩;cases OwnCl.uniq own o1;obtain⟨vcs,ev2,rc⟩:=sg (ev.grow g) hc co;refine⟨vcs,ev2,λ cl2 H4 o2 fr hcel eq4=>?_⟩;cases OwnCl.uniq own o2;obtain⟨F3,g3',_,r3⟩:=gz g r hn;have g3:=xA nd mT g3'.w.tb t3 up3;have hd:Hand cl vcs H3 H4:=⟨fr,hcel,eq4⟩;have j3:JH L D H3:=(g3.jh g3'.w.j).w.j;have sq:∀a vs,SqT X.K H2 a vs->SqT X.K H4 a vs:=λ a vs h=>(h.sm g3.sm).sm λ a o _ e=>hd.to e;have w4:Wd (JH L H4) F3 H4:=⟨⟨(hd.wd g3.w).j,λ a o _ _ e=>e⟩,(hd.wd g3.w).d⟩;refine⟨F3,fa,_,vs,H4,Φ,P',O,w4,FnV.lam (hd.to hfa),(r3.ke g3.ke).ke hd.ke,sf,Ig ci xi ls own.1 (hb c') hd j3 (hd.to hfa) (hd.to hc3) (rc.mv (F':=F2) sq (λ a ⟨φ,e,kf⟩=>⟨φ,hd.to (g3.sm _ _ (λ _ z=>nomatch z) e),kf⟩) co) co cki hw,λ t pt F6 H6 v6 g6 r6=>?_⟩;have g6b:=hd.back g3.w g6.tb;have gall:=(g3'.tb.trans g3).trans g6b;exact fin t pt F6 _ v6 (gall.jh ev.w.j) (r6.ke (sa (hd.cel g6.tb)))
end
section
variable {P:Ov}{w:Ow}{K:FG}{mg:SV}{base:Oz}{L:List (On×Pos×Str)}{D:Hp}{FT FI:List Tf}{GT:List TV}{fs fi gs:List Str}{k ki:Nat}{x tb ql:Str}{st:Ox}{f c T:On}{fd:OP}{N ps pst N' TB:List Str}{js:List Nat}{S:Tf}{SF:Tf->Tf}{params:Pa}{scope:Scope}{body e0:Expr}{es:List Expr}{pre post:List Ox}{pos p1 p2 p3 p4:Pos}{l ci:Cd}
structure MkI (K:FG)(mg:SV)(base:Oz)(L:List (On×Pos×Str))(x tb ql:Str)(st:Ox)(f c T:On)(fd:OP)(N ps TB N':List Str)(js:List Nat)(params:Pa)(body:Expr)(scope:Scope)(pos:Pos)(gs fs fi:List Str)(l ci:Cd)(es:List Expr):Prop where
 F:Fun K x x st f fd
 cd:fd.code=.ref c
 TF:TL base mg c T
 mT:(T,pos,ql)∈L
 nd:(L.map (·.1)).Nodup
 sc:Tw N ps (aD st)
 gt:(aD st).names.lookup tb=Oh .globalImplicit
 ntb:(tb == ("__debug__" : Str))=Ol
 ls:Tx N' TB (Ue scope.names) scope
 hj:js.map (λ j=>N[j]?)=(Ue scope.names).map Oh
 hk:∀n∈Ue scope.names,(aD st).names.lookup n=Oh .cell
 nf:(Ue scope.names).Nodup
 df:∀env,PY params env=([],[])
 hq:∀n f cd,(Pg x (aD st) n f cd).qual ++ "<lambda>"=ql
 hb:∀(cl:LA) (c':On) (pm ctv:Value) (us:LV),us.length=TB.length->Pe (kla_fn "<lambda>" ql params body scope cl pm (.ref c') ctv) ⟨us,[]⟩=OF (TB.zip us)
 ckl:ckL fs gs l N (aD st).names es=Oi
 cki:ck fi gs ci N' scope.names body=Oi
def XF.fn(X:XF P w K mg base J FT GT fs gs k){A:Oy}{s:Oo}(hr:Room k (A.deeper (Pg qual (aD st) s.heap.objs.size f cdv))):Tv (dP Tu P w K mg base N qual (aD st) f cdv A outer s H E).nox J FT GT fs gs :=
 ⟨rfl,by have:=hr.un;show(A.deeper _).units+120<Pu;lia,X.m.hJ,λ g y S h1 h2=>let ⟨ps,c⟩:=X.fns g y S h1 h2;⟨k,ps,hr,c⟩,X.m.glb,X.m.dic,X.m.blt,X.len,X.hof _ hr⟩
theorem xE{A:Oy}{s:Oo}(M:MkI K mg base L x tb ql st f c T fd N ps TB N' js params body scope pos gs fs fi l ci (e0::es))(xf:XF P w K mg base (JH L D) FT GT fs gs k)(xi:XF P w K mg base (JH L D) FI GT fi gs ki)(hr:Room k (A.deeper (Pg x (aD st) s.heap.objs.size f (.ref c))))(ho:Callee P w K mg base Tu k tb pst (Uo P w K mg base L (ki+1) SF)) :
  PSs (dP Tu P w K mg base N x (aD st) f (.ref c) A outer s H E).nox [.Return (Oh (.Call (.Name tb p1) (e0::(es++[.Lambda params body scope pos])) [] p2)) p3] (λ R σ H=>∃F ρ,EV K (JH L D) F H σ ρ/\UV FT FI GT l js ci TB.length N'.length SF ρ λ t=>∀F' H' v,Grow (JH L D) F H F' H'->Rp K F' H' t v->R.rt v H'):=by
 obtain⟨cl,hcl,own⟩:=xy (scope:=scope) (env:=Pg x (aD st) s.heap.objs.size f (.ref c)) λ y hy=>iY.mp (jQ _ _ _ (.inl (M.hk y hy)));exact Ih (X:=(dP Tu P w K mg base N x (aD st) f (.ref c) A outer s H E).nox) l ci (xf.fn hr) ⟨O,O⟩ hr ho xi M.gt M.ntb M.TF rfl M.mT M.nd (M.hq _ _ _) (M.df _) hcl own M.hj M.hk (λ _ _=>rfl) M.nf M.ls (M.hb cl) M.ckl M.cki
theorem Ii{HC:List (Str×(Tf->Tf))}{SG:Tf->Tf}{kf:Nat}(M:MkI K mg base L x tb ql st f c T fd N ps TB N' js params body scope pos gs fs fi l ci (e0::es))(m:MOk P w K mg (TbJ L) GT gs)(hl:fs.length=FT.length)(hl':fi.length=FI.length)
  (fns:∀(f:Nat) x S,fs[f]?=Oh x->FT[f]?=Oh S->∃ps,Callee P w K mg base Tu k x ps (Ur K (TbJ L) S)) (fni:∀(f:Nat) x S,fi[f]?=Oh x->FI[f]?=Oh S->∃ps,Callee P w K mg base Tu ki x ps (Ur K (TbJ L) S)) (kl:kf<=k/\kf<=ki)
  (ho:Callee P w K mg base Tu k tb pst (Uo P w K mg base L (ki+1) SF)) (hbd:aN st=[.Return (Oh (.Call (.Name tb p1) (e0::(es++[.Lambda params body scope pos])) [] p2)) p3]) (Tj:∀Φ ts P',SG Φ ts P'->ts.length+1=ps.length)
  (hw:∀Φ a ts P',SG Φ ts P'->UV (FT++[UR [] Φ a]) (FI++[UR [] Φ a]) GT l js ci TB.length N'.length SF (TN N.length (ts++[.obj (.fn a)])) P'):FnOk P w K mg base Tu (k+1) f fd ps (Uo P w K mg base L kf SG):=by
 refine M.F.okT M.cd M.sc (λ vs H Q E ⟨F,a,ts,vs',D,Φ,P',e,wd,fv,r,s,_⟩=>by rw[e,aF,<- r.length];exact Tj _ _ _ s) (λ A outer s H vs Q E hr h=>?_);obtain⟨F1,a,ts,vs',D,Φ,P',rfl,wd,fv,r,sp,hf,fin⟩:=h;have no:∀ {k:Nat}(x:Str) (S:Tf->Tf),([]:List (Str×(Tf->Tf))).lookup x=Oh S->∃ps,Callee P w K mg base Tu k x ps (Uo P w K mg base L kf S):=λ _ _ z=>by cases z
 rw[hbd];refine⟨_,xE M (.of1 m hl fns kl.1 no hf) (.of1 m hl' fni kl.2 no hf) hr ho,F1,TN N.length (ts++[.obj (.fn a)]),(Wn wd (r.rq.app (.cons (show Rq K F1 H (.obj (.fn a)) (.ref a) from ⟨O,fv⟩) .nil))).ev,?_⟩;exact bH l (λ ts ⟨hn,caps,Φ',P'',hc,co,sf,hw,q⟩=>⟨hn,caps,Φ',P'',hc,co,sf,hw,λ t pt F' H' v g r=>fin t (q t pt) F' H' v g r⟩) (hw Φ a ts P' sp)
theorem xF(code:Ct)(oc:Option (Cd×Ct))(M:MkI K mg base L x tb ql st f c T fd N ps TB N' js params body scope pos gs fs fi l ci (e0::es))(m:MOk P w K mg (TbJ L) GT gs)(hl:fs.length=FT.length)(hl':fi.length=FI.length)
  (fns:∀(f:Nat) x S,fs[f]?=Oh x->FT[f]?=Oh S->∃ps,Callee P w K mg base Tu k x ps (Ur K (TbJ L) S)) (fni:∀(f:Nat) x S,fi[f]?=Oh x->FI[f]?=Oh S->∃ps,Callee P w K mg base Tu ki x ps (Ur K (TbJ L) S))
  (ho:Callee P w K mg base Tu k tb pst (Uo P w K mg base L (ki+1) SF))
  (hbd:aN st=pre++(match oc with|none=>[.Return (Oh (.Call (.Name tb p1) (e0::(es++[.Lambda params body scope pos])) [] p2)) p3]|some _=>.If cnd [.Return (Oh (.Call (.Name tb p1) (e0::(es++[.Lambda params body scope pos])) [] p2)) p3] [] p4::post))
  (ck1:br fs gs N (aD st).names Oi code pre=Oi) (ck2:match oc with|none=>True|some q=>tB' q.1 cnd=Oi/\ck fs gs q.1 N (aD st).names cnd=Oi/\br fs gs N (aD st).names Oi q.2 post=Oi) (Tj:∀ts Q,S ts Q->ts.length=ps.length)
  (hw:∀ts Q,S ts Q->wS FT GT code (TN N.length ts) (λ ρ=>match oc with|none=>UV FT FI GT l js ci TB.length N'.length SF ρ Q|some q=>wE FT GT q.1 ρ λ t=>b1 t λ b=>if b=Oi then UV FT FI GT l js ci TB.length N'.length SF ρ Q else wS FT GT q.2 ρ (λ _=>Q .non) Q) Q):FnOk P w K mg base Tu (k+1) f fd ps (Ur K (TbJ L) S):=by
 refine M.F.okT M.cd M.sc (λ vs H Q E ⟨F1,ts,P1,wd,r,s,_⟩=>by rw[<- r.length];exact Tj _ _ s) (λ A outer s H vs Q E hr h=>?_);obtain⟨F1,ts,P1,wd,r,sp,fin⟩:=h
 have nl:vs.length<=N.length:=by
  have z:=bw Ph M.sc.pre;rw[aQ] at z;have:=Tj _ _ sp;rw[<- r.length];lia
 have xf:XF P w K mg base (JH L λ _=>Oj) FT GT fs gs k:=.of0 m hl fns;have hrow:=xE (E:=E) (H:=H) (s:=s) (A:=A) (outer:=outer) (p1:=p1) (p2:=p2) (p3:=p3) M xf (.of0 m hl' fni) hr ho;have yo:Xn (dP Tu P w K mg base N x (aD st) f (.ref c) A outer s H E).nox (JH L λ _=>Oj) FT GT fs gs N (aD st).names Oi:=⟨xf.fn hr,⟨rfl,rfl⟩,M.sc.nd,λ _ _=>rfl,λ _=>oM⟩;have h1:=sS (F0:=F1) (H0:=H) (PN:=[]) code (lp:=Oi) yo ck1
 have sl:(Tn N vs).length=N.length:=by
  unfold Tn;rw[aF,ag,dC];show vs.length+(N.length-vs.length)=N.length;lia
 have wd0:Wd (JH L λ _=>Oj) F1 H:=⟨⟨wd.j,λ _ _ _ _ e=>nomatch e⟩,wd.d⟩
 have end_:∀ {ρ:En}{F':Fz}{H':Hp}{σ':St},ER K (JH L λ _=>Oj) F1 H [] F' H' σ' ρ->UV FT FI GT l js ci TB.length N'.length SF ρ P1->UV FT FI GT l js ci TB.length N'.length SF ρ λ t=>∀F2 H2 v,Grow (JH L λ _=>Oj) F' H' F2 H2->Rp K F2 H2 t v->Q v H2:=λ e z=>
  bH l (λ ts ⟨hn,caps,Φ',P'',hc,co,sf,hw,q⟩=>⟨hn,caps,Φ',P'',hc,co,sf,hw,λ t pt F' H' v g r=>fin t (q t pt) F' H' v (e.gr.trans g).tb r⟩) z
 rw[hbd]
 cases oc with
 |none=>
  refine⟨_,xv h1 hrow,F1,TN N.length ts,Wl wd0 r,sl,?_⟩;exact bE code (λ ρ' q F' H' σ' e _=>⟨F',ρ',e.ev,end_ e q⟩) (λ t q F' H' v g r=>fin t q F' H' v g.tb r) (hw ts P1 sp)
 |some q=>
  obtain⟨cd,pc⟩:=q;obtain⟨c1,c2,c3⟩:=ck2;have h3:=sS (F0:=F1) (H0:=H) (PN:=[]) pc (lp:=Oi) yo c3;refine⟨_,xv h1 (dO (ud (pos:=p4) (sT cd yo.xo yo.xs c1 c2) hrow pss_nil) h3),F1,TN N.length ts,Wl wd0 r,sl,?_⟩;refine bE code (λ ρ' q F' H' σ' e s2=>⟨F',ρ',e.ev,av cd (λ t w=>cD (λ b w F2 H2 g=>?_) w) q⟩) (λ t q F' H' v g r=>fin t q F' H' v g.tb r) (hw ts P1 sp)
  cases b with
  |true=>exact⟨F2,ρ',(e.grow g).ev,end_ (e.grow g) w⟩
  |false=>exact⟨F2,ρ',e.grow g,s2,bE pc (λ ρ2 q F3 H3 σ3 e3 _=>fin .non q F3 H3 .non e3.gr.tb rfl) (λ t q F3 H3 v g3 r=>fin t q F3 H3 v g3.tb r) w⟩
end
structure WM where
 tb:Str
 e:Expr
 es:List Expr
 a:Pa
 b:Expr
 s:Scope
 p:Pos
 p1:Pos
 p2:Pos
 p3:Pos
noncomputable def TX(st:Ox):WM:=match st with
 | .Return (Oh (.Call (.Name tb p1) (e::r) [] p2)) p3=>(match r.getLast? with
  |some (.Lambda a b s p)=>⟨tb,e,r.dropLast,a,b,s,p,p1,p2,p3⟩
  |_=>⟨tb,e,[],gm (.Pass ⟨0,0,0,0⟩),e,aD (.Pass ⟨0,0,0,0⟩),p1,p1,p1,p1⟩)
 |_=>⟨"",.Name "" ⟨0,0,0,0⟩,[],gm (.Pass ⟨0,0,0,0⟩),.Name "" ⟨0,0,0,0⟩,aD (.Pass ⟨0,0,0,0⟩),⟨0,0,0,0⟩,⟨0,0,0,0⟩,⟨0,0,0,0⟩,⟨0,0,0,0⟩⟩
noncomputable abbrev WN(r:WM):Ox:=.Return (Oh (.Call (.Name r.tb r.p1) (r.e::(r.es++[.Lambda r.a r.b r.s r.p])) [] r.p2)) r.p3
noncomputable def UM(i:Nat)(st:Ox):Expr×Ox×Pos:=match (aN st)[i]? with
 |some (.If c [r] [] p)=>(c,r,p)
 |_=>(.Name "" ⟨0,0,0,0⟩,.Pass ⟨0,0,0,0⟩,⟨0,0,0,0⟩)
noncomputable def WO(sc:Scope)(N TB:List Str):Bool:=decide (sc.kind=.function/\sc.isCoroutine=Ol/\sc.isGenerator=Ol/\N.Nodup/\N.take (TB++Ue sc.names).length=TB++Ue sc.names/\(∀x∈TB,sc.names.lookup x=Oh .local\/sc.names.lookup x=Oh .cell)/\(∀x∈Ue sc.names,sc.names.lookup x=Oh .free)/\(∀y∈sc.names,y.2=.free->y.1∈Ue sc.names)/\∀x∈Ue sc.names,∀y∈sc.names,y.2=.cell->y.1≠x)
def xG(h:WO sc N TB=Oi):Tx N TB (Ue sc.names) sc:=let h:=aC h;⟨h.1,h.2.1,h.2.2.1,h.2.2.2.1,h.2.2.2.2.1,h.2.2.2.2.2.1,h.2.2.2.2.2.2.1,h.2.2.2.2.2.2.2.1,h.2.2.2.2.2.2.2.2⟩
noncomputable abbrev Xp(D:List DR)(GT:List TV)(gs:List Str)(j:Nat)(HC:List (Str×(Tf->Tf)))(st:Ox)(N:List Str)(n p:Nat)(SF:Tf->Tf)(c:Ct):Prop:=(br (Uy D j) gs N (aD st).names Oi c (aN st)&&Vv (aD st) (N.take p) N&&decide (p<=N.length/\N.length=n))=Oi/\∀Φ a ts P',SF Φ ts P'->ts.length+1=p/\wS (Um D j++[UR HC Φ a]) GT c (TN n (ts++[.obj (.fn a)])) (λ _=>P' .non) P'
noncomputable abbrev Xq(D:List DR)(GT:List TV)(gs:List Str)(j:Nat)(HC:List (Str×(Tf->Tf)))(x:Str)(st:Ox)(N:List Str)(n p:Nat)(SS:Nat->Tf->Tf)(c:Ct):Prop:=(br (Uy D j) gs N (aD st).names Oi c (aN st)&&Vv (aD st) (N.take p) N&&decide (p<=N.length/\N.length=n))=Oi/\(∀Φ ts P',¬SS 0 Φ ts P')/\∀d Φ a ts P',SS (d+1) Φ ts P'->ts.length+1=p/\wS (Um D j++[UR ((x,SS d)::HC) Φ a]) GT c (TN n (ts++[.obj (.fn a)])) (λ _=>P' .non) P'
noncomputable def VN(D:List DR)(gs:List Str)(j jj:Nat)(st:Ox)(r:WM)(N N' TB:List Str)(js:List Nat)(n n2 p:Nat)(l i:Cd):Bool:=Vv (aD st) (N.take p) N&&WO r.s N' TB&&ckL (Uy D j) gs l N (aD st).names (r.e::r.es)&&ck (Uy D jj) gs i N' r.s.names r.b&&decide ((p<=N.length/\N.length=n/\N'.length=n2)/\(aD st).names.lookup r.tb=Oh .globalImplicit/\(r.tb == ("__debug__" : Str))=Ol/\js.map (λ j=>N[j]?)=(Ue r.s.names).map Oh/\(∀n∈Ue r.s.names,(aD st).names.lookup n=Oh .cell)/\(Ue r.s.names).Nodup)
noncomputable abbrev Xr(D:List DR)(GT:List TV)(gs:List Str)(jj j:Nat)(st:Ox)(N N' TB:List Str)(js:List Nat)(n n2 p:Nat)(SF SG:Tf->Tf)(l i:Cd):Prop:=VN D gs j jj st (TX ((aN st).headD (.Pass ⟨0,0,0,0⟩))) N N' TB js n n2 p l i=Oi/\∀Φ a ts P',SG Φ ts P'->ts.length+1=p/\UV (Um D j++[UR [] Φ a]) (Um D jj++[UR [] Φ a]) GT l js i TB.length n2 SF (TN n (ts++[.obj (.fn a)])) P'
noncomputable abbrev Xs(D:List DR)(GT:List TV)(gs:List Str)(jj j:Nat)(st:Ox)(N N' TB:List Str)(js:List Nat)(n n2 p:Nat)(SF:Tf->Tf)(S:Tf)(c:Ct)(l i:Cd):Prop:=(VN D gs j jj st (TX ((aN st).getLastD (.Pass ⟨0,0,0,0⟩))) N N' TB js n n2 p l i&&br (Uy D j) gs N (aD st).names Oi c (aN st).dropLast)=Oi/\∀ts Q,S ts Q->ts.length=p/\wS (Um D j) GT c (TN n ts) (λ ρ=>UV (Um D j) (Um D jj) GT l js i TB.length n2 SF ρ Q) Q
noncomputable abbrev Xt(D:List DR)(GT:List TV)(gs:List Str)(jj j m:Nat)(st:Ox)(N N' TB:List Str)(js:List Nat)(n n2 p:Nat)(SF:Tf->Tf)(S:Tf)(c:Ct)(l i q:Cd)(c':Ct):Prop:=(VN D gs j jj st (TX (UM m st).2.1) N N' TB js n n2 p l i&&br (Uy D j) gs N (aD st).names Oi c ((aN st).take m)&&tB' q (UM m st).1&&ck (Uy D j) gs q N (aD st).names (UM m st).1&&br (Uy D j) gs N (aD st).names Oi c' ((aN st).drop (m+1)))=Oi/\∀ts Q,S ts Q->ts.length=p/\wS (Um D j) GT c (TN n ts) (λ ρ=>wE (Um D j) GT q ρ λ t=>b1 t λ b=>if b=Oi then UV (Um D j) (Um D jj) GT l js i TB.length n2 SF ρ Q else wS (Um D j) GT c' ρ (λ _=>Q .non) Q) Q
section
variable {P:Ov}{w:Ow}{K:FG}{mg:SV}{base:Oz}{L:List (On×Pos×Str)}{GT:List TV}{gs:List Str}{D:List DR}{j jj kf n n2 p d m:Nat}{x ql:Str}{N N' TB pst:List Str}{js:List Nat}{st:Ox}{S:Tf}{SF SG:Tf->Tf}{SS:Nat->Tf->Tf}{HC:List (Str×(Tf->Tf))}{code code':Ct}{l i q:Cd}{f c T:On}{fd:OP}
def CM.fn(C:CM P w K mg base (TbJ L) GT gs D j)(g:Gx K x st)(z:Xp D GT gs j HC st N n p SF code)(kl:kf<=j)(hc:∀x S,HC.lookup x=Oh S->∃ps,Callee P w K mg base Tu j x ps (Uo P w K mg base L kf S))(b:Bds x st (N.take p) p:=by repeat' (first|rfl|(refine λ _=>?_))):Callee P w K mg base Tu (j+1) x (N.take p) (Uo P w K mg base L kf SF):=by
 obtain⟨z1,z2⟩:=z;simp only[bp,dh] at z1;obtain⟨⟨k1,k2⟩,k3,rfl⟩:=z1;obtain⟨f,fd,gf⟩:=g;exact Callee.mk' gf.F (C.hm gf.a) (b.ok k3 f fd gf.F) (xB code gf.F (kF k2) C.m (fb j) C.c.fns kl hc k1 (λ Φ ts P' h=>by rw[(z2 Φ 0 ts P' h).1,aQ,eE k3]) λ Φ a ts P' h=>(z2 Φ a ts P' h).2)
def CM.fr(C:CM P w K mg base (TbJ L) GT gs D j)(g:Gx K x st)(z:Xq D GT gs j HC x st N n p SS code)(kl:kf<=j)(hc:∀x S,HC.lookup x=Oh S->∃ps,Callee P w K mg base Tu j x ps (Uo P w K mg base L kf S))(b:Bds x st (N.take p) p:=by repeat' (first|rfl|(refine λ _=>?_))):∀d,Callee P w K mg base Tu (j+1+d) x (N.take p) (Uo P w K mg base L kf (SS d)):=by
 obtain⟨z1,z0,z2⟩:=z;simp only[bp,dh] at z1;obtain⟨⟨k1,k2⟩,k3,rfl⟩:=z1;obtain⟨f,fd,gf⟩:=g;intro d
 induction d with
 |zero=>exact Callee.mk' gf.F (C.hm gf.a) (b.ok k3 f fd gf.F) ⟨λ vs H Q E ⟨_,_,ts,_,_,Φ,_,_,_,_,_,s,_⟩=>(z0 Φ ts _ s).elim,λ A outer s H args us vs Q E h1 h2 h3 h4 ⟨_,_,ts,_,_,Φ,_,_,_,_,_,s,_⟩=>(z0 Φ ts _ s).elim⟩
 |succ d ih=>
  refine Callee.mk' gf.F (C.hm gf.a) (b.ok k3 f fd gf.F) (xB (k:=j+1+d) (HC:=(x,SS d)::HC) code gf.F (kF k2) C.m (fb j) (λ i y S h1 h2=>let ⟨ps,c⟩:=C.c.fns i y S h1 h2;⟨ps,c.mono Z⟩) Z (λ y S e=>?_) k1 (λ Φ ts P' h=>by rw[(z2 d Φ 0 ts P' h).1,aQ,eE k3]) λ Φ a ts P' h=>(z2 d Φ a ts P' h).2);rw[dR] at e;split at e
  .rename_i h;cases e;cases ij h;exact⟨_,ih⟩
  .obtain⟨ps,c⟩:=hc y S e;exact⟨ps,c.mono Z⟩
theorem MkI.of(z:VN D gs j jj st r N N' TB js n n2 p l i=Oi)(t:Ua K x st f fd c T)(TF:TL base mg c T)(mT:(T,r.p,ql)∈L)(nd:(L.map (·.1)).Nodup)(df:∀env,PY r.a env=([],[]))(hq:∀n f cd,(Pg x (aD st) n f cd).qual ++ "<lambda>"=ql)
  (hb:∀(cl:LA) (c':On) (pm ctv:Value),iJ TB.length λ us=>Pe (kla_fn "<lambda>" ql r.a r.b r.s cl pm (.ref c') ctv) ⟨us,[]⟩=OF (TB.zip us)):p<=N.length/\N.length=n/\N'.length=n2/\MkI K mg base L x r.tb ql st f c T fd N (N.take p) TB N' js r.a r.b r.s r.p gs (Uy D j) (Uy D jj) l i (r.e::r.es):=by
 simp only[VN,bp,dh] at z;obtain⟨⟨⟨⟨k1,k2⟩,k3⟩,k4⟩,⟨k5,k6,k7⟩,h1,h2,h3,h4,h5⟩:=z;exact⟨k5,k6,k7,t.F,t.hc,TF,mT,nd,kF k1,h1,h2,xG k2,h3,h4,h5,df,hq,λ cl c' pm ctv us hl=>oP (hb cl c' pm ctv) us hl,k3,k4⟩
theorem CM.fh(C:CM P w K mg base (TbJ L) GT gs D j)(t:Ua K x st f fd c T)(TF:TL base mg c T)(mT:(T,(TX ((aN st).headD (.Pass ⟨0,0,0,0⟩))).p,ql)∈L)(nd:(L.map (·.1)).Nodup)(z:Xr D GT gs jj j st N N' TB js n n2 p SF SG l i)(ho:Callee P w K mg base Tu j (TX ((aN st).headD (.Pass ⟨0,0,0,0⟩))).tb pst (Uo P w K mg base L (jj+1) SF))(jl:jj<=j/\kf<=jj)
  (b:Bds x st (N.take p) p:=by repeat' (first|rfl|(refine λ _=>?_))) (df:∀env,PY (TX ((aN st).headD (.Pass ⟨0,0,0,0⟩))).a env=([],[]):=by intro;rfl) (hq:∀n f cd,(Pg x (aD st) n f cd).qual ++ "<lambda>"=ql:=by intros;rfl) (hbd:aN st=[WN (TX ((aN st).headD (.Pass ⟨0,0,0,0⟩)))]:=by kernel_rfl)
  (hb:∀(cl:LA) (c':On) (pm ctv:Value),iJ TB.length λ us=>Pe (kla_fn "<lambda>" ql (TX ((aN st).headD (.Pass ⟨0,0,0,0⟩))).a (TX ((aN st).headD (.Pass ⟨0,0,0,0⟩))).b (TX ((aN st).headD (.Pass ⟨0,0,0,0⟩))).s cl pm (.ref c') ctv) ⟨us,[]⟩=OF (TB.zip us):=by repeat' (first|rfl|(refine λ _=>?_))):Callee P w K mg base Tu (j+1) x (N.take p) (Uo P w K mg base L kf SG):=by
 obtain⟨z1,z2⟩:=z;obtain⟨k3,rfl,rfl,M⟩:=MkI.of z1 t TF mT nd df hq hb;exact Callee.mk' t.F (C.hm t.a) (b.ok k3 f fd t.F) (Ii (k:=j) (ki:=jj) (HC:=[]) M C.m (fb j) (fb jj) C.c.fns (C.c.to jl.1).fns ⟨Z,jl.2⟩ ho hbd (λ Φ ts P' h=>by rw[(z2 Φ 0 ts P' h).1,aQ,eE k3]) λ Φ a ts P' h=>(z2 Φ a ts P' h).2)
theorem CM.ml(C:CM P w K mg base (TbJ L) GT gs D j)(t:Ua K x st f fd c T)(TF:TL base mg c T)(mT:(T,(TX ((aN st).getLastD (.Pass ⟨0,0,0,0⟩))).p,ql)∈L)(nd:(L.map (·.1)).Nodup)(z:Xs D GT gs jj j st N N' TB js n n2 p SF S code l i)(ho:Callee P w K mg base Tu j (TX ((aN st).getLastD (.Pass ⟨0,0,0,0⟩))).tb pst (Uo P w K mg base L (jj+1) SF))(jl:jj<=j)(e:D[j]?=Oh (x,N.take p,S):=by rfl)
  (b:Bds x st (N.take p) p:=by repeat' (first|rfl|(refine λ _=>?_))) (df:∀env,PY (TX ((aN st).getLastD (.Pass ⟨0,0,0,0⟩))).a env=([],[]):=by intro;rfl) (hq:∀n f cd,(Pg x (aD st) n f cd).qual ++ "<lambda>"=ql:=by intros;rfl) (hbd:aN st=(aN st).dropLast++[WN (TX ((aN st).getLastD (.Pass ⟨0,0,0,0⟩)))]:=by kernel_rfl)
  (hb:∀(cl:LA) (c':On) (pm ctv:Value),iJ TB.length λ us=>Pe (kla_fn "<lambda>" ql (TX ((aN st).getLastD (.Pass ⟨0,0,0,0⟩))).a (TX ((aN st).getLastD (.Pass ⟨0,0,0,0⟩))).b (TX ((aN st).getLastD (.Pass ⟨0,0,0,0⟩))).s cl pm (.ref c') ctv) ⟨us,[]⟩=OF (TB.zip us):=by repeat' (first|rfl|(refine λ _=>?_))):CM P w K mg base (TbJ L) GT gs D (j+1):=by
 obtain⟨z1,z2⟩:=z;obtain⟨z1,z3⟩:=an z1;obtain⟨k3,rfl,rfl,M⟩:=MkI.of z1 t TF mT nd df hq hb;refine⟨C.c.fn C.hm e t.toGl' (b.ok k3) (xF (cnd:=.Name "" ⟨0,0,0,0⟩) (post:=[]) (p4:=⟨0,0,0,0⟩) code Oj M C.m (fb j) (fb jj) C.c.fns (C.c.to jl).fns ho hbd z3 trivial (λ ts Q h=>by rw[(z2 ts Q h).1,aQ,eE k3]) λ ts Q h=>(z2 ts Q h).2),C.m,C.hm⟩
theorem CM.mm(C:CM P w K mg base (TbJ L) GT gs D j)(t:Ua K x st f fd c T)(TF:TL base mg c T)(mT:(T,(TX (UM m st).2.1).p,ql)∈L)(nd:(L.map (·.1)).Nodup)(z:Xt D GT gs jj j m st N N' TB js n n2 p SF S code l i q code')(ho:Callee P w K mg base Tu j (TX (UM m st).2.1).tb pst (Uo P w K mg base L (jj+1) SF))(jl:jj<=j)(e:D[j]?=Oh (x,N.take p,S):=by rfl)
  (b:Bds x st (N.take p) p:=by repeat' (first|rfl|(refine λ _=>?_))) (df:∀env,PY (TX (UM m st).2.1).a env=([],[]):=by intro;rfl) (hq:∀n f cd,(Pg x (aD st) n f cd).qual ++ "<lambda>"=ql:=by intros;rfl) (hbd:aN st=(aN st).take m++.If (UM m st).1 [WN (TX (UM m st).2.1)] [] (UM m st).2.2::(aN st).drop (m+1):=by kernel_rfl)
  (hb:∀(cl:LA) (c':On) (pm ctv:Value),iJ TB.length λ us=>Pe (kla_fn "<lambda>" ql (TX (UM m st).2.1).a (TX (UM m st).2.1).b (TX (UM m st).2.1).s cl pm (.ref c') ctv) ⟨us,[]⟩=OF (TB.zip us):=by repeat' (first|rfl|(refine λ _=>?_))):CM P w K mg base (TbJ L) GT gs D (j+1):=by
 obtain⟨z1,z2⟩:=z;obtain⟨z1,z3,z4,z5,z6⟩:=a5 z1;obtain⟨k3,rfl,rfl,M⟩:=MkI.of z1 t TF mT nd df hq hb;refine⟨C.c.fn C.hm e t.toGl' (b.ok k3) (xF code (Oh (q,code')) M C.m (fb j) (fb jj) C.c.fns (C.c.to jl).fns ho hbd z3 ⟨z4,z5,z6⟩ (λ ts Q h=>by rw[(z2 ts Q h).1,aQ,eE k3]) λ ts Q h=>(z2 ts Q h).2),C.m,C.hm⟩
def CM.pad{i0:Nat}{S0:Tf}{z:DR}(C:CM P w K mg base J GT gs D j)(m:Nat)(hz:∀ts Q,¬z.2.2 ts Q)(i1:i0<j)(e0:D[i0]?=Oh (z.1,z.2.1,S0))(e:D.drop j=Os m z++D.drop (j+m)):CM P w K mg base J GT gs D (j+m):=by
 refine⟨λ i hi y ps' S' h=>?_,C.m,C.hm⟩;by_cases c:i<j
 .exact C.c i c y ps' S' h
 .have h2:(D.drop j)[i-j]?=Oh (y,ps',S'):=by rw[List.getElem?_drop,show j+(i-j)=i by lia];exact h
  rw[e,cN (by rw[dC];lia),fI,XT Z] at h2;cases h2;exact((C.c i0 i1 _ _ S0 e0).imp λ vs H Q E ⟨_,_,_,_,_,s,_⟩=>(hz _ _ s).elim).mono Z
def hc0:∀x S,([]:List (Str×(Tf->Tf))).lookup x=Oh S->∃ps,Callee P w K mg base Tu j x ps (Uo P w K mg base L kf S):=λ _ _ e=>by cases e
def hc1(h:Callee P w K mg base Tu j x0 ps0 (Uo P w K mg base L kf S0)):∀x S,[(x0,S0)].lookup x=Oh S->∃ps,Callee P w K mg base Tu j x ps (Uo P w K mg base L kf S):=λ x S e=>by
 rw[dR] at e;split at e
 .rename_i h1;cases e;cases ij h1;exact⟨_,h⟩
 .cases e
end
section
variable {P:Ov}{w:Ow}{K:FG}{mg:SV}{base:Oz}{L:List (On×Pos×Str)}{D:Hp}{F F' F1 F2 F3:Fz}{H H' H1 H2 H3 H4:Hp}{FT FI:List Tf}{GT:List TV}{fs fi gs:List Str}{k ki:Nat}{cl:LA}{vcs:List V}{caps:List TV}{Φ:Tf}
theorem Ij(ci:Ct)(xi:XF P w K mg base (JH L D) FI GT fi gs ki)(S:Tx N' TB fv scope)(hcl:cl.map (·.1)=fv)
  (hb:∀(doc pm ctv:Value) (us:LV),us.length=TB.length->Pe (fnX nn qual params body scope cl .none .none doc pm Oj (.ref c') ctv) ⟨us,[]⟩=OF (TB.zip us))
  (hd:Hand cl vcs H3 H4) (dj:JH L D H3) (L1:H4 fa=Oh (dS fa c' nn qual params body scope cl)) (_L:H4 c'=Oh (cr c' qual)) (cp:RqL K F3 H4 caps vcs) (co:∀t∈caps,kG t) (cki:br fi gs N' scope.names Oi ci body=Oi)
  (hw:∀args P',Φ args P'->args.length=TB.length/\wS FI GT ci (TN N'.length (args++caps)) (λ _=>False) P'):oQ P w K mg base (ki+1) L H4 fa Φ:=by
 intro F1 H1 ts vs P' Q wd r hφ q;obtain⟨hl,hw⟩:=hw ts P' hφ;have up:∀ {a o},(∀vs,o≠.lst vs)->(∀ps,o≠.tbl ps)->H4 a=Oh o->H1 a=Oh o:=λ n1 n2 e=>wd.j.2 _ _ n1 n2 e;have hc:CelAt H1 cl vcs:=⟨hd.at_.len,λ i q e=>let ⟨v,o,e1,e2⟩:=hd.at_.at_ i q e;⟨v,o,e1,up (λ _ z=>nomatch z) (λ _ z=>nomatch z) e2⟩,hd.at_.apart⟩;have vl:vs.length=TB.length:=by rw[<- r.length,hl]
 have dm:∀a o,(∀vs,o≠.lst vs)->(∀ps,o≠.tbl ps)->D a=Oh o->minC H1 cl a=Oh o:=λ a o n1 n2 e=>by
  have e3:=dj.2 a o n1 n2 e;rw[bV λ q hq z=>by have:=hd.fr q hq;rw[z,e3] at this;cases this];exact up n1 n2 (hd.to e3)
 have wm:Wd (JH L D) (jA F1 cl) (minC H1 cl):=⟨⟨wd.j.1.sm λ a o _ k e=>jz hc e λ _ _ _=>k _ _,dm⟩,λ a f=>by rw[bV f.2];exact wd.d a f.1⟩
 have sq:∀a vs,SqT K H4 a vs->SqT K (minC H1 cl) a vs:=λ a vs h=>h.imp (λ h=>by
  have h1:Rd H1 a (.tup vs):=h.imp (λ h=>up (λ _ z=>nomatch z) (λ _ z=>nomatch z) h) λ⟨o,h⟩=>⟨o,up (λ _ z=>nomatch z) (λ _ z=>nomatch z) h⟩
  exact h1.min hc (λ _ z=>nomatch z) (λ _ _ z=>nomatch z)) id
 have fq:∀a,FnV H4 a->FnV (minC H1 cl) a:=λ a ⟨φ,e,kf⟩=>⟨φ,jz hc (up (λ _ z=>nomatch z) (λ _ z=>nomatch z) e) (λ _ _ _ z=>nomatch z),kf⟩;refine Ib (vcs:=vcs) S hcl hb vl (up (λ _ z=>nomatch z) (λ _ z=>nomatch z) L1) (up (λ _ z=>nomatch z) (λ _ z=>nomatch z) _L) hc (ts:=rS K (JH L D) FI GT N'.length (jA F1 cl) (minC H1 cl) [] ci) (λ A outer s hr=>sS (F0:=jA F1 cl) (H0:=minC H1 cl) (PN:=[]) ci (lp:=Oi) ⟨xi.lam hr,⟨O,O⟩,S.nd,λ x z=>cn z,λ _=>oM⟩ cki) ?_;refine⟨jA F1 cl,_,Wn (N:=N') wm ((r.ke (xC hc)).rq.app (cp.mv sq fq co)),?_,bE ci (λ ρ' z=>z.elim) (λ u pu F' H' v g rr hz=>?_) hw⟩
 .unfold Tn;have l1:=hd.at_.len;have l2:cl.length=fv.length:=by rw[<- hcl,ag]
  have z:=bw Ph S.pre;rw[aQ,aF] at z;rw[aF,ag,dC];simp only[aF] at z ⊢;lia
 have nF:∀a,F' a->∀q∈cl,q.2≠a:=λ a f q hq z=>g.w.d a f (z ▸ hz q hq)
 have gg:Grow (JH L H4) F1 H1 (λ a=>F' a\/F1 a) (TH H1 H' cl):=by
  have sm:∀a o,(∀ps,o≠.tbl ps)->H1 a=Oh o->TH H1 H' cl a=Oh o:=λ a o n e=>by
   rcases oN cl a with ⟨q,hq,rfl⟩|hn
   .rw[eY hq];exact e
   .rw[cQ hn];exact g.sm a o n (by rw[bV hn];exact e)
  have dmm:∀a,H1 a≠Oj->TH H1 H' cl a≠Oj:=λ a e=>by
   rcases oN cl a with ⟨q,hq,rfl⟩|hn
   .rw[eY hq];exact e
   .rw[cQ hn];exact g.dm a (by rw[bV hn];exact e)
  refine⟨sm,dmm,λ a f=>.inr f,λ a f=>?_,⟨g.w.j.1.sm λ a o _ _ e=>by rw[oO hz (by rw[e];simp)];exact e,λ a o n1 n2 e=>sm a o n2 (up n1 n2 e)⟩,λ a f=>?_⟩
  .rcases f with f|f
   .rcases g.nw a f with z|z
    .exact .inl z.1
    .rw[bV (nF a f)] at z;exact .inr z
   .exact .inl f
  .rcases f with f|f
   .rw[cQ (nF a f)];exact g.w.d a f
   .exact dmm a (wd.d a f)
 exact q u pu _ _ v gg ((rr.ke (xr hz)).ke (.up λ _ f=>.inl f))
noncomputable def sh(FT FI:List Tf)(GT:List TV)(l:Cd)(js:List Nat)(ci:Ct)(i na n2:Nat)(SF:Tf->Tf)(ρ:En)(Q:TV->Prop):Prop:=(∀t,ρ[i]?≠Oh (Oh t))/\wL FT GT l ρ λ ts=>ts.all TV.nb=Oi/\∃caps Φ P',js.map (λ j=>ρ[j]?)=caps.map (λ t=>Oh (Oh t))/\(∀t∈caps,kG t)/\SF Φ (ts.map .fz) P'/\(∀args P'',Φ args P''->args.length=na/\wS FI GT ci (TN n2 (args++caps)) (λ _=>False) P'')/\∀t,P' t->Q t
theorem Ik{N nm}{tb ql nn:Str}{js:List Nat}{i:Nat}{params:Pa}{e0:Expr}{es:List Expr}{pos p1 p2 p3 p4:Pos}(l:Cd)(ci:Ct)(xo:Tv X (JH L D) FT GT fs gs)(xs:XS X N nm)(hr:Room k X.A)
  (ho:Callee X.prog X.w X.K X.mg X.base Tu k tb pst (Uo X.prog X.w X.K X.mg X.base L (ki+1) SF)) (xi:XF X.prog X.w X.K X.mg X.base (JH L D) FI GT fi gs ki) (gt:Gl X tb) (ntb:(tb == ("__debug__" : Str))=Ol) (TF:TL X.base X.mg c T) (hcd:X.env.code=.ref c) (mT:(T,pos,ql)∈L) (nd:(L.map (·.1)).Nodup)
  (hN:X.N.Nodup) (hi:X.N[i]?=Oh nn) (hx:UH X.env.scope nn) (hq:QR X.env nn nn=ql) (hd0:params.defaults=[]) (hk0:params.kw_defaults=[]) (han:Rv params Oj X.env=[]) (hfn:X.fn nn=Oi\/X.env.scope.names.lookup nn=Oh .local) (hv:PE X (.Name nn p4) (cj i))
  (hcl:OS scope X.env=OF cl) (own:OwnCl X.env.cells fv cl) (hj:js.map (λ j=>X.N[j]?)=fv.map Oh) (hk:∀n∈fv,X.env.scope.names.lookup n=Oh .cell) (hf:∀n∈fv,X.fn n=Oi) (nf:fv.Nodup)
  (ls:Tx N' TB fv scope) (hb:∀(c':On) (doc pm ctv:Value) (us:LV),us.length=TB.length->Pe (fnX nn ql params body scope cl .none .none doc pm Oj (.ref c') ctv) ⟨us,[]⟩=OF (TB.zip us))
  (ckl:ckL fs gs l N nm (e0::es)=Oi) (cki:br fi gs N' scope.names Oi ci body=Oi) :
  PSs X [.FunctionDef nn params body [] Oj [] scope Oj nn pos,.Return (Oh (.Call (.Name tb p1) (e0::(es++[.Name nn p4])) [] p2)) p3] (λ R σ H=>∃F ρ,EV X.K (JH L D) F H σ ρ/\i<σ.length/\sh FT FI GT l js ci i TB.length N'.length SF ρ λ t=>∀F' H' v,Grow (JH L D) F H F' H'->Rp X.K F' H' t v->R.rt v H'):=by
 have st:=iI ckl;rw[cP,bp] at st;have st2:(es++[Expr.Name nn p4]).all aX=Oi:=by rw[RD,st.2];rfl
 have hE:=vX (X:=X) (p:=p1) (pos:=p2) ho hr gt own hj hk hf nf (xD xo xs rfl hv l ckl) ntb (bj st.1) (fQ st2);intro Te s σ H R I ⟨F,ρ,ev,il,hn0,q⟩;refine dO (FC (pos:=pos) (body:=body) hN hi hx hq hcd TF hcl own hd0 hk0 han hfn) (uc (pZ (pos:=p3) hE)) Te s σ H R I ⟨ev.w.j.1 _ mT,λ fa c' cl1 H3 o1 ffa hfa hc3 t3 up3=>?_⟩;cases OwnCl.uniq own o1;have g3:=xA nd mT ev.w.tb t3 up3;have ev4:=(ev.grow (g3.jh ev.w.j)).any (v:=Oh (.ref fa)) hn0;refine⟨F,ρ,ev4,bH l (λ ts ⟨hn,caps,Φ,P',hc,co,sf,hw,fin⟩ F2 H2 vs g r=>?_) q⟩;show cj i (σ.set i (Oh (.ref fa))) H2 _;unfold cj;rw[iR il];obtain⟨vcs,ev2,rc⟩:=sg (ev4.grow g) hc co;refine⟨vcs,ev2,λ cl2 H4 o2 fr hcel eq4=>?_⟩;cases OwnCl.uniq own o2;obtain⟨F3,g3',_,r3⟩:=gz g r hn;have hd:Hand cl vcs H2 H4:=⟨fr,hcel,eq4⟩;have j2:JH L D H2:=g3'.w.j;have sq:∀a vs,SqT X.K H2 a vs->SqT X.K H4 a vs:=λ a vs h=>h.sm λ a o _ e=>hd.to e;have wt:=g3'.w.tb;have w4:Wd (JH L H4) F3 H4:=⟨⟨(hd.wd wt).j,λ a o _ _ e=>e⟩,(hd.wd wt).d⟩;have hfa2:H2 fa=Oh (dS fa c' nn ql params body scope cl):=g.sm _ _ (λ _ z=>nomatch z) hfa;have hc2:H2 c'=Oh (cr c' ql):=g.sm _ _ (λ _ z=>nomatch z) hc3;refine⟨F3,fa,_,vs,H4,Φ,P',O,w4,FnV.dfn (hd.to hfa2),r3.ke hd.ke,sf,Ij ci xi ls own.1 (hb c') hd j2 (hd.to hfa2) (hd.to hc2) (rc.mv (F':=F2) sq (λ a ⟨φ,e,kf⟩=>⟨φ,hd.to e,kf⟩) co) co cki hw,λ t pt F6 H6 v6 g6 r6=>?_⟩;have g6b:=hd.back wt g6.tb;have gall:=(g3.trans g3'.tb).trans g6b;exact fin t pt F6 _ v6 (gall.jh ev.w.j) (r6.ke (sa (hd.cel g6.tb)))
end
section
variable {P:Ov}{w:Ow}{K:FG}{mg:SV}{base:Oz}{L:List (On×Pos×Str)}{FT FI:List Tf}{GT:List TV}{fs fi gs:List Str}{k ki i:Nat}{x tb ql nn:Str}{st:Ox}{f c T:On}{fd:OP}{N ps pst N' TB:List Str}{js:List Nat}{S:Tf}{SF:Tf->Tf}{params:Pa}{scope:Scope}{body:List Ox}{e0:Expr}{es:List Expr}{pos p1 p2 p3 p4:Pos}{l:Cd}{ci:Ct}
structure MkJ (K:FG)(mg:SV)(base:Oz)(L:List (On×Pos×Str))(x tb ql nn:Str)(st:Ox)(f c T:On)(fd:OP)(N ps TB N':List Str)(js:List Nat)(i:Nat)(params:Pa)(body:List Ox)(scope:Scope)(pos:Pos)(gs fs fi:List Str)(l:Cd)(ci:Ct)(es:List Expr):Prop where
 F:Fun K x x st f fd
 cd:fd.code=.ref c
 TF:TL base mg c T
 mT:(T,pos,ql)∈L
 nd:(L.map (·.1)).Nodup
 sc:Tw N ps (aD st)
 gt:(aD st).names.lookup tb=Oh .globalImplicit
 ntb:(tb == ("__debug__" : Str))=Ol
 ls:Tx N' TB (Ue scope.names) scope
 hj:js.map (λ j=>N[j]?)=(Ue scope.names).map Oh
 hk:∀n∈Ue scope.names,(aD st).names.lookup n=Oh .cell
 nf:(Ue scope.names).Nodup
 hi:N[i]?=Oh nn
 lo:(aD st).names.lookup nn=Oh .local
 vi:vs (aD st).names nn=Oi
 ok:Ui nn=Oi
 hq:∀n f cd,QR (Pg x (aD st) n f cd) nn nn=ql
 d0:params.defaults=[]
 k0:params.kw_defaults=[]
 an:∀env,Rv params Oj env=[]
 hb:∀(cl:LA) (c':On) (doc pm ctv:Value) (us:LV),us.length=TB.length->Pe (fnX nn ql params body scope cl .none .none doc pm Oj (.ref c') ctv) ⟨us,[]⟩=OF (TB.zip us)
 ckl:ckL fs gs l N (aD st).names es=Oi
 cki:br fi gs N' scope.names Oi ci body=Oi
theorem Il(M:MkJ K mg base L x tb ql nn st f c T fd N ps TB N' js i params body scope pos gs fs fi l ci (e0::es))(m:MOk P w K mg (TbJ L) GT gs)(hl:fs.length=FT.length)(hl':fi.length=FI.length)
  (fns:∀(f:Nat) x S,fs[f]?=Oh x->FT[f]?=Oh S->∃ps,Callee P w K mg base Tu k x ps (Ur K (TbJ L) S)) (fni:∀(f:Nat) x S,fi[f]?=Oh x->FI[f]?=Oh S->∃ps,Callee P w K mg base Tu ki x ps (Ur K (TbJ L) S))
  (ho:Callee P w K mg base Tu k tb pst (Uo P w K mg base L (ki+1) SF)) (hbd:aN st=[.FunctionDef nn params body [] Oj [] scope Oj nn pos,.Return (Oh (.Call (.Name tb p1) (e0::(es++[.Name nn p4])) [] p2)) p3]) (Tj:∀ts Q,S ts Q->ts.length=ps.length)
  (hw:∀ts Q,S ts Q->sh FT FI GT l js ci i TB.length N'.length SF (TN N.length ts) Q):FnOk P w K mg base Tu (k+1) f fd ps (Ur K (TbJ L) S):=by
 refine M.F.okT M.cd M.sc (λ vs H Q E ⟨F1,ts,P1,wd,r,s,_⟩=>by rw[<- r.length];exact Tj _ _ s) (λ A outer s H vs Q E hr h=>?_);obtain⟨F1,ts,P1,wd,r,sp,fin⟩:=h
 have nl:vs.length<=N.length:=by
  have z:=bw Ph M.sc.pre;rw[aQ] at z;have:=Tj _ _ sp;rw[<- r.length];lia
 have xf:XF P w K mg base (JH L λ _=>Oj) FT GT fs gs k:=.of0 m hl fns;obtain⟨cl,hcl,own⟩:=xy (scope:=scope) (env:=Pg x (aD st) s.heap.objs.size f (.ref c)) λ y hy=>iY.mp (jQ _ _ _ (.inl (M.hk y hy)));obtain⟨d1,d2,_⟩:=dW M.ok;have hrow:=Ik (X:=(dP Tu P w K mg base N x (aD st) f (.ref c) A outer s H E).nox) (p1:=p1) (p2:=p2) (p3:=p3) (p4:=p4) l ci (xf.fn hr) ⟨rfl,rfl⟩ hr ho (.of0 m hl' fni) M.gt M.ntb M.TF rfl M.mT M.nd M.sc.nd M.hi (.inl M.lo) (M.hq _ _ _) M.d0 M.k0 (M.an _) (.inr M.lo) (gG M.hi (gR ⟨rfl,rfl⟩ M.vi) d1 d2) hcl own M.hj M.hk (λ _ _=>rfl) M.nf M.ls (M.hb cl) M.ckl M.cki
 have sl:(Tn N vs).length=N.length:=by
  unfold Tn;rw[aF,ag,dC];show vs.length+(N.length-vs.length)=N.length;lia
 have wd0:Wd (JH L λ _=>Oj) F1 H:=⟨⟨wd.j,λ _ _ _ _ e=>nomatch e⟩,wd.d⟩;rw[hbd];refine⟨_,hrow,F1,TN N.length ts,(Wl wd0 r).ev,by rw[sl];exact(aY.mp M.hi).1,(hw ts P1 sp).1,?_⟩;exact bH l (λ ts ⟨hn,caps,Φ',P'',hc,co,sf,hw,q⟩=>⟨hn,caps,Φ',P'',hc,co,sf,hw,λ t pt F' H' v g r=>fin t (q t pt) F' H' v g.tb r⟩) (hw ts P1 sp).2
end
structure Xu where
 nn:Str
 tb:Str
 e:Expr
 es:List Expr
 a:Pa
 b:List Ox
 s:Scope
 p:Pos
 p1:Pos
 p2:Pos
 p3:Pos
 p4:Pos
noncomputable def TY(st:Ox):Xu:=match aN st with
 |[.FunctionDef nn a b _ _ _ s _ _ p,.Return (Oh (.Call (.Name tb p1) (e::r) [] p2)) p3]=>⟨nn,tb,e,r.dropLast,a,b,s,p,p1,p2,p3,match r.getLast? with|some (.Name _ p4)=>p4|_=>p⟩
 |_=>⟨"","",.Name "" ⟨0,0,0,0⟩,[],gm (.Pass ⟨0,0,0,0⟩),[],aD (.Pass ⟨0,0,0,0⟩),⟨0,0,0,0⟩,⟨0,0,0,0⟩,⟨0,0,0,0⟩,⟨0,0,0,0⟩,⟨0,0,0,0⟩⟩
noncomputable def Xv(D:List DR)(gs:List Str)(j jj:Nat)(st:Ox)(r:Xu)(N N' TB:List Str)(js:List Nat)(h n n2 p:Nat)(l:Cd)(ci:Ct):Bool:=Vv (aD st) (N.take p) N&&WO r.s N' TB&&ckL (Uy D j) gs l N (aD st).names (r.e::r.es)&&br (Uy D jj) gs N' r.s.names Oi ci r.b&&decide ((p<=N.length/\N.length=n/\N'.length=n2)/\(aD st).names.lookup r.tb=Oh .globalImplicit/\(r.tb == ("__debug__" : Str))=Ol/\js.map (λ j=>N[j]?)=(Ue r.s.names).map Oh/\(∀n∈Ue r.s.names,(aD st).names.lookup n=Oh .cell)/\(Ue r.s.names).Nodup/\N[h]?=Oh r.nn/\(aD st).names.lookup r.nn=Oh .local/\vs (aD st).names r.nn=Oi/\Ui r.nn=Oi)
noncomputable abbrev Xw(D:List DR)(GT:List TV)(gs:List Str)(jj j:Nat)(st:Ox)(N N' TB:List Str)(js:List Nat)(h n n2 p:Nat)(SF:Tf->Tf)(S:Tf)(l:Cd)(ci:Ct):Prop:=Xv D gs j jj st (TY st) N N' TB js h n n2 p l ci=Oi/\∀ts Q,S ts Q->ts.length=p/\sh (Um D j) (Um D jj) GT l js ci h TB.length n2 SF (TN n ts) Q
section
variable {P:Ov}{w:Ow}{K:FG}{mg:SV}{base:Oz}{L:List (On×Pos×Str)}{GT:List TV}{gs:List Str}{D:List DR}{j jj kf n n2 p d m:Nat}{x ql:Str}{N N' TB pst:List Str}{js:List Nat}{st:Ox}{S:Tf}{SF SG:Tf->Tf}{SS:Nat->Tf->Tf}{HC:List (Str×(Tf->Tf))}{code code':Ct}{l i q:Cd}{f c T:On}{fd:OP}
theorem CM.md(C:CM P w K mg base (TbJ L) GT gs D j)(t:Ua K x st f fd c T)(TF:TL base mg c T)(mT:(T,(TY st).p,ql)∈L)(nd:(L.map (·.1)).Nodup)(z:Xw D GT gs jj j st N N' TB js h n n2 p SF S l ci)(ho:Callee P w K mg base Tu j (TY st).tb pst (Uo P w K mg base L (jj+1) SF))(jl:jj<=j)(e:D[j]?=Oh (x,N.take p,S):=by rfl)
  (b:Bds x st (N.take p) p:=by repeat' (first|rfl|(refine λ _=>?_))) (d0:(TY st).a.defaults=[]:=by rfl) (k0:(TY st).a.kw_defaults=[]:=by rfl) (an:∀env,Rv (TY st).a Oj env=[]:=by intro;rfl) (hq:∀n f cd,QR (Pg x (aD st) n f cd) (TY st).nn (TY st).nn=ql:=by intros;rfl) (hbd:aN st=[.FunctionDef (TY st).nn (TY st).a (TY st).b [] Oj [] (TY st).s Oj (TY st).nn (TY st).p,.Return (Oh (.Call (.Name (TY st).tb (TY st).p1) ((TY st).e::((TY st).es++[.Name (TY st).nn (TY st).p4])) [] (TY st).p2)) (TY st).p3]:=by kernel_rfl)
  (hb:∀(cl:LA) (c':On) (doc pm ctv:Value),iJ TB.length λ us=>Pe (fnX (TY st).nn ql (TY st).a (TY st).b (TY st).s cl .none .none doc pm Oj (.ref c') ctv) ⟨us,[]⟩=OF (TB.zip us):=by repeat' (first|rfl|(refine λ _=>?_))):CM P w K mg base (TbJ L) GT gs D (j+1):=by
 obtain⟨z1,z2⟩:=z;simp only[Xv,bp,dh] at z1;obtain⟨⟨⟨⟨k1,k2⟩,k3⟩,k4⟩,⟨k5,k6,k7⟩,h1,h2,h3,h4,h5,h6,h7,h8,h9⟩:=z1;subst k6 k7;refine⟨C.c.fn C.hm e t.toGl' (b.ok k5) (Il (k:=j) (ki:=jj) ⟨t.F,t.hc,TF,mT,nd,kF k1,h1,h2,xG k2,h3,h4,h5,h6,h7,h8,h9,hq,d0,k0,an,λ cl c' doc pm ctv us hl=>oP (hb cl c' doc pm ctv) us hl,k3,k4⟩ C.m (fb j) (fb jj) C.c.fns (C.c.to jl).fns ho hbd (λ ts Q h=>by rw[(z2 ts Q h).1,aQ,eE k5]) λ ts Q h=>(z2 ts Q h).2),C.m,C.hm⟩
end
end _L
namespace _M
open PySem _L PyProof.Rows
open TV renaming int->XV,tup->XW,str->XX
noncomputable def formsL:List (Str×List (Str×Int)):=[("in",[("sides",1)]),("num",[("number",1)]),("count",[("small",2),("sides",1)]),("each",[("word",1),("step",2)]),("pair",[("word",1),("step",2),("step",3)]),("pick",[("step",1),("step",2),("step",3)]),("turn",[("step",1),("sides",2)]),("flip",[("step",1),("small",2)]),("cut",[("step",1),("small",2),("small",3),("small",4),("small",5)]),("spread",[("step",1),("small",2),("small",3)]),("lay",[("step",1),("sides",2)]),("join",[("step",1),("step",2),("small",3)]),("fetch",[("step",1),("step",2)]),("fold",[("word",1),("step",2),("small",3)]),("run",[("word",1),("step",2),("small",3)])]
noncomputable def si(K:FG):List (Str×Int)->List V->Prop
 |[],[]=>True
 |f::fs,x::xs=>(∃a,x=.ref a/\KTup K a [.str f.1,.int f.2])/\si K fs xs
 |_,_=>False
noncomputable def sj(K:FG):List (Str×List (Str×Int))->LA->Prop
 |[],[]=>True
 |f::fs,p::ps=>(p.1=f.1/\∃xs,KTup K p.2 xs/\si K f.2 xs)/\sj K fs ps
 |_,_=>False
noncomputable def xH(P:Ov)(w:Ow)(K:FG)(d:On):Prop:=∃kvs,KTab P w K d kvs/\sj K formsL kvs
def my{K:FG}{sl:AV}(h:K.lookup a=Oh ⟨.type "tuple",Oj,.seq its n,sl⟩)(z:its.size<=Oq)(v:Vals xs its.toList):KTup K a xs:=⟨_,its,n,h,rfl,rfl,rfl,z,v⟩
noncomputable def ai(ns:LI):Int:=ns.foldl (λ a b=>a*b) 1
def mz{ns:LI}{i:Nat}(h:ns[i]?=Oh x):ai (ns.take (i+1))=ai (ns.take i)*x:=by
 unfold ai;rw[jB,h,kH];rfl
noncomputable def bS(ns:LI):Prop:=∀n∈ns,0<=n/\n<1000000000000000000
noncomputable def aq(n:Int):Int:=if n=0 then 1 else n
def xI(h:bS ns):bS (ns.map aq):=by
 intro n hn;obtain⟨m,hm,rfl⟩:=bq.mp hn;have:=h m hm;unfold aq;split<;>lia
noncomputable def US(ns:LI)(j:Nat):Int:=ai (ns.reverse.take j)
noncomputable def UC(ns:LI)(i:Nat):LI:=(OB i).map (US ns)
def xJ(ns:LI)(i:Nat):UC ns (i+1)=UC ns i++[US ns i]:=by
 unfold UC;rw[RF,aG];rfl
def Im{ns:LI}{i:Nat}(hi:i<ns.length)(h:ns[ns.length-1-i]?=Oh m):US ns (i+1)=US ns i*m:=by
 unfold US;exact mz (by rw[lO hi];exact h)
noncomputable def cX(ns:LI):Prop:=6<ns.length\/512<ai (ns.map aq)
def xK(xs:LI)(y:Int):ai (xs++[y])=ai xs*y:=by unfold ai;rw[kH];rfl
def Io(xs:LI):∀a:Int,xs.foldl (λ a b=>a*b) a=a*ai xs:=by
 induction xs with
 |nil=>intro a;show a=a*1;rw[s0j]
 |cons x xs ih=>intro a;show xs.foldl (λ a b=>a*b) (a*x)=a*(xs.foldl (λ a b=>a*b) (1*x));rw[ih,ih (1*x),s0o,s1e]
def cU(x:Int)(xs:LI):ai (x::xs)=x*ai xs:=by
 show xs.foldl (λ a b=>a*b) (1*x)=_;rw[Io,s0o]
def Ip(ns:LI):ai ns.reverse=ai ns:=by
 induction ns with
 |nil=>rfl
 |cons x xs ih=>rw[jT,xK,cU,ih,oR]
def Iq(ns:LI):US ns ns.length=ai ns:=by
 unfold US;rw[<- jp,bR,Ip]
noncomputable def dA(n:Nat):LI:=Os n 0
def kI(n:Nat):(dA n).length=n:=dC ..
noncomputable def fit(ns:LI):Prop:=(∀n∈ns,0<=n/\n<=512)/\ns.length<=6/\1<=ai (ns.map aq)/\ai (ns.map aq)<=512
noncomputable def grow(ns:LI)(free:Int)(i:Nat):Prop:=(∀n∈ns,0<=n/\n<=512)/\ns.length=i/\1<=free/\free<=512/\1<=ai (ns.map aq)/\free*ai (ns.map aq)<=512
noncomputable def Uf(ns:LI)(side:Int):Prop:=side<0\/(ns.length:Int)<=side
noncomputable def Vg(ns:LI)(side first many step:Int):Prop:=first<0\/many<0\/step<1\/(0<many/\ns.getD side.toNat 0<=first+(many-1)*step)
def dI(h:¬Uf ns side):∃k:Nat,side=k/\k<ns.length:=by
 unfold Uf at h;exact⟨side.toNat,Z,Z⟩
instance (ns:LI):Decidable (cX ns):=by unfold cX;infer_instance
noncomputable def Vx(x y:LI):Prop:=∀k:Nat,k<x.length->k<y.length->x[k]?=y[k]?
def Ir(x:LI):Vx x x:=λ _ _ _=>rfl
def xL(h:Vx x y):Vx y x:=λ k a b=>(h k b a).symm
def sk{x y:LI}(h:x.length<=y.length):Vx x y ↔ y.take x.length=x:=by
 constructor
 .intro a;apply Re;intro k;by_cases c:k<x.length
  .rw[ny c];exact(a k c Z).symm
  .rw[jr (by rw[aQ];lia),jr Z]
 .intro e k hx hy;have z:=bw (λ l=>l[k]?) e;simp only[ny hx] at z;exact z.symm
noncomputable def cu(x y:LI):Prop:=if y.length<x.length then x.take y.length=y else y.take x.length=x
noncomputable def bQ(x y:LI):LI:=if y.length<x.length then x else y
def xM(x y:LI):cu x y ↔ Vx x y:=by
 unfold cu;split
 .rename_i h;exact(sk Z).symm.trans ⟨xL,xL⟩
 .rename_i h;exact(sk Z).symm
def Iu(h:Vx x y)(l:x.length=y.length):x=y:=by
 have z:=(sk (x:=x) (y:=y) Z).mp h;rw[l,bR] at z;exact z.symm
noncomputable def tups(H:Hp)(ps:List On)(L:LL):Prop:=ps.length=L.length/\∀(i:Nat) p m,ps[i]?=Oh p->L[i]?=Oh m->H p=Oh (.tup (m.map V.int))
noncomputable def sm(ns:LI):Prop:=∀n∈ns,0<=n/\n<=1000000
def Iv(h:sm ns):bS ns:=λ n hn=>by have:=h n hn;lia
noncomputable def fR(ns ms:LI)(side:Int):LI:=ns.set side.toNat (ns.getD side.toNat 0+ms.getD side.toNat 0)
def sn{n k:Nat}(h:k<n):UQ n (k:Int)=Oh k:=by unfold UQ;rw[XT Z];simp;lia
def getD_mem{ns:LI}{k:Nat}(h:k<ns.length):ns.getD k 0∈ns:=by rw[aP,bc h];exact kj h
def xN(n:Int)(ns:LI){j:Nat}(h:j<=ns.length):US (n::ns) j=US ns j:=by
 unfold US;rw[jT,so (by simpa using h)]
def Iw(n:Int)(ns:LI):(UC (n::ns) (n::ns).length).reverse=ai ns::(UC ns ns.length).reverse:=by
 rw[OM,xJ,List.reverse_append,xN n ns (ao _),Iq];show ai ns::(UC (n::ns) ns.length).reverse=_
 congr 2
 unfold UC;exact rH λ j hj=>xN n ns (dN (jJ.mp hj))
noncomputable def mB(n:Int):Int:=if n%17=5 then [(-9223372036854775808:Int),9223372036854775807,-1,4611686018427387904].getD (n/17%4).toNat 0 else (n+9223372036854775808)%18446744073709551616-9223372036854775808
theorem su:∀ {ns:LI},(∀n∈ns,0<=n)->0<=ai ns/\ai ns<=ai (ns.map aq)
 |[],_=>by decide
 |n::ns,h=>by
  obtain⟨i0,i1⟩:=su (ns:=ns) λ m hm=>h m (aW _ hm);have n0:=h n bg;rw[cO,cU,cU];have o:n<=aq n/\0<=aq n:=by unfold aq;split<;>lia
  exact⟨Int.mul_nonneg n0 i0,s0h o.1 i1 i0 o.2⟩
def Ix{ns:LI}{k:Nat}(hk:k<ns.length):ns[k]?=Oh (ns.getD k 0):=by rw[aP,bc hk];rfl
noncomputable def jC(n:Int):Int:=(n+9223372036854775808)%18446744073709551616-9223372036854775808
noncomputable def sv(x y:Int):Int:=if y=0 then 0 else jC (Int.fdiv x y)
noncomputable def sw(x y:Int):Int:=if y=0 then x else Int.fmod x y
noncomputable def xO(w:Str)(x y:Int):Int :=
 if w="add" then jC (x+y) else if w="sub" then jC (x-y) else if w="mul" then jC (x*y) else if w="quo" then sv x y else if w="rest" then sw x y
 else if w="max" then (if x<y then y else x) else if w="min" then (if y<x then y else x) else if w="less" then (if x<y then 1 else 0) else if w="like" then (if x=y then 1 else 0)
 else if w="and" then Builtin.bitAnd x y else if w="or" then Builtin.bitOr x y else Builtin.bitXor x y
noncomputable def UW(x:Int):Prop:=-9223372036854775808<=x/\x<9223372036854775808
def Iy(n:Int):UW (mB n):=by
 unfold mB UW;split
 .have h:n/17%4=0\/n/17%4=1\/n/17%4=2\/n/17%4=3:=by lia
  rcases h with h|h|h|h<;>rw[h]<;>exact⟨ca,ca⟩
 .lia
noncomputable def xP(x:Int):Int:=if x<0 then -x else x
noncomputable def xQ(w:Str)(x:Int):Int:=if w="neg" then jC (-x) else if w="abs" then jC (xP x) else if w="sign" then (if x<0 then -1 else if 0<x then 1 else 0) else if x=0 then 1 else 0
noncomputable def mC:List Str:=["neg","abs","sign","not"]
noncomputable def mD:List Str:=["add","sub","mul","quo","rest","max","min","less","like","and","or","xor"]
def sB(h:cu x y):(bQ x y).take x.length=x/\(bQ x y).take y.length=y:=by
 unfold cu at h;unfold bQ;split at h
 .rename_i c;rw[XT c];exact⟨bR,h⟩
 .rename_i c;rw[XR c];exact⟨h,bR⟩
noncomputable abbrev fw:List Str:=["add","mul","max","min","and","or","xor"]
noncomputable def Vy(w:Str):Prop:=w∈fw
noncomputable def dJ(w:Str):Int:=if w="mul" then 1 else if w="max" then -9223372036854775808 else if w="min" then 9223372036854775807 else if w="and" then -1 else 0
def Iz:dJ "add"=0:=by unfold dJ;rw[XR (by decide +kernel),XR (by decide +kernel),XR (by decide +kernel),XR (by decide +kernel)]
def IA:dJ "mul"=1:=by unfold dJ;rw[XT rfl]
def IB:dJ "max"=-9223372036854775808:=by unfold dJ;rw[XR (by decide +kernel),XT rfl]
def IC:dJ "min"=9223372036854775807:=by unfold dJ;rw[XR (by decide +kernel),XR (by decide +kernel),XT rfl]
def ID:dJ "and"=-1:=by unfold dJ;rw[XR (by decide +kernel),XR (by decide +kernel),XR (by decide +kernel),XT rfl]
def IE:dJ "or"=0:=by unfold dJ;rw[XR (by decide +kernel),XR (by decide +kernel),XR (by decide +kernel),XR (by decide +kernel)]
def IF:dJ "xor"=0:=by unfold dJ;rw[XR (by decide +kernel),XR (by decide +kernel),XR (by decide +kernel),XR (by decide +kernel)]
noncomputable def kinds:List Str:=["in","num","count","each","pair","pick","turn","flip","cut","spread","lay","join","fetch","fold","run"]
noncomputable def kJ(i:Nat):Str:=kinds.getD i ""
noncomputable def IG(fs:List (Str×Int)):LI:=fs.filterMap λ f=>if f.1=("step" : Str) then Oh f.2 else Oj
noncomputable def xR(i:Nat):LI:=IG ((formsL.getD i ("",[])).2)
noncomputable def jD(n:Nat)(os:LI):Prop:=os.Perm (TD n)
def up_mem{n:Nat}{x:Int}:x∈TD n ↔ 0<=x/\x<n:=by
 unfold TD;constructor
 .intro h;obtain⟨i,hi,rfl⟩:=bq.mp h;have:=jJ.mp hi;lia
 .intro h;exact bq.mpr ⟨x.toNat,jJ.mpr Z,Z⟩
def fc(n:Nat):(TD n).length=n:=by simp[TD]
def IH(n:Nat):(TD n).Pairwise (·<=·):=by
 unfold TD;rw[List.pairwise_map];exact List.Pairwise.imp (λ h=>by lia) (List.pairwise_lt_range (n:=n))
theorem xS:∀ {l1 l2:LI},l1.Perm l2->l1.Pairwise (·<=·)->l2.Pairwise (·<=·)->l1=l2
 |[],l2,p,_,_=>(List.nil_perm.mp p).symm
 |a::l1,l2,p,h1,h2=>by
  cases l2 with
  |nil=>exact List.perm_nil.mp p
  |cons b l2=>
   obtain⟨a1,a2⟩:=lV.mp h1;obtain⟨b1,b2⟩:=lV.mp h2
   have ab:a<=b:=by
    rcases aB.mp (p.symm.subset (bg ..)) with e|e
    .lia
    .exact a1 b e
   have ba:b<=a:=by
    rcases aB.mp (p.subset (bg ..)) with e|e
    .lia
    .exact b1 a e
   have e:a=b:=Z;subst e;rw[xS (List.perm_cons a |>.mp p) a2 b2]
def II{os ss:LI}(p:ss.Perm os)(s:ss.Pairwise (·<=·)):ss=TD n ↔ jD n os :=
 ⟨λ e=>p.symm.trans (by rw[e]),λ t=>xS (p.trans t) s (IH n)⟩
noncomputable def bT(ns os:LI):LI:=os.map λ k=>ns.getD k.toNat 0
noncomputable def bF(ns:LI)(k:Nat)(m:Int):LI:=ns.take k++[m]++ns.drop k
noncomputable def jE(ns:LI)(side:Int):Prop:=side<0\/(ns.length:Int)<side
def xT(ns:LI)(k:Nat)(m:Int):(bF ns k m).length=ns.length+1:=by
 unfold bF;simp only[aF,aQ,bO,OM,RE];lia
def jF{ns:LI}{k:Nat}(h:k<ns.length):ns.getD k 0∈ns:=by rw[aP,bc h];exact kj h
def iK{n:Int}(h:0<=n):1<=aq n:=by unfold aq;split<;>lia
def sC{n:Int}(h:0<=n):(if n > 1 then n else 1)=aq n:=by unfold aq;split<;>split<;>lia
def oS{ns:LI}(h:∀n∈ns,0<=n):1<=ai (ns.map aq):=by
 induction ns with
 |nil=>decide
 |cons n ns ih=>
  rw[cO,cU];have a:=iK (h n bg);have b:=ih λ m hm=>h m (aW _ hm);exact kK ca (s0h a b ca Z)
def sD{r d:Int}(h1:1<=d)(h2:d<=r):1<=r/d:=by
 have:=Int.ediv_le_ediv (a:=d) (b:=r) (c:=d) Z h2;rw[Int.ediv_self Z] at this;exact this
def IJ{ss:LI}{k:Nat}{x:Int}(kl:k<ss.length):ss.take k++[x]++ss.drop (k+1)=ss.set k x:=by
 rw[oT,XT kl,im];rfl
def cF(h:fit ns):bS ns:=λ n hn=>by have:=h.1 n hn;exact⟨this.1,Z⟩
def oU(h:fit ns):¬cX ns:=λ b=>b.elim (λ z=>by have:=h.2.1;lia) (λ z=>by have:=h.2.2.2;lia)
def IL{cs:LI}{n:Nat}(h:cs.length=n):(OB n).map (λ i=>cs.getD i 0)=cs:=by
 subst h;apply Re;intro k;by_cases c:k<cs.length
 .rw[bh,oj c];exact(Ix c).symm
 .rw[jr (by simp;lia),jr Z]
def oV{a b:LI}(h:a.Perm b):ai a=ai b:=by
 induction h with
 |nil=>rfl
 |cons x _ ih=>rw[cU,cU,ih]
 |swap x y l=>rw[cU,cU,cU,cU,<- s1e,<- s1e,oR x y]
 |trans _ _ h1 h2=>rw[h1,h2]
def IM{ns os:LI}(t:jD ns.length os):(bT ns os).Perm ns:=by
 have e:(TD ns.length).map (λ k:Int=>ns.getD k.toNat 0)=ns:=by
  unfold TD;rw[bJ];exact IL rfl
 have:=t.map (λ k:Int=>ns.getD k.toNat 0);rw[e] at this;exact this
set_option genInjectivity false in
set_option genSizeOfSpec false in
inductive Stp where
 |inp (ms:LI)
 |num (n:Int)
 |count (ms:LI) (k:Int)
 |each (w:Str) (a:Nat)
 |pair (w:Str) (a b:Nat)
 |pick (a b c:Nat)
 |turn (a:Nat) (os:LI)
 |flip (a:Nat) (side:Int)
 |cut (a:Nat) (side f m g:Int)
 |spread (a:Nat) (side m:Int)
 |lay (a:Nat) (ms:LI)
 |join (a b:Nat) (side:Int)
 |fetch (a b:Nat)
 |fold (w:Str) (a:Nat) (side:Int)
 |run (w:Str) (a:Nat) (side:Int)
noncomputable def aU(mo:Int)(ns:LI):Prop:=(∀n∈ns,0<=n/\n<=mo)/\ns.length<=6/\1<=ai (ns.map aq)/\ai (ns.map aq)<=mo
noncomputable def dq(mo:Int):Prop:=2<=mo/\mo<=512
def iL{mo:Int}(h:aU mo ns)(m:dq mo):fit ns:=⟨λ n hn=>by have:=h.1 n hn;have:=m.2;lia,h.2.1,h.2.2.1,kK h.2.2.2 m.2⟩
def oW{mo:Int}(m:dq mo):aU mo []:=⟨(λ n hn=>nomatch hn),ca,ca,by have:=m.1;show(1:Int)<=mo;lia⟩
def sG{mo n:Int}(h:aU mo ns)(l:ns.length<6)(n0:0<=n)(hn:n<=mo/ai (ns.map aq)):aU mo (ns++[n]):=by
 have p:=h.2.2.1;have e:ai ((ns++[n]).map aq)=ai (ns.map aq)*aq n:=by rw[aG];exact xK _ _
 have o1:=iK n0;have d1:1<=mo/ai (ns.map aq):=sD p h.2.2.2;have le:mo/ai (ns.map aq)<=mo:=Rn _ (by have:=h.2.2.2;lia);have m2:ai (ns.map aq)*(mo/ai (ns.map aq))<=mo:=s0c Z;generalize mo/ai (ns.map aq)=q at *;have o2:aq n<=q:=by unfold aq;split<;>lia
 have m1:=mE o2 (show 0<=ai (ns.map aq) by lia);refine⟨λ k hk=>?_,by rw[aF,gJ];lia,?_,?_⟩
 .rcases bY.mp hk with z|z
  .exact h.1 k z
  .cases aI.mp z;lia
 .rw[e];exact kK ca (s0h p o1 ca Z)
 .rw[e];lia
noncomputable def Uk(Ss:LL)(S:LI):Stp->Prop
 |.inp ms=>S=ms/\¬cX ms
 |.num n=>S=[]/\UW n
 |.count ms k=>S=ms/\¬cX ms/\¬Uf ms k
 |.each w a=>Ss[a]?=Oh S/\w∈mC
 |.pair w a b=>∃A B,Ss[a]?=Oh A/\Ss[b]?=Oh B/\w∈mD/\cu A B/\S=bQ A B
 |.pick a b c=>∃A B C,Ss[a]?=Oh A/\Ss[b]?=Oh B/\Ss[c]?=Oh C/\cu A B/\cu (bQ A B) C/\S=bQ (bQ A B) C
 |.turn a os=>∃A,Ss[a]?=Oh A/\jD A.length os/\S=bT A os
 |.flip a side=>Ss[a]?=Oh S/\¬Uf S side
 |.cut a side f m g=>∃A,Ss[a]?=Oh A/\¬Uf A side/\¬Vg A side f m g/\(m<=512/\f<=512/\g<=512)/\S=A.set side.toNat m
 |.spread a side m=>∃A,Ss[a]?=Oh A/\¬jE A side/\¬m<0/\m<=512/\¬cX (bF A side.toNat m)/\S=bF A side.toNat m
 |.lay a ms=>∃A,Ss[a]?=Oh A/\¬cX ms/\ai A=ai ms/\S=ms
 |.join a b side=>∃A B,Ss[a]?=Oh A/\Ss[b]?=Oh B/\A.length=B.length/\¬Uf A side/\A.eraseIdx side.toNat=B.eraseIdx side.toNat/\¬cX (fR A B side)/\S=fR A B side
 |.fetch a b=>∃n r B,Ss[a]?=Oh (n::r)/\n≠0/\Ss[b]?=Oh B/\¬cX (B++r)/\S=B++r
 |.fold w a side=>∃A,Ss[a]?=Oh A/\Vy w/\¬Uf A side/\S=A.eraseIdx side.toNat
 |.run w a side=>Ss[a]?=Oh S/\Vy w/\¬Uf S side
def kL{mo:Int}(h:aU mo ns):∀n∈ns,0<=n:=λ n hn=>(h.1 n hn).1
def IN{n m:Int}(h:n<=m)(h1:1<=m):aq n<=m:=by unfold aq;split<;>lia
def IP{mo:Int}(h:aU mo ns)(m:dq mo):aU mo [ai ns]:=by
 have p:=su (kL h);have b:=h.2.2.2;have o:=iK p.1;have e:ai ([ai ns].map aq)=aq (ai ns):=by show ai [aq (ai ns)]=_;rw[cU];exact s0j _
 refine⟨λ n hn=>?_,lH (bP _),by rw[e];exact o,by rw[e];exact IN Z (by have:=m.1;lia)⟩;cases aI.mp hn;lia
def IQ{mo:Int}(h:aU mo ns)(m:dq mo)(l:ns.length<6):aU mo (1::ns):=by
 have e:ai ((1::ns).map aq)=ai (ns.map aq):=by rw[cO,cU];exact s0o _
 refine⟨λ n hn=>?_,by rw[OM];lia,by rw[e];exact h.2.2.1,by rw[e];exact h.2.2.2⟩
 rcases aB.mp hn with z|z
 .have:=m.1;lia
 .exact h.1 n z
def IR{mo:Int}(h:aU mo ns)(m:dq mo)(c:ai ns%2=0):aU mo [ai ns/2,2]/\ai [ai ns/2,2]=ai ns:=by
 have p:=su (kL h);have b:=h.2.2.2;have m1:=m.1;have e:ai ([ai ns/2,2].map aq)=aq (ai ns/2)*2:=by show ai [aq (ai ns/2),2]=_;rw[cU,cU];show _*(2*1)=_;rfl
 have e2:ai [ai ns/2,2]=ai ns/2*2:=by rw[cU,cU];show _*(2*1)=_;rfl
 generalize ai ns=P at *;have o:1<=aq (P/2)/\aq (P/2)*2<=mo:=by unfold aq;split<;>lia
 refine⟨⟨λ n hn=>?_,lH (lH (bP _)),by rw[e];lia,by rw[e];exact o.2⟩,by rw[e2];lia⟩
 rcases aB.mp hn with z|z
 .lia
 .cases aI.mp z;lia
def IS{mo:Int}(h:aU mo ns):aU mo ns.reverse/\ai ns.reverse=ai ns:=by
 have p:=List.reverse_perm ns;have e:=oV (p.map aq);exact⟨⟨λ n hn=>h.1 n (List.mem_reverse.mp hn),by rw[jp];exact h.2.1,by rw[e];exact h.2.2.1,by rw[e];exact h.2.2.2⟩,oV p⟩
def IT{mo:Int}(h:aU mo ns)(m:dq mo):bS ns:=λ n hn=>by have:=h.1 n hn;have:=m.2;exact⟨Z,Z⟩
noncomputable def jG(ns:LI)(d:Int):LI:=if d%4=1 then [ai ns] else if d%4=2/\ns.length<6 then 1::ns else if d%4=3/\ai ns%2=0 then [ai ns/2,2] else ns.reverse
def IU{mo:Int}(h:aU mo ns)(m:dq mo):aU mo (jG ns d)/\ai (jG ns d)=ai ns:=by
 unfold jG;by_cases c1:d%4=1
 .rw[XT c1];exact⟨IP h m,by rw[cU];exact s0j _⟩
 rw[XR c1];by_cases c2:d%4=2/\ns.length<6
 .rw[XT c2];exact⟨IQ h m c2.2,by rw[cU];exact s0o _⟩
 rw[XR c2];by_cases c3:d%4=3/\ai ns%2=0
 .rw[XT c3];exact IR h m c3.2
 rw[XR c3];exact IS h
noncomputable def fg(A B:LI)(k:Nat):LI:=if A.length=B.length/\A.eraseIdx k=B.eraseIdx k then fR A B k else []
def IV(i:Nat):TD (i+1)=TD i++[(i:Int)]:=by unfold TD;rw[RF,aG];rfl
def IW{os:LI}(h:os.Perm (TD i)):(os.take j++(i:Int)::os.drop j).Perm (TD (i+1)):=by
 rw[IV];refine List.Perm.trans Rs ?_;rw[sH];exact(h.cons _).trans (xU _ _).symm
def IY{mo:Int}{ns os:LI}(h:aU mo ns)(t:jD ns.length os):aU mo (bT ns os):=by
 have p:=IM t;have e:=oV (p.map aq);exact⟨λ n hn=>h.1 n (p.subset hn),by rw[p.length_eq];exact h.2.1,by rw[e];exact h.2.2.1,by rw[e];exact h.2.2.2⟩
def IZ{mo:Int}{A B:LI}(p:A.Perm B)(h:aU mo B):aU mo A:=by
 have e:=oV (p.map aq);exact⟨λ n hn=>h.1 n (p.subset hn),by rw[p.length_eq];exact h.2.1,by rw[e];exact h.2.2.1,by rw[e];exact h.2.2.2⟩
def Ja{mo x:Int}(h:aU mo A)(l:A.length<6)(x0:0<=x)(x1:x<=mo/ai (A.map aq)):aU mo (bF A k x):=by
 refine IZ ?_ (sG h l x0 x1);unfold bF;rw[im];refine List.Perm.trans Rs ?_;show(x::(A.take k++A.drop k)).Perm _;rw[sH];exact(xU _ _).symm
def iM(x:Int)(xs:LI):ai ((x::xs).map aq)=aq x*ai (xs.map aq):=by rw[cO];exact cU _ _
def Jb{ns:LI}(h:∀n∈ns,0<=n):∀n∈ns,n<=ai (ns.map aq):=by
 induction ns with
 |nil=>exact λ n hn=>nomatch hn
 |cons x xs ih=>
  intro n hn;have hx:=h x (bg ..);have ht:∀n∈xs,0<=n:=λ n hn=>h n (aW _ hn);have p:=oS ht;have o:=iK hx;rw[iM]
  rcases aB.mp hn with e|hn
  .rw[e];have le:x<=aq x:=by unfold aq;split<;>lia
   have:=mE p (show 0<=aq x by lia);lia
  .have:=ih ht n hn;have:=oX o (show 0<=ai (xs.map aq) by lia);lia
def Jc{ns:LI}(h:∀n∈ns,0<=n):∀ {k:Nat}{m:Int},0<=m->m<=ns.getD k 0->ai ((ns.set k m).map aq)<=ai (ns.map aq):=by
 induction ns with
 |nil=>intro k m _ _;rw[List.set_nil];exact ka _
 |cons x xs ih=>
  intro k m m0 m1;have hx:=h x (bg ..);have ht:∀n∈xs,0<=n:=λ n hn=>h n (aW _ hn);have p:=oS ht
  cases k with
  |zero=>
   have m1:m<=x:=m1;show ai ((m::xs).map aq)<=_;rw[iM,iM];exact oX (by unfold aq;split<;>split<;>lia) Z
  |succ k=>
   have m1:m<=xs.getD k 0:=m1;show ai ((x::xs.set k m).map aq)<=_;rw[iM,iM];exact mE (ih ht m0 m1) (by have:=iK hx;lia)
def Jd{ns:LI}(h:∀n∈ns,0<=n):∀ {k:Nat},ai ((ns.eraseIdx k).map aq)<=ai (ns.map aq):=by
 induction ns with
 |nil=>intro k;rw[List.eraseIdx_nil];exact ka _
 |cons x xs ih=>
  intro k;have hx:=h x (bg ..);have ht:∀n∈xs,0<=n:=λ n hn=>h n (aW _ hn);have p:=oS ht
  cases k with
  |zero=>
   show ai (xs.map aq)<=_;rw[iM];have:=oX (iK hx) (show 0<=ai (xs.map aq) by lia);lia
  |succ k=>
   show ai ((x::xs.eraseIdx k).map aq)<=_;rw[iM,iM];exact mE (ih ht) (by have:=iK hx;lia)
def sJ{mo:Int}{ns:LI}(nn:∀n∈ns,0<=n)(l:ns.length<=6)(w:ai (ns.map aq)<=mo):aU mo ns:=⟨λ n hn=>⟨nn n hn,kK (Jb nn n hn) w⟩,l,oS nn,w⟩
def Je{mo m:Int}(h:aU mo A)(m0:0<=m)(m1:m<=A.getD k 0):aU mo (A.set k m):=sJ (λ n hn=>by rcases mF hn with z|z;exact kL h n z;rw[z];exact m0) (by rw[dE];exact h.2.1) (kK (Jc (kL h) m0 m1) h.2.2.2)
def Jf{mo:Int}(h:aU mo A):aU mo (A.eraseIdx k):=sJ (λ n hn=>kL h n (List.mem_of_mem_eraseIdx hn)) (cL (List.length_eraseIdx_le ..) h.2.1) (kK (Jd (kL h)) h.2.2.2)
def Jg{n f g e:Int}(n0:0<=n)(f0:0<=f)(g1:1<=g)(e0:0<=e):0<=(if (n-1-f).fdiv g+1-e > 0 then (n-1-f).fdiv g+1-e else 0)/\(if (n-1-f).fdiv g+1-e > 0 then (n-1-f).fdiv g+1-e else 0)<=n/\¬(0<(if (n-1-f).fdiv g+1-e > 0 then (n-1-f).fdiv g+1-e else 0)/\n<=f+((if (n-1-f).fdiv g+1-e > 0 then (n-1-f).fdiv g+1-e else 0)-1)*g):=by
 rw[ng _ Z];have q1:g*((n-1-f)/g)<=n-1-f:=s0c Z;generalize (n-1-f)/g=q at *;split
 .rename_i c;have a1:=oX (show q+1-e-1<=q by lia) (show 0<=g by lia);rw[oR q g] at a1;have a2:=mE g1 (show 0<=q+1-e-1 by lia);generalize (q+1-e-1)*g=z at *;exact⟨Z,Z,λ y=>by lia⟩
 .exact⟨Z,n0,λ y=>by lia⟩
def xV(A:LI):cu A A:=(xM A A).mpr (Ir A)
def xW(h:cu x y)(l:y.length<=x.length):bQ x y=x:=by
 unfold bQ;split
 .rfl
 .exact(Iu ((xM x y).mp h) Z).symm
def xX{x y:LI}(l:x.length<y.length):bQ x y=y:=by unfold bQ;rw[XR Z]
def xY{P:LI->Prop}(h:P x)(h2:P y):P (bQ x y):=by unfold bQ;split<;>assumption
def fT{k:Int}{n:Nat}(h:k∈TD n):∃a:Nat,k=a/\a<n:=⟨k.toNat,(iH (up_mem.mp h).1).symm,by have:=up_mem.mp h;lia⟩
def xZ{a n:Nat}(h:a<n):(a:Int)∈TD n:=up_mem.mpr ⟨s0t _,Int.ofNat_lt.mpr h⟩
noncomputable def eH(mo:Int)(ds:List Stp)(Ss:LL):Prop:=ds.length=Ss.length/\(∀S∈Ss,aU mo S)/\∀(i:Nat) (d:Stp) (S:LI),ds[i]?=Oh d->Ss[i]?=Oh S->Uk (Ss.take i) S d
def yg{mo:Int}(h:eH mo ds Ss)(o:Uk Ss S d)(f:aU mo S):eH mo (ds++[d]) (Ss++[S]):=by
 refine⟨by rw[aF,aF,h.1];rfl,λ T hT=>?_,λ i d' S' e1 e2=>?_⟩
 .rcases bY.mp hT with z|z
  .exact h.2.1 T z
  .cases aI.mp z;exact f
 .by_cases c:i<ds.length
  .rw[cN c] at e1;have c':i<Ss.length:=by rw[<- h.1];exact c
   rw[cN c'] at e2;rw[so (dN c')];exact h.2.2 i d' S' e1 e2
  .have jl:=(aY.mp e1).1;rw[aF,gJ] at jl;have je:i=ds.length:=Z;rw[je,cM (ao _),gS] at e1;rw[je,h.1,cM (ao _),gS] at e2;cases e1;cases e2;rw[je,h.1,so (ao _),bR];exact o
def yh(mo:Int):eH mo [] []:=⟨rfl,(λ _ h=>nomatch h),(λ _ _ _ h=>nomatch h)⟩
def yi(h:¬fg A B k=[]):A.length=B.length/\A.eraseIdx k=B.eraseIdx k/\fg A B k=fR A B k:=by
 unfold fg at h ⊢;split
 .rename_i c;exact⟨c.1,c.2,rfl⟩
 .rename_i c;rw[XR c] at h;exact XU rfl h
def yj{ns:LI}{m:Int}(h:∀n∈ns,0<=n/\n<=m)(m0:0<=m)(k:Nat):0<=ns.getD k 0/\ns.getD k 0<=m:=by
 by_cases c:k<ns.length
 .exact h _ (jF c)
 .rw[aP,jr Z];exact⟨ka _,m0⟩
noncomputable def Md(kd:Int)(A:LI)(k:Nat)(Ss Ms:LL):Prop:=(kd=11/\Ms=Ss.map (λ B=>fg A B k))\/(kd=12/\0<A.getD 0 0/\Ms=Ss.map (λ B=>B++A.drop 1))\/(¬kd=11/\¬0<A.getD 0 0/\Ms=[[]])
def Jh(h:Md kd A k Ss Ms)(l:Ss.length<=40):Ms.length<=40:=by
 rcases h with ⟨_,rfl⟩|⟨_,_,rfl⟩|⟨_,_,rfl⟩
 .rw[ag];exact l
 .rw[ag];exact l
 .exact lH (bP _)
def Ji{kd mo:Int}(h:Md kd A k Ss Ms)(fA:aU mo A)(fS:∀S∈Ss,aU mo S)(m:dq mo):∀M∈Ms,∀n∈M,0<=n/\n<=1024:=by
 have m2:=m.2;have m1:=m.1
 rcases h with ⟨_,rfl⟩|⟨_,_,rfl⟩|⟨_,_,rfl⟩
 .intro M hM n hn;obtain⟨B,hB,rfl⟩:=bq.mp hM;by_cases c:fg A B k=[]
  .rw[c] at hn;exact nomatch hn
  .rw[(yi c).2.2] at hn;unfold fR at hn
   rcases mF hn with z|z
   .have:=fA.1 n z;lia
   .have a1:=yj fA.1 (show 0<=mo by lia) (k:Int).toNat
    have a2:=yj (fS B hB).1 (show 0<=mo by lia) (k:Int).toNat
    lia
 .intro M hM n hn;obtain⟨B,hB,rfl⟩:=bq.mp hM
  rcases bY.mp hn with z|z
  .have:=(fS B hB).1 n z;lia
  .have:=fA.1 n (sK z);lia
 .intro M hM n hn;cases aI.mp hM;exact nomatch hn
def Jj{M:LI}(h:∀n∈M,0<=n/\n<=1024):bS M:=λ n hn=>by have:=h n hn;exact⟨this.1,Z⟩
def Jk{M:LI}{mo:Int}(m:dq mo)(l:M.length<=6)(w:ai (M.map aq)<=mo):¬cX M:=λ z=>z.elim Z (by have:=m.2;lia)
def Jl{Ss:LL}{M:Int}(h:M∈Ss.map (λ S=>(S.length:Int)))(h0:0<M):∃S∈Ss,0<S.length:=by
 obtain⟨S,hS,rfl⟩:=bq.mp h;exact⟨S,hS,Z⟩
noncomputable def TQ:Stp->Nat
 |.inp ..=>0|.num ..=>1|.count ..=>2|.each ..=>3|.pair ..=>4|.pick ..=>5|.turn ..=>6|.flip ..=>7|.cut ..=>8|.spread ..=>9|.lay ..=>10|.join ..=>11|.fetch ..=>12|.fold ..=>13|.run ..=>14
noncomputable def ar:Stp->List Nat
 |.inp ..=>[]|.num ..=>[]|.count ..=>[]
 |.each _ a=>[a]|.pair _ a b=>[a,b]|.pick a b c=>[a,b,c]
 |.turn a _=>[a]|.flip a _=>[a]|.cut a ..=>[a]|.spread a ..=>[a]|.lay a _=>[a]
 |.join a b _=>[a,b]|.fetch a b=>[a,b]|.fold _ a _=>[a]|.run _ a _=>[a]
noncomputable def yk:Stp->Prop
 |.each w _=>w∈mC|.pair w _ _=>w∈mD|.fold w _ _=>Vy w|.run w _ _=>Vy w|_=>True
def sM(h:Uk Ss S d):yk d:=by
 cases d with
 |each w a=>exact h.2
 |pair w a b=>obtain⟨A,B,_,_,z,_⟩:=h;exact z
 |fold w a s=>obtain⟨A,_,z,_⟩:=h;exact z
 |run w a s=>exact h.2.1
 |_=>trivial
def yl(h:Uk Ss S d):∀a∈ar d,a<Ss.length:=by
 have g:∀ {a:Nat}{A:LI},Ss[a]?=Oh A->a<Ss.length:=λ e=>(aY.mp e).1;intro x hx
 cases d with
 |inp ms|num n|count ms k=>exact nomatch hx
 |each w a|flip a s|run w a s=>cases aI.mp hx;exact g h.1
 |pair w a b|join a b s=>
  obtain⟨A,B,e1,e2,_⟩:=h
  rcases aB.mp hx with z|z
  .rw[z];exact g e1
  .cases aI.mp z;exact g e2
 |pick a b c=>
  obtain⟨A,B,C,e1,e2,e3,_⟩:=h
  rcases aB.mp hx with z|z
  .rw[z];exact g e1
  rcases aB.mp z with z|z
  .rw[z];exact g e2
  .cases aI.mp z;exact g e3
 |turn a os|cut a s f m gg|spread a s m|lay a ms|fold w a s=>obtain⟨A,e1,_⟩:=h;cases aI.mp hx;exact g e1
 |fetch a b=>
  obtain⟨n,r,B,e1,_,e2,_⟩:=h
  rcases aB.mp hx with z|z
  .rw[z];exact g e1
  .cases aI.mp z;exact g e2
def Jm(d:Stp):(ar d).length<=3:=by cases d<;>exact Nat.le_of_sub_eq_zero rfl
noncomputable def gU(mo:Int)(ds:List Stp)(Ss:LL)(os:LI):Prop:=dq mo/\eH mo ds Ss/\0<ds.length/\ds.length<=40/\0<os.length/\os.length<=8/\∀o∈os,0<=o/\o<(ds.length:Int)
def oY{mo:Int}(h:eH mo ds Ss)(m:dq mo):∀T∈Ss,fit T:=λ T hT=>iL (h.2.1 T hT) m
def ym(h:fit A):sm A:=λ n hn=>by have:=h.1 n hn;exact⟨Z,Z⟩
section
variable {band:Int->Int->Int}
variable (hv:∀x y,band x y=2*band (x/2) (y/2)+(if x%2=1/\y%2=1 then 1 else 0))
include hv
end
def sO{os:LI}(t:jD n os):os.length=n:=by rw[t.length_eq,fc]
noncomputable def yn(f:Nat->Nat):Stp->Stp
 |.inp ms=>.inp ms
 |.num n=>.num n
 |.count ms k=>.count ms k
 |.each w a=>.each w (f a)
 |.pair w a b=>.pair w (f a) (f b)
 |.pick a b c=>.pick (f a) (f b) (f c)
 |.turn a os=>.turn (f a) os
 |.flip a s=>.flip (f a) s
 |.cut a s g m h=>.cut (f a) s g m h
 |.spread a s m=>.spread (f a) s m
 |.lay a ms=>.lay (f a) ms
 |.join a b s=>.join (f a) (f b) s
 |.fetch a b=>.fetch (f a) (f b)
 |.fold w a s=>.fold w (f a) s
 |.run w a s=>.run w (f a) s
def Jn{Ss Zs:LL}{f:Nat->Nat}(h:Uk Ss S d)(g:∀a∈ar d,∀A,Ss[a]?=Oh A->Zs[f a]?=Oh A):Uk Zs S (yn f d):=by
 cases d with
 |inp|num|count=>exact h
 |each|flip|run=>exact⟨g _ (.head _) _ h.1,h.2⟩
 |turn|cut|spread|lay|fold=>obtain⟨A,e,r⟩:=h;exact⟨A,g _ (.head _) _ e,r⟩
 |pair|join=>obtain⟨A,B,e1,e2,r⟩:=h;exact⟨A,B,g _ (.head _) _ e1,g _ (.tail _ (.head _)) _ e2,r⟩
 |fetch=>obtain⟨n,r,B,e1,n0,e2,z⟩:=h;exact⟨n,r,B,g _ (.head _) _ e1,n0,g _ (.tail _ (.head _)) _ e2,z⟩
 |pick=>obtain⟨A,B,C,e1,e2,e3,r⟩:=h;exact⟨A,B,C,g _ (.head _) _ e1,g _ (.tail _ (.head _)) _ e2,g _ (.tail _ (.tail _ (.head _))) _ e3,r⟩
end _M
namespace PySem.W.Fast
def tw10007073922489060594:=trivial
def tw1004366182274542409:=trivial
def tw10069349856123714983:=trivial
def tw10117567415797001162:=trivial
def tw10124443635632800984:=trivial
def tw10141472836355835908:=trivial
def tw10191572713085061151:=trivial
def tw10203947794542564253:=trivial
def tw10237341135127612082:=trivial
def tw10274015763912047251:=trivial
def tw10285883198878075327:=trivial
def tw10351725034803670668:=trivial
def tw10406360425544824884:=trivial
def tw10434677497323888919:=trivial
def tw10438845920800039084:=trivial
def tw10441833656963966385:=trivial
def tw10456082213523742358:=trivial
def tw10466696034934550669:=trivial
def tw10491207945012546649:=trivial
def tw10492119822933014009:=trivial
def tw10496706809553715092:=trivial
def tw10498505321023562893:=trivial
def tw10509054819720914816:=trivial
def tw10575193236723054602:=trivial
def tw1057744368613018114:=trivial
def tw10608019821071113966:=trivial
def tw10644103595452517642:=trivial
def tw10654305285768067910:=trivial
def tw1074171017452416115:=trivial
def tw10741982328828293740:=trivial
def tw10761559298951934955:=trivial
def tw10782756789432130950:=trivial
def tw10800487027416822199:=trivial
def tw10895111709710849781:=trivial
def tw10898253950055228688:=trivial
def tw10900021350592556626:=trivial
def tw10927186001657380962:=trivial
def tw11007429401439755408:=trivial
def tw11106759918903433240:=trivial
def tw11146323152584651681:=trivial
def tw1126775709800834926:=trivial
def tw11433998432783553362:=trivial
def tw11458014815089543902:=trivial
def tw11480175012818973918:=trivial
def tw11498460387678094392:=trivial
def tw11503949897144104870:=trivial
def tw11782880157992964466:=trivial
def tw11788642361239563240:=trivial
def tw11861350399974218818:=trivial
def tw11871065681413448000:=trivial
def tw11946301858604548204:=trivial
def tw11965747435006358449:=trivial
def tw12017682813227167725:=trivial
def tw12025734577954082487:=trivial
def tw12123835292358383796:=trivial
def tw12132487284097148589:=trivial
def tw12360195822001922956:=trivial
def tw12368484946044290109:=trivial
def tw12454868127330467628:=trivial
def tw12463319066951386960:=trivial
def tw12472969117291229795:=trivial
def tw12473537697204216919:=trivial
def tw12576663541556580199:=trivial
def tw1270765552650906831:=trivial
def tw12710698563469355276:=trivial
def tw12721187522426966532:=trivial
def tw1285161238733134314:=trivial
def tw12861523126868590140:=trivial
def tw1288341619677295660:=trivial
def tw1296499614624541895:=trivial
def tw13012443197119096933:=trivial
def tw13069511577160691534:=trivial
def tw1312289017321842074:=trivial
def tw13144520621021251504:=trivial
def tw13231280860284689792:=trivial
def tw13238576965429093082:=trivial
def tw13255032572901310927:=trivial
def tw13264715183689571530:=trivial
def tw13282658989651332680:=trivial
def tw13294721892613985478:=trivial
def tw13370613875663332643:=trivial
def tw13385210227674031912:=trivial
def tw13406922900380953780:=trivial
def tw13447653070926034841:=trivial
def tw13487394196041808898:=trivial
def tw13605118989250641476:=trivial
def tw13682699463724050386:=trivial
def tw13691570474243785467:=trivial
def tw1371206950884018841:=trivial
def tw13724178857257554567:=trivial
def tw13743807970593834652:=trivial
def tw13757389543615731150:=trivial
def tw13818233569118132889:=trivial
def tw13882186941044206133:=trivial
def tw1389461080902283758:=trivial
def tw13911961217258961480:=trivial
def tw13933664305216873915:=trivial
def tw1397243930354396410:=trivial
def tw13973008999384720618:=trivial
def tw14019740667840713286:=trivial
def tw14063902519512729263:=trivial
def tw14150625482513122510:=trivial
def tw14190494963845988870:=trivial
def tw14207423746477737610:=trivial
def tw14332798178255763300:=trivial
def tw14341399127363571246:=trivial
def tw14345061316151451965:=trivial
def tw14381635360308295046:=trivial
def tw14387226732076291204:=trivial
def tw1439309472517405973:=trivial
def tw14400609940487348858:=trivial
def tw14445363209646177241:=trivial
def tw14471616977434546583:=trivial
def tw14504795568685389453:=trivial
def tw14514809900079681751:=trivial
def tw14593636178658060583:=trivial
def tw14616718261529399615:=trivial
def tw14626776291045902021:=trivial
def tw14638901503030006919:=trivial
def tw14682721085585180029:=trivial
def tw14692478899251105903:=trivial
def tw14710075868416321471:=trivial
def tw14814677758772427072:=trivial
def tw14822318701912089781:=trivial
def tw14867009013284761677:=trivial
def tw1487530908875588391:=trivial
def tw14921758368328811368:=trivial
def tw15046782590528971271:=trivial
def tw15052272042503720734:=trivial
def tw15056563231140097186:=trivial
def tw15097914082799881926:=trivial
def tw15108779738401397081:=trivial
def tw15129992720019323429:=trivial
def tw15148798793080577806:=trivial
def tw15234211490981777331:=trivial
def tw15278654584447355482:=trivial
def tw15311250325289178707:=trivial
def tw15321136767014148151:=trivial
def tw15437500962194437363:=trivial
def tw15443691316013009096:=trivial
def tw15461092470194032306:=trivial
def tw1550877818681894005:=trivial
def tw1556424178541959509:=trivial
def tw15620866584664203509:=trivial
def tw15621249233096178280:=trivial
def tw15681845392787160127:=trivial
def tw15703216409702058616:=trivial
def tw15762714790677247891:=trivial
def tw15765981582722773610:=trivial
def tw15816938641893679888:=trivial
def tw15911220509675017973:=trivial
def tw1592561655991934919:=trivial
def tw15992677265048930625:=trivial
def tw16035899266455582569:=trivial
def tw16054587712416932008:=trivial
def tw160836363948958938:=trivial
def tw16167431048221683276:=trivial
def tw16177467654859681466:=trivial
def tw16205491376623315465:=trivial
def tw16235807030237112891:=trivial
def tw16239530876889803525:=trivial
def tw16250690687136635375:=trivial
def tw16319286128176141387:=trivial
def tw16323426744290178397:=trivial
def tw16430365234264477523:=trivial
def tw16452640396112180398:=trivial
def tw16479905487909210842:=trivial
def tw16499603243253276520:=trivial
def tw16535340382630014794:=trivial
def tw16553554272825551010:=trivial
def tw16562485111629817235:=trivial
def tw16582044224015784784:=trivial
def tw16595410531351763219:=trivial
def tw16928765813730461879:=trivial
def tw16937532578211145115:=trivial
def tw16959942567436821138:=trivial
def tw17059369092539407238:=trivial
def tw17163013719744655641:=trivial
def tw17167734856582019697:=trivial
def tw17197676120009684076:=trivial
def tw1722003834301731091:=trivial
def tw17227536507515217141:=trivial
def tw17259274170034082206:=trivial
def tw17268789864778488715:=trivial
def tw17320304130183378330:=trivial
def tw17321442367127286897:=trivial
def tw17334775562867825323:=trivial
def tw17361792687724764892:=trivial
def tw17417058462918481801:=trivial
def tw17438303026467467636:=trivial
def tw17567119400615277426:=trivial
def tw17571846185356876460:=trivial
def tw17573695404300078055:=trivial
def tw17709033174218612099:=trivial
def tw17710202661738832311:=trivial
def tw1774377494159891508:=trivial
def tw17756608300218655382:=trivial
def tw17797777321989788537:=trivial
def tw17853068170844065362:=trivial
def tw17856383652870123386:=trivial
def tw18029708306496472858:=trivial
def tw18060886820041579822:=trivial
def tw18108210255260643771:=trivial
def tw18116381383894963416:=trivial
def tw18139149771572763930:=trivial
def tw18219652591438014195:=trivial
def tw18253562477189385187:=trivial
def tw18292775055214978099:=trivial
def tw18331335978349328543:=trivial
def tw1836619376303977773:=trivial
def tw18381332409784877202:=trivial
def tw18395606963319477605:=trivial
def tw1886427470597408322:=trivial
def tw1895183867508164856:=trivial
def tw2000177178925695063:=trivial
def tw203926940116651363:=trivial
def tw2044972311913341728:=trivial
def tw2081497302925917134:=trivial
def tw2085125763695617344:=trivial
def tw2167612811916058371:=trivial
def tw2179667045801305702:=trivial
def tw2197348061612934585:=trivial
def tw2230142696278031216:=trivial
def tw2274231150632910903:=trivial
def tw2285527815957651497:=trivial
def tw2311728921510488658:=trivial
def tw2329758951286569565:=trivial
def tw2347895941874227430:=trivial
def tw2371278692499325628:=trivial
def tw2411881928501910434:=trivial
def tw2452838648707336261:=trivial
def tw2468462948115802657:=trivial
def tw2486043268248669991:=trivial
def tw2565380502347080356:=trivial
def tw2593207036418588845:=trivial
def tw2593556454067117227:=trivial
def tw2638892879032491581:=trivial
def tw2696717067835168234:=trivial
def tw270723609830534755:=trivial
def tw2782510544040276350:=trivial
def tw2875785486449579161:=trivial
def tw290025694398283288:=trivial
def tw2989386509283064525:=trivial
def tw2991947785978961704:=trivial
def tw3008255599171176294:=trivial
def tw3030422583091423122:=trivial
def tw3075356061400807046:=trivial
def tw3162590069749217120:=trivial
def tw3217505345324862740:=trivial
def tw3252280332597408476:=trivial
def tw3353071135021923757:=trivial
def tw3417342158831594322:=trivial
def tw3475970503606882666:=trivial
def tw3531896641414489629:=trivial
def tw3554567044697347966:=trivial
def tw3583517223191474094:=trivial
def tw3583722605642156593:=trivial
def tw3615446682731198196:=trivial
def tw3725088904024403106:=trivial
def tw3813225224665926450:=trivial
def tw3840571585101539632:=trivial
def tw3901921578250102807:=trivial
def tw3925996233394058014:=trivial
def tw3974410447326485991:=trivial
def tw4025353499725414042:=trivial
def tw4056099861539692076:=trivial
def tw4061397666289806896:=trivial
def tw4068655662897802169:=trivial
def tw4106900839879581454:=trivial
def tw4112072573660087213:=trivial
def tw4230379233055467023:=trivial
def tw4268360568788623875:=trivial
def tw4317219418626170238:=trivial
def tw4323085592836641933:=trivial
def tw4328880069304517196:=trivial
def tw4434337145741759112:=trivial
def tw4498049871354737889:=trivial
def tw4519283326147158452:=trivial
def tw4528959705148919478:=trivial
def tw4660524561154857937:=trivial
def tw4661284958177907813:=trivial
def tw4671294961602420710:=trivial
def tw468638349797981637:=trivial
def tw4694833184579904388:=trivial
def tw4766170395199358896:=trivial
def tw4777374555314586595:=trivial
def tw4846326012668965169:=trivial
def tw4870029560576937388:=trivial
def tw4874091642506358386:=trivial
def tw4962277442030225454:=trivial
def tw498227541996277699:=trivial
def tw4984924685045051429:=trivial
def tw4988882805449249349:=trivial
def tw5008509129653289041:=trivial
def tw5022538992545880419:=trivial
def tw5035745231059581616:=trivial
def tw5051689670294016425:=trivial
def tw5088854164869848044:=trivial
def tw5110031079795342128:=trivial
def tw5146448980607484842:=trivial
def tw5153793076995376539:=trivial
def tw5165639214765206882:=trivial
def tw5202046095348124972:=trivial
def tw5221762209341394462:=trivial
def tw5232312755893800974:=trivial
def tw5236003797595317628:=trivial
def tw5270473496770303016:=trivial
def tw5297960380996956428:=trivial
def tw5322930731627379242:=trivial
def tw5326042868324422843:=trivial
def tw5369935205059056369:=trivial
def tw5371164676940162800:=trivial
def tw5441768671207107880:=trivial
def tw5481478243169493817:=trivial
def tw5529669558628232537:=trivial
def tw5553959184969224360:=trivial
def tw5573345922493162292:=trivial
def tw5604701230227729589:=trivial
def tw5714406063379221833:=trivial
def tw5753216676899946231:=trivial
def tw5794721491260187122:=trivial
def tw5832775284649047354:=trivial
def tw583858798313686497:=trivial
def tw5857095351111926279:=trivial
def tw5863789863610474852:=trivial
def tw588119734989479287:=trivial
def tw5899945347148962634:=trivial
def tw5907166648149718968:=trivial
def tw5931358499035169778:=trivial
def tw5994957476427198598:=trivial
def tw6077539346048042862:=trivial
def tw6179866965183381127:=trivial
def tw6208471377812277077:=trivial
def tw6209586267507387284:=trivial
def tw6241413629141849154:=trivial
def tw6247268093903452270:=trivial
def tw6263993442850331567:=trivial
def tw6282459779798320380:=trivial
def tw6309206467108739676:=trivial
def tw6310917565612218955:=trivial
def tw6335084241083116629:=trivial
def tw635218507239517107:=trivial
def tw6384719898255616770:=trivial
def tw6418109582378218991:=trivial
def tw6429556914562724436:=trivial
def tw645569716428418040:=trivial
def tw6553773855281679110:=trivial
def tw6562571556925656533:=trivial
def tw6590422439159606428:=trivial
def tw6599844536046201609:=trivial
def tw6612963606712720114:=trivial
def tw6617387651641976537:=trivial
def tw6619251657497073915:=trivial
def tw6637781955055925290:=trivial
def tw6725050244937076744:=trivial
def tw6732628275652010151:=trivial
def tw6756447843952065052:=trivial
def tw6795265790345020102:=trivial
def tw6835337666030704961:=trivial
def tw6859733635578181589:=trivial
def tw6880657801657660597:=trivial
def tw688552046655209484:=trivial
def tw6925542316289114098:=trivial
def tw6937945365641941148:=trivial
def tw6964120681901459329:=trivial
def tw7010631694941414823:=trivial
def tw7055135237273812143:=trivial
def tw7085866975583900705:=trivial
def tw7091800670217067895:=trivial
def tw7095776814064643472:=trivial
def tw714096724067691180:=trivial
def tw7164096620897216580:=trivial
def tw7246974162256253006:=trivial
def tw7286377337567680314:=trivial
def tw7305706333887557097:=trivial
def tw7311048509575490209:=trivial
def tw7335471334773245707:=trivial
def tw7342392039648026303:=trivial
def tw7343883119010771316:=trivial
def tw7350175591543144037:=trivial
def tw7352084453511488775:=trivial
def tw7389871418430604297:=trivial
def tw743391715125926470:=trivial
def tw7439884555172524438:=trivial
def tw7478157013211277047:=trivial
def tw7570592808153791126:=trivial
def tw7613848460931209665:=trivial
def tw7674349552797103239:=trivial
def tw7691953117898911940:=trivial
def tw7730133417934016327:=trivial
def tw7732012082753299097:=trivial
def tw7747898848107178511:=trivial
def tw7754208094052812284:=trivial
def tw7761745746105454778:=trivial
def tw7764521021709307258:=trivial
def tw777563404835823451:=trivial
def tw7813548282369207181:=trivial
def tw7957472539901232685:=trivial
def tw796483665795008720:=trivial
def tw798687705571750928:=trivial
def tw8001449554698971295:=trivial
def tw8084128057065075925:=trivial
def tw8119424640903900066:=trivial
def tw8141183124447328829:=trivial
def tw8185874068765608178:=trivial
def tw8204943863790359245:=trivial
def tw8222786105927294879:=trivial
def tw8269558657455178533:=trivial
def tw8321413998381436452:=trivial
def tw8342957769032216827:=trivial
def tw840946516729970372:=trivial
def tw8424361606639903858:=trivial
def tw8450276696628748027:=trivial
def tw8523971445221942026:=trivial
def tw8548526952527834839:=trivial
def tw8556573423469873548:=trivial
def tw8560736988943548784:=trivial
def tw8578399365513799737:=trivial
def tw8582263175409421567:=trivial
def tw8592521140925662643:=trivial
def tw8633161661195524892:=trivial
def tw8689749736845453156:=trivial
def tw8711787207235531037:=trivial
def tw8715905262615362113:=trivial
def tw8777449771675547026:=trivial
def tw8787719271880177593:=trivial
def tw8796038429558547254:=trivial
def tw8840145180566020844:=trivial
def tw8896263395436763281:=trivial
def tw8970546399935896858:=trivial
def tw9044184687142568321:=trivial
def tw9044194527714733664:=trivial
def tw9047722275329159787:=trivial
def tw9077990498130031267:=trivial
def tw9080242804756620723:=trivial
def tw9130403958857712109:=trivial
def tw924519924376157099:=trivial
def tw92768660162882982:=trivial
def tw9293398349686112802:=trivial
def tw9340972355685772134:=trivial
def tw9349365896661346694:=trivial
def tw9360629740045861986:=trivial
def tw9382404050003648359:=trivial
def tw9475100941779427853:=trivial
def tw9535604632684189901:=trivial
def tw9572893102172915722:=trivial
def tw9578875249321825522:=trivial
def tw9585339766406601846:=trivial
def tw9589044726258983839:=trivial
def tw9615057964312102554:=trivial
def tw9697447984805195691:=trivial
def tw9732384449147601633:=trivial
def tw9780641036742360343:=trivial
def tw9807419244261974312:=trivial
def tw9838144569123529578:=trivial
def tw9908345602695804989:=trivial
def tw9919681885033968020:=trivial
def tw9921092795921203271:=trivial
def tw9925709922309640218:=trivial
def tw9979955452809790818:=trivial
end PySem.W.Fast
namespace _M
open PySem _L PyProof.Rows
open TV renaming int->XV,tup->XW,str->XX
def ax{a b:Prop}(h:b)(k:a:=by kernel_rfl):a/\b:=⟨k,h⟩
noncomputable def top(i:Nat):Ox:=PySem.Challenge.pw_sideloom_k68_woven_trees.main.body.getD i (.Pass ⟨0,0,0,0⟩)
noncomputable def tI(ns:LI):TV:=.tup (ns.map .int)
noncomputable def lI(ns:LI):TV:=.lst (ns.map .int)
def iN{ns:LI}{i:Nat}(h:(ns.map XV)[i]?=Oh t):∃n,t=.int n/\ns[i]?=Oh n:=by
 rw[bh] at h
 cases q:ns[i]? with
 |none=>rw[q] at h;cases h
 |some n=>rw[q] at h;cases h;exact⟨n,rfl,rfl⟩
def af(ns:LI):(ns.map XV).length=ns.length:=ag ..
def Xx:lj 2 64:=⟨ca,ca,ca⟩
def Wo:lj 2 63:=⟨ca,ca,ca⟩
def gW{i j:Int}(h0:-18446744073709551616<j)(h1:j<18446744073709551616):QN i j:=CMul.ok (.inr ⟨Z,Z⟩)
def gX{i j:Int}(h0:-18446744073709551616<i)(h1:i<18446744073709551616):QN i j:=CMul.ok (.inl ⟨Z,Z⟩)
def s2{a b:Prop}{P:Bool}(h1:P=Oi->a)(h2:P=Ol->b):if P=Oi then a else b:=by
 cases P
 .exact h2 rfl
 .exact h1 rfl
def sF{a b:Prop}{P:Bool}(h:P=Ol)(k:b):if P=Oi then a else b:=by rw[h];exact k
def sT{a b:Prop}{P:Bool}(h:P=Oi)(k:a):if P=Oi then a else b:=by rw[h];exact k
def cl{FT:List Tf}{f:Nat}{ts:List TV}{K:TV->Prop}(e:FT[f]?=Oh S)(h:S (ts.map .fz) K)(n:ts.all TV.nb=Oi):∃P,(∃S,FT[f]?=Oh S/\S (ts.map .fz) P)/\∀t,P t->(ts.all TV.nb=Ol->LF t)/\K t:=⟨K,⟨S,e,h⟩,λ t k=>⟨λ z=>(by rw[n] at z;cases z),k⟩⟩
theorem ce{GT:List TV}{α:Type}(f g:α->TV):∀(l:List α) {Kn:List TV->Prop},(∀a∈l,Ud ρ tg (f a) λ ρ'=>wE FT GT e ρ' λ y=>y.nb=Oi/\y.fz=g a)->Kn (l.map g)->UF (λ t K'=>Ud ρ tg t λ ρ'=>wE FT GT e ρ' λ y=>(y.nb=Oi/\K' [y.fz])) (l.map f) Kn
 |[],_,_,k=>k
 |a::l,Kn,h,k=>fO (λ ρ' q=>av e (λ y ⟨n,z⟩=>⟨n,by rw[z];exact ce f g l (λ b hb=>h b (by simp[hb])) k⟩) q) (h a on)
def Jo{ns:LI}{i:Nat}(h:((ns.map XV).reverse)[i]?=Oh t):i<ns.length/\∃n,t=.int n/\ns[ns.length-1-i]?=Oh n:=by
 have hl:=(aY.mp h).1;rw[jp,af] at hl;rw[lO (by rw[af];exact hl),af] at h;exact⟨hl,iN h⟩
def Jp{n:Int}(h:(!decide (n=0))=Oi):aq n=n:=by unfold aq;rw[XR (by simpa using h)]
def Jq{n:Int}(h:(!decide (n=0))=Ol):aq n=1:=by unfold aq;rw[XT (by simpa using h)]
def Wp{a b:Int}(h:a=b):(!_L.eqT (XV a).fz (XV b).fz)=Ol:=by subst h;show(!decide (a=a))=Ol;rw[cn rfl];rfl
def kM{GT:List TV}{α:Type}{l:List α}{f:α->TV}{its:List TV}(h0:its=l.map f)(g:α->TV){Kn:List TV->Prop}(h:∀a∈l,Ud ρ tg (f a) λ ρ'=>wE FT GT e ρ' λ y=>y.nb=Oi/\y.fz=g a)(k:Kn (l.map g)):UF (λ t K'=>Ud ρ tg t λ ρ'=>wE FT GT e ρ' λ y=>(y.nb=Oi/\K' [y.fz])) its Kn:=h0 ▸ ce f g l h k
def bB{ns:LI}{k:Nat}(h:k<ns.length):TW (ns.map XV) (k:Int)=Oh (.int (ns.getD k 0)):=jR (by rw[bh,bc h,aP,bc h];rfl)
def oZ{n i:Nat}(h:((OB n).map f)[i]?=Oh a):i<n/\a=f i:=by
 have hi:=(aY.mp h).1;rw[ag,eI] at hi;rw[bh,oj hi] at h;exact⟨hi,(bv h).symm⟩
def sE{a b:Prop}{x y:Str}(h1:x=y->a)(h2:x≠y->b):if _L.eqT (XX x).fz (XX y).fz=Oi then a else b:=by
 by_cases h:x=y
 .rw[XT (show _L.eqT (XX x).fz (XX y).fz=Oi from cn h)];exact h1 h
 .rw[XR (by rw[show _L.eqT (XX x).fz (XX y).fz=decide (x=y) from rfl];simpa using h)];exact h2 h
def sN{a b:Prop}{x y:Int}(h1:x=y->a)(h2:x≠y->b):if _L.eqT (XV x).fz (XV y).fz=Oi then a else b:=by
 by_cases h:x=y
 .rw[XT (show _L.eqT (XV x).fz (XV y).fz=Oi from cn h)];exact h1 h
 .rw[XR (by rw[show _L.eqT (XV x).fz (XV y).fz=decide (x=y) from rfl];simpa using h)];exact h2 h
def s3{a b:Prop}{P:Prop} [Decidable P] (h1:P->a)(h2:¬P->b):if decide P=Oi then a else b:=by
 by_cases h:P
 .rw[XT (cn h)];exact h1 h
 .rw[XR (by simpa using h)];exact h2 h
theorem sP:∀(l m:LI),_L.eqTL (l.map XV) (m.map XV)=decide (l=m)
 |[],[]=>rfl
 |[],_::_=>rfl
 |_::_,[]=>rfl
 |x::xs,y::ys=>by
  rw[cO,cO,_L.eqTL_c,sP xs ys,show _L.eqT (XV x) (XV y)=decide (x=y) from rfl,<- Bool.decide_and];exact qi.mpr (by rw[List.cons.injEq])
def mG(l m:LI):_L.eqT (XW (l.map XV)) (XW (m.map XV))=decide (l=m):=sP l m
def Jr(l m:LI):_L.eqT (TV.lst (l.map XV)) (TV.lst (m.map XV))=decide (l=m):=sP l m
def Xy(ns:LI):∀x∈ns.map XV,_L.dp 98 x:=λ x hx=>by obtain⟨n,_,rfl⟩:=bq.mp hx;trivial
def Vb(ns:LI):_L.dp 99 (XW (ns.map XV)):=Xy ns
def dpL(ns:LI):_L.dp 99 (TV.lst (ns.map XV)):=Xy ns
def kN{ns:LI}{o:Int}(h0:0<=o)(h1:o<ns.length):TW (ns.map XV) o=Oh (.int (ns.getD o.toNat 0)):=by
 have z:=bB (ns:=ns) (k:=o.toNat) Z
 rwa [show((o.toNat:Nat):Int)=o by lia] at z
def yp(x:Int):aR x y=Int.fdiv x y:=by unfold aR;split<;>first|rfl|exact(ng _ Z).symm
def Js(x:Int):aJ x y=Int.fmod x y:=by unfold aJ;split<;>first|rfl|exact(uo _ Z).symm
noncomputable def Wr:Stp->List TV
 |.inp ms=>[.str "in",tI ms]
 |.num n=>[.str "num",.int n]
 |.count ms k=>[.str "count",tI ms,.int k]
 |.each w a=>[.str "each",.str w,.int a]
 |.pair w a b=>[.str "pair",.str w,.int a,.int b]
 |.pick a b c=>[.str "pick",.int a,.int b,.int c]
 |.turn a os=>[.str "turn",.int a,tI os]
 |.flip a side=>[.str "flip",.int a,.int side]
 |.cut a side f m g=>[.str "cut",.int a,.int side,.int f,.int m,.int g]
 |.spread a side m=>[.str "spread",.int a,.int side,.int m]
 |.lay a ms=>[.str "lay",.int a,tI ms]
 |.join a b side=>[.str "join",.int a,.int b,.int side]
 |.fetch a b=>[.str "fetch",.int a,.int b]
 |.fold w a side=>[.str "fold",.str w,.int a,.int side]
 |.run w a side=>[.str "run",.str w,.int a,.int side]
noncomputable def Tq(d:Stp):TV:=.tup (Wr d)
def Ws:∀x∈[XX "fold",XX "run"],Uq x=Oi:=ca
def ak{α:Type}{f:α->TV}{Ss:List α}{a:Nat}{A:α}(e:Ss[a]?=Oh A):TW (Ss.map f) (a:Int)=Oh (f A):=jR (by rw[bh,e];rfl)
def UO{FT:List Tf}{f:Nat}{ts:List TV}{K:TV->Prop}(e:FT[f]?=Oh S)(h:S (ts.map .fz) λ t=>LF t/\K t):∃P,(∃S,FT[f]?=Oh S/\S (ts.map .fz) P)/\∀t,P t->(ts.all TV.nb=Ol->LF t)/\K t:=⟨_,⟨S,e,h⟩,λ t k=>⟨λ _=>k.1,k.2⟩⟩
def UX{n:Nat}(h:n<=3):n<Oq:=aL Z
def WP(ns:LI):LF (tI ns):=by unfold tI;simp only[LF];intro x hx;obtain⟨n,_,rfl⟩:=bq.mp hx;simp[LF]
def Ju{α:Type}{f:α->TV}{l:List α}{i:Nat}(h:(l.map f)[i]?=Oh t):∃a,t=f a/\l[i]?=Oh a:=by
 rw[bh] at h;obtain⟨a,ea,rfl⟩:=kE.mp h;exact⟨a,O,ea⟩
def LF2(S:LI):LF (.tup [tI S,.non]):=by
 simp only[LF];intro x hx;simp only[aB,bf,bd] at hx
 rcases hx with rfl|rfl
 .exact WP S
 .simp[LF]
def Jv{cs:LI}{i:Nat}(h:((cs.map XV).mapIdx λ i x=>XW [.int (i:Nat),x])[i]?=Oh t):∃c,t=.tup [.int (i:Nat),.int c]/\cs[i]?=Oh c:=by
 rw[oo,bh] at h
 cases q:cs[i]? with
 |none=>rw[q] at h;cases h
 |some c=>rw[q] at h;cases h;exact⟨c,rfl,rfl⟩
def neT{a b:Int}(h:a≠b):(!_L.eqT (XV a).fz (XV b).fz)=Oi:=by rw[show _L.eqT (XV a).fz (XV b).fz=decide (a=b) from rfl];simp[h]
theorem gY{GT:List TV}{α:Type}(f g:α->TV)(p:α->Bool):∀(l:List α) {its:List TV}{Kn:List TV->Prop},its=l.map f->(∀a∈l,Ud ρ tg (f a) λ ρ'=>wE FT GT c ρ' λ x=>x=.bl (p a)/\(p a=Oi->wE FT GT e ρ' λ y=>y.nb=Oi/\y.fz=g a))->Kn ((l.filter p).map g)->UF (λ t K'=>Ud ρ tg t λ ρ'=>wE FT GT c ρ' λ x=>b1 x λ q=>if q=Oi then wE FT GT e ρ' λ y=>(y.nb=Oi/\K' [y.fz]) else K' []) its Kn
 |[],_,_,h0,_,k=>by subst h0;exact k
 |a::l,_,Kn,h0,h,k=>by
  subst h0;show Ud ρ tg (f a) λ ρ'=>wE FT GT c ρ' λ x=>b1 x λ q=>if q=Oi then wE FT GT e ρ' (λ y=>y.nb=Oi/\UF _ (l.map f) λ ys=>Kn ([y.fz]++ys)) else UF _ (l.map f) λ ys=>Kn ([]++ys);refine fO (λ ρ' q=>av c (λ x ⟨e1,q⟩=>?_) q) (h a on);subst e1;have hr:=λ b hb=>h b (aW a hb);show if p a=Oi then _ else _;by_cases z:p a=Oi
  .rw[XT z];rw[xw z,cO] at k;exact av e (λ y ⟨n,w⟩=>⟨n,by rw[w];exact gY f g p l rfl hr k⟩) (q z)
  .rw[XR z];rw[xx z] at k;exact gY f g p l rfl hr k
def p62:lj 2 62:=⟨ca,ca,ca⟩
def Jw{i:Int}(h0:0<=i)(h1:i<4):TW [XV (-(2 ^ (63:Int).toNat)),XV (2 ^ (63:Int).toNat-1),XV (-1),XV (2 ^ (62:Int).toNat)] i=Oh (.int ([(-9223372036854775808:Int),9223372036854775807,-1,4611686018427387904].getD i.toNat 0)):=by
 have:i=0\/i=1\/i=2\/i=3:=Z
 rcases this with rfl|rfl|rfl|rfl<;>rfl
def aH{n:Nat}(h:n<=1000):n<=Oq:=dN (aL h)
def Ul:0<=Oq:=aH ca
def Ub:1<=Oq:=aH ca
def Tz:2<=Oq:=aH ca
def TR:3<=Oq:=aH ca
def Us:4<=Oq:=aH ca
def Vc:6<=Oq:=aH ca
def Wt:7<=Oq:=aH ca
def Jx:12<=Oq:=aH ca
def pd(ns:LI)(a b:Option Int):ah (ns.map XV) a b=((ns.drop (_H.sIx ns.length 0 a)).take (_H.sIx ns.length ns.length b-_H.sIx ns.length 0 a)).map XV:=by
 unfold ah;rw[ag,Sq,So]
def cY(ns:LI)(k:Nat):ah (ns.map XV) Oj (Oh (k:Int))=(ns.take k).map XV:=by
 rw[pd];simp only[_H.sIx,RW,Nat.sub_zero];rw[XR Z,Ot,Nat.min_def];split
 .rfl
 .rw[cq Z,cq Z]
def cg(ns:LI)(k:Nat):ah (ns.map XV) (Oh (k:Int)) Oj=(ns.drop k).map XV:=by
 rw[pd];simp only[_H.sIx];rw[XR Z,Ot,Nat.min_def];split
 .rw[cq (by rw[bO];lia)]
 .rw[rP,yq Z];simp
noncomputable def Jy(i:Nat):LI:=[[],[],[],[2],[2,3],[1,2,3],[1],[1],[1],[1],[1],[1,2],[1,2],[2],[2]].getD i []
def Jz:∀i,i<15->xR i=Jy i:=by decide +kernel
noncomputable def Vh(d:Stp)(S:LI):TV:=.tup [Tq d,tI S]
def bX{i j:Int}(h:0<j):aJ i j=i%j:=XT h
def yr{i j:Int}(h:0<j):aR i j=i/j:=XT h
def JA(k:Int)(h0:0<=k)(h1:k<7):∃x:Int,TW [XV 2,XV 3,XV 1,XV 4,XV 2,XV 3,XV 0] k=Oh (.int x)/\0<=x:=by
 have:k=0\/k=1\/k=2\/k=3\/k=4\/k=5\/k=6:=Z
 rcases this with rfl|rfl|rfl|rfl|rfl|rfl|rfl<;>exact⟨_,rfl,ca⟩
def sQ(ws:List Str){k:Int}(h0:0<=k)(h1:k<(ws.length:Int)):∃w,TW (ws.map XX) k=Oh (.str w)/\w∈ws:=by
 have l:k.toNat<ws.length:=Z;refine⟨ws[k.toNat],?_,kj l⟩;have z:=jR (xs:=ws.map XX) (j:=k.toNat) (v:=.str ws[k.toNat]) (by rw[bh,bc l];rfl)
 rwa [iH h0] at z
def kO(ms:LI):_L.eqT (XW (ms.map XV)).fz (XW []).fz=decide (ms=[]):=mG ms []
def sR(d:Stp):LF (Tq d):=by
 unfold Tq;simp only[LF];intro x hx
 cases d<;>simp only[Wr,aB,bf,bd] at hx<;>(try rcases hx with rfl|rfl|rfl|rfl|rfl|rfl)<;>(try rcases hx with rfl|rfl|rfl|rfl|rfl)<;>(try rcases hx with rfl|rfl|rfl|rfl)<;>(try rcases hx with rfl|rfl|rfl)<;>(try rcases hx with rfl|rfl)<;>first|exact WP _|simp[LF]
def pf(d:Stp)(S:LI):LF (Vh d S):=by
 unfold Vh;simp only[LF];intro x hx;simp only[aB,bf,bd] at hx
 rcases hx with rfl|rfl
 .exact sR d
 .exact WP S
def ph(n:Nat):((OB (((n:Nat):Int)).toNat).map λ i:Nat=>XV (i:Nat))=(TD n).map XV:=by unfold TD;rw[bJ];rfl
def Xz(h:cu A B):XW (if (A.map XV).length<(B.map XV).length then B.map XV else A.map XV)=tI (bQ A B):=by
 rw[af,af];by_cases c:A.length<B.length
 .rw[XT c,xX c];rfl
 .rw[XR c,xW h Z];rfl
noncomputable def pB(Ss:LL)(A:LI)(k:Int):Bool:=@decide (cu A (Ss.getD k.toNat [])) (Classical.propDecidable _)
def pi:pB Ss A k=Oi ↔ cu A (Ss.getD k.toNat []):=by unfold pB;exact @decide_eq_true_iff _ (Classical.propDecidable _)
def yt{a b:Bool}{p:Prop}(h1:a=Oi ↔ p)(h2:b=Oi ↔ p):a=b:=by
 cases a<;>cases b<;>simp_all
def fj{Ss:LL}{a:Nat}(h:a<Ss.length):Ss[a]?=Oh (Ss.getD a []):=by rw[aP,bc h];rfl
def or3{G N:Prop}{e1 e2 e3:Bool}(g:(e1=Oi\/e2=Oi/\e3=Oi)->G)(n:e1=Ol->N):if e1=Oi then G else True/\(if e2=Oi then (if e3=Oi then G else N) else N):=by
 cases e1
 .refine⟨pv,?_⟩;cases e2
  .exact n rfl
  .cases e3
   .exact n rfl
   .exact g (.inr ⟨O,O⟩)
 .exact g (.inl rfl)
def JB{A:LI}{k:Nat}:(ah (A.map XV) Oj (Oh (k:Int))++[XV x])++ah (A.map XV) (Oh (k:Int)) Oj=(bF A k x).map XV:=by rw[cY,cg];unfold bF;simp
def JC{A:LI}{k:Nat}(kl:k<A.length):(ah (A.map XV) Oj (Oh (k:Int))++[XV x])++ah (A.map XV) (Oh ((k:Int)+1)) Oj=(A.set k x).map XV:=by
 rw[show(k:Int)+1=((k+1:Nat):Int) by lia,cY,cg,<- IJ kl];simp
def jH{A:LI}(h:A.length<=6):(ah (A.map XV) a b).length<=6:=by
 rw[pd,af,aQ,bO];lia
def sU{GT:List TV}(P:En->Prop)(h:wS FT GT (.ite c a b .nil) ρ P rt)(k:∀ρ',P ρ'->wS FT GT r ρ' nx rt):wS FT GT (.ite c a b r) ρ nx rt :=
 av c (λ t q=>cD (λ _ q=>ko (λ q=>bE a (λ ρ' p=>k ρ' p) (λ _ h=>h) q) (λ q=>bE b (λ ρ' p=>k ρ' p) (λ _ h=>h) q) q) q) h
def yv{A:LI}(h:0<A.length):TW (A.map XV) 0=Oh (.int (A.getD 0 0)):=bB (k:=0) h
def flI(ns:LI):∀z∈ns.map XV,Uq z=Oi:=λ z hz=>by obtain⟨n,_,rfl⟩:=bq.mp hz;rfl
def JD(k:Int)(h0:0<=k)(h1:k<6):∃x:Int,TW [XV 1,XV 2,XV 3,XV 2,XV 1,XV 8] k=Oh (.int x)/\1<=x/\x<=8:=by
 have:k=0\/k=1\/k=2\/k=3\/k=4\/k=5:=Z
 rcases this with rfl|rfl|rfl|rfl|rfl|rfl<;>exact⟨_,rfl,ca,ca⟩
def fU(d:Stp):TW (Wr d) 0=Oh (.str (kJ (TQ d))):=by cases d<;>rfl
def dX{ds:List Stp}{a:Nat}(h:a<ds.length):ds[a]?=Oh (ds.getD a (.num 0)):=by rw[aP,bc h];rfl
noncomputable abbrev aK(ns:LI):LI:=(UC ns ns.length).reverse
noncomputable abbrev Uj(S:LI)(b:Int)(s:LI):TV:=.tup [tI S,.int b,tI s]
def mH(ns:LI):(aK ns).length=ns.length:=by simp[UC]
set_option genInjectivity false in
set_option genSizeOfSpec false in
inductive Tr where
 |num (n:Int)|idx (s:Int) (ss:LI)|read (st s:Int) (ss:LI)
 |each (w:Str) (t:Tr)|pair (w:Str) (a b:Tr)|pick (a b c:Tr)|fold (w:Str) (n:Int) (t:Tr)
 |fetch (st s r n:Int) (ss:LI) (t:Tr)
noncomputable def Vi:Tr->List Tr
 |.each _ t=>[t]|.pair _ a b=>[a,b]|.pick a b c=>[a,b,c]|.fold _ _ t=>[t]|.fetch _ _ _ _ _ t=>[t]
 |_=>[]
noncomputable def WQ:Tr->List (Int×LI)
 |.idx s ss=>[(s,ss)]|.read _ s ss=>[(s,ss)]|.fetch _ s _ _ ss _=>[(s,ss)]
 |_=>[]
noncomputable def TJ:Tr->List (Int×LI)
 |.num _=>[]|.idx s ss=>[(s,ss)]|.read _ s ss=>[(s,ss)]
 |.each _ t=>TJ t|.pair _ a b=>TJ a++TJ b|.pick a b c=>TJ a++(TJ b++TJ c)|.fold _ _ t=>TJ t|.fetch _ s _ _ ss t=>(s,ss)::TJ t
noncomputable def Tt:Tr->Nat
 |.each _ t=>Tt t+1|.pair _ a b=>max (Tt a) (Tt b)+1|.pick a b c=>max (Tt a) (max (Tt b) (Tt c))+1|.fold _ _ t=>Tt t+1|.fetch _ _ _ _ _ t=>Tt t+1
 |_=>0
noncomputable def Wu:Tr->List TV
 |.num n=>[.str "num",.int n]|.idx s ss=>[.str "index",.int s,tI ss]|.read st s ss=>[.str "read",.int st,.int s,tI ss]
 |.each w _=>[.str "each",.str w]|.pair w _ _=>[.str "pair",.str w]|.pick _ _ _=>[.str "pick"]|.fold w n _=>[.str "fold",.str w,.int n]
 |.fetch st s r n ss _=>[.str "fetch",.int st,.int s,.int r,.int n,tI ss]
noncomputable def Ug:Tr->List TV
 |.num n=>[.str "num",.int n]|.idx s ss=>[.str "index",.int s,tI ss]|.read st s ss=>[.str "read",.int st,.int s,tI ss]
 |.each w t=>[.str "each",.str w,.tup (Ug t)]|.pair w a b=>[.str "pair",.str w,.tup (Ug a),.tup (Ug b)]|.pick a b c=>[.str "pick",.tup (Ug a),.tup (Ug b),.tup (Ug c)]|.fold w n t=>[.str "fold",.str w,.int n,.tup (Ug t)]
 |.fetch st s r n ss t=>[.str "fetch",.int st,.int s,.int r,.int n,tI ss,.tup (Ug t)]
noncomputable abbrev Tl(t:Tr):TV:=.tup (Ug t)
noncomputable abbrev Gf:=Int->LI->Int×LI
noncomputable def rm(g:Gf):Tr->Tr
 |.num n=>.num n|.idx s ss=>.idx (g s ss).1 (g s ss).2|.read st s ss=>.read st (g s ss).1 (g s ss).2
 |.each w t=>.each w (rm g t)|.pair w a b=>.pair w (rm g a) (rm g b)|.pick a b c=>.pick (rm g a) (rm g b) (rm g c)|.fold w n t=>.fold w n (rm g t)
 |.fetch st s r n ss t=>.fetch st (g s ss).1 r n (g s ss).2 (rm g t)
def JE(g:Gf)(t:Tr):XW (Wu (rm g t)++(Vi t).map λ b=>Tl (rm g b))=Tl (rm g t):=by cases t<;>rfl
def JF{t b:Tr}(h:b∈Vi t):Tt b<Tt t:=by
 cases t with
 |each w t|fold w n t|fetch _ _ _ _ _ t=>cases aI.mp h;exact jd _
 |pair w a c=>
  show Tt b<max (Tt a) (Tt c)+1
  rcases aB.mp h with rfl|h
  .lia
  .cases aI.mp h;lia
 |pick a c e=>
  show Tt b<max (Tt a) (max (Tt c) (Tt e))+1
  rcases aB.mp h with rfl|h
  .lia
  .rcases aB.mp h with rfl|h
   .lia
   .cases aI.mp h;lia
 |_=>cases h
def JG{t b:Tr}(h:b∈Vi t):∀p∈TJ b,p∈TJ t:=by
 intro p hp
 cases t with
 |each w t|fold w n t=>cases aI.mp h;exact hp
 |fetch _ _ _ _ _ t=>cases aI.mp h;exact aW _ hp
 |pair w a c=>
  rcases aB.mp h with rfl|h
  .exact fH _ hp
  .cases aI.mp h;exact bK _ hp
 |pick a c e=>
  rcases aB.mp h with rfl|h
  .exact fH _ hp
  .rcases aB.mp h with rfl|h
   .exact bK _ (fH _ hp)
   .cases aI.mp h;exact bK _ (bK _ hp)
 |_=>cases h
def JI{t:Tr}:∀p∈WQ t,p∈TJ t:=by
 intro p hp
 cases t with
 |idx s ss|read st s ss=>exact hp
 |fetch st s r n ss t=>cases aI.mp hp;exact bg
 |_=>cases hp
noncomputable def XA(Φ:Tf)(g:Gf)(l:List (Int×LI)):Prop:=∀p∈l,∀Q:TV->Prop,Q (.tup [.int (g p.1 p.2).1,tI (g p.1 p.2).2])->Φ [.int p.1,tI p.2] Q
def JJ:∀x∈[XX "num",.str "index",.str "read"],Uq x=Oi:=ca
def pk:∀x∈[XX "each",.str "pair"],Uq x=Oi:=ca
def yw(t:Tr):(Vi t).length<=3:=by cases t<;>exact cG rfl
def JK(t:Tr):(Wu t).length<=6:=by cases t<;>exact cG rfl
noncomputable def cZ(n m:Nat):Gf:=λ s ss=>(s,ss.take n++dA m++ss.drop n)
noncomputable def cH(n k:Nat):Gf:=λ s ss=>(s,bF (ss.eraseIdx k) (n-1) (ss.getD k 0))
noncomputable def isM(Φ:Tf)(S:LI)(h:Gf)(l:List (Int×LI)):Prop:=∀p∈l,∃S':LI,∀Q:TV->Prop,Q (Uj S' (h p.1 p.2).1 (h p.1 p.2).2)->Φ [Uj S p.1 p.2] Q
noncomputable def fk(n:Nat)(t:Tr):Prop:=∀p∈TJ t,n<=p.2.length/\p.2.length<=60
def gB(ns:LI):LF (tI ns):=by
 unfold tI;simp[LF]
def yz(m n:Nat):(Os ((m:Int)-(n:Int)).toNat (Pc TV.fz [XV 0])).flatten=(dA (m-n)).map XV:=by
 rw[show((m:Int)-(n:Int)).toNat=m-n by lia];unfold dA;rw[sV];exact yA
noncomputable def VO:Stp->Prop
 |.turn ..=>True|.flip ..=>True|.cut ..=>True|.spread ..=>True
 |_=>False
noncomputable def bW(A:LI):Stp->Gf
 |.turn _ os=>λ s ss=>(s,bT ss os++ss.drop A.length)
 |.flip _ k=>λ s ss=>(s+(A.getD k.toNat 0-1)*ss.getD k.toNat 0,ss.set k.toNat (-ss.getD k.toNat 0))
 |.cut _ k f _ g=>λ s ss=>(s+f*ss.getD k.toNat 0,ss.set k.toNat (ss.getD k.toNat 0*g))
 |.spread _ k _=>λ s ss=>(s,bF ss k.toNat 0)
 |_=>λ s ss=>(s,ss)
noncomputable def gZ(ds:List Stp)(k:Nat)(R:List Bool):List Bool:=if R.getD k Ol=Oi then (ar (ds.getD k (.num 0))).foldl (λ R a=>R.set a Oi) R else R
noncomputable def cx(ds:List Stp)(n:Nat):Nat->List Bool->List Bool
 |0,R=>R
 |i+1,R=>gZ ds (n-1-i) (cx ds n i R)
noncomputable def cI(n:Nat)(es:LI):List Bool:=es.foldl (λ R e=>R.set e.toNat Oi) (Os n Ol)
noncomputable def aV(ds:List Stp)(es:LI):List Nat:=(OB ds.length).filter λ k=>(cx ds ds.length ds.length (cI ds.length es)).getD k Ol
def JL(l:List Bool)(es:LI):(es.foldl (λ R e=>R.set e.toNat Oi) l).length=l.length:=by
 induction es generalizing l with
 |nil=>rfl
 |cons e es ih=>rw[ip,ih,dE]
def mI(n:Nat)(es:LI):(cI n es).length=n:=by unfold cI;rw[JL,dC]
def JM{es:LI}{i:Nat}(h:es[i]?=Oh e):cI n (es.take (i+1))=(cI n (es.take i)).set e.toNat Oi:=by unfold cI;rw[jB,h,kH];rfl
def yB(l:List Bool)(as:List Nat):(as.foldl (λ R a=>R.set a Oi) l).length=l.length:=by
 induction as generalizing l with
 |nil=>rfl
 |cons e es ih=>rw[ip,ih,dE]
def JN(ds:List Stp)(k:Nat)(R:List Bool):(gZ ds k R).length=R.length:=by
 unfold gZ;split
 .exact yB _ _
 .rfl
theorem pq(ds:List Stp)(n:Nat)(R:List Bool):∀i,(cx ds n i R).length=R.length
 |0=>rfl
 |i+1=>by rw[cx,JN,pq ds n R i]
def JO{n:Nat}(h:n<=40):Pj ((n:Int)-1) (-1) (-1)=Oi/\OG ((n:Int)-1) (-1) (-1)=(n:Int):=by
 have z:∀m:Fin 41,Pj ((m.val:Int)-1) (-1) (-1)=Oi/\OG ((m.val:Int)-1) (-1) (-1)=(m.val:Int):=by decide +kernel
 exact z ⟨n,Z⟩
def XB{R:List Bool}{k:Nat}(h:k<R.length):TW (R.map TV.bl) (k:Int)=Oh (.bl (R.getD k Ol)):=jR (by rw[bh,bc h,aP,bc h];rfl)
theorem sW:∀(as:List Nat) (R:List Bool) (j:Nat),(as.foldl (λ R a=>R.set a Oi) R).getD j Ol=Oi ↔ (j∈as/\j<R.length)\/R.getD j Ol=Oi
 |[],R,j=>by simp
 |a::as,R,j=>by
  rw[ip,sW as];rw[dE,aP,aP,cW];by_cases c:a=j
  .subst c;rw[XT rfl];by_cases l:a<R.length
   .simp[l]
   .simp[l]
  .rw[XR c];have:¬j=a:=λ z=>c z.symm;simp[this]
def JP{n:Nat}{es:LI}(he:∀e∈es,0<=e/\e<(n:Int))(j:Nat):(cI n es).getD j Ol=Oi ↔ (j:Int)∈es:=by
 have e:cI n es=(es.map Int.toNat).foldl (λ R a=>R.set a Oi) (Os n Ol):=by unfold cI;rw[List.foldl_map]
 rw[e,sW,dC];have z:¬(Os n Ol).getD j Ol=Oi:=by rw[aP,fI];split<;>simp
 constructor
 .rintro(⟨h,_⟩|h)
  .obtain⟨x,hx,rfl⟩:=bq.mp h;rw[iH (he x hx).1];exact hx
  .exact XU h z
 .intro h;exact .inl ⟨bq.mpr ⟨_,h,Ot j⟩,by have:=(he _ h).2;lia⟩
section
variable {ds:List Stp}{R:List Bool}{n:Nat}
def sX(hl:R.length=n)(i j:Nat):(cx ds n (i+1) R).getD j Ol=Oi ↔ (cx ds n i R).getD j Ol=Oi\/((cx ds n i R).getD (n-1-i) Ol=Oi/\j∈ar (ds.getD (n-1-i) (.num 0))/\j<n):=by
 show(gZ ds (n-1-i) (cx ds n i R)).getD j Ol=Oi ↔ _;unfold gZ;split
 .rename_i c;rw[sW,pq,hl];constructor
  .rintro(h|h)
   .exact .inr ⟨c,h⟩
   .exact .inl h
  .rintro(h|h)
   .exact .inr h
   .exact .inl h.2
 .rename_i c;constructor
  .exact .inl
  .rintro(h|h)
   .exact h
   .exact XU h.1 c
theorem sY(hl:R.length=n):∀m,(cx ds n i R).getD j Ol=Oi->(cx ds n (i+m) R).getD j Ol=Oi
 |0,h=>h
 |m+1,h=>(sX hl (i+m) j).mpr (.inl (sY hl m h))
theorem yC(hl:R.length=n)(ha:∀(k:Nat) (e:Stp),ds[k]?=Oh e->∀a∈ar e,a<k)(dl:ds.length=n){k:Nat}(hk:k<n):∀m,n-1-k+m<=n->(cx ds n (n-1-k+m) R).getD k Ol=Oi->(cx ds n (n-1-k) R).getD k Ol=Oi
 |0,_,h=>h
 |m+1,hm,h=>by
  rcases(sX hl (n-1-k+m) k).mp h with h|⟨_,h,_⟩
  .exact yC hl ha dl hk m Z h
  .have lt:n-1-(n-1-k+m)<ds.length:=by lia
   have:=ha _ _ (dX lt) k h;lia
end
def mem_reach{ds:List Stp}{es:LI}{k:Nat}:k∈aV ds es ↔ k<ds.length/\(cx ds ds.length ds.length (cI ds.length es)).getD k Ol=Oi:=by
 unfold aV;rw[fZ,jJ]
def yD{ds:List Stp}{es:LI}(he:∀e∈es,0<=e/\e<(ds.length:Int)){k:Nat}(h:(k:Int)∈es):k∈aV ds es:=by
 refine mem_reach.mpr ⟨by have:=(he _ h).2;lia,?_⟩;have:=sY (ds:=ds) (mI ds.length es) ds.length (i:=0) ((JP he k).mpr h)
 rwa [Nat.zero_add] at this
def JQ{ds:List Stp}{es:LI}(ha:∀(k:Nat) (e:Stp),ds[k]?=Oh e->∀a∈ar e,a<k){k a:Nat}(h:k∈aV ds es)(m:a∈ar (ds.getD k (.num 0))):a∈aV ds es:=by
 obtain⟨kl,hk⟩:=mem_reach.mp h;have al:=ha k _ (dX kl) a m;have hl:=mI ds.length es;have b:=yC hl ha rfl kl (k+1) Z (by rw[show ds.length-1-k+(k+1)=ds.length by lia];exact hk);refine mem_reach.mpr ⟨Z,?_⟩;have s:=(sX hl (ds.length-1-k) a).mpr (.inr ⟨by rw[show ds.length-1-(ds.length-1-k)=k by lia];exact b,by rw[show ds.length-1-(ds.length-1-k)=k by lia];exact m,Z⟩);have t:=sY hl k s
 rwa [show ds.length-1-k+1+k=ds.length by lia] at t
def pr{mo:Int}(gl:eH mo ds Ss):∀(k:Nat) (e:Stp),ds[k]?=Oh e->∀a∈ar e,a<k:=λ k e he a ha=>by
 have kl:=(aY.mp he).1;have eS:=bc (show k<Ss.length by rw[<- gl.1];exact kl);have:=yl (gl.2.2 k e _ he eS) a ha;rw[aQ] at this;lia
def yE{mo:Int}(gl:eH mo ds Ss):∀d∈ds,∀a∈ar d,a<ds.length:=λ d hd a ha=>by
 obtain⟨k,ek⟩:=mx hd;have:=pr gl k d ek a ha;have:=(aY.mp ek).1;lia
noncomputable def Ut(u:Nat)(as:List Nat)(U:List (LL)):List (LL):=as.zipIdx.foldl (λ U q=>U.set q.1 (U.getD q.1 []++[[(u:Int),(q.2:Int)]])) U
noncomputable def UN(ds:List Stp)(live:List Nat):List (LL):=live.foldl (λ U u=>Ut u (ar (ds.getD u (.num 0))) U) (Os ds.length [])
noncomputable def dL(ds:List Stp)(os:LI):List (LL):=UN ds (aV ds os)
def mK{u j a:Nat}{as:List Nat}(h:as[j]?=Oh a):Ut u (as.take (j+1)) U=(Ut u (as.take j) U).set a ((Ut u (as.take j) U).getD a []++[[(u:Int),(j:Int)]]):=by
 have l:(as.take j).length=j:=by rw[aQ];have:=(aY.mp h).1;lia
 unfold Ut;rw[jB,h,List.zipIdx_append,kH,l];show QO _ _ [(a,0+j)]=_;rw[Nat.zero_add];rfl
theorem yF{u:Nat}:∀(l:List (Nat×Nat)) (U:List (LL)),(l.foldl (λ U q=>U.set q.1 (U.getD q.1 []++[[(u:Int),(q.2:Int)]])) U).length=U.length
 |[],_=>rfl
 |q::l,U=>by rw[ip,yF l,dE]
def sZ(u:Nat)(as:List Nat)(U:List (LL)):(Ut u as U).length=U.length:=yF _ _
def px(ds:List Stp)(live:List Nat):(UN ds live).length=ds.length:=by
 have z:∀(live:List Nat) (U:List (LL)),(live.foldl (λ U u=>Ut u (ar (ds.getD u (.num 0))) U) U).length=U.length:=λ live=>by
  induction live with
  |nil=>intro U;rfl
  |cons u l ih=>intro U;rw[ip,ih,sZ]
 unfold UN;rw[z,dC]
def py{live:List Nat}{i u:Nat}(h:live[i]?=Oh u):UN ds (live.take (i+1))=Ut u (ar (ds.getD u (.num 0))) (UN ds (live.take i)):=by
 unfold UN;rw[jB,h,kH];rfl
noncomputable def VP(n:Nat)(U:List (LL)):Prop:=∀l∈U,l.length<=n
def JR{x:LI}(h:VP n U):VP (n+1) (U.set a (U.getD a []++[x])):=λ l hl=>by
 rcases mF hl with hl|rfl
 .have:=h l hl;lia
 .rw[aF];by_cases c:a<U.length
  .have:=h (U.getD a []) (by rw[aP,bc c];exact kj c);show _+1<=_;lia
  .rw[aP,jr Z];show 0+1<=n+1;lia
theorem pz{as:List Nat}(h:VP n U):∀j,VP (n+j) (Ut u (as.take j) U)
 |0=>by rw[kP];exact h
 |j+1=>by
  cases e:as[j]? with
  |none=>
   rw[cq (by have:=fD.mp e;lia),<- cq (l:=as) (i:=j) (by have:=fD.mp e;lia)];exact λ l hl=>by have:=pz (u:=u) (as:=as) h j l hl;lia
  |some a=>rw[mK e];exact JR (pz h j)
def yG(d:Stp):(ar d).length<=3:=by cases d<;>exact cG rfl
theorem pA{live:List Nat}:∀i,VP (3*i) (UN ds (live.take i))
 |0=>by rw[kP];intro l hl;rw[(List.mem_replicate.mp hl).2];exact ao _
 |i+1=>by
  cases e:live[i]? with
  |none=>
   rw[cq (by have:=fD.mp e;lia),<- cq (l:=live) (i:=i) (by have:=fD.mp e;lia)];exact λ l hl=>by have:=pA (ds:=ds) (live:=live) i l hl;lia
  |some u=>
   rw[py e];have z:=pz (u:=u) (as:=ar (ds.getD u (.num 0))) (pA (ds:=ds) (live:=live) i) (ar (ds.getD u (.num 0))).length;rw[bR] at z;have:=yG (ds.getD u (.num 0));exact λ l hl=>by have:=z l hl;lia
def yH(ds:List Stp)(es:LI):(aV ds es).length<=ds.length:=by unfold aV;exact cL (kQ _ _) (by rw[eI];exact ao _)
def JT{l:List Nat}{i:Nat}(h:(l.map λ k:Nat=>XV (k:Nat))[i]?=Oh t):∃k,t=.int (k:Nat)/\l[i]?=Oh k:=by
 rw[bh] at h;obtain⟨k,e,q⟩:=kE.mp h;exact⟨k,q.symm,e⟩
noncomputable def gt(Ts:List (Option Tr))(a:Nat):Tr:=(Ts.getD a Oj).getD (.num 0)
noncomputable def Uc:Option Tr->TV
 |some t=>Tl t
 |none=>.non
noncomputable def kR:Tr->Int
 |.read st _ _=>st
 |_=>0
noncomputable abbrev Tk(Ss:LL)(a:Nat):LI:=Ss.getD a []
noncomputable def bM(Ts:List (Option Tr))(Ss:LL)(S:LI)(a:Nat):Tr:=rm (cZ (Tk Ss a).length (S.length-(Tk Ss a).length)) (gt Ts a)
noncomputable def kS(r:Tr)(A B:LI)(row:Tr):Tr:=match r with
 |.read st s ss=>.fetch st s (ss.getD 0 0) (A.getD 0 0) (dA B.length++ss.drop 1) row
 |_=>.num 0
noncomputable def cJ(Ts:List (Option Tr))(Ss:LL)(S:LI):Stp->Option Tr
 |.num n=>Oh (.num n)
 |.count _ k=>Oh (.idx 0 ((OB S.length).map λ j:Nat=>if (j:Int)=k then 1 else 0))
 |.each w a=>Oh (.each w (bM Ts Ss S a))
 |.pair w a b=>Oh (.pair w (bM Ts Ss S a) (bM Ts Ss S b))
 |.pick a b c=>Oh (.pick (bM Ts Ss S a) (bM Ts Ss S b) (bM Ts Ss S c))
 |.lay a _=>Oh (.read (kR (gt Ts a)) 0 (aK S))
 |.fetch a b=>Oh (kS (gt Ts a) (Tk Ss a) (Tk Ss b) (bM Ts Ss S b))
 |.fold w a k=>Oh (.fold w ((Tk Ss a).getD k.toNat 0) (rm (cH (Tk Ss a).length k.toNat) (gt Ts a)))
 |.turn a os=>Oh (rm (bW (Tk Ss a) (.turn a os)) (gt Ts a))
 |.flip a k=>Oh (rm (bW (Tk Ss a) (.flip a k)) (gt Ts a))
 |.cut a k f m g=>Oh (rm (bW (Tk Ss a) (.cut a k f m g)) (gt Ts a))
 |.spread a k m=>Oh (rm (bW (Tk Ss a) (.spread a k m)) (gt Ts a))
 |_=>Oj
noncomputable def iO(t:Tr):Prop:=∃st s ss,t=.read st s ss
noncomputable def UY(n:Nat)(S:LI)(t:Tr):Prop:=Tt t<=n/\∀p∈TJ t,S.length<=p.2.length/\p.2.length<=S.length+Tt t
noncomputable def pE(Ts:List (Option Tr))(Ss:LL)(d:Stp):Prop:=(∀a∈ar d,∃t A,Ts[a]?=Oh (Oh t)/\Ss[a]?=Oh A/\UY 40 A t)/\(∀a ms,d=.lay a ms->iO (gt Ts a))/\∀a b,d=.fetch a b->iO (gt Ts a)
def bC{Ts:List (Option Tr)}{a:Nat}(e:Ts[a]?=Oh (Oh t)):gt Ts a=t:=by unfold gt;rw[aP,e];rfl
def Uh{Ss:LL}{a:Nat}(e:Ss[a]?=Oh A):Tk Ss a=A:=by unfold Tk;rw[aP,e];rfl
def gC(h:UY n A t)(a6:A.length<=6)(n4:n<=40):Tt t<=41/\fk A.length t:=⟨by have:=h.1;lia,λ p hp=>by have:=h.2 p hp;have:=h.1;lia⟩
def iP:∀x∈[XX "each",.str "pair",.str "pick"],Uq x=Oi:=ca
def mL:∀x∈[XX "turn",.str "flip",.str "cut",.str "spread"],Uq x=Oi:=ca
theorem fE:∀t:Tr,LF (Tl t)
 |.num n=>by simp[Tl,Ug,LF]
 |.idx s ss=>by simp[Tl,Ug,LF];exact gB ss
 |.read st s ss=>by simp[Tl,Ug,LF];exact gB ss
 |.each w t=>by have h:=fE t;simp[Tl,Ug,LF] at *;exact h
 |.pair w a b=>by have h1:=fE a;have h2:=fE b;simp[Tl,Ug,LF] at *;exact⟨h1,h2⟩
 |.pick a b c=>by have h1:=fE a;have h2:=fE b;have h3:=fE c;simp[Tl,Ug,LF] at *;exact⟨h1,h2,h3⟩
 |.fold w n t=>by have h:=fE t;simp[Tl,Ug,LF] at *;exact h
 |.fetch st s r n ss t=>by have h:=fE t;have h2:=gB ss;simp[Tl,Ug,LF] at *;exact⟨h2,h⟩
def tj(o:Option Tr):LF (Uc o):=by cases o with|none=>simp[Uc,LF]|some t=>exact fE t
def yI(m:Nat):(Os ((m:Nat):Int).toNat (Pc TV.fz [XV 0])).flatten=(dA m).map XV:=by
 rw[Ot];unfold dA;rw[sV];exact yA
def tm(ok:Uk Ss S d)(h:TQ d=TQ (.each "" 0)\/TQ d=TQ (.pair "" 0 0)\/TQ d=TQ (.pick 0 0 0)):∀a∈ar d,∃A,Ss[a]?=Oh A/\S.take A.length=A:=by
 have tw:∀ {A B C:LI},B.take A.length=A->C.take B.length=B->C.take A.length=A:=λ {A B C} h h2=>by
  have l:A.length<=B.length:=by rw[<- h,aQ];lia
  have e:(C.take B.length).take A.length=C.take A.length:=by rw[List.take_take,eE l]
  rw[<- e,h2,h]
 cases d with
 |each w a=>intro b hb;cases aI.mp hb;exact⟨S,ok.1,bR⟩
 |pair w a b=>
  obtain⟨A,B,ea,eb,_,po,rfl⟩:=ok;have:=sB po;intro c hc
  rcases aB.mp hc with rfl|hc
  .exact⟨A,ea,this.1⟩
  .cases aI.mp hc;exact⟨B,eb,this.2⟩
 |pick a b c=>
  obtain⟨A,B,C,ea,eb,ec,po,po2,rfl⟩:=ok;have h1:=sB po;have h2:=sB po2;intro c' hc
  rcases aB.mp hc with rfl|hc
  .exact⟨A,ea,tw h1.1 h2.1⟩
  .rcases aB.mp hc with rfl|hc
   .exact⟨B,eb,tw h1.2 h2.1⟩
   .cases aI.mp hc;exact⟨C,ec,h2.2⟩
 |_=>rcases h with h|h|h<;>cases h
noncomputable def JU(d:Stp)(p:Int):Bool:=match d with
 |.pair ..=>Oi|.pick ..=>Oi|.fetch ..=>decide (p=1)
 |_=>Ol
noncomputable def pF(ds:List Stp)(Ss:LL)(k u:Nat)(p:Int):Bool:=JU (ds.getD u (.num 0)) p&&decide (((Tk Ss k).length:Int)<((Tk Ss u).length:Int))
def gD{ds:List Stp}{a:Nat}(e:ds[a]?=Oh d):ds.getD a (.num 0)=d:=by rw[aP,e];rfl
def tq:∀x∈[XX "pair",.str "pick"],Uq x=Oi:=ca
def yJ:∀x∈[XX "run",.str "join"],Uq x=Oi:=ca
noncomputable def Vp(ds:List Stp)(x:LI):Str:=kJ (TQ (ds.getD (x.getD 0 0).toNat (.num 0)))
noncomputable abbrev Wv(ds:List Stp)(us:LL):List TV:=us.map λ x=>.str (Vp ds x)
noncomputable def mM(ds:List Stp)(x:LI):Bool:=if _L.eqT (XX (Vp ds x)) (.str "fetch")=Oi then _L.eqT (XV (x.getD 1 0)) (.int 0) else Ol
noncomputable def VQ:Tr->Str
 |.num _=> "num" |.idx _ _=> "index" |.read _ _ _=> "read" |.each _ _=> "each" |.pair _ _ _=> "pair" |.pick _ _ _=> "pick" |.fold _ _ _=> "fold" |.fetch _ _ _ _ _ _=> "fetch"
noncomputable def tu:Tr->Bool
 |.num _=>Oi|.idx _ _=>Oi|.read _ _ _=>Oi|_=>Ol
def trK(t:Tr):TW (Ug t) 0=Oh (.str (VQ t)):=by cases t<;>rfl
noncomputable def tz(ds:List Stp)(Ss:LL)(k:Nat)(t:Tr)(us:LL):Bool:=if tu t=Oi then Ol else if decide (1<(us.length:Int))=Oi then Oi else if inT (.str "spread") (Wv ds us)=Oi then Oi else (us.map λ x=>pF ds Ss k (x.getD 0 0).toNat (x.getD 1 0)).any id
noncomputable def mN(ds:List Stp)(Ss:LL)(os:LI)(k:Nat)(t:Tr)(us:LL):Bool:=if inT (.int (k:Nat)) (os.map .int)=Oi then Oi else if inT (.str "lay") (Wv ds us)=Oi then Oi else if (if (!_L.eqT (XX (VQ t)) (.str "read"))=Oi then (us.map (mM ds)).any id else Ol)=Oi then Oi else tz ds Ss k t us
noncomputable def kU(ds:List Stp)(Ss:LL)(os:LI)(k:Nat)(d:Stp)(o:Option Tr)(us:LL):Bool:=match d with
 |.lay ..=>Ol|.run ..=>Oi|.join ..=>Oi
 |_=>mN ds Ss os k (o.getD (.num 0)) us
noncomputable def kW:Stp->Prop
 |.inp ..=>True|.run ..=>True|.join ..=>True
 |_=>False
def yK{α:Type}(f:α->Bool)(l:List α):(l.map λ x=>TV.bl (f x))=(l.map f).map TV.bl:=by rw[bJ];rfl
def XC(ds:List Stp)(us:LL):∀x∈Wv ds us,Uq x=Oi:=λ x hx=>by obtain⟨n,_,rfl⟩:=bq.mp hx;rfl
theorem dB(g:Gf):∀t:Tr,Tt (rm g t)=Tt t
 |.num _=>rfl|.idx _ _=>rfl|.read _ _ _=>rfl
 |.each _ t=>by show Tt (rm g t)+1=_;rw[dB g t];rfl
 |.pair _ a b=>by show max (Tt (rm g a)) (Tt (rm g b))+1=_;rw[dB g a,dB g b];rfl
 |.pick a b c=>by show max (Tt (rm g a)) (max (Tt (rm g b)) (Tt (rm g c)))+1=_;rw[dB g a,dB g b,dB g c];rfl
 |.fold _ _ t=>by show Tt (rm g t)+1=_;rw[dB g t];rfl
 |.fetch _ _ _ _ _ t=>by show Tt (rm g t)+1=_;rw[dB g t];rfl
theorem hG(g:Gf):∀t:Tr,TJ (rm g t)=(TJ t).map λ p=>g p.1 p.2
 |.num _=>rfl|.idx _ _=>rfl|.read _ _ _=>rfl
 |.each _ t=>hG g t
 |.pair _ a b=>by show TJ (rm g a)++TJ (rm g b)=_;rw[hG g a,hG g b,<- aG];rfl
 |.pick a b c=>by show TJ (rm g a)++(TJ (rm g b)++TJ (rm g c))=_;rw[hG g a,hG g b,hG g c,<- aG,<- aG];rfl
 |.fold _ _ t=>hG g t
 |.fetch _ s _ _ ss t=>by show(g s ss)::TJ (rm g t)=_;rw[hG g t];rfl
noncomputable def Vj(S:LI)(m:Nat)(t:Tr):Prop:=∀p∈TJ t,S.length<=p.2.length/\p.2.length<=S.length+m
def tD{A S:LI}{m m':Nat}{g:Gf}(h:Vj A m t)(hg:∀s ss,A.length<=ss.length->ss.length<=A.length+m->S.length<=(g s ss).2.length/\(g s ss).2.length<=S.length+m'):Vj S m' (rm g t):=λ p hp=>by
 rw[hG] at hp;obtain⟨q,hq,rfl⟩:=bq.mp hp;exact hg q.1 q.2 (h q hq).1 (h q hq).2
def JV{n m:Nat}{ss:LI}(h:n<=ss.length):(cZ n m s ss).2.length=ss.length+m:=by
 show(ss.take n++dA m++ss.drop n).length=_;rw[aF,aF,aQ,bO,kI];lia
def yL{A S:LI}(h:Vj A m t)(hp:S.take A.length=A):Vj S m (rm (cZ A.length (S.length-A.length)) t):=by
 have le:A.length<=S.length:=by rw[<- hp,aQ];lia
 exact tD h λ s ss h1 h2=>by rw[JV h1];lia
def kX{m m':Nat}(h:Vj S m t)(l:m<=m'):Vj S m' t:=λ p hp=>by have:=h p hp;lia
def tE{S:LI}{m:Nat}{a b:List (Int×LI)}(h1:∀p∈a,S.length<=p.2.length/\p.2.length<=S.length+m)(h2:∀p∈b,S.length<=p.2.length/\p.2.length<=S.length+m):∀p∈a++b,S.length<=p.2.length/\p.2.length<=S.length+m:=λ p hp=>(bY.mp hp).elim (h1 p) (h2 p)
def tF(l:LI)(k:Nat)(m:Int):(bF l k m).length=l.length+1:=xT l k m
def yM{k:Nat}{Ts:List (Option Tr)}(ok:Uk Ss S d)(hA:∀a∈ar d,a<k/\∃u A,Ts[a]?=Oh (Oh u)/\Ss[a]?=Oh A/\UY a A u)(hf:∀a b,d=.fetch a b->iO (gt Ts a))(e:cJ Ts Ss S d=Oh t):UY k S t:=by
 have led:(TQ d=TQ (.each "" 0)\/TQ d=TQ (.pair "" 0 0)\/TQ d=TQ (.pick 0 0 0))->∀a∈ar d,Tt (bM Ts Ss S a)<k/\Vj S (Tt (bM Ts Ss S a)) (bM Ts Ss S a):=λ h a ha=>by
  obtain⟨al,u,A,eu,eA,wf⟩:=hA a ha;obtain⟨A',eA',hp⟩:=tm ok h a ha;cases eA.symm.trans eA';unfold bM;rw[bC eu,Uh eA,dB];have:=wf.1;exact⟨Z,yL wf.2 hp⟩
 have mov:∀a,(ar d).headD 0=a->a∈ar d->VO d->e=e->∀A u,Ts[a]?=Oh (Oh u)->Ss[a]?=Oh A->UY a A u->a<k->UY k S (rm (bW A d) u):=λ a ea ma m _ A u eu eA wf al=>by
  refine⟨by rw[dB];have:=wf.1;lia,?_⟩;rw[dB];refine tD wf.2 λ s ss h1 h2=>?_
  cases d with
  |turn b os=>
   obtain⟨A',eA',tk,rfl⟩:=ok;cases (show b=a from ea);cases eA.symm.trans eA';have ol:=sO tk;show(bT A os).length<=(bT ss os++ss.drop A.length).length/\(bT ss os++ss.drop A.length).length<=(bT A os).length+Tt u;unfold bT;rw[aF,ag,ag,bO];lia
  |flip b s'=>
   obtain⟨eA',_⟩:=ok;cases (show b=a from ea);cases eA.symm.trans eA';show _<=(ss.set _ _).length/\(ss.set _ _).length<=_;rw[dE];exact⟨h1,h2⟩
  |cut b s' f m' g=>
   obtain⟨A',eA',_,_,_,rfl⟩:=ok;cases (show b=a from ea);cases eA.symm.trans eA';show _<=(ss.set _ _).length/\(ss.set _ _).length<=_;rw[dE,dE];exact⟨h1,h2⟩
  |spread b s' m'=>
   obtain⟨A',eA',no,_,_,_,rfl⟩:=ok;cases (show b=a from ea);cases eA.symm.trans eA';show _<=(bF ss _ 0).length/\(bF ss _ 0).length<=_;rw[tF,tF];lia
  |_=>exact m.elim
 cases d with
 |num n=>cases e;exact⟨bP _,λ p hp=>nomatch hp⟩
 |count ms c=>
  cases e;refine⟨bP _,λ p hp=>?_⟩;cases aI.mp hp;show S.length<=(Pc _ _).length/\(Pc _ _).length<=S.length+0;rw[ag,eI];lia
 |each w a=>
  cases e;obtain⟨h1,h2⟩:=led (.inl rfl) a (by simp[ar]);exact⟨h1,kX h2 (Nat.le_succ _)⟩
 |pair w a b=>
  cases e;obtain⟨h1,h2⟩:=led (.inr (.inl rfl)) a (by simp[ar]);obtain⟨h3,h4⟩:=led (.inr (.inl rfl)) b (by simp[ar]);refine⟨by show max _ _+1<=k;lia,?_⟩;show ∀p∈TJ _++TJ _,_;exact tE (kX h2 (by show _<=max _ _+1;lia)) (kX h4 (by show _<=max _ _+1;lia))
 |pick a b c=>
  cases e;obtain⟨h1,h2⟩:=led (.inr (.inr rfl)) a (by simp[ar]);obtain⟨h3,h4⟩:=led (.inr (.inr rfl)) b (by simp[ar]);obtain⟨h5,h6⟩:=led (.inr (.inr rfl)) c (by simp[ar]);refine⟨by show max _ (max _ _)+1<=k;lia,?_⟩;show ∀p∈TJ _++(TJ _++TJ _),_;exact tE (kX h2 (by show _<=max _ (max _ _)+1;lia)) (tE (kX h4 (by show _<=max _ (max _ _)+1;lia)) (kX h6 (by show _<=max _ (max _ _)+1;lia)))
 |lay a ms=>
  cases e;refine⟨bP _,λ p hp=>?_⟩;cases aI.mp hp;show S.length<=(aK S).length/\(aK S).length<=S.length+0;rw[mH];lia
 |fetch a b=>
  obtain⟨al,u,A,eu,eA,wf⟩:=hA a (by simp[ar]);obtain⟨bl,v,B,ev,eB,wv⟩:=hA b (by simp[ar]);obtain⟨n,r,B',ea,n0,eb,nb,rfl⟩:=ok;cases eA.symm.trans ea;cases eB.symm.trans eb;obtain⟨st,s,ss,er⟩:=hf a b rfl;have e:Oh (kS (gt Ts a) (Tk Ss a) (Tk Ss b) (bM Ts Ss (B++r) b))=Oh t:=e;cases e;rw[bC eu] at er ⊢;subst er;have lp:(n::r).length<=ss.length/\ss.length<=(n::r).length+0:=wf.2 (s,ss) bg;rw[OM] at lp;unfold bM;rw[bC ev,Uh eB,Uh eA];have K:=yL (S:=B++r) wv.2 s0i;refine⟨by show Tt (rm _ v)+1<=k;rw[dB];have:=wv.1;lia,λ p hp=>?_⟩
  rcases aB.mp hp with rfl|hp
  .show(B++r).length<=(dA B.length++ss.drop 1).length/\(dA B.length++ss.drop 1).length<=(B++r).length+_;rw[aF,aF,kI,bO];lia
  .have:=K p hp;show _/\_<=_+(Tt (rm _ v)+1);rw[dB];lia
 |fold w a side=>
  obtain⟨al,u,A,eu,eA,wf⟩:=hA a (by simp[ar]);obtain⟨A',ea,hw,no,rfl⟩:=ok;cases eA.symm.trans ea;obtain⟨c,rfl,cl⟩:=dI no;have e:Oh (Tr.fold w ((Tk Ss a).getD c 0) (rm (cH (Tk Ss a).length c) (gt Ts a)))=Oh t:=e;cases e;rw[bC eu,Uh eA];refine⟨by show Tt (rm _ u)+1<=k;rw[dB];have:=wf.1;lia,?_⟩;show Vj (A.eraseIdx c) (Tt (rm _ u)+1) (rm (cH A.length c) u);rw[dB];refine tD wf.2 λ s ss h1 h2=>?_;show(A.eraseIdx c).length<=(bF (ss.eraseIdx c) (A.length-1) (ss.getD c 0)).length/\(bF (ss.eraseIdx c) (A.length-1) (ss.getD c 0)).length<=(A.eraseIdx c).length+(Tt u+1);rw[tF,mO,mO,XT cl,XT Z];lia
 |turn a os=>
  obtain⟨al,u,A,eu,eA,wf⟩:=hA a (by simp[ar]);have e':Oh (rm (bW (Tk Ss a) (.turn a os)) (gt Ts a))=Oh t:=e;rw[bC eu,Uh eA] at e';cases e';exact mov a rfl (by simp[ar]) trivial rfl A u eu eA wf al
 |flip a c=>
  obtain⟨al,u,A,eu,eA,wf⟩:=hA a (by simp[ar]);have e':Oh (rm (bW (Tk Ss a) (.flip a c)) (gt Ts a))=Oh t:=e;rw[bC eu,Uh eA] at e';cases e';exact mov a rfl (by simp[ar]) trivial rfl A u eu eA wf al
 |cut a c f m g=>
  obtain⟨al,u,A,eu,eA,wf⟩:=hA a (by simp[ar]);have e':Oh (rm (bW (Tk Ss a) (.cut a c f m g)) (gt Ts a))=Oh t:=e;rw[bC eu,Uh eA] at e';cases e';exact mov a rfl (by simp[ar]) trivial rfl A u eu eA wf al
 |spread a c m=>
  obtain⟨al,u,A,eu,eA,wf⟩:=hA a (by simp[ar]);have e':Oh (rm (bW (Tk Ss a) (.spread a c m)) (gt Ts a))=Oh t:=e;rw[bC eu,Uh eA] at e';cases e';exact mov a rfl (by simp[ar]) trivial rfl A u eu eA wf al
 |_=>cases e
def pG(h:¬kW d):∃t,cJ Ts Ss S d=Oh t:=by
 cases d<;>first|exact⟨_,rfl⟩|exact XU trivial h
def JW{u a p:Nat}{as:List Nat}{U:List (LL)}(h:as[p]?=Oh a)(al:a<U.length):[(u:Int),(p:Int)]∈(Ut u as U).getD a []:=by
 have key:∀j,p<j->[(u:Int),(p:Int)]∈(Ut u (as.take j) U).getD a []:=λ j=>by
  induction j with
  |zero=>intro h;lia
  |succ j ih=>
   intro hj
   cases e:as[j]? with
   |none=>
    have h1:=(aY.mp h).1;have h2:=fD.mp e;rw[cq Z,<- cq (l:=as) (i:=j) h2];exact ih Z
   |some b=>
    rw[mK e];have l:(Ut u (as.take j) U).length=U.length:=sZ _ _ _;by_cases c:b=a
    .subst c;rw[aP,iR Z];by_cases pj:p=j
     .subst pj;exact bK _ bg
     .exact fH _ (ih Z)
    .rw[aP,jK c,<- aP];exact ih (by rcases pH p j with z|z;exact z;exact XU (by rw[show j=p by lia,h] at e;cases e;rfl) c)
 have:=key as.length (aY.mp h).1
 rwa [bR] at this
def JX{x:LI}{U:List (LL)}(h:x∈U.getD a []):x∈(Ut u as U).getD a []:=by
 have key:∀j,x∈(Ut u (as.take j) U).getD a []:=λ j=>by
  induction j with
  |zero=>rw[kP];exact h
  |succ j ih=>
   cases e:as[j]? with
   |none=>
    rw[cq (by have:=fD.mp e;lia),<- cq (l:=as) (i:=j) (by have:=fD.mp e;lia)];exact ih
   |some b=>
    rw[mK e];by_cases c:b=a
    .subst c;by_cases l:b<(Ut u (as.take j) U).length
     .rw[aP,iR l];exact fH _ ih
     .rw[yN Z];exact ih
    .rw[aP,jK c,<- aP];exact ih
 have:=key as.length
 rwa [bR] at this
def JY{ds:List Stp}{os:LI}{u p a:Nat}(hu:u∈aV ds os)(h:(ar (ds.getD u (.num 0)))[p]?=Oh a)(al:a<ds.length):[(u:Int),(p:Int)]∈(dL ds os).getD a []:=by
 obtain⟨i,ei⟩:=mx hu
 have key:∀j,i<j->[(u:Int),(p:Int)]∈(UN ds ((aV ds os).take j)).getD a []:=λ j=>by
  induction j with
  |zero=>intro h;lia
  |succ j ih=>
   intro hj
   cases e:(aV ds os)[j]? with
   |none=>
    have h1:=(aY.mp ei).1;have h2:=fD.mp e;rw[cq Z,<- cq (l:=aV ds os) (i:=j) h2];exact ih Z
   |some v=>
    rw[py e];by_cases c:i=j
    .subst c;rw[ei] at e;cases e;exact JW h (by rw[px];exact al)
    .exact JX (ih Z)
 have:=key (aV ds os).length (aY.mp ei).1
 rwa [bR] at this
def JZ{os:LI}:∀x∈(dL ds os).getD a [],∃u p:Nat,x=[(u:Int),(p:Int)]/\u<ds.length:=by
 have inn:∀(u:Nat) (as:List Nat) (U:List (LL)),u<ds.length->(∀a,∀x∈U.getD a [],∃u p:Nat,x=[(u:Int),(p:Int)]/\u<ds.length)->∀j a,∀x∈(Ut u (as.take j) U).getD a [],∃u p:Nat,x=[(u:Int),(p:Int)]/\u<ds.length:=λ u as U ul hU j=>by
  induction j with
  |zero=>rw[kP];exact hU
  |succ j ih=>
   intro a x hx
   cases e:as[j]? with
   |none=>
    rw[cq (by have:=fD.mp e;lia),<- cq (l:=as) (i:=j) (by have:=fD.mp e;lia)] at hx;exact ih a x hx
   |some b=>
    rw[mK e] at hx;by_cases c:b=a
    .subst c;by_cases l:b<(Ut u (as.take j) U).length
     .rw[aP,iR l] at hx
      rcases bY.mp hx with hx|hx
      .exact ih b x hx
      .cases aI.mp hx;exact⟨u,j,rfl,ul⟩
     .rw[yN Z] at hx;exact ih b x hx
    .rw[aP,jK c,<- aP] at hx;exact ih a x hx
 have key:∀j a,∀x∈(UN ds ((aV ds os).take j)).getD a [],∃u p:Nat,x=[(u:Int),(p:Int)]/\u<ds.length:=λ j=>by
  induction j with
  |zero=>
   intro a x hx;rw[kP] at hx;have hx:x∈(Os ds.length ([]:LL)).getD a []:=hx;rw[aP,fI] at hx;split at hx<;>cases hx
  |succ j ih=>
   intro a x hx
   cases e:(aV ds os)[j]? with
   |none=>
    rw[cq (by have:=fD.mp e;lia),<- cq (l:=aV ds os) (i:=j) (by have:=fD.mp e;lia)] at hx;exact ih a x hx
   |some u=>
    rw[py e] at hx;have z:=inn u (ar (ds.getD u (.num 0))) _ (mem_reach.mp (aE e)).1 ih (ar (ds.getD u (.num 0))).length a x;rw[bR] at z;exact z hx
 have z:=key (aV ds os).length a
 rwa [bR] at z
def Ka(d:Stp):yn (λ a=>a) d=d:=by cases d<;>rfl
def VR{Ss:LL}(ok:Uk (Ss.take k) S d):Uk Ss S d:=by
 have z:=Jn (Zs:=Ss) (f:=λ a=>a) ok (λ a ha A e=>by rw[s1d] at e;split at e;exact e;cases e)
 rwa [Ka] at z
theorem tG(k:Int):∀ks:LI,_L.inT (.int k) (ks.map XV)=Oi ↔ k∈ks
 |[]=>by simp[_L.inT]
 |x::r=>by
  have ih:=tG k r;show(_L.eqT (.int x) (.int k) || _L.inT (.int k) (r.map XV))=Oi ↔ _;rw[iF,ih,aB];show decide (x=k)=Oi\/_ ↔ _;rw[dh];exact⟨λ h=>h.elim (λ z=>.inl z.symm) .inr,λ h=>h.elim (λ z=>.inl z.symm) .inr⟩
def tH(k:Nat)(ks:List Nat):_L.inT (.int (k:Nat)) (ks.map λ j:Nat=>XV (j:Nat))=decide (k∈ks):=by
 have z:=tG (k:Int) (ks.map λ j:Nat=>(j:Int));rw[bJ] at z;have z':_L.inT (.int (k:Nat)) (ks.map λ j:Nat=>XV (j:Nat))=Oi ↔ (k:Int)∈ks.map λ j:Nat=>(j:Int):=z;rw[lr,z',dh];constructor
 .intro h;obtain⟨j,hj,e⟩:=bq.mp h;rw[<- show j=k by lia];exact hj
 .intro h;exact bq.mpr ⟨k,h,rfl⟩
def Kb{s:Str}{l:List Str}(h:s∈l):_L.inT (.str s) (l.map XX)=Oi:=by
 unfold _L.inT;rw[nY];exact⟨.str s,bq.mpr ⟨s,h,O⟩,by show decide (s=s)=Oi;exact cn rfl⟩
noncomputable def cK(ds:List Stp)(Ss:LL)(os:LI)(Ts:List (Option Tr))(k:Nat):Option Tr:=if k∈aV ds os then cJ Ts Ss (Tk Ss k) (ds.getD k (.num 0)) else Oj
noncomputable def bI:Stp->Bool
 |.inp _=>Oi
 |_=>Ol
noncomputable def UD(ds:List Stp)(Ss:LL)(os:LI)(Ts:List (Option Tr))(k:Nat):Bool:=bI (ds.getD k (.num 0)) || (decide (k∈aV ds os)&&kU ds Ss os k (ds.getD k (.num 0)) (cK ds Ss os Ts k) ((dL ds os).getD k []))
structure TZ where
 Ts:List (Option Tr)
 Bs:List (Option Tr)
 st:List Nat
noncomputable def Th(ds:List Stp)(Ss:LL)(os:LI):Nat->TZ
 |0=>⟨[],[],[]⟩
 |k+1=>
  let p:=Th ds Ss os k
  if UD ds Ss os p.Ts k=Oi then ⟨p.Ts++[Oh (.read (p.st.length:Nat) 0 (aK (Tk Ss k)))],p.Bs++[cK ds Ss os p.Ts k],p.st++[k]⟩
  else ⟨p.Ts++[cK ds Ss os p.Ts k],p.Bs++[cK ds Ss os p.Ts k],p.st⟩
theorem gE(ds:List Stp)(Ss:LL)(os:LI):∀k,(Th ds Ss os k).Ts.length=k/\(Th ds Ss os k).Bs.length=k/\(Th ds Ss os k).st.length<=k
 |0=>⟨rfl,rfl,ao _⟩
 |k+1=>by
  obtain⟨h1,h2,h3⟩:=gE ds Ss os k;show(if _ then _ else _:TZ).Ts.length=_/\(if _ then _ else _:TZ).Bs.length=_/\(if _ then _ else _:TZ).st.length<=_;split<;>simp[h1,h2]<;>lia
noncomputable def WR(ds:List Stp)(u p:Nat):Prop:=(∃a ms,ds.getD u (.num 0)=.lay a ms)\/(∃a b,ds.getD u (.num 0)=.fetch a b/\p=0)
def Kc{os:LI}(h:mN ds Ss os k t us=Ol):(k:Int) ∉ os/\∀u p:Nat,[(u:Int),(p:Int)]∈us->WR ds u p->iO t:=by
 unfold mN at h;split at h
 .cases h
 .rename_i c1;refine⟨λ z=>c1 ((tG _ _).mpr z),λ u p hu hr=>?_⟩;split at h
  .cases h
  .rename_i c2
   rcases hr with ⟨a,ms,e⟩|⟨a,b,e,rfl⟩
   .refine XU ?_ c2;have z:=Kb (s := "lay") (l:=us.map (Vp ds)) (bq.mpr ⟨_,hu,by show kJ (TQ (ds.getD (u:Int).toNat _))=_;rw[Ot,e];rfl⟩);rw[bJ] at z;exact z
   .have c3:(us.map (mM ds)).any id=Oi:=by
     rw[nY];refine⟨Oi,bq.mpr ⟨_,hu,?_⟩,O⟩;unfold mM;rw[show Vp ds [(u:Int),((0:Nat):Int)]="fetch" by show kJ (TQ (ds.getD (u:Int).toNat _))=_;rw[Ot,e];rfl];rfl
    by_cases rd:(!_L.eqT (XX (VQ t)) (.str "read"))=Oi
    .rw[XT rd,XT c3] at h;cases h
    .cases t with
     |read st s ss=>exact⟨st,s,ss,rfl⟩
     |_=>exact XU rfl rd
structure Vq (ds:List Stp)(Ss:LL)(os:LI)(Ts:List (Option Tr))(j:Nat):Prop where
 w:∃t A,Ts[j]?=Oh (Oh t)/\Ss[j]?=Oh A/\UY j A t
 r:∀u p,u∈aV ds os->(ar (ds.getD u (.num 0)))[p]?=Oh j->WR ds u p->iO (gt Ts j)
 o:(j:Int)∈os->iO (gt Ts j)
def yO{Ts:List (Option Tr)}{x:Option Tr}{j:Nat}(h:j<Ts.length):gt (Ts++[x]) j=gt Ts j:=by unfold gt;rw[aP,cN h,<- aP]
def pI{Ts:List (Option Tr)}{x:Option Tr}{k:Nat}(h:Ts.length=k):gt (Ts++[x]) k=x.getD (.num 0):=by subst h;unfold gt;rw[aP,cM (ao _),gS];rfl
def Kd{os:LI}{x:Option Tr}(h:Vq ds Ss os Ts j):Vq ds Ss os (Ts++[x]) j:=by
 obtain⟨t,A,e1,e2,e3⟩:=h.w;have jl:=(aY.mp e1).1;exact⟨⟨t,A,by rw[cN jl];exact e1,e2,e3⟩,by rw[yO jl];exact h.r,by rw[yO jl];exact h.o⟩
def mP{os:LI}{mo:Int}{k:Nat}(gl:eH mo ds Ss)(k40:k<=40)(h:∀j,j<k->j∈aV ds os->Vq ds Ss os Ts j)(hk:k∈aV ds os):(∀a∈ar (ds.getD k (.num 0)),a<k/\∃u A,Ts[a]?=Oh (Oh u)/\Ss[a]?=Oh A/\UY a A u)/\pE Ts Ss (ds.getD k (.num 0)):=by
 have kl:=(mem_reach.mp hk).1
 have al:∀a∈ar (ds.getD k (.num 0)),a<k/\Vq ds Ss os Ts a:=λ a ha=>by
  have:=pr gl k _ (dX kl) a ha;exact⟨this,h a this (JQ (pr gl) hk ha)⟩
 refine⟨λ a ha=>⟨(al a ha).1,(al a ha).2.w⟩,λ a ha=>?_,λ a ms e=>?_,λ a b e=>?_⟩
 .obtain⟨t,A,e1,e2,e3⟩:=(al a ha).2.w;have:=(al a ha).1;exact⟨t,A,e1,e2,by have:=e3.1;lia,e3.2⟩
 .exact(al a (by rw[e];exact bg)).2.r k 0 hk (by rw[e];rfl) (.inl ⟨a,ms,e⟩)
 .exact(al a (by rw[e];exact bg)).2.r k 0 hk (by rw[e];rfl) (.inr ⟨a,b,e,O⟩)
theorem jI{os:LI}{mo:Int}(gl:eH mo ds Ss)(d40:ds.length<=40):∀k,k<=ds.length->∀j,j<k->j∈aV ds os->Vq ds Ss os (Th ds Ss os k).Ts j
 |0,_,j,hj,_=>by lia
 |k+1,kl,j,hj,hr=>by
  have ih:=jI (os:=os) gl d40 k Z;have ln:=(gE ds Ss os k).1;by_cases c:j<k
  .have z:=ih j c hr;show Vq ds Ss os (if _ then _ else _:TZ).Ts j;split<;>exact Kd z
  .have jk:j=k:=by lia
   subst jk;obtain⟨hA,at'⟩:=mP gl Z ih hr;have ed:=dX (ds:=ds) (a:=j) Z;have eS:Ss[j]?=Oh (Tk Ss j):=by unfold Tk;rw[aP,bc (by rw[<- gl.1];lia)];rfl
   have ok:=VR (gl.2.2 j _ _ ed eS);have eb:cK ds Ss os (Th ds Ss os j).Ts j=cJ (Th ds Ss os j).Ts Ss (Tk Ss j) (ds.getD j (.num 0)):=XT hr;show Vq ds Ss os (if _ then _ else _:TZ).Ts j;split
   .refine⟨⟨_,_,by show(_++[_])[j]?=_;rw[cM Z,ln,gS];rfl,eS,bP _,λ p hp=>?_⟩,λ _ _ _ _ _=>?_,λ _=>?_⟩
    .cases aI.mp hp;show _<=(aK _).length/\(aK _).length<=_;rw[mH];lia
    .rw[pI ln];exact⟨_,_,_,rfl⟩
    .rw[pI ln];exact⟨_,_,_,rfl⟩
   .rename_i nk;unfold UD at nk;rw[iF,bp,dh] at nk;have n1:¬bI (ds.getD j (.num 0))=Oi:=λ z=>nk (.inl z);have n2:¬kU ds Ss os j (ds.getD j (.num 0)) (cK ds Ss os (Th ds Ss os j).Ts j) ((dL ds os).getD j [])=Oi:=λ z=>nk (.inr ⟨hr,z⟩)
    have nt:¬kW (ds.getD j (.num 0)):=by
     generalize ds.getD j (.num 0)=d at n1 n2
     cases d with
     |inp ms=>exact XU rfl n1
     |run w a s|join a b s=>exact XU rfl n2
     |_=>exact λ h=>h
    obtain⟨t,et⟩:=pG (Ts:=(Th ds Ss os j).Ts) (Ss:=Ss) (S:=Tk Ss j) nt;have wf:=yM ok hA at'.2.2 et;rw[eb] at n2 ⊢;rw[et] at n2 ⊢
    have key:iO t\/((j:Int) ∉ os/\∀u p:Nat,[(u:Int),(p:Int)]∈(dL ds os).getD j []->WR ds u p->iO t):=by
     generalize ds.getD j (.num 0)=d at n1 n2 nt et
     cases d with
     |lay a ms=>cases et;exact .inl ⟨_,_,_,rfl⟩
     |inp ms|run w a s|join a b s=>exact XU trivial nt
     |_=>exact .inr (Kc (pJ.mpr n2))
    refine⟨⟨t,_,by rw[cM Z,ln,gS];rfl,eS,wf⟩,λ u p hu hp hd=>?_,λ ho=>?_⟩
    .rw[pI ln];exact key.elim id λ z=>z.2 u p (JY hu hp Z) hd
    .rw[pI ln];exact key.elim id λ z=>XU ho z.1
noncomputable abbrev WS(p:TZ):TV:=.tup [.lst (p.Ts.map Uc),.lst (p.Bs.map Uc),.lst (p.st.map λ k=>.int (k:Nat))]
def tJ{α:Type}{f:α->TV}{l:List α}{i:Nat}(h:((l.map f).mapIdx λ i x=>XW [.int (i:Nat),x])[i]?=Oh t):∃a,t=.tup [.int (i:Nat),f a]/\l[i]?=Oh a:=by
 rw[oo,bh] at h
 cases e:l[i]? with
 |none=>rw[e] at h;cases h
 |some a=>rw[e] at h;cases h;exact⟨a,rfl,rfl⟩
def hV(l:List Nat):∀x∈l.map (λ k:Nat=>XV (k:Nat)),Uq x=Oi:=λ x hx=>by obtain⟨n,_,rfl⟩:=bq.mp hx;rfl
def eJ(d:Stp):_L.eqT (.str (kJ (TQ d))) (.str "in")=bI d:=by cases d<;>rfl
def Kf(h:bI d=Ol):∀ms,d≠.inp ms:=λ ms e=>by subst e;cases h
def yP(o:Option Tr):(Uc o).nb=Oi/\(Uc o).fz=Uc o:=by cases o<;>exact⟨rfl,rfl⟩
noncomputable def Vk(w:Str)(st:Int)(A:LI)(k:Nat)(v:TV):TV:=.tup [.str "run",.str w,.int st,tI (A.eraseIdx k),.int (A.getD k 0),.int 0,tI (cH A.length k 0 (aK A)).2,v]
noncomputable def dY(st:Int)(S:LI)(b:Int)(ss:LI)(v:TV):TV:=.tup [.str "fill",.int st,tI S,.int b,tI ss,v]
noncomputable def UT(Ss:LL)(Ts:List (Option Tr))(S:LI)(o:Option Tr)(st:Int):Stp->List TV
 |.run w a k=>[Vk w st (Tk Ss a) k.toNat (Tl (rm (cH (Tk Ss a).length k.toNat) (gt Ts a)))]
 |.join a b k=>[dY st (Tk Ss a) 0 (aK S) (Tl (gt Ts a)),dY st (Tk Ss b) ((Tk Ss a).getD k.toNat 0*(aK S).getD k.toNat 0) (aK S) (Tl (gt Ts b))]
 |_=>[dY st S 0 (aK S) (Uc o)]
def yQ(h:¬Uf A k):(fR A B k).length=A.length:=by
 obtain⟨c,rfl,cl⟩:=dI h;unfold fR;simp
theorem tK{os:LI}:∀n,∀k∈(Th ds Ss os n).st,k<n/\(bI (ds.getD k (.num 0))=Ol->k∈aV ds os)
 |0,k,h=>nomatch h
 |n+1,k,h=>by
  have ih:=tK (ds:=ds) (Ss:=Ss) (os:=os) n k;have h:k∈(if _ then _ else _:TZ).st:=h;split at h
  .rename_i c
   rcases bY.mp h with h|h
   .exact⟨by have:=(ih h).1;lia,(ih h).2⟩
   .cases aI.mp h;refine⟨Z,λ z=>?_⟩;unfold UD at c;rw[z,jt,bp,dh] at c;exact c.1
  .exact⟨by have:=(ih h).1;lia,(ih h).2⟩
noncomputable def UG(ds:List Stp)(Ss:LL)(p:TZ):Nat->List TV
 |0=>[]
 | i+1=>UG ds Ss p i++(match p.st[i]? with
  |some k=>if bI (ds.getD k (.num 0))=Oi then [] else UT Ss p.Ts (Tk Ss k) (p.Bs.getD k Oj) (i:Nat) (ds.getD k (.num 0))
  |none=>[])
def pK(Ss:LL)(Ts:List (Option Tr))(S:LI)(o:Option Tr)(st:Int)(d:Stp):(UT Ss Ts S o st d).length<=2:=by cases d<;>exact cG rfl
theorem tM(ds:List Stp)(Ss:LL)(p:TZ):∀i,(UG ds Ss p i).length<=2*i
 |0=>ao _
 |i+1=>by
  have ih:=tM ds Ss p i;show(UG ds Ss p i++_).length<=_;rw[aF];split
  .split
   .show _+0<=_;lia
   .have:=pK Ss p.Ts (Tk Ss ‹_›) (p.Bs.getD ‹_› Oj) (i:Nat) (ds.getD ‹_› (.num 0));lia
  .show _+0<=_;lia
noncomputable def fV(ds:List Stp)(p:TZ):List Nat:=p.st.filter λ k=>!bI (ds.getD k (.num 0))
noncomputable abbrev pL(Ss:LL)(Ts:List (Option Tr))(os:LI):TV:=.tup (os.map λ o=>.tup [.int (kR (gt Ts o.toNat)),tI (Tk Ss o.toNat)])
noncomputable abbrev yR(ds:List Stp)(Ss:LL)(os:LI)(p:TZ):TV:=.tup [.tup (p.st.map λ k:Nat=>.tup [.int (k:Nat),.int (ai (Tk Ss k))]),.tup (UG ds Ss p p.st.length),pL Ss p.Ts os]
theorem yS:∀ns:LI,(OB ns.length).map (λ k=>ai (ns.drop (k+1)))=aK ns
 |[]=>rfl
 |n::ns=>by
  rw[OM,wa,cO,bJ];show ai ns::_=(UC (n::ns) (n::ns).length).reverse;rw[Iw];exact bw (ai ns::·) (yS ns)
def Kg(h:bS ns)(k:Nat):bS (ns.drop k):=λ n hn=>h n (sK hn)
theorem hW{g:Gf}(h:∀s ss,g s ss=(s,ss)):∀t:Tr,rm g t=t
 |.num _=>rfl
 |.idx s ss=>by show Tr.idx _ _=_;rw[h]
 |.read st s ss=>by show Tr.read _ _ _=_;rw[h]
 |.each w t=>by show Tr.each w (rm g t)=_;rw[hW h t]
 |.pair w a b=>by show Tr.pair w (rm g a) (rm g b)=_;rw[hW h a,hW h b]
 |.pick a b c=>by show Tr.pick (rm g a) (rm g b) (rm g c)=_;rw[hW h a,hW h b,hW h c]
 |.fold w n t=>by show Tr.fold w n (rm g t)=_;rw[hW h t]
 |.fetch st s r n ss t=>by show Tr.fetch _ _ _ _ _ (rm g t)=_;rw[h,hW h t]
def Kh(n:Nat)(t:Tr):rm (cZ n (n-n)) t=t:=hW (λ s ss=>by rw[gS];show(s,ss.take n++[]++ss.drop n)=_;rw[ef,sH]) t
def Ki{ns:LI}{a b:Nat}(h:b<=ns.length)(h2:a<=b):ah (ns.map XV) (Oh (a:Int)) (Oh (b:Int))=((ns.drop a).take (b-a)).map XV:=by
 rw[pd];simp only[_H.sIx];rw[XR Z,XR Z,Ot,Ot,eE h,eE (cL h2 h)]
def Kj{ss:LI}{n k:Nat}{v:Int}(h:n<=ss.length)(hk:k<n):ss.take k++(ss.drop (k+1)).take (n-(k+1))++[v]++ss.drop n=bF (ss.eraseIdx k) (n-1) v:=by
 unfold bF;have lt:(ss.take k).length=k:=by rw[aQ];lia
 have e1:(ss.take k++ss.drop (k+1)).take (n-1)=ss.take k++(ss.drop (k+1)).take (n-(k+1)):=by
  rw[List.take_append,lt,show n-1-k=n-(k+1) by lia]
  congr 1
  exact cq Z
 have e2:(ss.take k++ss.drop (k+1)).drop (n-1)=ss.drop n:=by
  rw[List.drop_append,lt,List.drop_drop,show k+1+(n-1-k)=n by lia];have z:(ss.take k).drop (n-1)=[]:=yq Z;rw[z,nE]
 rw[jx,e1,e2]
def yT{ss:LI}{c:Nat}{v:Int}(h:c<ss.length):ss.take c++[v]++ss.drop (c+1)=ss.set c v:=by
 rw[oT,XT h,im];rfl
def yU(A:LI)(k:Nat):A.take k++A.drop (k+1)=A.eraseIdx k:=(jx A k).symm
def Kk(l:LI)(n:Nat)(m:Int)(h:l.length=n):bF l n m=l++[m]:=by subst h;unfold bF;simp
noncomputable def UZ(ds:List Stp)(Ss:LL)(os:LI)(p:TZ):Nat->List TV
 |0=>[]
 |k+1=>UZ ds Ss os p k++(if k∈fV ds p then UT Ss (Th ds Ss os k).Ts (Tk Ss k) (cJ (Th ds Ss os k).Ts Ss (Tk Ss k) (ds.getD k (.num 0))) ((Th ds Ss os k).st.length:Nat) (ds.getD k (.num 0)) else [])
theorem tN(ds:List Stp)(Ss:LL)(os:LI)(p:TZ):∀k,(UZ ds Ss os p k).length<=2*k
 |0=>ao _
 |k+1=>by
  have ih:=tN ds Ss os p k;show(UZ ds Ss os p k++_).length<=_;rw[aF];split
  .have:=pK Ss (Th ds Ss os k).Ts (Tk Ss k) (cJ (Th ds Ss os k).Ts Ss (Tk Ss k) (ds.getD k (.num 0))) ((Th ds Ss os k).st.length:Nat) (ds.getD k (.num 0));lia
  .show _+0<=_;lia
theorem yV{os:LI}(k:Nat):∀m,(Th ds Ss os k).Ts <+: (Th ds Ss os (k+m)).Ts/\(Th ds Ss os k).Bs <+: (Th ds Ss os (k+m)).Bs/\(Th ds Ss os k).st <+: (Th ds Ss os (k+m)).st
 |0=>⟨tO _,tO _,tO _⟩
 |m+1=>by
  obtain⟨h1,h2,h3⟩:=yV (ds:=ds) (Ss:=Ss) (os:=os) k m;show _ <+: (if _ then _ else _:TZ).Ts/\_ <+: (if _ then _ else _:TZ).Bs/\_ <+: (if _ then _ else _:TZ).st;split
  .exact⟨h1.trans (mQ _ _),h2.trans (mQ _ _),h3.trans (mQ _ _)⟩
  .exact⟨h1.trans (mQ _ _),h2.trans (mQ _ _),h3⟩
def tP{α:Type}{l m:List α}{i:Nat}(h:l <+: m)(hi:i<l.length):m[i]?=l[i]?:=by
 obtain⟨r,e⟩:=h;rw[<- e,cN hi]
def tQ{os:LI}{k n:Nat}(h:k<=n):(Th ds Ss os k).Ts <+: (Th ds Ss os n).Ts/\(Th ds Ss os k).Bs <+: (Th ds Ss os n).Bs/\(Th ds Ss os k).st <+: (Th ds Ss os n).st:=by
 have z:=yV (ds:=ds) (Ss:=Ss) (os:=os) k (n-k)
 rwa [show k+(n-k)=n by lia] at z
def Kl{os:LI}{k n a:Nat}(h:k<=n)(ha:a<k):gt (Th ds Ss os n).Ts a=gt (Th ds Ss os k).Ts a:=by
 unfold gt;rw[aP,aP,tP (tQ h).1 (by rw[(gE ds Ss os k).1];exact ha)]
def Km{os:LI}{k n:Nat}(h:k<n):(Th ds Ss os n).Bs.getD k Oj=cK ds Ss os (Th ds Ss os k).Ts k:=by
 have l:=(gE ds Ss os k).2.1;rw[aP,tP (tQ (k:=k+1) h).2.1 (by rw[(gE ds Ss os (k+1)).2.1];lia)];show((if _ then _ else _:TZ).Bs[k]?).getD Oj=_;split<;>(show((_++[_])[k]?).getD Oj=_;rw[cM Z,l,gS];rfl)
theorem yW{os:LI}{k:Nat}:∀n,k∈(Th ds Ss os n).st ↔ k<n/\UD ds Ss os (Th ds Ss os k).Ts k=Oi
 |0=>⟨λ h=>(nomatch h),λ h=>by lia⟩
 |n+1=>by
  have ih:=yW (ds:=ds) (Ss:=Ss) (os:=os) (k:=k) n;show k∈(if _ then _ else _:TZ).st ↔ _;split
  .rename_i c;show k∈_++[n] ↔ _;rw[bY,ih,aI];constructor
   .rintro(⟨h1,h2⟩|rfl)
    .exact⟨Z,h2⟩
    .exact⟨Z,c⟩
   .rintro⟨h1,h2⟩
    rcases pH k n with z|z
    .exact .inl ⟨z,h2⟩
    .exact .inr Z
  .rename_i c;rw[ih];constructor
   .rintro⟨h1,h2⟩;exact⟨Z,h2⟩
   .rintro⟨h1,h2⟩
    rcases pH k n with z|z
    .exact⟨z,h2⟩
    .rw[show k=n by lia] at h2;exact XU h2 c
def kept_iff{ds:List Stp}{os:LI}{k n:Nat}:k∈fV ds (Th ds Ss os n) ↔ (k<n/\UD ds Ss os (Th ds Ss os k).Ts k=Oi)/\bI (ds.getD k (.num 0))=Ol:=by
 unfold fV;rw[fZ,yW,oz]
def Ko{st:Int}{d:Stp}(h:∀a∈ar d,gt Ts a=gt Ts' a):UT Ss Ts S o st d=UT Ss Ts' S o st d:=by
 cases d with
 |run w a k=>show[_]=[_];rw[h a (by simp[ar])]
 |join a b k=>show[_,_]=[_,_];rw[h a (by simp[ar]),h b (by simp[ar])]
 |_=>rfl
theorem yX{os:LI}{mo:Int}(gl:eH mo ds Ss):∀k,k<=ds.length->UZ ds Ss os (Th ds Ss os ds.length) k=UG ds Ss (Th ds Ss os ds.length) (Th ds Ss os k).st.length
 |0,_=>rfl
 |k+1,kl=>by
  have ih:=yX gl (os:=os) k Z;show UZ ds Ss os _ k++_=_;rw[ih];by_cases c:UD ds Ss os (Th ds Ss os k).Ts k=Oi
  .have es:(Th ds Ss os (k+1)).st=(Th ds Ss os k).st++[k]:=by show(if _ then _ else _:TZ).st=_;rw[XT c]
   have ek:(Th ds Ss os ds.length).st[(Th ds Ss os k).st.length]?=Oh k:=by
    rw[tP (tQ kl).2.2 (by rw[es,aF];show _<_+1;lia),es,cM (ao _),gS];rfl
   rw[es,aF];show _=UG ds Ss _ (_+1);show _=UG ds Ss _ _++_;rw[ek]
   congr 1
   show _=if bI (ds.getD k (.num 0))=Oi then [] else _;by_cases ci:bI (ds.getD k (.num 0))=Oi
   .rw[XT ci,XR (λ z=>by have:=(kept_iff.mp z).2;rw[ci] at this;cases this)]
   .rw[XR ci,XT (kept_iff.mpr ⟨⟨Z,c⟩,pJ.mpr ci⟩),Km Z];unfold UD at c;rw[pJ.mpr ci,jt,bp,dh] at c;have eb:cK ds Ss os (Th ds Ss os k).Ts k=cJ (Th ds Ss os k).Ts Ss (Tk Ss k) (ds.getD k (.num 0)):=XT c.1;rw[eb];exact Ko λ a ha=>(Kl Z (pr gl k _ (dX Z) a ha)).symm
  .have es:(Th ds Ss os (k+1)).st=(Th ds Ss os k).st:=by show(if _ then _ else _:TZ).st=_;rw[XR c]
   rw[es,XR (λ z=>c (kept_iff.mp z).1.2),ef]
def kY{n:Nat}(ns:LI):_L.dp (n+1) (tI ns):=λ x hx=>by obtain⟨m,_,rfl⟩:=bq.mp hx;cases n<;>trivial
theorem fF:∀(t:Tr) (n:Nat),Tt t+2<=n->_L.dp n (Tl t)
 |.num m,n+1,_=>λ x hx=>by
  simp only[Ug,aB,bf,bd] at hx
  rcases hx with rfl|rfl<;>simp[_L.dp]
 |.idx s ss,n+2,_=>λ x hx=>by
  simp only[Ug,aB,bf,bd] at hx
  rcases hx with rfl|rfl|rfl<;>first|exact kY ss|simp[_L.dp]
 |.read st s ss,n+2,_=>λ x hx=>by
  simp only[Ug,aB,bf,bd] at hx
  rcases hx with rfl|rfl|rfl|rfl<;>first|exact kY ss|simp[_L.dp]
 |.each w t,n+1,h=>λ x hx=>by
  have h:Tt t+1+2<=n+1:=h;simp only[Ug,aB,bf,bd] at hx
  rcases hx with rfl|rfl|rfl<;>first|exact fF t n Z|simp[_L.dp]
 |.pair w a b,n+1,h=>λ x hx=>by
  have h:max (Tt a) (Tt b)+1+2<=n+1:=h;simp only[Ug,aB,bf,bd] at hx
  rcases hx with rfl|rfl|rfl|rfl<;>first|exact fF a n Z|exact fF b n Z|simp[_L.dp]
 |.pick a b c,n+1,h=>λ x hx=>by
  have h:max (Tt a) (max (Tt b) (Tt c))+1+2<=n+1:=h;simp only[Ug,aB,bf,bd] at hx
  rcases hx with rfl|rfl|rfl|rfl<;>first|exact fF a n Z|exact fF b n Z|exact fF c n Z|simp[_L.dp]
 |.fold w m t,n+1,h=>λ x hx=>by
  have h:Tt t+1+2<=n+1:=h;simp only[Ug,aB,bf,bd] at hx
  rcases hx with rfl|rfl|rfl|rfl<;>first|exact fF t n Z|simp[_L.dp]
 |.fetch st s r m ss t,n+2,h=>λ x hx=>by
  have h:Tt t+1+2<=n+2:=h;simp only[Ug,aB,bf,bd] at hx
  rcases hx with rfl|rfl|rfl|rfl|rfl|rfl|rfl<;>first|exact kY ss|exact fF t (n+1) Z|simp[_L.dp]
theorem yY{os:LI}{mo:Int}(gl:eH mo ds Ss)(d40:ds.length<=40):∀k,k<=ds.length->(∀(j:Nat) (t:Tr),(Th ds Ss os k).Ts[j]?=Oh (Oh t)->Tt t<=40)/\∀(j:Nat) (t:Tr),(Th ds Ss os k).Bs[j]?=Oh (Oh t)->Tt t<=40
 |0,_=>⟨λ j t h=>(nomatch h),λ j t h=>(nomatch h)⟩
 |k+1,kl=>by
  obtain⟨h1,h2⟩:=yY gl d40 (os:=os) k Z;have ih:=jI (os:=os) gl d40 k Z
  have hb:∀t,cK ds Ss os (Th ds Ss os k).Ts k=Oh t->Tt t<=40:=λ t e=>by
   unfold cK at e;split at e
   .rename_i hr;obtain⟨hA,at'⟩:=mP gl Z ih hr;have eS:Ss[k]?=Oh (Tk Ss k):=by unfold Tk;rw[aP,bc (by rw[<- gl.1];lia)];rfl
    have:=(yM (VR (gl.2.2 k _ _ (dX Z) eS)) hA at'.2.2 e).1;lia
   .cases e
  have ap:∀(l:List (Option Tr)) (x:Option Tr),(∀(j:Nat) (t:Tr),l[j]?=Oh (Oh t)->Tt t<=40)->(∀t,x=Oh t->Tt t<=40)->∀(j:Nat) (t:Tr),(l++[x])[j]?=Oh (Oh t)->Tt t<=40:=λ l x a b j t e=>by
   rcases pH j l.length with z|z
   .rw[cN z] at e;exact a j t e
   .rw[cM z] at e;have:=aE e;exact b t (aI.mp this).symm
  have es:Th ds Ss os (k+1)=(if UD ds Ss os (Th ds Ss os k).Ts k=Oi then (⟨(Th ds Ss os k).Ts++[Oh (.read ((Th ds Ss os k).st.length:Nat) 0 (aK (Tk Ss k)))],(Th ds Ss os k).Bs++[cK ds Ss os (Th ds Ss os k).Ts k],(Th ds Ss os k).st++[k]⟩:TZ) else ⟨(Th ds Ss os k).Ts++[cK ds Ss os (Th ds Ss os k).Ts k],(Th ds Ss os k).Bs++[cK ds Ss os (Th ds Ss os k).Ts k],(Th ds Ss os k).st⟩):=rfl;rw[es];split
  .exact⟨ap _ _ h1 λ t e=>by cases e;exact bP _,ap _ _ h2 hb⟩
  .exact⟨ap _ _ h1 hb,ap _ _ h2 hb⟩
def Kp{Ts:List (Option Tr)}(h:∀(j:Nat) (t:Tr),Ts[j]?=Oh (Oh t)->Tt t<=40)(a:Nat):Tt (gt Ts a)<=40:=by
 unfold gt;rw[aP]
 cases e:Ts[a]? with
 |none=>exact bP _
 |some o=>
  cases o with
  |none=>exact bP _
  |some t=>exact h a t e
def Kq{st:Int}(h:Tt t<=41):_L.dp 98 (Vk w st A k (Tl t)):=λ x hx=>by
 simp only[aB,bf,bd] at hx
 rcases hx with rfl|rfl|rfl|rfl|rfl|rfl|rfl|rfl<;>first|exact kY _|exact fF t 97 Z|simp[_L.dp]
def tR{st b:Int}(h:_L.dp 97 v):_L.dp 98 (dY st S b ss v):=λ x hx=>by
 simp only[aB,bf,bd] at hx
 rcases hx with rfl|rfl|rfl|rfl|rfl|rfl<;>first|exact h|exact kY _|simp[_L.dp]
def Kr{Ss:LL}{S:LI}{o:Option Tr}{st:Int}(h1:∀a,Tt (gt Ts a)<=40)(h2:∀t,o=Oh t->Tt t<=40):∀x∈UT Ss Ts S o st d,_L.dp 98 x:=by
 have ho:_L.dp 97 (Uc o):=by
  cases o with
  |none=>simp[Uc,_L.dp]
  |some t=>exact fF t 97 (by have:=h2 t rfl;lia)
 cases d with
 |run w a k=>intro x hx;cases aI.mp hx;exact Kq (by rw[dB];have:=h1 a;lia)
 |join a b k=>
  intro x hx
  rcases aB.mp hx with rfl|hx
  .exact tR (fF _ 97 (by have:=h1 a;lia))
  .cases aI.mp hx;exact tR (fF _ 97 (by have:=h1 b;lia))
 |_=>intro x hx;cases aI.mp hx;exact tR ho
theorem yZ{ds:List Stp}{Ss:LL}{p:TZ}(h1:∀a,Tt (gt p.Ts a)<=40)(h2:∀(j:Nat) (t:Tr),p.Bs[j]?=Oh (Oh t)->Tt t<=40):∀i,∀x∈UG ds Ss p i,_L.dp 98 x
 |0,x,hx=>(nomatch hx)
 |i+1,x,hx=>by
  rcases bY.mp hx with hx|hx
  .exact yZ h1 h2 i x hx
  .split at hx
   .split at hx
    .cases hx
    .refine Kr h1 (λ t e=>?_) x hx;rw[aP] at e
     cases e2:p.Bs[‹Nat›]? with
     |none=>rw[e2] at e;cases e
     |some o=>rw[e2] at e;exact h2 _ t (e2.trans (bw Oh e))
   .cases hx
def zb(Ss:LL)(Ts:List (Option Tr))(os:LI):_L.dp 99 (pL Ss Ts os):=λ x hx=>by
 obtain⟨o,_,rfl⟩:=bq.mp hx;intro y hy;simp only[aB,bf,bd] at hy
 rcases hy with rfl|rfl
 .simp[_L.dp]
 .exact kY _
def clX{FT:List Tf}{f:Nat}{ts:List TV}{K:TV->Prop}(e:FT[f]?=Oh S)(h:S (ts.map .fz) K):∃P,(∃S,FT[f]?=Oh S/\S (ts.map .fz) P)/\∀t,P t->K t:=⟨K,⟨S,e,h⟩,λ _ h=>h⟩
def tS{st b:Int}(h:LF v):LF (dY st S b ss v):=by
 unfold dY;simp only[LF,aB,bf,bd]
 rintro x (rfl|rfl|rfl|rfl|rfl|rfl)<;>first|exact h|exact gB _|simp[LF]
def Ks{st:Int}(h:LF v):LF (Vk w st A k v):=by
 unfold Vk;simp only[LF,aB,bf,bd]
 rintro x (rfl|rfl|rfl|rfl|rfl|rfl|rfl|rfl)<;>first|exact h|exact gB _|simp[LF]
def Kt{Ss:LL}{Ts:List (Option Tr)}{S:LI}{st:Int}:∀x∈UT Ss Ts S o st d,LF x:=by
 cases d with
 |run w a k=>intro x hx;cases aI.mp hx;exact Ks (fE _)
 |join a b k=>
  intro x hx
  rcases aB.mp hx with rfl|hx
  .exact tS (fE _)
  .cases aI.mp hx;exact tS (fE _)
 |_=>intro x hx;cases aI.mp hx;exact tS (tj o)
def Ku{os:LI}:(UD ds Ss os (Th ds Ss os k).Ts k=Oi->(Th ds Ss os (k+1)).Ts=(Th ds Ss os k).Ts++[Oh (.read ((Th ds Ss os k).st.length:Nat) 0 (aK (Tk Ss k)))]/\(Th ds Ss os (k+1)).st.length=(Th ds Ss os k).st.length+1)/\(UD ds Ss os (Th ds Ss os k).Ts k=Ol->(Th ds Ss os (k+1)).Ts=(Th ds Ss os k).Ts++[cK ds Ss os (Th ds Ss os k).Ts k]/\(Th ds Ss os (k+1)).st.length=(Th ds Ss os k).st.length):=by
 constructor
 .intro c;show(if _ then _ else _:TZ).Ts=_/\(if _ then _ else _:TZ).st.length=_;rw[XT c];exact⟨O,aF⟩
 .intro c;show(if _ then _ else _:TZ).Ts=_/\(if _ then _ else _:TZ).st.length=_;rw[XR (by rw[c];decide)];exact⟨O,O⟩
def Kv{ds:List Stp}{os:LI}{p:TZ}{k:Nat}:(k∈fV ds p->UZ ds Ss os p (k+1)=UZ ds Ss os p k++UT Ss (Th ds Ss os k).Ts (Tk Ss k) (cJ (Th ds Ss os k).Ts Ss (Tk Ss k) (ds.getD k (.num 0))) ((Th ds Ss os k).st.length:Nat) (ds.getD k (.num 0)))/\(k ∉ fV ds p->UZ ds Ss os p (k+1)=UZ ds Ss os p k):=by
 constructor
 .intro c;show _++(if _ then _ else _)=_;rw[XT c]
 .intro c;show _++(if _ then _ else _)=_;rw[XR c,ef]
noncomputable def zd:DR:=dr "wrapped" ["n"] λ _ _=>False
noncomputable abbrev zO:Tf:=λ _ _=>False
noncomputable def WT:Tf:=λ ts Q=>∃n,ts=[.int n]/\Q (.int (jC n))
noncomputable def zc0:Ct:=(.ret (.ad (.md (.sb V0 (.g 0)) (.bin .Pow N2 (.n 64))) (.g 0)))
noncomputable def XD:Tf:=λ ts Q=>∃n:Int,ts=[.int n]/\Q (.int (if n<0 then -1 else if 0<n then 1 else 0))
noncomputable def zc1:Ct:=(.r (.lt V0 N0) (.neg N1) (.ret (.ite (.gt V0 N0) N1 N0)))
noncomputable def XG:Tf:=λ ts Q=>∃x y:Int,ts=[.int x,.int y]/\UW x/\UW y/\Q (.int (sv x y))
noncomputable def zc2:Ct:=(.r (.eq V1 N0) N0 (.ret (.c1 0 (.dv V0 V1))))
noncomputable def XH:Tf:=λ ts Q=>∃x y:Int,ts=[.int x,.int y]/\Q (.int (sw x y))
noncomputable def zc3:Ct:=(.ret (.ite (.eq V1 N0) V0 (.md V0 V1)))
noncomputable def XI:Tf:=λ ts Q=>∃(w:Str) (x:Int),ts=[.str w,.int x]/\w∈mC/\Q (.int (xQ w x))
noncomputable def zc4:Ct:=(.r (.es V0 "neg") (.c1 0 (.neg V1)) (.r (.es V0 "abs") (.c1 0 (.b1 .abs V1)) (.r (.es V0 "sign") (.c1 1 V1) (.r (.es V0 "not") (.ite (.eq V1 N0) N1 N0) .never))))
noncomputable def XJ:Tf:=λ ts Q=>∃(w:Str) (x y:Int),ts=[.str w,.int x,.int y]/\UW x/\UW y/\w∈mD/\Q (.int (xO w x y))
noncomputable def zc5:Ct:=(.r (.es V0 "add") (.c1 0 (.ad V1 V2)) (.r (.es V0 "sub") (.c1 0 (.sb V1 V2)) (.r (.es V0 "mul") (.c1 0 (.ml V1 V2)) (.r (.es V0 "quo") (.c2 2 V1 V2) (.r (.es V0 "rest") (.c2 3 V1 V2) (.r (.es V0 "max") (.b2 .max V1 V2) (.r (.es V0 "min") (.b2 .min V1 V2) (.r (.es V0 "less") (.ite (.lt V1 V2) N1 N0) (.r (.es V0 "like") (.ite (.eq V1 V2) N1 N0) (.r (.es V0 "and") (.bin .BitAnd V1 V2) (.r (.es V0 "or") (.bin .BitOr V1 V2) (.r (.es V0 "xor") (.bin .BitXor V1 V2) .never))))))))))))
noncomputable def XM:Tf:=λ ts Q=>∃(w:Str),ts=[.str w]/\Vy w/\Q (.int (dJ w))
noncomputable def zc6:Ct:=(.r (.cmp .In V0 (.t3 (.w "add") (.w "or") (.w "xor"))) N0 (.r (.es V0 "mul") N1 (.r (.es V0 "max") (.g 0) (.r (.es V0 "min") (.g 1) (.r (.es V0 "and") (.neg N1) .never)))))
noncomputable def XN:Tf:=λ ts Q=>∃i:Nat,i<15/\ts=[.str (kJ i)]/\Q (.lst ((xR i).map .int))
noncomputable def zc7:Ct:=(.ret (.compI ["kind","place"] [] [] [0,1] .seq (.a1 (.dk 6 V0)) (.es V0 "step") V1))
noncomputable def XO:Tf:=λ ts Q=>∃d:Stp,ts=[Tq d]/\Q (tI ((ar d).map λ a:Nat=>(a:Int)))
noncomputable def zc8:Ct:=(.ret (.b1 .tuple (.comp ["place"] ["step"] [0] [0] .seq (.a1 (.c1 7 (.x 0 0))) (.ix V1 V0))))
noncomputable def XQ:Tf:=λ ts Q=>∃(t:TV) (ds:List Stp) (es:LI),ts=[t,tI es]/\t=.tup (ds.map Tq)/\ds.length<=40/\(∀e∈es,0<=e/\e<(ds.length:Int))/\(∀d∈ds,∀a∈ar d,a<ds.length)/\Q (.lst ((aV ds es).map λ k=>.int (k:Nat)))
noncomputable def zc9:Ct:=(.set 2 (.comp ["step"] [] [] [0] .seq (.a1 V0) (.c (.bl Ol))) (.for [3] .seq (.a1 V1) (.put 2 V3 (.c (.bl Oi)) .nil) (.for [4] .rng3 (.a3 (.sb (.ln V0) N1) (.neg N1) (.neg N1)) (.i (.ix V2 V4) (.for [5] .seq (.a1 (.c1 8 (.ix V0 V4))) (.put 2 V5 (.c (.bl Oi)) .nil) .nil) .nil) (.ret (.compI ["k"] ["reached"] [2] [0] .rng (.a1 (.ln V0)) (.ix V1 V0) V0)))))
noncomputable def ze:Tf:=λ ts Q=>∃(t:TV),ts=[t]/\∃ns,(t=tI ns\/t=lI ns)/\bS ns/\Q (.int (ai ns))
noncomputable def Kw:Ct:=(.set 1 N1 (.for [2] .seq (.a1 V0) (.set 1 (.ml V1 V2) .nil) (.ret V1)))
noncomputable def zi:Tf:=λ ts Q=>∃ns,ts=[tI ns]/\bS ns/\ns.length<=63/\Q (.int (ai (ns.map aq)))
noncomputable def Kx:Ct:=(.ret (.c1 10 (.comp ["side"] [] [] [0] .seq (.a1 V0) (.ite (.ne V0 N0) V0 N1))))
noncomputable def zk:Tf:=λ ts Q=>∃ns,ts=[tI ns]/\bS ns/\ns.length<=63/\¬cX ns/\Q (tI ns)
noncomputable def Ky:Ct:=(.nv (.gt (.ln V0) (.g 2)) (.nv (.gt (.c1 11 V0) (.g 3)) (.ret V0)))
noncomputable def zm:Tf:=λ ts Q=>∃ns,ts=[tI ns]/\bS ns/\ns.length<=63/\Q (tI (UC ns ns.length).reverse)
noncomputable def Kz:Ct:=(.set 1 .l0 (.set 2 N1 (.for [3] (.rev Oi) (.a1 V0) (.met .append 1 (.a1 V2) (.set 2 (.ml V2 V3) .nil)) (.ret (.trev Ol V1)))))
noncomputable def zn:Tf:=λ ts Q=>∃(ns:LI) (k:Nat) (m:Int),ts=[tI ns,.int k,.int m]/\ns.length<=63/\k<ns.length/\Q (tI (ns.set k m))
noncomputable def KA:Ct:=(.ret (.ad (.ad (.st V0 V1) (.t1 V2)) (.sf V0 (.ad V1 N1))))
noncomputable def zq:Tf:=λ ts Q=>∃(ns:LI) (k:Nat) (m:Int),ts=[tI ns,.int k,.int m]/\ns.length<=63/\Q (tI (bF ns k m))
noncomputable def KC:Ct:=(.ret (.ad (.ad (.st V0 V1) (.t1 V2)) (.sf V0 V1)))
noncomputable def zr:Tf:=λ ts Q=>∃(ns:LI) (k:Nat),ts=[tI ns,.int k]/\ns.length<=63/\k<ns.length/\Q (tI (ns.eraseIdx k))
noncomputable def KD:Ct:=(.ret (.ad (.st V0 V1) (.sf V0 (.ad V1 N1))))
noncomputable def zu:Tf:=λ ts Q=>∃(ns:LI) (side:Int),ts=[tI ns,.int side]/\¬Uf ns side/\Q .non
noncomputable def KE:Ct:=(.nv (.or (.lt V1 N0) (.ge V1 (.ln V0))) .nil)
noncomputable def zw:Tf:=λ ts Q=>∃(ns os:LI),ts=[tI ns,tI os]/\ns.length<=20/\os.length<=20/\jD ns.length os/\Q (tI (bT ns os))
noncomputable def KF:Ct:=(.nv (.ne (.b1 .sorted V1) (.lrng Ol (.ln V0))) (.ret (.b1 .tuple (.comp ["side"] ["sides"] [0] [0] .seq (.a1 V1) (.ix V1 V0)))))
noncomputable def zx:Tf:=λ ts Q=>∃(ns:LI) (side:Int),ts=[tI ns,.int side]/\¬Uf ns side/\Q (tI ns)
noncomputable def KG:Ct:=(.ex (.c2 17 V0 V1) (.ret V0))
noncomputable def zy:Tf:=λ ts Q=>∃(ns:LI) (side first many step:Int),ts=[tI ns,.int side,.int first,.int many,.int step]/\ns.length<=63/\-100<many/\many<1000000/\¬Uf ns side/\¬Vg ns side first many step/\Q (tI (ns.set side.toNat many))
noncomputable def KH:Ct:=(.ex (.c2 17 V0 V1) (.nv (.or (.lt V2 N0) (.or (.lt V3 N0) (.lt V4 N1))) (.nv (.and (.gt V3 N0) (.ge (.ad V2 (.ml (.sb V3 N1) V4)) (.ix V0 V1))) (.ret (.c3 14 V0 V1 V3)))))
noncomputable def zz:Tf:=λ ts Q=>∃(ns:LI) (side many:Int),ts=[tI ns,.int side,.int many]/\bS ns/\ns.length<=20/\many<1000000/\¬jE ns side/\¬many<0/\¬cX (bF ns side.toNat many)/\Q (tI (bF ns side.toNat many))
noncomputable def KJ:Ct:=(.nv (.or (.lt V1 N0) (.gt V1 (.ln V0))) (.nv (.lt V2 N0) (.ret (.c1 12 (.c3 15 V0 V1 V2)))))
noncomputable def zA:Tf:=λ ts Q=>∃(ns ms:LI),ts=[tI ns,tI ms]/\bS ns/\bS ms/\ms.length<=20/\¬cX ms/\ai ns=ai ms/\Q (tI ms)
noncomputable def KL:Ct:=(.ex (.c1 12 V1) (.nv (.ne (.c1 10 V0) (.c1 10 V1)) (.ret V1)))
noncomputable def zB:Tf:=λ ts Q=>∃(ns ms:LI) (side:Int),ts=[tI ns,tI ms,.int side]/\sm ns/\sm ms/\ns.length<=20/\ns.length=ms.length/\¬Uf ns side/\ns.eraseIdx side.toNat=ms.eraseIdx side.toNat/\¬cX (fR ns ms side)/\Q (tI (fR ns ms side))
noncomputable def KM:Ct:=(.nv (.ne (.ln V0) (.ln V1)) (.ex (.c2 17 V0 V2) (.nv (.ne (.c2 16 V0 V2) (.c2 16 V1 V2)) (.ret (.c1 12 (.c3 14 V0 V2 (.ad (.ix V0 V2) (.ix V1 V2))))))))
noncomputable def zD:Tf:=λ ts Q=>∃(ns ms:LI),ts=[tI ns,tI ms]/\ms.take ns.length=ns/\Q (tI ms)
noncomputable def KN:Ct:=(.nv (.ne (.st V1 (.ln V0)) V0) (.ret V1))
noncomputable def zE:Tf:=λ ts Q=>∃(ns ms:LI),ts=[tI ns,tI ms]/\cu ns ms/\Q (tI (bQ ns ms))
noncomputable def KO:Ct:=(.r (.gt (.ln V0) (.ln V1)) (.c2 24 V1 V0) (.ret (.c2 24 V0 V1)))
noncomputable def zF:Tf:=λ ts Q=>∃(ns ms ks:LI),ts=[tI ns,tI ms,tI ks]/\cu ns ms/\cu (bQ ns ms) ks/\Q (tI (bQ (bQ ns ms) ks))
noncomputable def KP:Ct:=(.ret (.c2 25 (.c2 25 V0 V1) V2))
noncomputable def zG:Tf:=λ ts Q=>∃(n:Int) (r ms:LI),ts=[tI (n::r),tI ms]/\bS (n::r)/\bS ms/\r.length<20/\ms.length<=20/\n≠0/\¬cX (ms++r)/\Q (tI (ms++r))
noncomputable def KQ:Ct:=(.nv (.eq (.ln V0) N0) (.nv (.eq (.x 0 0) N0) (.ret (.c1 12 (.ad V1 (.sf V0 N1))))))
noncomputable def zH:Tf:=λ ts Q=>∃(ns:LI) (side:Int),ts=[tI ns,.int side]/\ns.length<=63/\¬Uf ns side/\Q (tI (ns.eraseIdx side.toNat))
noncomputable def KR:Ct:=(.ex (.c2 17 V0 V1) (.ret (.c2 16 V0 V1)))
noncomputable def zI:Tf:=λ ts Q=>∃(ns:LI) (side:Int),ts=[tI ns,.int side]/\bS ns/\ns.length<=20/\¬cX ns/\¬Uf ns side/\Q (tI ns)
noncomputable def KS:Ct:=(.ex (.c1 12 V0) (.ex (.c2 17 V0 V1) (.ret V0)))
noncomputable def zJ:Tf:=λ ts Q=>∃d:Stp,ts=[Tq d]/\yk d/\Q .non
noncomputable def KU:Ct:=(.i (.es (.x 0 0) "each") (.ex (.c2 4 (.x 0 1) N0) .nil) (.i (.es (.x 0 0) "pair") (.ex (.c3 5 (.x 0 1) N0 N0) .nil) (.i (.cmp .In (.x 0 0) (.t2 (.w "fold") (.w "run"))) (.ex (.c1 6 (.x 0 1)) .nil) .nil)))
noncomputable def zK:Tf:=λ ts Q=>∃(d:Stp) (S:LI) (Ss:LL),ts=[Tq d]/\TQ d<3/\Uk Ss S d/\fit S/\Q (tI S)
noncomputable def KW:Ct:=(.r (.es (.x 0 0) "in") (.c1 12 (.x 0 1)) (.r (.es (.x 0 0) "count") (.c2 29 (.x 0 1) (.x 0 2)) (.ret .t0)))
noncomputable def zM:Tf:=λ ts Q=>∃(d:Stp) (S A:LI) (Ss:LL) (a:Nat),ts=[Tq d,tI A]/\ar d=[a]/\Ss[a]?=Oh A/\fit A/\Uk Ss S d/\fit S/\Q (tI S)
noncomputable def KY:Ct:=(.set 2 (.x 0 0) (.r (.es V2 "turn") (.c2 18 V1 (.x 0 2)) (.r (.es V2 "flip") (.c2 19 V1 (.x 0 2)) (.r (.es V2 "cut") (.call 20 (.cons V1 (.cons (.x 0 2) (.cons (.x 0 3) (.cons (.x 0 4) (.cons (.x 0 5) .nil)))))) (.r (.es V2 "spread") (.c3 21 V1 (.x 0 2) (.x 0 3)) (.r (.es V2 "lay") (.c2 22 V1 (.x 0 2)) (.r (.es V2 "fold") (.c2 28 V1 (.x 0 3)) (.r (.es V2 "run") (.c2 19 V1 (.x 0 3)) (.ret V1)))))))))
noncomputable def zN:Tf:=λ ts Q=>∃(t:TV) (d:Stp) (S:LI) (Ss:LL),ts=[Tq d,t]/\t=.lst (Ss.map tI)/\(∀T∈Ss,fit T)/\Uk Ss S d/\fit S/\Q (tI S)
noncomputable def KZ:Ct:=(.ex (.c1 30 V0) (.set 2 (.comp ["number"] ["sides"] [1] [0] .seq (.a1 (.c1 8 V0)) (.ix V1 V0)) (.set 3 (.x 0 0) (.r (.eq (.ln V2) N0) (.c1 31 V0) (.r (.eq (.ln V2) N1) (.c2 32 V0 (.x 2 0)) (.r (.es V3 "pair") (.c2 25 (.x 2 0) (.x 2 1)) (.r (.es V3 "join") (.c3 23 (.x 2 0) (.x 2 1) (.x 0 3)) (.r (.es V3 "fetch") (.c2 27 (.x 2 0) (.x 2 1)) (.ret (.c3 26 (.x 2 0) (.x 2 1) (.x 2 2)))))))))))
noncomputable def zP:Tf:=λ ts Q=>∃(t:TV) (d:Stp) (S:LI) (Ss:LL),ts=[Tq d,t]/\t=.lst (Ss.map tI)/\(∀T∈Ss,fit T)/\Ss.length<40/\Uk Ss S d/\fit S/\Q (.tup [tI S,.non])
noncomputable def La:Ct:=(.set 2 (.ln V1) (.r (.ge V2 (.g 4)) (.t2 (.c .non) (.w "many")) (.r (.b1 .any (.comp ["number"] ["k"] [2] [0] .seq (.a1 (.c1 8 V0)) (.or (.lt V0 N0) (.ge V0 V1)))) (.t2 (.c .non) (.w "name")) (.tri (.ret (.t2 (.c2 33 V0 V1) (.c .non))) .nil))))
noncomputable def zQ:Tf:=λ ts Q=>∃(ds:List Stp) (Ss:LL) (os:LI) (mo:Int),ts=[.tup [.tup (ds.map Tq),tI os]]/\gU mo ds Ss os/\Q (.tup [.tup (Ss.map tI),.non])
noncomputable def Lb:Ct:=(.set 1 (.x 0 0) (.set 2 (.x 0 1) (.set 3 .l0 (.for [4] .seq (.a1 V1) (.set 5 (.c2 34 V4 V3) (.r (.cmp .IsNot (.x 5 1) (.c .non)) (.t2 (.b1 .tuple V3) (.t2 (.ln V3) (.x 5 1))) (.met .append 3 (.a1 (.x 5 0)) .nil))) (.r (.or (.not (.cm2 .LtE .LtE N1 (.ln V2) (.g 5))) (.b1 .any (.comp ["out"] ["steps"] [1] [0] .seq (.a1 V2) (.or (.lt V0 N0) (.ge V0 (.ln V1)))))) (.t2 (.b1 .tuple V3) (.t2 (.ln V1) (.w "out"))) (.ret (.t2 (.b1 .tuple V3) (.c .non))))))))
noncomputable def zR:Tf:=λ ts Q=>∃(ds:List Stp) (Ss:LL) (os:LI) (mo:Int),ts=[.tup [.tup (ds.map Tq),tI os]]/\gU mo ds Ss os/\Q (.tup (Ss.map tI))
noncomputable def Lc:Ct:=(.set 1 (.c1 35 V0) (.set 2 (.x 1 1) (.nv (.cmp .IsNot V2 (.c .non)) (.ret (.x 1 0)))))
noncomputable def zU:Tf:=λ ts Q=>∃ns,ts=[tI ns]/\bS ns/\ns.length<=63/\Q (Uj ns 0 (aK ns))
noncomputable def Ld:Ct:=(.ret (.t3 V0 N0 (.c1 13 V0)))
noncomputable def zV:Tf:=λ ts Q=>∃(ns ss os:LI) (b:Int),ts=[Uj ns b ss,tI os]/\ns.length<=6/\ns.length<=ss.length/\ss.length<=60/\jD ns.length os/\Q (Uj (bT ns os) b (bT ss os++ss.drop ns.length))
noncomputable def Le:Ct:=(.set 2 (.c2 18 (.x 0 0) V1) (.set 3 (.x 0 2) (.set 4 (.b1 .tuple (.comp ["side"] ["strides"] [3] [0] .seq (.a1 V1) (.ix V1 V0))) (.ret (.t3 V2 (.x 0 1) (.ad V4 (.sf V3 (.ln V2))))))))
noncomputable def zW:Tf:=λ ts Q=>∃(ns ss:LI) (b:Int) (k:Nat),ts=[Uj ns b ss,.int k]/\ns.length<=6/\ns.length<=ss.length/\ss.length<=60/\k<ns.length/\(∀n∈ns,0<=n/\n<=512)/\Q (Uj ns (b+(ns.getD k 0-1)*ss.getD k 0) (ss.set k (-ss.getD k 0)))
noncomputable def Lf:Ct:=(.set 2 (.c2 19 (.x 0 0) V1) (.set 3 (.ix (.x 0 2) V1) (.set 4 (.ad (.x 0 1) (.ml (.sb (.ix V2 V1) N1) V3)) (.fz 4 (.ret (.t3 V2 V4 (.c3 14 (.x 0 2) V1 (.neg V3))))))))
noncomputable def zX:Tf:=λ ts Q=>∃(ns ss:LI) (b f m g:Int) (k:Nat),ts=[Uj ns b ss,.int k,.int f,.int m,.int g]/\ns.length<=6/\ns.length<=ss.length/\ss.length<=60/\k<ns.length/\(m<=512/\f<=512/\g<=512)/\¬Vg ns k f m g/\Q (Uj (ns.set k m) (b+f*ss.getD k 0) (ss.set k (ss.getD k 0*g)))
noncomputable def Lg:Ct:=(.set 5 (.call 20 (.cons (.x 0 0) (.cons V1 (.cons V2 (.cons V3 (.cons V4 .nil)))))) (.set 6 (.ix (.x 0 2) V1) (.ret (.t3 V5 (.ad (.x 0 1) (.ml V2 V6)) (.c3 14 (.x 0 2) V1 (.ml V6 V4))))))
noncomputable def zY:Tf:=λ ts Q=>∃(ns ss:LI) (b m:Int) (k:Nat),ts=[Uj ns b ss,.int k,.int m]/\bS ns/\ns.length<=6/\ns.length<=ss.length/\ss.length<=60/\k<=ns.length/\0<=m/\m<1000000/\¬cX (bF ns k m)/\Q (Uj (bF ns k m) b (bF ss k 0))
noncomputable def Lh:Ct:=(.set 3 (.c3 21 (.x 0 0) V1 V2) (.ret (.t3 V3 (.x 0 1) (.c3 15 (.x 0 2) V1 N0))))
noncomputable def zZ:Tf:=λ ts Q=>∃(ns ms ss:LI) (b:Int),ts=[Uj ns b ss,tI ms]/\ms.take ns.length=ns/\ns.length<=6/\ms.length<=6/\ss.length<=60/\Q (Uj ms b (cZ ns.length (ms.length-ns.length) b ss).2)
noncomputable def Li:Ct:=(.ex (.c2 24 (.x 0 0) V1) (.set 2 (.ln (.x 0 0)) (.set 3 (.x 0 2) (.set 4 (.ml (.t1 N0) (.sb (.ln V1) V2)) (.ret (.t3 V1 (.x 0 1) (.ad (.ad (.st V3 V2) V4) (.sf V3 V2))))))))
noncomputable def Aa:Tf:=λ ts Q=>∃(ns ss:LI) (b:Int) (k:Nat),ts=[Uj ns b ss,.int k]/\ns.length<=6/\ns.length<=ss.length/\ss.length<=60/\k<ns.length/\Q (Uj (ns.eraseIdx k) b (cH ns.length k b ss).2)
noncomputable def Lj:Ct:=(.set 2 (.c2 28 (.x 0 0) V1) (.set 3 (.x 0 2) (.ret (.t3 V2 (.x 0 1) (.c3 15 (.c2 16 V3 V1) (.ln V2) (.ix V3 V1))))))
noncomputable def Ab:Tf:=λ ts Q=>∃(d:Stp) (A S ss:LI) (b:Int) (Ss:LL),ts=[Tq d,Uj A b ss]/\VO d/\Ss[(ar d).headD 0]?=Oh A/\fit A/\Uk Ss S d/\A.length<=ss.length/\ss.length<=60/\Q (Uj S (bW A d b ss).1 (bW A d b ss).2)
noncomputable def Lk:Ct:=(.r (.es (.x 0 0) "turn") (.c2 38 V1 (.x 0 2)) (.r (.es (.x 0 0) "flip") (.c2 39 V1 (.x 0 2)) (.r (.es (.x 0 0) "cut") (.call 40 (.cons V1 (.cons (.x 0 2) (.cons (.x 0 3) (.cons (.x 0 4) (.cons (.x 0 5) .nil)))))) (.ret (.c3 41 V1 (.x 0 2) (.x 0 3))))))
noncomputable def Ac:Tf:=λ ts Q=>∃t:Tr,ts=[Tl t]/\Q (.bl (match t with|.num _=>Oi|.idx _ _=>Oi|.read _ _ _=>Oi|_=>Ol))
noncomputable def Ll:Ct:=(.ret (.cmp .In (.x 0 0) (.t3 (.w "num") (.w "index") (.w "read"))))
noncomputable def Ad:Tf:=λ ts Q=>∃t:Tr,ts=[Tl t]/\Q (.tup ((Vi t).map Tl))
noncomputable def Lm:Ct:=(.set 1 (.x 0 0) (.r (.es V1 "pick") (.sf V0 N1) (.r (.cmp .In V1 (.t2 (.w "each") (.w "pair"))) (.sf V0 N2) (.r (.es V1 "fold") (.sf V0 N3) (.r (.es V1 "fetch") (.sf V0 N6) (.ret .t0))))))
noncomputable def Ae:Tf->Tf:=λ Φ ts Q=>∃(t:Tr) (g:Gf),ts=[Tl t]/\XA Φ g (WQ t)/\Q (.tup (Wu (rm g t)))
noncomputable def Ln:Ct:=(.set 2 (.x 0 0) (.r (.es V2 "index") (.ad (.t1 (.w "index")) (.ap 1 47 (.a2 (.x 0 1) (.x 0 2)))) (.r (.es V2 "read") (.ad (.t2 (.w "read") (.x 0 1)) (.ap 1 47 (.a2 (.x 0 2) (.x 0 3)))) (.i (.es V2 "fetch") (.set 3 (.ap 1 47 (.a2 (.x 0 2) (.x 0 5))) (.ret (.tup (.cons (.w "fetch") (.cons (.x 0 1) (.cons (.x 3 0) (.cons (.x 0 3) (.cons (.x 0 4) (.cons (.x 3 1) .nil))))))))) (.ret (.st V0 (.sb (.ln V0) (.ln (.c1 46 V0)))))))))
noncomputable def mR:Nat->Tf->Tf:=λ d=>match d with|0=>λ _ _ _=>False|d+1=>λ Φ ts Q=>∃(t:Tr) (g:Gf),ts=[Tl t]/\Tt t<=d/\XA Φ g (TJ t)/\Q (Tl (rm g t))
noncomputable def Lo:Ct:=(.set 2 .l0 (.for [3] .seq (.a1 (.c1 46 V0)) (.met .append 2 (.a1 (.cf 1 48 "remade" V3)) .nil) (.ret (.ad (.cf 1 48 "root_remade" V0) (.b1 .tuple V2)))))
noncomputable def Af:Tf:=λ ts Q=>∃(ds:List Stp) (Ss:LL) (os:LI) (mo:Int),ts=[.tup [.tup (ds.map Tq),tI os]]/\gU mo ds Ss os/\Q (.lst ((aV ds os).map λ k=>.int (k:Nat)))
noncomputable def Lp:Ct:=(.ret (.c2 9 (.x 0 0) (.x 0 1)))
noncomputable def Ag:Tf:=λ ts Q=>∃(ds:List Stp) (Ss:LL) (os:LI) (mo:Int),ts=[.tup [.tup (ds.map Tq),tI os]]/\gU mo ds Ss os/\Q (.lst ((dL ds os).map λ l=>.lst (l.map kT)))
noncomputable def Lq:Ct:=(.set 1 (.x 0 0) (.nl 2 ["step"] .seq (.a1 V1) (.for [3] .seq (.a1 (.c1 91 V0)) (.for [4,5] (.enum Oi) (.a1 (.c1 8 (.ix V1 V3))) (.pu 2 5 (.t2 V3 V4) .nil) .nil) (.fu 2 (.ret V2)))))
noncomputable def pM:Tf->Tf:=λ Φ ts Q=>∃(t:Tr) (S:LI) (h:Gf),ts=[Tl t,tI S]/\Tt t<=41/\isM Φ S h (TJ t)/\Q (Tl (rm h t))
noncomputable def Lr:Cd:=(.a1 V0)
noncomputable def Lu:Cd:=(.sf (.ap 3 46 (.a1 (.t3 V2 V0 V1))) N1)
noncomputable def Ah:Tf:=λ ts Q=>∃(t:Tr) (S L:LI),ts=[Tl t,tI S,tI L]/\Tt t<=41/\fk S.length t/\L.take S.length=S/\S.length<=6/\L.length<=6/\Q (Tl (rm (cZ S.length (L.length-S.length)) t))
def Lv:Ct:=.nil
noncomputable def Lw:Cd:=(.a2 V0 V1)
noncomputable def Lx:Cd:=(.c2 42 V0 V1)
noncomputable def Ai:Tf:=λ ts Q=>∃(t:Tr) (S:LI) (k:Nat),ts=[Tl t,tI S,.int k]/\Tt t<=41/\fk S.length t/\S.length<=6/\k<S.length/\Q (Tl (rm (cH S.length k) t))
def Ly:Ct:=.nil
noncomputable def Lz:Cd:=(.a2 V0 V1)
noncomputable def LB:Cd:=(.c2 43 V0 V1)
noncomputable def Aj:Tf:=λ ts Q=>∃(st:Int) (S:LI),ts=[.int st,tI S]/\bS S/\S.length<=63/\Q (Tl (.read st 0 (aK S)))
noncomputable def LC:Ct:=(.ret (.tup (.cons (.w "read") (.cons V0 (.cons N0 (.cons (.c1 13 V1) .nil))))))
noncomputable def Ak:Tf:=λ ts Q=>∃(a b:Nat) (n:Int) (r B S ss:LI) (st s:Int) (t:Tr) (Ss:LL) (Ts:List (Option Tr)),ts=[Tq (.fetch a b),tI S,.tup (Ss.map tI),.lst (Ts.map Uc)]/\Ss[a]?=Oh (n::r)/\Ss[b]?=Oh B/\Ts[a]?=Oh (Oh (.read st s ss))/\Ts[b]?=Oh (Oh t)/\0<ss.length/\ss.length<=60/\B.length<=6/\S.length<=6/\S.take B.length=B/\Tt t<=41/\fk B.length t/\Q (Tl (kS (.read st s ss) (n::r) B (rm (cZ B.length (S.length-B.length)) t)))
noncomputable def LD:Ct:=(.set 4 (.ix V3 (.x 0 1)) (.set 5 (.ix V2 (.x 0 2)) (.set 6 (.ad (.ml (.t1 N0) (.ln V5)) (.sf (.x 4 3) N1)) (.set 7 (.c3 94 (.ix V3 (.x 0 2)) V5 V1) (.fz 6 (.ret (.tup (.cons (.w "fetch") (.cons (.x 4 1) (.cons (.x 4 2) (.cons (.ix (.x 4 3) N0) (.cons (.ix (.ix V2 (.x 0 1)) N0) (.cons V6 (.cons V7 .nil))))))))))))))
noncomputable def Al:Tf:=λ ts Q=>∃(d:Stp) (S:LI) (Ss:LL) (Ts:List (Option Tr)),ts=[Tq d,tI S,.tup (Ss.map tI),.lst (Ts.map Uc)]/\Uk Ss S d/\(∀T∈Ss,fit T)/\fit S/\pE Ts Ss d/\Q (Uc (cJ Ts Ss S d))
noncomputable def LG:Ct:=(.set 4 (.x 0 0) (.set 5 (.c1 8 V0) (.r (.es V4 "num") V0 (.r (.es V4 "count") (.t3 (.w "index") N0 (.b1 .tuple (.comp ["side"] ["step"] [0] [0] .rng (.a1 (.ln V1)) (.ite (.eq V0 (.x 1 2)) N1 N0)))) (.i (.cmp .In V4 (.t3 (.w "each") (.w "pair") (.w "pick"))) (.set 6 (.st V0 (.sb (.ln V0) (.ln V5))) (.ret (.ad V6 (.b1 .tuple (.comp ["number"] ["own","trees","sides"] [1,3,2] [0] .seq (.a1 V5) (.c3 94 (.ix V2 V0) (.ix V3 V0) V1)))))) .nil)))))
noncomputable def LH:Cd:=(.a2 (.ix V3 (.x 5 0)) (.ix V2 (.x 5 0)))
noncomputable def Am:Cd:=(.c2 44 V1 V0)
noncomputable def LJ:Cd:=(.cmp .In V4 (.tup (.cons (.w "turn") (.cons (.w "flip") (.cons (.w "cut") (.cons (.w "spread") .nil))))))
noncomputable def LK:Ct:=(.r (.es V4 "lay") (.c2 96 (.ix (.ix V3 (.x 5 0)) N1) V1) (.r (.es V4 "fetch") (.call 97 (.cons V0 (.cons V1 (.cons V2 (.cons V3 .nil))))) (.i (.es V4 "fold") (.set 7 (.ix V2 (.x 5 0)) (.ret (.tup (.cons (.w "fold") (.cons (.x 0 1) (.cons (.ix V7 (.x 0 3)) (.cons (.c3 95 (.ix V3 (.x 5 0)) V7 (.x 0 3)) .nil))))))) (.ret (.c .non)))))
noncomputable def Ao:Tf:=λ ts Q=>∃(ds:List Stp) (Ss:LL) (k u:Nat) (p:Int) (d:Stp) (S A:LI),ts=[.int k,kT [(u:Int),p],.tup (ds.map Tq),.tup (Ss.map tI)]/\ds[u]?=Oh d/\Ss[u]?=Oh A/\Ss[k]?=Oh S/\Q (.bl (pF ds Ss k u p))
noncomputable def LM:Ct:=(.set 4 (.ix (.ix V2 (.x 1 0)) N0) (.set 5 (.or (.cmp .In V4 (.t2 (.w "pair") (.w "pick"))) (.and (.es V4 "fetch") (.eq (.x 1 1) N1))) (.ret (.and V5 (.gt (.ln (.ix V3 (.x 1 0))) (.ln (.ix V3 V0)))))))
noncomputable def Ap:Tf:=λ ts Q=>∃(ds:List Stp) (Ss:LL) (os:LI) (k:Nat) (d:Stp) (o:Option Tr) (us:LL) (S:LI),ts=[.int k,Uc o,.tup [.tup (ds.map Tq),tI os],.tup (Ss.map tI),.lst (us.map kT)]/\ds[k]?=Oh d/\Ss[k]?=Oh S/\ds.length=Ss.length/\(∀x∈us,∃u p:Nat,x=[(u:Int),(p:Int)]/\u<ds.length)/\us.length<=900/\(¬kW d->∃t,o=Oh t)/\(∀ms,d≠.inp ms)/\Q (.bl (kU ds Ss os k d o us))
noncomputable def LN:Ct:=(.set 5 (.x 2 0) (.r (.es (.ix (.ix V5 V0) N0) "lay") (.c (.bl Ol)) (.r (.or (.cmp .In (.ix (.ix V5 V0) N0) (.t2 (.w "run") (.w "join"))) (.cmp .In V0 (.x 2 1))) (.c (.bl Oi)) (.set 6 (.comp ["use"] ["steps"] [5] [0] .seq (.a1 V4) (.ix (.ix V1 (.x 0 0)) N0)) (.r (.cmp .In (.w "lay") V6) (.c (.bl Oi)) (.r (.and (.ne (.x 1 0) (.w "read")) (.b1 .any (.comp ["use"] ["steps"] [5] [0] .seq (.a1 V4) (.and (.es (.ix (.ix V1 (.x 0 0)) N0) "fetch") (.eq (.x 0 1) N0))))) (.c (.bl Oi)) (.r (.c1 45 V1) (.c (.bl Ol)) (.ret (.or (.gt (.ln V4) N1) (.or (.cmp .In (.w "spread") V6) (.b1 .any (.comp ["use"] ["k","steps","sides"] [0,5,3] [0] .seq (.a1 V4) (.call 99 (.cons V1 (.cons V0 (.cons V2 (.cons V3 .nil)))))))))))))))))
noncomputable def Aq:Tf:=λ ts Q=>∃(ds:List Stp) (Ss:LL) (os:LI) (mo:Int),ts=[.tup [.tup (ds.map Tq),tI os],.tup (Ss.map tI)]/\gU mo ds Ss os/\Q (WS (Th ds Ss os ds.length))
noncomputable def LP:Ct:=(.set 2 (.x 0 0) (.set 3 (.c1 91 V0) (.set 4 (.c1 92 V0) (.set 5 .l0 (.set 6 .l0 (.set 7 .l0 (.for [8,9] (.enum Oi) (.a1 V2) (.set 10 (.ite (.cmp .In V8 V3) (.call 98 (.cons V9 (.cons (.ix V1 V8) (.cons V1 (.cons V5 .nil))))) (.c .non)) (.met .append 6 (.a1 Ux) (.i (.or (.es (.x 9 0) "in") (.and (.cmp .In V8 V3) (.call 100 (.cons V8 (.cons Ux (.cons V0 (.cons V1 (.cons (.ix V4 V8) .nil)))))))) (.set 10 (.c2 96 (.ln V7) (.ix V1 V8)) (.met .append 7 (.a1 V8) .nil)) (.met .append 5 (.a1 Ux) .nil)))) (.fz 7 (.fz 6 (.fz 5 (.ret (.t3 V5 V6 V7))))))))))))
noncomputable def Ar:Tf:=λ ts Q=>∃(w:Str) (a k:Nat) (st:Int) (A:LI) (t:Tr) (Ss:LL) (Ts:List (Option Tr)),ts=[Tq (.run w a k),.int st,.tup (Ss.map tI),.lst (Ts.map Uc)]/\Ss[a]?=Oh A/\Ts[a]?=Oh (Oh t)/\fit A/\k<A.length/\Tt t<=41/\fk A.length t/\Q (Vk w st A k (Tl (rm (cH A.length k) t)))
noncomputable def LQ:Ct:=(.set 4 (.ix V2 (.x 0 2)) (.set 5 (.x 0 3) (.set 6 (.c2 43 (.c1 37 V4) V5) (.set 7 (.c3 95 (.ix V3 (.x 0 2)) V4 V5) (.ret (.tup (.cons (.w "run") (.cons (.x 0 1) (.cons V1 (.cons (.x 6 0) (.cons (.ix V4 V5) (.cons (.x 6 1) (.cons (.x 6 2) (.cons V7 .nil))))))))))))))
noncomputable def As:Tf:=λ ts Q=>∃(a b k:Nat) (st:Int) (A B S:LI) (ta tb:Tr) (Ss:LL) (Ts:List (Option Tr)),ts=[Tq (.join a b k),.int st,tI S,.tup (Ss.map tI),.lst (Ts.map Uc)]/\Ss[a]?=Oh A/\Ss[b]?=Oh B/\Ts[a]?=Oh (Oh ta)/\Ts[b]?=Oh (Oh tb)/\fit A/\fit S/\k<A.length/\S.length=A.length/\Q (.lst [dY st A 0 (aK S) (Tl ta),dY st B (A.getD k 0*(aK S).getD k 0) (aK S) (Tl tb)])
noncomputable def LR:Ct:=(.set 5 (.x 0 1) (.set 6 (.x 0 2) (.set 7 (.c1 13 V2) (.set 8 (.ml (.ix (.ix V3 V5) (.x 0 3)) (.ix V7 (.x 0 3))) (.fz 8 (.ret (.lst (.a2 (.tup (.cons (.w "fill") (.cons V1 (.cons (.ix V3 V5) (.cons N0 (.cons V7 (.cons (.ix V4 V5) .nil))))))) (.tup (.cons (.w "fill") (.cons V1 (.cons (.ix V3 V6) (.cons V8 (.cons V7 (.cons (.ix V4 V6) .nil)))))))))))))))
noncomputable def At:Tf:=λ ts Q=>∃(ds:List Stp) (Ss:LL) (os:LI) (mo:Int) (k:Nat) (st:Int),ts=[.int k,.int st,.tup [.tup (ds.map Tq),tI os],.tup (Ss.map tI),WS (Th ds Ss os ds.length)]/\gU mo ds Ss os/\k∈aV ds os/\bI (ds.getD k (.num 0))=Ol/\Q (.lst (UT Ss (Th ds Ss os ds.length).Ts (Tk Ss k) ((Th ds Ss os ds.length).Bs.getD k Oj) st (ds.getD k (.num 0))))
noncomputable def LS:Ct:=(.set 5 (.ix (.x 2 0) V0) (.set 6 (.x 4 0) (.r (.es (.x 5 0) "run") (.lst (.a1 (.call 102 (.cons V5 (.cons V1 (.cons V3 (.cons V6 .nil))))))) (.r (.es (.x 5 0) "join") (.call 103 (.cons V5 (.cons V1 (.cons (.ix V3 V0) (.cons V3 (.cons V6 .nil)))))) (.ret (.lst (.a1 (.tup (.cons (.w "fill") (.cons V1 (.cons (.ix V3 V0) (.cons N0 (.cons (.c1 13 (.ix V3 V0)) (.cons (.ix (.x 4 1) V0) .nil))))))))))))))
noncomputable def Au:Tf:=λ ts Q=>∃(ds:List Stp) (Ss:LL) (os:LI) (mo:Int),ts=[.tup [.tup (ds.map Tq),tI os]]/\gU mo ds Ss os/\Q (.lst ((fV ds (Th ds Ss os ds.length)).map λ k=>.int (k:Nat)))
noncomputable def LU:Ct:=(.set 1 (.ix (.c2 101 V0 (.c1 36 V0)) N2) (.ret (.compI ["k"] ["program"] [0] [0] .seq (.a1 V1) (.ne (.ix (.ix (.x 1 0) V0) N0) (.w "in")) V0)))
noncomputable def Av:Tf:=λ ts Q=>∃(ds:List Stp) (Ss:LL) (os:LI) (mo:Int),ts=[.tup [.tup (ds.map Tq),tI os]]/\gU mo ds Ss os/\Q (yR ds Ss os (Th ds Ss os ds.length))
noncomputable def LW:Ct:=(.set 1 (.c1 36 V0) (.set 2 (.c2 101 V0 V1) (.set 3 (.x 2 2) (.set 4 .l0 (.for [5,6] (.enum Ol) (.a1 V3) (.i (.ne (.ix (.ix (.x 0 0) V6) N0) (.w "in")) (.met (.extend Ol) 4 (.a1 (.call 104 (.cons V6 (.cons V5 (.cons V0 (.cons V1 (.cons V2 .nil))))))) .nil) .nil) (.set 7 (.b1 .tuple (.comp ["k"] ["sides"] [1] [0] .seq (.a1 V3) (.t2 V0 (.c1 10 (.ix V1 V0))))) (.set 8 (.b1 .tuple (.comp ["out"] ["sides","spun_trees"] [1,2] [0] .seq (.a1 (.x 0 1)) (.t2 (.ix (.ix (.x 2 0) V0) N1) (.ix V1 V0)))) (.ret (.t3 V7 (.b1 .tuple V4) V8)))))))))
noncomputable def Aw:Tf:=λ ts Q=>∃(t:TV) (ns:LI),ts=[t]/\(t=tI ns\/t=lI ns)/\bS ns/\Q (.int (ai ns))
noncomputable def LX:Ct:=(.set 1 N1 (.for [2] .seq (.a1 V0) (.set 1 (.ml V1 V2) .nil) (.ret V1)))
noncomputable def Ax:Tf:=λ ts Q=>∃ns:LI,ts=[tI ns]/\bS ns/\ns.length<=500/\Q (.int (ai (ns.map aq)))
noncomputable def LY:Ct:=(.ret (.c1 107 (.comp ["_law_length"] [] [] [0] .seq (.a1 V0) (.b2 .max N1 V0))))
noncomputable def Ay:Tf:=λ ts Q=>∃n:Int,ts=[.int n]/\Q (.int (mB n))
noncomputable def LZ:Ct:=(.r (.eq (.md V0 (.n 17)) N5) (.ix (.lst (.cons (.neg (.bin .Pow N2 (.n 63))) (.cons (.sb (.bin .Pow N2 (.n 63)) N1) (.cons (.neg N1) (.cons (.bin .Pow N2 (.n 62)) .nil))))) (.md (.dv V0 (.n 17)) N4)) (.ret (.sb (.md (.ad V0 (.bin .Pow N2 (.n 63))) (.bin .Pow N2 (.n 64))) (.bin .Pow N2 (.n 63)))))
noncomputable def Az:Tf:=λ ts Q=>∃(ks:LI) (d:Int),ts=[lI ks,.int d]/\0<ks.length/\ks.length<1000000/\∀k∈ks,Q (.int k)
noncomputable def Ma:Ct:=(.r (.eq (.md V1 N3) N0) (.ix V0 (.md (.dv V1 N3) (.ln V0))) (.ret (.ix V0 (.sb (.sb (.ln V0) N1) (.md (.dv V1 N3) (.b2 .min N3 (.ln V0)))))))
noncomputable def AA:Tf:=λ ts Q=>∃kd n cell mo:Int,ts=[.int kd,.int n,.int cell,.int mo]/\dq mo/\∀d S,(∀Ss,Uk Ss S d)->aU mo S->Q (Vh d S)
noncomputable def Mb:Ct:=(.r (.eq V0 N1) (.t2 (.t2 (.w "num") (.c1 109 V2)) .t0) (.set 4 .t0 (.set 5 (.dv V1 (.n 15)) (.for [6] .rng (.a1 (.md V5 N5)) (.set 5 (.dv V5 N5) (.set 7 (.dv V3 (.c1 108 V4)) (.set 8 (.b2 .min (.ix (.lst (.cons N2 (.cons N3 (.cons N1 (.cons N4 (.cons N2 (.cons N3 (.cons N0 .nil)))))))) (.md V5 N7)) V7) (.i (.eq (.md V5 Wm) VM) (.set 8 V7 .nil) (.set 4 (.ad V4 (.t1 V8)) .nil))))) (.i (.eq V0 N0) (.fz 4 (.ret (.t2 (.t2 (.w "in") V4) V4))) (.i (.eq V4 .t0) (.set 4 (.t1 (.b2 .min N3 V3)) .nil) (.fz 4 (.ret (.t2 (.t3 (.w "count") V4 (.md (.dv V1 (.n 15)) (.ln V4))) V4)))))))))
noncomputable def AB:Tf:=λ ts Q=>∃(ns ms:LI),ts=[tI ns,tI ms]/\∀b,(b=Oi ↔ cu ns ms)->Q (.bl b)
noncomputable def Mc:Ct:=(.set 2 (.b2 .min (.ln V0) (.ln V1)) (.ret (.eq (.st V0 V2) (.st V1 V2))))
noncomputable def AC:Tf:=λ ts Q=>∃(kd d0 d1 d2 mo:Int) (Ss:LL),ts=[.int kd,lI [d0,d1,d2],.lst (Ss.map tI)]/\0<Ss.length/\Ss.length<=40/\(∀S∈Ss,aU mo S)/\∀d S,Uk Ss S d->aU mo S->Q (Vh d S)
noncomputable def Me:Ct:=(.set 3 (.lrng Ol (.ln V2)) (.set 4 (.c2 110 V3 (.x 1 0)) (.r (.eq V0 N3) (.t2 (.t3 (.w "each") (.ix (.lst (.cons (.w "neg") (.cons (.w "abs") (.cons (.w "sign") (.cons (.w "not") .nil))))) (.md (.x 1 2) N4)) V4) (.ix V2 V4)) (.set 5 (.compI ["_law_k"] ["_law_sides","_law_a"] [2,4] [0] .seq (.a1 V3) (.c2 112 (.ix V1 V2) (.ix V1 V0)) V0) (.set 6 (.c2 110 V5 (.x 1 1)) (.set 7 (.mxl (.ix V2 V4) (.ix V2 V6)) (.i (.eq V0 N4) (.set 8 (.lst (.cons (.w "add") (.cons (.w "sub") (.cons (.w "mul") (.cons (.w "quo") (.cons (.w "rest") (.cons (.w "max") (.cons (.w "min") (.cons (.w "less") (.cons (.w "like") (.cons (.w "and") (.cons (.w "or") (.cons (.w "xor") .nil))))))))))))) (.ret (.t2 (.tup (.cons (.w "pair") (.cons (.ix V8 (.md (.x 1 2) (.n 12))) (.cons V4 (.cons V6 .nil))))) V7))) (.set 5 (.compI ["_law_k"] ["_law_sides","_law_b"] [2,6] [0] .seq (.a1 V5) (.c2 112 (.ix V1 V2) (.ix V1 V0)) V0) (.set 9 (.c2 110 V5 (.x 1 2)) (.ret (.t2 (.tup (.cons (.w "pick") (.cons V4 (.cons V6 (.cons V9 .nil))))) (.mxl V7 (.ix V2 V9)))))))))))))
noncomputable def AD:Tf:=λ ts Q=>∃(ns:LI) (d mo:Int),ts=[tI ns,.int d]/\aU mo ns/\dq mo/\Q (tI (jG ns d))
noncomputable def Mf:Ct:=(.set 2 (.c1 107 V0) (.r (.eq (.md V1 N4) N1) (.t1 V2) (.r (.and (.eq (.md V1 N4) N2) (.lt (.ln V0) N6)) (.ad (.t1 N1) V0) (.r (.and (.eq (.md V1 N4) N3) (.eq (.md V2 N2) N0)) (.t2 (.dv V2 N2) N2) (.ret (.trev Oi V0))))))
noncomputable def AE:Tf:=λ ts Q=>∃(kd d0 d1 d2 mo:Int) (a:Nat) (A:LI) (Ss:LL),ts=[.int kd,lI [d0,d1,d2],.int a,tI A,.int mo]/\Ss[a]?=Oh A/\aU mo A/\dq mo/\∀d S,Uk Ss S d->aU mo S->Q (Vh d S)
noncomputable def Mg:Ct:=(.i (.eq V0 N6) (.set 5 .l0 (.set 6 (.x 1 2) (.for [7] .rng (.a1 (.ln V3)) (.met .insert 5 (.a2 (.md V6 (.ad V7 N1)) V7) (.set 6 (.dv V6 (.ad V7 N1)) .nil)) (.ret (.t2 (.t3 (.w "turn") V2 (.b1 .tuple V5)) (.b1 .tuple (.comp ["_law_k"] ["_law_own"] [3] [0] .seq (.a1 V5) (.ix V1 V0)))))))) (.r (.eq V0 VM) (.t2 (.t3 (.w "lay") V2 (.c2 114 V3 (.x 1 2))) (.c2 114 V3 (.x 1 2))) (.i (.or (.eq V3 .t0) (.and (.eq V0 N9) (.lt (.ln V3) N6))) (.set 8 (.md (.x 1 1) (.ad (.ln V3) N1)) (.set 9 (.ad N1 (.md (.x 1 2) (.b2 .min N4 (.dv V4 (.c1 108 V3))))) (.i (.eq (.md (.x 1 2) N9) N8) (.set 9 N0 .nil) (.fz 9 (.fz 8 (.ret (.t2 (.tup (.cons (.w "spread") (.cons V2 (.cons V8 (.cons V9 .nil))))) (.ad (.ad (.st V3 V8) (.t1 V9)) (.sf V3 V8))))))))) (.set 10 (.md (.x 1 1) (.ln V3)) (.i (.ne V0 N8) (.fz 10 (.ret (.t2 (.t3 (.w "flip") V2 Ux) V3))) (.set 11 (.ad N1 (.md (.x 1 2) N3)) (.set 12 (.md (.dv (.x 1 2) N3) (.b2 .max N1 (.ix V3 Ux))) (.set 13 (.b2 .max N0 (.sb (.ad (.dv (.sb (.sb (.ix V3 Ux) N1) (.v 12)) Vf) N1) (.md (.dv (.x 1 2) (.n 300)) N3))) (.fz 11 (.fz 12 (.fz 10 (.ret (.t2 (.tup (.cons (.w "cut") (.cons V2 (.cons Ux (.cons (.v 12) (.cons (.v 13) (.cons Vf .nil))))))) (.ad (.ad (.st V3 Ux) (.t1 (.v 13))) (.sf V3 (.ad Ux N1))))))))))))))))
noncomputable def AF:Tf:=λ ts Q=>∃(A B:LI) (k:Nat),ts=[tI A,tI B,.int k]/\k<A.length/\A.length<=6/\B.length<=6/\Q (tI (fg A B k))
noncomputable def Mh:Ct:=(.r (.or (.ne (.ln V0) (.ln V1)) (.ne (.ad (.st V0 V2) (.sf V0 (.ad V2 N1))) (.ad (.st V1 V2) (.sf V1 (.ad V2 N1))))) .t0 (.ret (.ad (.ad (.st V0 V2) (.t1 (.ad (.ix V0 V2) (.ix V1 V2)))) (.sf V0 (.ad V2 N1)))))
noncomputable def AG:Tf:=λ ts Q=>∃(kd d0 d1 d2 mo:Int) (Ss:LL),ts=[.int kd,lI [d0,d1,d2],.lst (Ss.map tI),.int mo]/\(∃S∈Ss,0<S.length)/\11<=kd/\kd<=14/\Ss.length<=40/\(∀S∈Ss,aU mo S)/\dq mo/\∀d S,Uk Ss S d->aU mo S->Q (Vh d S)
noncomputable def Mi:Ct:=(.set 4 (.compI ["_law_k"] ["_law_sides"] [2] [0] .rng (.a1 (.ln V2)) (.ne (.ix V1 V0) .t0) V0) (.set 5 (.c2 110 V4 (.x 1 0)) (.set 6 (.ix V2 V5) (.set 7 (.md (.x 1 1) (.ln V6)) (.set 8 (.lst (.cons (.w "add") (.cons (.w "mul") (.cons (.w "max") (.cons (.w "min") (.cons (.w "and") (.cons (.w "or") (.cons (.w "xor") .nil)))))))) (.i (.eq V0 (.n 13)) (.fz 7 (.ret (.t2 (.tup (.cons (.w "fold") (.cons (.ix V8 (.md (.x 1 2) N7)) (.cons V5 (.cons V7 .nil))))) (.ad (.st V6 V7) (.sf V6 (.ad V7 N1)))))) (.i (.eq V0 (.n 14)) (.fz 7 (.ret (.t2 (.tup (.cons (.w "run") (.cons (.ix V8 (.md (.x 1 2) N7)) (.cons V5 (.cons V7 .nil))))) V6))) (.set 9 (.lst (.a1 .t0)) (.ite (.eq V0 Wm) (.set 9 (.comp ["_law_other"] ["_law_own","_law_side"] [6,7] [0] .seq (.a1 V2) (.c3 116 V1 V0 V2)) .nil) (.i (.gt (.x 6 0) N0) (.set 9 (.comp ["_law_other"] ["_law_own"] [6] [0] .seq (.a1 V2) (.ad V0 (.sf V1 N1))) .nil) .nil) (.set 10 (.compI ["_law_k"] ["_law_kind","_law_made","_law_own"] [0,9,6] [0] .rng (.a1 (.ln V9)) (.or (.and (.eq V1 (.n 12)) (.gt (.x 3 0) N0)) (.ne (.ix V2 V0) .t0)) V0) (.set 10 (.compI ["_law_k"] ["_law_most","_law_made"] [3,9] [0] .seq (.a1 Ux) (.and (.cmp .LtE (.ln (.ix V2 V0)) N6) (.cmp .LtE (.c1 108 (.ix V2 V0)) V1)) V0) (.i (.eq (.ln Ux) N0) (.fz 7 (.ret (.t2 (.t3 (.w "flip") V5 V7) V6))) (.set 11 (.c2 110 Ux (.x 1 2)) (.i (.eq V0 Wm) (.fz 7 (.ret (.t2 (.tup (.cons (.w "join") (.cons V5 (.cons Vf (.cons V7 .nil))))) (.ix V9 Vf)))) (.ret (.t2 (.t3 (.w "fetch") V5 Vf) (.ix V9 Vf)))))))))))))))))
noncomputable def AH:Tf:=λ ts Q=>∃(cell mo:Int) (Ss:LL),ts=[.int cell,.lst (Ss.map tI),.int mo]/\Ss.length<=40/\(∀S∈Ss,aU mo S)/\dq mo/\∀d S,Uk Ss S d->aU mo S->Q (Vh d S)
noncomputable def Mj:Ct:=(.set 3 (.md (.ml V0 (.n 48271)) (.n 2147483647)) (.set 4 (.md V3 (.n 15)) (.set 5 (.lst (.a3 (.md (.dv V3 (.n 15)) (.n 120)) (.md (.dv V3 (.n 1800)) (.n 120)) (.dv V3 (.n 216000)))) (.r (.or (.eq (.ln V1) N0) (.lt V4 N3)) (.call 111 (.cons (.md V4 N3) (.cons V3 (.cons V0 (.cons V2 .nil))))) (.r (.lt V4 N6) (.c3 113 V4 V5 V1) (.r (.and (.gt V4 VM) (.gt (.b1 .max (.comp ["_law_own"] [] [] [0] .seq (.a1 V1) (.ln V0))) N0)) (.call 117 (.cons V4 (.cons V5 (.cons V1 (.cons V2 .nil))))) (.set 6 (.c2 110 (.lrng Ol (.ln V1)) (.x 5 0)) (.ret (.call 115 (.cons (.b2 .min V4 (.sb VM (.b1 .int (.gt V4 VM)))) (.cons V5 (.cons V6 (.cons (.ix V1 V6) (.cons V2 .nil))))))))))))))
noncomputable def AI:Tf:=λ ts Q=>∃(cs:LI) (mo:Int),ts=[lI cs,.int mo]/\cs.length<=40/\dq mo/\∀ds Ss os,gU mo ds Ss os->Q (.tup [.tup (ds.map Tq),tI os,.lst (Ss.map tI)])
noncomputable def Ml:Ct:=(.set 2 .l0 (.set 3 .l0 (.for [4] .seq (.a1 V0) (.set 5 (.c3 118 V4 V3 V1) (.met .append 2 (.a1 (.x 5 0)) (.met .append 3 (.a1 (.x 5 1)) .nil))) (.i (.eq (.ln V2) N0) (.met .append 2 (.a1 (.t2 (.w "num") N0)) (.met .append 3 (.a1 .t0) .nil)) (.set 6 .l0 (.set 7 (.md (.ml (.b1 .sum V0) (.n 16807)) (.n 2147483647)) (.for [8] .rng (.a1 (.ix (.lst (.cons N1 (.cons N2 (.cons N3 (.cons N2 (.cons N1 (.cons N8 .nil))))))) (.md V7 N6))) (.set 7 (.md (.ad (.ml V7 (.n 48271)) Wm) (.n 2147483647)) (.met .append 6 (.a1 (.md (.dv V7 (.n 16)) (.ln V2))) .nil)) (.put 6 (.md V7 (.ln V6)) (.sb (.ln V2) N1) (.fz 3 (.ret (.t3 (.b1 .tuple V2) (.b1 .tuple V6) V3)))))))))))
noncomputable def AJ:Tf:=λ ts Q=>∃ns,ts=[tI ns]/\bS ns/\ns.length<=63/\Q (tI (aK ns))
noncomputable def Mm:Ct:=(.ret (.b1 .tuple (.comp ["_law_k"] ["_law_sides"] [0] [0] .rng (.a1 (.ln V0)) (.c1 107 (.sf V1 (.ad V0 N1))))))
noncomputable def AK:Tf:=λ ts Q=>∃(t:Tr) (S L:LI),ts=[Tl t,tI S,tI L]/\Tt t<=41/\fk S.length t/\L.take S.length=S/\S.length<=6/\L.length<=6/\Q (Tl (rm (cZ S.length (L.length-S.length)) t))
noncomputable def Mn:Ct:=(.set 3 (.sb (.ln V2) (.ln V1)) .nil)
noncomputable def Mp:Cd:=(.a1 V0)
noncomputable def Mq:Cd:=(.t2 V0 (.ad (.ad (.st V1 (.ln V2)) (.ml (.t1 N0) V3)) (.sf V1 (.ln V2))))
noncomputable def AL:Tf:=λ ts Q=>∃(t:Tr) (S:LI) (k:Nat),ts=[Tl t,tI S,.int k]/\Tt t<=41/\fk S.length t/\S.length<=6/\k<S.length/\Q (Tl (rm (cH S.length k) t))
noncomputable def Mr:Cd:=(.a1 V0)
noncomputable def Mt:Ct:=(.set 4 (.sf V1 (.ln V2)) (.ret (.t2 V0 (.ad (.ad (.ad (.st V1 V3) (.sl V1 (.ad V3 N1) (.ln V2))) (.t1 (.ix V1 V3))) V4))))
noncomputable def AM:Tf:=λ ts Q=>∃(d:Stp) (A S:LI) (t:Tr) (Ss:LL),ts=[Tq d,Tl t,tI A]/\VO d/\Ss[(ar d).headD 0]?=Oh A/\fit A/\Uk Ss S d/\Tt t<=41/\fk A.length t/\Q (Tl (rm (bW A d) t))
noncomputable def Mu:Cd:=(.a1 V1)
noncomputable def Mv:Ct:=(.set 4 (.x 2 2) (.r (.es (.x 2 0) "turn") (.t2 V0 (.ad (.b1 .tuple (.comp ["_law_side"] ["_law_strides_here"] [1] [0] .seq (.a1 (.x 2 2)) (.ix V1 V0))) (.sf V1 (.ln V3)))) (.r (.es (.x 2 0) "flip") (.t2 (.ad V0 (.ml (.sb (.ix V3 V4) N1) (.ix V1 V4))) (.ad (.ad (.st V1 V4) (.t1 (.neg (.ix V1 V4)))) (.sf V1 (.ad V4 N1)))) (.r (.es (.x 2 0) "cut") (.t2 (.ad V0 (.ml (.x 2 3) (.ix V1 V4))) (.ad (.ad (.st V1 V4) (.t1 (.ml (.x 2 5) (.ix V1 V4)))) (.sf V1 (.ad V4 N1)))) (.ret (.t2 V0 (.ad (.ad (.st V1 V4) (.t1 N0)) (.sf V1 V4))))))))
noncomputable def AN:Tf:=λ ts Q=>∃(a b:Nat) (n:Int) (r B S ss:LI) (st s:Int) (t:Tr) (Ss:LL) (Ts:List (Option Tr)),ts=[Tq (.fetch a b),.lst (Ts.map Uc),.lst (Ss.map tI),tI S]/\Ss[a]?=Oh (n::r)/\Ss[b]?=Oh B/\Ts[a]?=Oh (Oh (.read st s ss))/\Ts[b]?=Oh (Oh t)/\0<ss.length/\ss.length<=60/\B.length<=6/\S.length<=6/\S.take B.length=B/\Tt t<=41/\fk B.length t/\Q (Tl (kS (.read st s ss) (n::r) B (rm (cZ B.length (S.length-B.length)) t)))
noncomputable def Mw:Ct:=(.sets [4,5,6,7] (.ix V1 (.x 0 1)) (.set 8 (.ad (.ml (.t1 N0) (.ln (.ix V2 (.x 0 2)))) (.sf V7 N1)) (.set 9 (.c3 121 (.ix V1 (.x 0 2)) (.ix V2 (.x 0 2)) V3) (.fz 8 (.ret (.tup (.cons (.w "fetch") (.cons V5 (.cons V6 (.cons (.x 7 0) (.cons (.ix (.ix V2 (.x 0 1)) N0) (.cons V8 (.cons V9 .nil)))))))))))))
noncomputable def AO:Tf:=λ ts Q=>∃(d:Stp) (S:LI) (Ss:LL) (Ts:List (Option Tr)),ts=[Tq d,.lst (Ts.map Uc),.lst (Ss.map tI),tI S]/\Uk Ss S d/\(∀T∈Ss,fit T)/\fit S/\pE Ts Ss d/\¬kW d/\Q (Uc (cJ Ts Ss S d))
noncomputable def Mx:Ct:=(.set 4 (.x 0 0) (.r (.es V4 "num") (.t2 (.w "num") (.x 0 1)) (.r (.es V4 "count") (.t3 (.w "index") N0 (.b1 .tuple (.comp ["_law_k"] ["_law_step_here"] [0] [0] .rng (.a1 (.ln V3)) (.b1 .int (.eq V0 (.x 1 2)))))) (.r (.es V4 "each") (.t3 (.w "each") (.x 0 1) (.ix V1 (.x 0 2))) (.r (.es V4 "pair") (.ad (.t2 (.w "pair") (.x 0 1)) (.b1 .tuple (.comp ["_law_a"] ["_law_mine","_law_trees","_law_sides"] [3,1,2] [0] .seq (.a1 (.sf V0 N2)) (.c3 121 (.ix V2 V0) (.ix V3 V0) V1)))) (.r (.es V4 "pick") (.ad (.t1 (.w "pick")) (.b1 .tuple (.comp ["_law_a"] ["_law_mine","_law_trees","_law_sides"] [3,1,2] [0] .seq (.a1 (.sf V0 N1)) (.c3 121 (.ix V2 V0) (.ix V3 V0) V1)))) (.i (.es V4 "fold") (.set 5 (.ix V2 (.x 0 2)) (.ret (.tup (.cons (.w "fold") (.cons (.x 0 1) (.cons (.ix V5 (.x 0 3)) (.cons (.c3 122 (.ix V1 (.x 0 2)) V5 (.x 0 3)) .nil))))))) (.r (.es V4 "fetch") (.call 124 (.cons V0 (.cons V1 (.cons V2 (.cons V3 .nil))))) (.r (.es V4 "lay") (.tup (.cons (.w "read") (.cons (.ix (.ix V1 (.x 0 1)) N1) (.cons N0 (.cons (.c1 120 V3) .nil))))) (.ret (.c3 123 V0 (.ix V1 (.x 0 1)) (.ix V2 (.x 0 1)))))))))))))
noncomputable def AQ:Tf:=λ ts Q=>∃(d:Stp) (S:LI) (st:Int) (Ss:LL) (Ts:List (Option Tr)),ts=[Tq d,.int st,.lst (Ts.map Uc),.lst (Ss.map tI),tI S]/\Uk Ss S d/\(∀T∈Ss,fit T)/\fit S/\pE Ts Ss d/\bI d=Ol/\Q (.lst (UT Ss Ts S (cJ Ts Ss S d) st d))
noncomputable def Mz:Ct:=(.set 5 (.c1 120 V4) (.i (.es (.x 0 0) "run") (.set 6 (.x 0 3) (.set 7 (.ad (.st V4 V6) (.sf V4 (.ad V6 N1))) (.set 8 (.c3 122 (.ix V2 (.x 0 2)) V4 V6) (.fz 7 (.ret (.lst (.a1 (.tup (.cons (.w "run") (.cons (.x 0 1) (.cons V1 (.cons V7 (.cons (.ix V4 V6) (.cons N0 (.cons (.ad (.ad (.st V5 V6) (.sf V5 (.ad V6 N1))) (.t1 (.ix V5 V6))) (.cons V8 .nil)))))))))))))))) (.i (.es (.x 0 0) "join") (.set 9 (.ml (.ix (.ix V3 (.x 0 1)) (.x 0 3)) (.ix V5 (.x 0 3))) (.set 10 (.tup (.cons (.w "fill") (.cons V1 (.cons (.ix V3 (.x 0 1)) (.cons N0 (.cons V5 (.cons (.ix V2 (.x 0 1)) .nil))))))) (.fz 9 (.ret (.lst (.a2 Ux (.tup (.cons (.w "fill") (.cons V1 (.cons (.ix V3 (.x 0 2)) (.cons V9 (.cons V5 (.cons (.ix V2 (.x 0 2)) .nil))))))))))))) (.ret (.lst (.a1 (.tup (.cons (.w "fill") (.cons V1 (.cons V4 (.cons N0 (.cons V5 (.cons (.call 125 (.cons V0 (.cons V2 (.cons V3 (.cons V4 .nil))))) .nil)))))))))))))
def AR:Tf:=rY
noncomputable def MA:Ct:=(.sets [1,2,3] (.c2 119 (.st V0 (.n 39)) (.n 24)) (.set 4 (.c1 105 (.t2 V1 V2)) (.set 5 (.c1 91 (.t2 V1 V2)) (.set 6 (.c1 106 (.t2 V1 V2)) (.set 7 .l0 (.set 8 .l0 (.set 9 N0 (.for [10,11] (.enum Oi) (.a1 V1) (.set 12 (.c .non) (.ite (.cmp .In Ux V4) (.xl 8 126 (.cons Vf (.cons V9 (.cons V7 (.cons V3 (.cons (.ix V3 Ux) .nil))))) .nil) (.i (.and (.cmp .In Ux V5) (.ne (.x 11 0) (.w "in"))) (.set 12 (.call 125 (.cons Vf (.cons V7 (.cons V3 (.cons (.ix V3 Ux) .nil))))) .nil) .nil) (.i (.or (.cmp .In Ux V4) (.es (.x 11 0) "in")) (.fz 9 (.set 12 (.tup (.cons (.w "read") (.cons V9 (.cons N0 (.cons (.c1 120 (.ix V3 Ux)) .nil))))) (.set 9 (.ad V9 N1) .nil))) (.met .append 7 (.a1 (.v 12)) .nil)))) (.r (.ne (.x 6 1) (.b1 .tuple V8)) (.c (.bl Ol)) (.ret (.eq (.x 6 2) (.b1 .tuple (.comp ["_law_out"] ["_law_sides","_law_trees"] [3,7] [0] .seq (.a1 V2) (.t2 (.ix (.ix V2 V0) N1) (.ix V1 V0)))))))))))))))
noncomputable def DL:List DR:=[dr "wrapped" ["n"] WT,dr "sign_of" ["x"] XD,dr "quotient" ["x","y"] XG,dr "remainder" ["x","y"] XH,dr "once" ["word","x"] XI,dr "twice" ["word","x","y"] XJ,dr "neutral" ["word"] XM,dr "arg_places" ["form"] XN,dr "args_of" ["step"] XO,dr "reached_from" ["steps","ends"] XQ,dr "amount" ["sides"] ze,dr "breadth" ["sides"] zi,dr "allowed" ["sides"] zk,dr "strides_of" ["sides"] zm,dr "changed_at" ["row","k","number"] zn,dr "added_at" ["row","k","number"] zq,dr "dropped_at" ["row","k"] zr,dr "ask_side" ["sides","side"] zu,dr "turned_sides" ["sides","order"] zw,dr "flipped_sides" ["sides","side"] zx,dr "cut_sides" ["sides","side","first","many","step"] zy,dr "spread_sides" ["sides","side","many"] zz,dr "laid_sides" ["sides","others"] zA,dr "joined_sides" ["sides","others","side"] zB,dr "led_sides" ["sides","others"] zD,dr "paired_sides" ["sides","others"] zE,dr "picked_sides" ["marks","sides","others"] zF,dr "fetched_sides" ["sides","others"] zG,dr "folded_sides" ["sides","side"] zH,dr "counted_sides" ["sides","side"] zI,dr "ask_word" ["step"] zJ,dr "first_sides" ["step"] zK,dr "moved_sides" ["step","sides"] zM,dr "step_sides" ["step","sides"] zN,dr "step_told" ["step","sides"] zP,dr "program_told" ["program"] zQ,dr "checked" ["program"] zR,dr "plain_view" ["sides"] zU,dr "turned_view" ["view","order"] zV,dr "flipped_view" ["view","side"] zW,dr "cut_view" ["view","side","first","many","step"] zX,dr "spread_view" ["view","side","many"] zY,dr "led_view" ["view","sides"] zZ,dr "inner_view" ["view","side"] Aa,dr "moved_view" ["step","view"] Ab,dr "is_free" ["tree"] Ac,dr "branches_of" ["tree"] Ad,dr "root_remade" ["tree","change"] zO,dr "remade" ["tree","change"] zO,zd,zd,zd,zd,zd,zd,zd,zd,zd,zd,zd,zd,zd,zd,zd,zd,zd,zd,zd,zd,zd,zd,zd,zd,zd,zd,zd,zd,zd,zd,zd,zd,zd,zd,zd,zd,zd,zd,zd,zd,zd,zd,dr "live_steps" ["program"] Af,dr "uses_of" ["program"] Ag,dr "seen_as" ["tree","sides","move"] zO,dr "led_tree" ["tree","sides","longer"] Ah,dr "inner_tree" ["tree","sides","side"] Ai,dr "read_of" ["store","sides"] Aj,dr "fetched_tree" ["step","own","sides","trees"] Ak,dr "bare_tree" ["step","own","sides","trees"] Al,dr "is_led" ["k","use","steps","sides"] Ao,dr "is_kept" ["k","tree","program","sides","uses"] Ap,dr "spun" ["program","sides"] Aq,dr "run_loop" ["step","store","sides","trees"] Ar,dr "join_loops" ["step","store","own","sides","trees"] As,dr "step_loops" ["k","store","program","sides","spun_trees"] At,dr "kept_steps" ["program"] Au,dr "woven" ["program"] Av,dr "_law_size" ["_law_sides"] Aw,dr "_law_wide" ["_law_sides"] Ax,dr "_law_number" ["_law_n"] Ay,dr "_law_recent" ["_law_pool","_law_d"] Az,dr "_law_begun" ["_law_kind","_law_n","_law_cell","_law_most"] AA,dr "_law_led" ["_law_one","_law_other"] AB,dr "_law_lifted" ["_law_kind","_law_d","_law_sides"] AC,dr "_law_laid" ["_law_own","_law_d"] AD,dr "_law_moved" ["_law_kind","_law_d","_law_a","_law_own","_law_most"] AE,dr "_law_both" ["_law_own","_law_other","_law_side"] AF,dr "_law_met" ["_law_kind","_law_d","_law_sides","_law_most"] AG,dr "_law_step" ["_law_cell","_law_sides","_law_most"] AH,dr "_law_program" ["_law_cells","_law_most"] AI,dr "_law_strides" ["_law_sides"] AJ,dr "_law_led_to" ["_law_tree_here","_law_own","_law_mine"] AK,dr "_law_inner" ["_law_tree_here","_law_own","_law_k"] AL,dr "_law_by_move" ["_law_step_here","_law_tree_here","_law_own"] AM,dr "_law_by_fetch" ["_law_step_here","_law_trees","_law_sides","_law_mine"] AN,dr "_law_tree" ["_law_step_here","_law_trees","_law_sides","_law_mine"] AO,dr "_law_loops" ["_law_step_here","_law_store","_law_trees","_law_sides","_law_mine"] AQ,dr "law" ["_law_script"] AR]
noncomputable def gs:List Str:=["LOW","HIGH","MOST_SIDES","MOST_BREADTH","MOST_STEPS","MOST_OUTS","PARTS"]
noncomputable def GT:List TV:=[.int (-9223372036854775808),.int 9223372036854775807,.int 6,.int 512,.int 40,.int 8,.bor [.tup [.str "in",.tup [.tup [.str "sides",.int 1]]],.tup [.str "num",.tup [.tup [.str "number",.int 1]]],.tup [.str "count",.tup [.tup [.str "small",.int 2],.tup [.str "sides",.int 1]]],.tup [.str "each",.tup [.tup [.str "word",.int 1],.tup [.str "step",.int 2]]],.tup [.str "pair",.tup [.tup [.str "word",.int 1],.tup [.str "step",.int 2],.tup [.str "step",.int 3]]],.tup [.str "pick",.tup [.tup [.str "step",.int 1],.tup [.str "step",.int 2],.tup [.str "step",.int 3]]],.tup [.str "turn",.tup [.tup [.str "step",.int 1],.tup [.str "sides",.int 2]]],.tup [.str "flip",.tup [.tup [.str "step",.int 1],.tup [.str "small",.int 2]]],.tup [.str "cut",.tup [.tup [.str "step",.int 1],.tup [.str "small",.int 2],.tup [.str "small",.int 3],.tup [.str "small",.int 4],.tup [.str "small",.int 5]]],.tup [.str "spread",.tup [.tup [.str "step",.int 1],.tup [.str "small",.int 2],.tup [.str "small",.int 3]]],.tup [.str "lay",.tup [.tup [.str "step",.int 1],.tup [.str "sides",.int 2]]],.tup [.str "join",.tup [.tup [.str "step",.int 1],.tup [.str "step",.int 2],.tup [.str "small",.int 3]]],.tup [.str "fetch",.tup [.tup [.str "step",.int 1],.tup [.str "step",.int 2]]],.tup [.str "fold",.tup [.tup [.str "word",.int 1],.tup [.str "step",.int 2],.tup [.str "small",.int 3]]],.tup [.str "run",.tup [.tup [.str "word",.int 1],.tup [.str "step",.int 2],.tup [.str "small",.int 3]]]]]
noncomputable abbrev Ft(j:Nat):List Tf:=Um DL j
noncomputable abbrev ZX(j i:Nat)(N:List Str)(n p:Nat)(S:Tf)(c:Ct):Prop:=WL DL GT gs j (top i) N n p S c
noncomputable abbrev ZF(j:Nat)(HC:List (Str×(Tf->Tf)))(i:Nat)(N:List Str)(n p:Nat)(SF:Tf->Tf)(c:Ct):Prop:=Xp DL GT gs j HC (top i) N n p SF c
noncomputable abbrev ZG(j:Nat)(HC:List (Str×(Tf->Tf)))(x:Str)(i:Nat)(N:List Str)(n p:Nat)(SS:Nat->Tf->Tf)(c:Ct):Prop:=Xq DL GT gs j HC x (top i) N n p SS c
noncomputable abbrev ZH(jj j i:Nat)(N N' TB:List Str)(js:List Nat)(n n2 p:Nat)(SF SG:Tf->Tf)(l k:Cd):Prop:=Xr DL GT gs jj j (top i) N N' TB js n n2 p SF SG l k
noncomputable abbrev ZM(jj j i:Nat)(N N' TB:List Str)(js:List Nat)(n n2 p:Nat)(SF:Tf->Tf)(S:Tf)(c:Ct)(l k:Cd):Prop:=Xs DL GT gs jj j (top i) N N' TB js n n2 p SF S c l k
noncomputable abbrev ZN(jj j m i:Nat)(N N' TB:List Str)(js:List Nat)(n n2 p:Nat)(SF:Tf->Tf)(S:Tf)(c:Ct)(l k q:Cd)(c':Ct):Prop:=Xt DL GT gs jj j m (top i) N N' TB js n n2 p SF S c l k q c'
noncomputable abbrev ZJ(jj j i:Nat)(N N' TB:List Str)(js:List Nat)(h n n2 p:Nat)(SF:Tf->Tf)(S:Tf)(l:Cd)(ci:Ct):Prop:=Xw DL GT gs jj j (top i) N N' TB js h n n2 p SF S l ci
def zw0:ZX 0 11 ["n"] 1 1 WT zc0:=ax <| by
 rintro ts Q ⟨n,rfl,q⟩;refine⟨O,?_⟩;exact⟨Xx,ca,O,q⟩
def zw1:ZX 1 12 ["x"] 1 1 XD zc1:=ax <| by
 rintro ts Q ⟨n,rfl,q⟩;refine⟨O,?_⟩;exact s3 (λ h=>⟨O,by rw[XT h] at q;exact q⟩) (λ h=>s3 (λ h2=>⟨O,by rw[XR h,XT h2] at q;exact q⟩) (λ h2=>⟨O,by rw[XR h,XR h2] at q;exact q⟩))
def zw2:ZX 2 13 ["x","y"] 2 2 XG zc2:=ax <| by
 rintro ts Q ⟨x,y,rfl,hx,hy,q⟩;refine⟨O,?_⟩;unfold UW at hx hy;unfold sv at q;exact⟨pv,sN (λ h=>⟨O,by rw[XT h] at q;exact q⟩) (λ h=>⟨⟨h,Z,Z⟩,cl rfl ⟨_,O,O,by rw[XR h] at q;rw[yp];exact q⟩ rfl⟩)⟩
def zw3:ZX 3 14 ["x","y"] 2 2 XH zc3:=ax <| by
 rintro ts Q ⟨x,y,rfl,q⟩;refine⟨O,?_⟩;unfold sw at q;exact⟨pv,sN (λ h=>⟨O,by rw[XT h] at q;exact q⟩) (λ h=>⟨h,O,by rw[XR h,<- Js] at q;exact q⟩)⟩
def zw4:ZX 4 15 ["word","x"] 2 2 XI zc4:=ax <| by
 rintro ts Q ⟨wd,x,rfl,hw,q⟩;refine⟨O,?_⟩;unfold xQ xP at q;refine⟨pv,sE (λ c=>?_) (λ c0=>?_)⟩
 .rw[XT c] at q;exact cl rfl ⟨_,rfl,rfl,q⟩ rfl
 rw[XR c0] at q;refine⟨pv,sE (λ c=>?_) (λ c1=>?_)⟩
 .rw[XT c] at q;exact cl rfl ⟨_,rfl,rfl,q⟩ rfl
 rw[XR c1] at q;refine⟨pv,sE (λ c=>?_) (λ c2=>?_)⟩
 .rw[XT c] at q;exact cl rfl ⟨_,rfl,rfl,q⟩ rfl
 rw[XR c2] at q;refine⟨pv,sE (λ c=>?_) (λ c3=>?_)⟩
 .exact⟨pv,sN (λ h=>⟨O,by rw[XT h] at q;exact q⟩) (λ h=>⟨O,by rw[XR h] at q;exact q⟩)⟩
 simp only[mC,aB,bf,bd] at hw;exact XU hw (by simp only[c0,c1,c2,c3,or_self,not_false_eq_true])
def zw5:ZX 5 16 ["word","x","y"] 3 3 XJ zc5:=ax <| by
 rintro ts Q ⟨wd,x,y,rfl,hx,hy,hw,q⟩;refine⟨O,?_⟩;unfold xO at q;have hx':=hx;unfold UW at hx';refine⟨pv,sE (λ c=>?_) (λ c0=>?_)⟩
 .rw[XT c] at q;exact cl rfl ⟨_,rfl,rfl,q⟩ rfl
 rw[XR c0] at q;refine⟨pv,sE (λ c=>?_) (λ c1=>?_)⟩
 .rw[XT c] at q;exact cl rfl ⟨_,rfl,rfl,q⟩ rfl
 rw[XR c1] at q;refine⟨pv,sE (λ c=>?_) (λ c2=>?_)⟩
 .rw[XT c] at q;exact⟨gX Z Z,cl rfl ⟨_,rfl,rfl,q⟩ rfl⟩
 rw[XR c2] at q;refine⟨pv,sE (λ c=>?_) (λ c3=>?_)⟩
 .rw[XT c] at q;exact cl rfl ⟨x,y,rfl,hx,hy,rfl,q⟩ rfl
 rw[XR c3] at q;refine⟨pv,sE (λ c=>?_) (λ c4=>?_)⟩
 .rw[XT c] at q;exact cl rfl ⟨x,y,rfl,rfl,q⟩ rfl
 rw[XR c4] at q;refine⟨pv,sE (λ c=>?_) (λ c5=>?_)⟩
 .rw[XT c] at q;exact⟨rfl,q⟩
 rw[XR c5] at q;refine⟨pv,sE (λ c=>?_) (λ c6=>?_)⟩
 .rw[XT c] at q;exact⟨rfl,q⟩
 rw[XR c6] at q;refine⟨pv,sE (λ c=>?_) (λ c7=>?_)⟩
 .rw[XT c] at q;exact s3 (λ h=>⟨rfl,by rw[XT h] at q;exact q⟩) (λ h=>⟨rfl,by rw[XR h] at q;exact q⟩)
 rw[XR c7] at q;refine⟨pv,sE (λ c=>?_) (λ c8=>?_)⟩
 .rw[XT c] at q;exact⟨trivial,sN (λ h=>⟨rfl,by rw[XT h] at q;exact q⟩) (λ h=>⟨rfl,by rw[XR h] at q;exact q⟩)⟩
 rw[XR c8] at q;refine⟨pv,sE (λ c=>?_) (λ c9=>?_)⟩
 .rw[XT c] at q;exact⟨rfl,q⟩
 rw[XR c9] at q;refine⟨pv,sE (λ c=>?_) (λ c10=>?_)⟩
 .rw[XT c] at q;exact⟨rfl,q⟩
 rw[XR c10] at q;refine⟨pv,sE (λ c=>?_) (λ c11=>?_)⟩
 .exact⟨O,q⟩
 simp only[mD,aB,bf,bd] at hw;exact XU hw (by simp only[c0,c1,c2,c3,c4,c5,c6,c7,c8,c9,c10,c11,or_self,not_false_eq_true])
def zw6:ZX 6 17 ["word"] 1 1 XM zc6:=ax <| by
 rintro ts Q ⟨wd,rfl,hw,q⟩;refine⟨O,?_⟩;have fl:∀x∈[XX "add",XX "or",XX "xor"],Uq x=Oi:=ca;unfold Vy at hw;simp only[fw,aB,bf,bd] at hw;refine⟨O,TR,O,fl,s2 (λ h=>⟨O,?_⟩) (λ h=>⟨pv,sE (λ c=>⟨O,?_⟩) (λ c0=>⟨pv,sE (λ c=>⟨O,?_⟩) (λ c1=>⟨pv,sE (λ c=>⟨O,?_⟩) (λ c2=>⟨pv,sE (λ c=>⟨O,?_⟩) (λ c3=>?_)⟩)⟩)⟩)⟩)⟩
 .have h:(decide (OI "add"=wd) || (decide (OI "or"=wd) || (decide (OI "xor"=wd) || Ol)))=Oi:=h;simp only[iF,dh,lT,bd] at h
  rcases h with rfl|rfl|rfl
  .rw[Iz] at q;exact q
  .rw[IE] at q;exact q
  .rw[IF] at q;exact q
 .subst c;rw[IA] at q;exact q
 .subst c;rw[IB] at q;exact q
 .subst c;rw[IC] at q;exact q
 .subst c;rw[ID] at q;exact q
 .have h:(decide (OI "add"=wd) || (decide (OI "or"=wd) || (decide (OI "xor"=wd) || Ol)))=Ol:=h;simp only[Bool.or_eq_false_iff,wF,and_true] at h
  rcases hw with z|z|z|z|z|z|z
  .exact XU z.symm h.1
  .exact XU z c0
  .exact XU z c1
  .exact XU z c2
  .exact XU z c3
  .exact XU z.symm h.2.1
  .exact XU z.symm h.2.2
def zw7:ZX 7 22 ["form"] 1 1 XN zc7:=ax <| by
 rintro ts Q ⟨i,hi,rfl,q⟩;refine⟨O,?_⟩;have sl:∀n:Nat,n<=9->n<Oq:=λ n h=>aL Z
 match i,hi with
 |0,_=>exact⟨_,rfl,sl 1 ca,trivial,rfl,q⟩
 |1,_=>exact⟨_,rfl,sl 1 ca,trivial,rfl,q⟩
 |2,_=>exact⟨_,rfl,sl 2 ca,trivial,trivial,rfl,q⟩
 |3,_=>exact⟨_,rfl,sl 2 ca,trivial,trivial,rfl,rfl,q⟩
 |4,_=>exact⟨_,rfl,sl 3 ca,trivial,trivial,rfl,trivial,rfl,rfl,q⟩
 |5,_=>exact⟨_,rfl,sl 3 ca,trivial,rfl,trivial,rfl,trivial,rfl,rfl,q⟩
 |6,_=>exact⟨_,rfl,sl 2 ca,trivial,rfl,trivial,rfl,q⟩
 |7,_=>exact⟨_,rfl,sl 2 ca,trivial,rfl,trivial,rfl,q⟩
 |8,_=>exact⟨_,rfl,sl 5 ca,trivial,rfl,trivial,trivial,trivial,trivial,rfl,q⟩
 |9,_=>exact⟨_,rfl,sl 3 ca,trivial,rfl,trivial,trivial,rfl,q⟩
 |10,_=>exact⟨_,rfl,sl 2 ca,trivial,rfl,trivial,rfl,q⟩
 |11,_=>exact⟨_,rfl,sl 3 ca,trivial,rfl,trivial,rfl,trivial,rfl,q⟩
 |12,_=>exact⟨_,rfl,sl 2 ca,trivial,rfl,trivial,rfl,rfl,q⟩
 |13,_=>exact⟨_,rfl,sl 3 ca,trivial,trivial,rfl,trivial,rfl,q⟩
 |14,_=>exact⟨_,rfl,sl 3 ca,trivial,trivial,rfl,trivial,rfl,q⟩
 |i+15,h=>lia
def zw8:ZX 8 23 ["step"] 1 1 XO zc8:=ax <| by
 rintro ts Q ⟨d,rfl,q⟩;refine⟨O,?_⟩;have sl:∀n:Nat,n<=3->n<Oq:=λ n h=>aL Z;have k15:TQ d<15:=by cases d<;>exact cG rfl
 refine⟨_,fU d,cl rfl ⟨TQ d,k15,O,?_⟩ rfl⟩;rw[Jz _ k15]
 cases d<;>first|exact⟨sl 0 ca,rfl,q⟩|exact⟨sl 1 ca,_,rfl,rfl,rfl,q⟩|exact⟨sl 2 ca,_,rfl,rfl,_,rfl,rfl,rfl,q⟩|exact⟨sl 3 ca,_,rfl,rfl,_,rfl,rfl,_,rfl,rfl,rfl,q⟩
def zw9:ZX 9 24 ["steps","ends","reached","end","k","number"] 6 2 XQ zc9:=ax <| by
 rintro ts Q ⟨t,ds,es,rfl,rfl,l40,he,ha,q⟩;refine⟨O,?_⟩;have e0:ds.map (λ _=>TV.bl Ol)=(cI ds.length (es.take 0)).map .bl:=by unfold cI;rw[kP,List.foldl_nil,sV,List.map_const']
 refine⟨by rw[ag];exact aL Z,ce Tq (λ _=>.bl Ol) ds (λ d _=>⟨O,O⟩) ⟨O,O,cS (λ i ρ=>∃y,ρ=[Oh (.tup (ds.map Tq)),Oh (tI es),Oh (.own ((cI ds.length (es.take i)).map .bl)),y,Oj,Oj]) ⟨_,by rw[<- e0];rfl⟩ (λ i u ρ hu h=>?_) (λ ρ h=>?_)⟩⟩
 .obtain⟨y,rfl⟩:=h;obtain⟨e,rfl,hn⟩:=iN hu;have b:=he e (aE hn);obtain⟨k,rfl⟩:∃k:Nat,e=k:=⟨e.toNat,Z⟩;exact⟨O,k,sn (by rw[ag,mI];lia),_,by rw[JM hn,s1m];rfl⟩
 .obtain⟨y,rfl⟩:=h;rw[ag,bR];obtain⟨r1,r2⟩:=JO l40;have lm:(((ds.map Tq).length:Nat):Int)=ds.length:=by rw[ag]
  refine⟨O,⟨ca,ca,by rw[lm];exact r1⟩,cS (λ i ρ=>∃y4 y5,ρ=[Oh (.tup (ds.map Tq)),Oh (tI es),Oh (.own ((cx ds ds.length i (cI ds.length es)).map .bl)),y,y4,y5]) ⟨_,_,O⟩ (λ i u ρ hu h=>?_) (λ ρ h=>?_)⟩
  .obtain⟨y4,y5,rfl⟩:=h;rw[lm,r2] at hu;obtain⟨il,rfl⟩:=oZ hu;have il:i<ds.length:=Z;obtain⟨k,ek⟩:∃k:Nat,(ds.length:Int)-1+(i:Int)*(-1)=k:=⟨ds.length-1-i,Z⟩;have kk:ds.length-1-i=k:=Z;have kl:k<ds.length:=Z;rw[ek];have lR:(cx ds ds.length i (cI ds.length es)).length=ds.length:=by rw[pq,mI]
   have st:cx ds ds.length (i+1) (cI ds.length es)=gZ ds k (cx ds ds.length i (cI ds.length es)):=by rw[cx,kk]
   rw[st];generalize cx ds ds.length i (cI ds.length es)=R at *;refine⟨_,XB Z,s2 (λ h=>?_) (λ h=>⟨_,_,by unfold gZ;rw[XR (by rw[h];decide)];rfl⟩)⟩;have ed:=dX kl;have rs:gZ ds k R=(ar (ds.getD k (.num 0))).foldl (λ R a=>R.set a Oi) R:=by unfold gZ;rw[XT h]
   rw[rs];have hd:=ha _ (aE ed);generalize ds.getD k (.num 0)=d at ed hd;refine⟨Tq d,ak ed,cl rfl ⟨d,O,O,cS (λ j ρ=>∃y5,ρ=[Oh (.tup (ds.map Tq)),Oh (tI es),Oh (.own ((((ar d).take j).foldl (λ R a=>R.set a Oi) R).map .bl)),y,Oh (.int k),y5]) ⟨_,O⟩ (λ j u ρ hu h=>?_) (λ ρ h=>?_)⟩ rfl⟩
   .obtain⟨y5,rfl⟩:=h;obtain⟨n,rfl,hn⟩:=iN hu;rw[bh] at hn
    cases ea:(ar d)[j]? with
    |none=>rw[ea] at hn;cases hn
    |some a=>
     rw[ea] at hn;cases hn;have al:=hd a (aE ea);exact⟨O,a,sn (by rw[ag,yB];lia),_,by rw[jB,ea,kH];show _=[_,_,Oh (TV.own (Pc TV.bl ((((ar d).take j).foldl (λ R a=>R.set a Oi) R).set a Oi))),_,_,_];rw[s1m];rfl⟩
   .obtain⟨y5,rfl⟩:=h;rw[ag,ag,bR];exact⟨_,_,O⟩
  .obtain⟨y4,y5,rfl⟩:=h;have ll:((OB (OG ((((ds.map Tq).length:Nat):Int)-1) (-1) (-1)).toNat).map λ k:Nat=>XV ((((ds.map Tq).length:Nat):Int)-1+(k:Int) * -1)).length=ds.length:=by rw[ag,eI,lm,r2];lia
   rw[ll];have lR:(cx ds ds.length ds.length (cI ds.length es)).length=ds.length:=by rw[pq,mI]
   refine⟨⟨Z,by rw[ag];lia⟩,by rw[ag,eI,ag];exact aL Z,gY (λ k:Nat=>.int (k:Nat)) (λ k:Nat=>.int (k:Nat)) (λ k=>(cx ds ds.length ds.length (cI ds.length es)).getD k Ol) (OB ds.length) (by rw[ag];rfl) (λ k hk=>⟨_,XB (by rw[lR];exact jJ.mp hk),O,λ _=>⟨O,O⟩⟩) ⟨O,q⟩⟩
def MB:ZX 10 28 ["sides","product","side"] 3 1 ze Kw:=ax <| by
 rintro ts Q ⟨t,rfl,ns,ht,sd,q⟩;refine⟨O,?_⟩
 rcases ht with rfl|rfl
 .refine⟨O,O,cS (λ i ρ=>∃y,ρ=[Oh (tI ns),Oh (.int (ai (ns.take i))),y]) ⟨_,O⟩ (λ i u ρ hu ⟨y,e⟩=>?_) (λ ρ ⟨y,e⟩=>?_)⟩
  .subst e;obtain⟨n,rfl,hn⟩:=iN hu;have b:=sd n (aE hn);exact⟨gW Z Z,O,Oh (.int n),by rw[mz hn];rfl⟩
  .subst e;rw[af,bR];exact⟨O,q⟩
 .refine⟨O,O,cS (λ i ρ=>∃y,ρ=[Oh (lI ns),Oh (.int (ai (ns.take i))),y]) ⟨_,O⟩ (λ i u ρ hu ⟨y,e⟩=>?_) (λ ρ ⟨y,e⟩=>?_)⟩
  .subst e;obtain⟨n,rfl,hn⟩:=iN hu;have b:=sd n (aE hn);exact⟨gW Z Z,O,Oh (.int n),by rw[mz hn];rfl⟩
  .subst e;rw[af,bR];exact⟨O,q⟩
def MC:ZX 11 29 ["sides"] 1 1 zi Kx:=ax <| by
 rintro ts Q ⟨ns,rfl,sd,l,q⟩;refine⟨O,?_⟩;refine⟨by rw[af];exact aL Z,ce .int (λ n=>.int (aq n)) ns (λ n _=>?_) (cl rfl ⟨_,O,ns.map aq,.inr (by unfold lI;rw[bJ];rfl),xI sd,O,q⟩ rfl)⟩;refine⟨pv,s2 (λ h=>⟨O,?_⟩) (λ h=>⟨O,?_⟩)⟩
 .rw[Jp h];rfl
 .rw[Jq h];rfl
def MD:ZX 12 30 ["sides"] 1 1 zk Ky:=ax <| by
 rintro ts Q ⟨ns,rfl,sd,l,nb,q⟩;refine⟨O,?_⟩;unfold cX at nb;exact sF (bD (show ¬((6:Int)<((ns.map XV).length:Nat)) by rw[af];lia)) (cl rfl ⟨ns,O,sd,l,sF (bD (show ¬((512:Int)<ai (ns.map aq)) by lia)) ⟨O,q⟩⟩ rfl)
def ME:ZX 13 31 ["sides","strides","stride","side"] 4 1 zm Kz:=ax <| by
 rintro ts Q ⟨ns,rfl,sd,l,q⟩;refine⟨O,?_⟩;refine⟨O,bP _,O,O,O,?_⟩;refine cS (λ i ρ=>∃y,ρ=[Oh (tI ns),Oh (.own ((UC ns i).map .int)),Oh (.int (US ns i)),y]) ⟨_,O⟩ (λ i u ρ hu ⟨y,e⟩=>?_) (λ ρ ⟨y,e⟩=>?_)
 .subst e;obtain⟨hi,n,rfl,hn⟩:=Jo hu;have b:=sd n (aE hn);refine⟨O,by rw[af,UC,ag,eI];exact aL Z,gW Z Z,O,Oh (.int n),?_⟩;rw[Im hi hn,xJ,aG];rfl
 .subst e;rw[jp,af];refine⟨O,?_⟩;show Q (.tup ((UC ns ns.length).map XV).reverse);rw[<- Ro];exact q
def MF:ZX 14 32 ["row","k","number"] 3 3 zn KA:=ax <| by
 rintro ts Q ⟨ns,k,m,rfl,l,kl,q⟩;refine⟨O,?_⟩;have e1:=cY ns k;have e2:ah (ns.map XV) (Oh ((k:Int)+1)) Oj=(ns.drop (k+1)).map XV:=by rw[show(k:Int)+1=((k+1:Nat):Int) by lia];exact cg ns (k+1)
 have e3:(ah (ns.map XV) Oj (Oh (k:Int))++[XV m])++ah (ns.map XV) (Oh ((k:Int)+1)) Oj=(ns.set k m).map XV:=by rw[e1,e2,oT,XT kl];simp
 have l1:(ah (ns.map XV) Oj (Oh (k:Int))).length<=63:=by rw[e1,af,aQ];lia
 have l2:(ah (ns.map XV) (Oh ((k:Int)+1)) Oj).length<=63:=by rw[e2,af,bO];lia
 unfold tI at q;rw[<- e3] at q;exact⟨O,Ub,aH (show(ah (ns.map XV) Oj (Oh (k:Int))).length+1<=1000 by lia),aH (show(ah (ns.map XV) Oj (Oh (k:Int))++[XV m]).length+(ah (ns.map XV) (Oh ((k:Int)+1)) Oj).length<=1000 by rw[aF,gJ];lia),O,q⟩
def MG:ZX 15 33 ["row","k","number"] 3 3 zq KC:=ax <| by
 rintro ts Q ⟨ns,k,m,rfl,l,q⟩;refine⟨O,?_⟩;have e1:=cY ns k;have e2:=cg ns k;have e3:(ah (ns.map XV) Oj (Oh (k:Int))++[XV m])++ah (ns.map XV) (Oh (k:Int)) Oj=(bF ns k m).map XV:=by rw[e1,e2];unfold bF;simp
 have l1:(ah (ns.map XV) Oj (Oh (k:Int))).length<=63:=by rw[e1,af,aQ];lia
 have l2:(ah (ns.map XV) (Oh (k:Int)) Oj).length<=63:=by rw[e2,af,bO];lia
 unfold tI at q;rw[<- e3] at q;exact⟨O,Ub,aH (show(ah (ns.map XV) Oj (Oh (k:Int))).length+1<=1000 by lia),aH (show(ah (ns.map XV) Oj (Oh (k:Int))++[XV m]).length+(ah (ns.map XV) (Oh (k:Int)) Oj).length<=1000 by rw[aF,gJ];lia),O,q⟩
def MH:ZX 16 34 ["row","k"] 2 2 zr KD:=ax <| by
 rintro ts Q ⟨ns,k,rfl,l,kl,q⟩;refine⟨O,?_⟩;have e1:=cY ns k;have e2:ah (ns.map XV) (Oh ((k:Int)+1)) Oj=(ns.drop (k+1)).map XV:=by rw[show(k:Int)+1=((k+1:Nat):Int) by lia];exact cg ns (k+1)
 have e3:ah (ns.map XV) Oj (Oh (k:Int))++ah (ns.map XV) (Oh ((k:Int)+1)) Oj=(ns.eraseIdx k).map XV:=by rw[e1,e2,jx,aG]
 have l1:(ah (ns.map XV) Oj (Oh (k:Int))).length<=63:=by rw[e1,af,aQ];lia
 have l2:(ah (ns.map XV) (Oh ((k:Int)+1)) Oj).length<=63:=by rw[e2,af,bO];lia
 unfold tI at q;rw[<- e3] at q;exact⟨aH (show(ah (ns.map XV) Oj (Oh (k:Int))).length+(ah (ns.map XV) (Oh ((k:Int)+1)) Oj).length<=1000 by lia),O,q⟩
def MI:ZX 17 36 ["sides","side"] 2 2 zu KE:=ax <| by
 rintro ts Q ⟨ns,side,rfl,no,q⟩;refine⟨O,?_⟩;unfold Uf at no;exact sF (bD (show ¬side<0 by lia)) (sF (bD (show ¬((ns.map XV).length:Int)<=side by rw[af];lia)) q)
def MJ:ZX 18 37 ["sides","order"] 2 2 zw KF:=ax <| by
 rintro ts Q ⟨ns,os,rfl,l1,l2,tk,q⟩;refine⟨O,?_⟩;refine⟨os,O,Z,λ ss pm pw=>?_⟩;have c:=(II (n:=ns.length) pm pw).mpr tk;refine⟨⟨Z,by rw[af];lia⟩,dpL _,sF ?_ ?_⟩
 .show(!_L.eqT (TV.lst (ss.map XV)) (TV.lst ((OB (((ns.map XV).length:Nat):Int).toNat).map λ i:Nat=>XV (i:Nat))))=Ol;rw[show((OB (((ns.map XV).length:Nat):Int).toNat).map λ i:Nat=>XV (i:Nat))=(TD ns.length).map XV by rw[af];unfold TD;rw[bJ];rfl,Jr,c];simp
 .refine⟨by rw[af];exact aL Z,ce .int (λ o:Int=>.int (ns.getD o.toNat 0)) os (λ o ho=>?_) ⟨O,by unfold tI bT at q;rw[bJ] at q;exact q⟩⟩;have om:=up_mem.mp (tk.subset ho);exact⟨_,kN om.1 om.2,O,O⟩
def MK:ZX 19 38 ["sides","side"] 2 2 zx KG:=ax <| by
 rintro ts Q ⟨ns,side,rfl,no,q⟩;refine⟨O,?_⟩;exact cl rfl ⟨ns,side,O,no,O,q⟩ rfl
def ML:ZX 20 39 ["sides","side","first","many","step"] 5 5 zy KH:=ax <| by
 rintro ts Q ⟨ns,side,f,m,g,rfl,l,m0,m1,no,nb,q⟩;refine⟨O,?_⟩;refine cl rfl ⟨ns,side,O,no,?_⟩ rfl;obtain⟨k,rfl,hk⟩:=dI no;unfold Vg at nb;simp only[Ot] at nb q;refine sF (bD λ z=>nb (.inl z)) (sF (bD λ z=>nb (.inr (.inl z))) (sF (bD λ z=>nb (.inr (.inr (.inl z)))) ?_));refine s3 (λ c=>?_) (λ c=>cl rfl ⟨ns,k,m,O,l,hk,O,q⟩ rfl);exact⟨gX Z Z,_,bB hk,sF (bD λ z=>nb (.inr (.inr (.inr ⟨c,z⟩)))) (cl rfl ⟨ns,k,m,O,l,hk,O,q⟩ rfl)⟩
def MN:ZX 21 40 ["sides","side","many"] 3 3 zz KJ:=ax <| by
 rintro ts Q ⟨ns,side,m,rfl,sd,l,m1,no,mn,nb,q⟩;refine⟨O,?_⟩;unfold jE at no;obtain⟨k,rfl⟩:∃k:Nat,side=k:=⟨side.toNat,Z⟩;simp only[Ot] at nb q;have il:=xT ns k m;refine sF (bD (show ¬((ns.map XV).length:Int)<k by rw[af];lia)) (sF (bD mn) (cl rfl ⟨ns,k,m,O,Z,cl rfl ⟨bF ns k m,O,λ n hn=>?_,Z,nb,O,q⟩ rfl⟩ rfl));unfold bF at hn;simp only[bY,aI] at hn
 rcases hn with (h|h)|h
 .exact sd n (s0d h)
 .lia
 .exact sd n (sK h)
def MO:ZX 22 41 ["sides","others"] 2 2 zA KL:=ax <| by
 rintro ts Q ⟨ns,ms,rfl,sd,sm',l,nb,e,q⟩;refine⟨O,?_⟩;exact cl rfl ⟨ms,O,sm',Z,nb,cl rfl ⟨_,O,ns,.inl rfl,sd,cl rfl ⟨_,O,ms,.inl rfl,sm',pv,sF (Wp e) ⟨O,q⟩⟩ rfl⟩ rfl⟩ rfl
def MP:ZX 23 42 ["sides","others","side"] 3 3 zB KM:=ax <| by
 rintro ts Q ⟨ns,ms,side,rfl,hn,hm,l,ll,no,c,nb,q⟩;refine⟨O,?_⟩;refine⟨pv,sF (Wp (by rw[af,af,ll])) (cl rfl ⟨ns,side,O,no,?_⟩ rfl)⟩;obtain⟨k,rfl,hk⟩:=dI no;simp only[Ot] at c;have n1:=hn _ (getD_mem hk);have n2:=hm _ (getD_mem (ns:=ms) (k:=k) Z);refine cl rfl ⟨ns,k,O,Z,hk,cl rfl ⟨ms,k,O,Z,Z,Vb _,sF ?_ ?_⟩ rfl⟩ rfl
 .show(!_L.eqT (XW ((ns.eraseIdx k).map XV)) (XW ((ms.eraseIdx k).map XV)))=Ol;rw[mG,c];simp
 .refine⟨_,bB hk,_,bB (ns:=ms) Z,cl rfl ⟨ns,k,_,O,Z,hk,cl rfl ⟨_,O,λ n hn'=>?_,by rw[dE];lia,nb,O,q⟩ rfl⟩ rfl⟩
  rcases mF hn' with z|z
  .exact Iv hn n z
  .lia
def MQ:ZX 24 43 ["sides","others"] 2 2 zD KN:=ax <| by
 rintro ts Q ⟨ns,ms,rfl,c,q⟩;refine⟨O,?_⟩;have e1:ah (ms.map XV) Oj (Oh (((ns.map XV).length:Nat):Int))=ns.map XV:=by rw[af,cY,c]
 exact⟨by show _L.dp 99 (XW (ah (ms.map XV) Oj (Oh (((ns.map XV).length:Nat):Int))));rw[e1];exact Vb ns,sF (by show(!_L.eqT (XW (ah (ms.map XV) Oj (Oh (((ns.map XV).length:Nat):Int)))) (XW (ns.map XV)))=Ol;rw[e1,mG];simp) ⟨O,q⟩⟩
def MR:ZX 25 44 ["sides","others"] 2 2 zE KO:=ax <| by
 rintro ts Q ⟨ns,ms,rfl,c,q⟩;refine⟨O,?_⟩;unfold cu at c;unfold bQ at q;refine s2 (λ h=>?_) (λ h=>?_)
 .have h:(((ms.map XV).length:Nat):Int)<((ns.map XV).length:Nat):=aC h;rw[af,af] at h;rw[XT Z] at c q;exact cl rfl ⟨ms,ns,O,c,O,q⟩ rfl
 .have h:¬(((ms.map XV).length:Nat):Int)<((ns.map XV).length:Nat):=fW h;rw[af,af] at h;rw[XR Z] at c q;exact cl rfl ⟨ns,ms,O,c,O,q⟩ rfl
def MS:ZX 26 45 ["marks","sides","others"] 3 3 zF KP:=ax <| by
 rintro ts Q ⟨ns,ms,ks,rfl,c1,c2,q⟩;refine⟨O,?_⟩;exact cl rfl ⟨ns,ms,O,c1,cl rfl ⟨_,ks,O,c2,O,q⟩ rfl⟩ rfl
def MT:ZX 27 46 ["sides","others"] 2 2 zG KQ:=ax <| by
 rintro ts Q ⟨n,r,ms,rfl,sd,sm',l1,l2,n0,nb,q⟩;refine⟨O,?_⟩;have e1:ah ((n::r).map XV) (Oh 1) Oj=r.map XV:=cg (n::r) 1;have lc:(ah ((n::r).map XV) (Oh 1) Oj).length<=20:=by rw[e1,af];lia
 refine⟨pv,.int n,jR (j:=0) rfl,pv,sN (λ h=>XU h n0) (λ _=>⟨aH (show(ms.map XV).length+(ah ((n::r).map XV) (Oh 1) Oj).length<=1000 by rw[af];lia),cl rfl ⟨ms++r,?_,λ x hx=>?_,by rw[aF];lia,nb,O,q⟩ rfl⟩)⟩
 .show[XW (ms.map XV++ah ((n::r).map XV) (Oh 1) Oj)]=[tI (ms++r)];rw[e1,<- aG];rfl
 .rcases bY.mp hx with h|h
  .exact sm' x h
  .exact sd x (aW _ h)
def MU:ZX 28 47 ["sides","side"] 2 2 zH KR:=ax <| by
 rintro ts Q ⟨ns,side,rfl,l,no,q⟩;refine⟨O,?_⟩;refine cl rfl ⟨ns,side,O,no,?_⟩ rfl;obtain⟨k,rfl,hk⟩:=dI no;simp only[Ot] at q;exact cl rfl ⟨ns,k,O,l,hk,O,q⟩ rfl
def MV:ZX 29 48 ["sides","side"] 2 2 zI KS:=ax <| by
 rintro ts Q ⟨ns,side,rfl,sd,l,nb,no,q⟩;refine⟨O,?_⟩;exact cl rfl ⟨ns,O,sd,Z,nb,cl rfl ⟨ns,side,O,no,O,q⟩ rfl⟩ rfl
def MW:ZX 30 50 ["step"] 1 1 zJ KU:=ax <| by
 rintro ts Q ⟨d,rfl,hw,q⟩;refine⟨O,?_⟩
 cases d with
 |each w a=>exact⟨_,rfl,trivial,_,rfl,cl rfl ⟨w,0,rfl,hw,_,rfl,trivial,_,rfl,rfl,Tz,rfl,Ws,q⟩ rfl⟩
 |pair w a b=>exact⟨_,rfl,trivial,_,rfl,trivial,_,rfl,cl rfl ⟨w,0,0,rfl,⟨ca,ca⟩,⟨ca,ca⟩,hw,_,rfl,rfl,Tz,rfl,Ws,q⟩ rfl⟩
 |fold w a s|run w a s=>exact⟨_,rfl,trivial,_,rfl,trivial,_,rfl,rfl,Tz,rfl,Ws,_,rfl,cl rfl ⟨w,rfl,hw,q⟩ rfl⟩
 |_=>exact⟨_,rfl,trivial,_,rfl,trivial,_,rfl,rfl,Tz,rfl,Ws,q⟩
def MX:ZX 31 51 ["step"] 1 1 zK KW:=ax <| by
 rintro ts Q ⟨d,S,Ss,rfl,k3,ok,fs,q⟩;refine⟨O,?_⟩;have sd:=cF fs;have s6:=fs.2.1
 cases d with
 |inp ms=>obtain⟨rfl,nb⟩:=ok;exact⟨_,rfl,trivial,_,rfl,cl rfl ⟨S,rfl,sd,Z,nb,rfl,q⟩ rfl⟩
 |count ms k=>obtain⟨rfl,nb,no⟩:=ok;exact⟨_,rfl,trivial,_,rfl,trivial,_,rfl,_,rfl,cl rfl ⟨S,k,rfl,sd,Z,nb,no,rfl,q⟩ rfl⟩
 |num n=>obtain⟨rfl,_⟩:=ok;exact⟨_,rfl,trivial,_,rfl,trivial,rfl,Ul,rfl,q⟩
 |_=>exact XU k3 (fW rfl)
def MY:ZX 32 52 ["step","sides","form"] 3 2 zM KY:=ax <| by
 rintro ts Q ⟨d,S,A,Ss,a,rfl,ha,ea,fA,ok,fs,q⟩;refine⟨O,?_⟩;have sd:=cF fs;have Tk:=cF fA;have s6:=fs.2.1;have a6:=fA.2.1
 cases d with
 |each w a=>
  cases ha;cases ok.1.symm.trans ea;exact⟨_,O,O,pv,pv,pv,pv,pv,pv,pv,O,q⟩
 |turn a os=>
  cases ha;obtain⟨A',ea',tk,rfl⟩:=ok;cases ea'.symm.trans ea;exact⟨_,O,O,pv,_,O,cl rfl ⟨A,os,O,Z,by rw[tk.length_eq,fc];lia,tk,O,q⟩ rfl⟩
 |flip a s=>
  cases ha;obtain⟨ea',no⟩:=ok;cases ea'.symm.trans ea;exact⟨_,O,O,pv,pv,_,O,cl rfl ⟨S,s,O,no,O,q⟩ rfl⟩
 |cut a s f m g=>
  cases ha;obtain⟨A',ea',no,nb,m5,rfl⟩:=ok;cases ea'.symm.trans ea;exact⟨_,O,O,pv,pv,pv,_,O,_,O,_,O,_,O,cl rfl ⟨A,s,f,m,g,O,Z,by unfold Vg at nb;lia,Z,no,nb,O,q⟩ rfl⟩
 |spread a s m=>
  cases ha;obtain⟨A',ea',no,nm,m5,nb,rfl⟩:=ok;cases ea'.symm.trans ea;exact⟨_,O,O,pv,pv,pv,pv,_,O,_,O,cl rfl ⟨A,s,m,O,Tk,Z,Z,no,nm,nb,O,q⟩ rfl⟩
 |lay a ms=>
  cases ha;obtain⟨A',ea',nb,e,rfl⟩:=ok;cases ea'.symm.trans ea;exact⟨_,O,O,pv,pv,pv,pv,pv,_,O,cl rfl ⟨A,S,O,Tk,sd,Z,nb,e,O,q⟩ rfl⟩
 |fold w a s=>
  cases ha;obtain⟨A',ea',hw,no,rfl⟩:=ok;cases ea'.symm.trans ea;exact⟨_,O,O,pv,pv,pv,pv,pv,pv,_,O,cl rfl ⟨A,s,O,Z,no,O,q⟩ rfl⟩
 |run w a s=>
  cases ha;obtain⟨ea',hw,no⟩:=ok;cases ea'.symm.trans ea;exact⟨_,O,O,pv,pv,pv,pv,pv,pv,pv,_,O,cl rfl ⟨S,s,O,no,O,q⟩ rfl⟩
 |_=>cases ha
def MZ:ZX 33 53 ["step","sides","used","form"] 4 2 zN KZ:=ax <| by
 rintro ts Q ⟨t,d,S,Ss,rfl,ht,fS,ok,fs,q⟩;refine⟨O,?_⟩;subst ht
 cases d with
 |pair w a b=>
  obtain⟨A,B,ea,eb,hw,po,rfl⟩:=ok;exact cl rfl ⟨(Stp.pair w a b),O,hw,cl rfl ⟨(Stp.pair w a b),O,UX (cG rfl),tI A,ak ea,O,tI B,ak eb,O,O,_,O,O,pv,pv,pv,_,O,_,O,cl rfl ⟨A,B,O,po,O,q⟩ rfl⟩ rfl⟩ rfl
 |join a b s=>
  obtain⟨A,B,ea,eb,ll,no,ee,nb,rfl⟩:=ok;have fA:=fS _ (aE ea);have fB:=fS _ (aE eb);have a6:=fA.2.1;exact cl rfl ⟨(Stp.join a b s),O,pv,cl rfl ⟨(Stp.join a b s),O,UX (cG rfl),tI A,ak ea,O,tI B,ak eb,O,O,_,O,O,pv,pv,pv,pv,_,O,_,O,_,O,cl rfl ⟨A,B,s,O,ym fA,ym fB,Z,ll,no,ee,nb,O,q⟩ rfl⟩ rfl⟩ rfl
 |fetch a b=>
  obtain⟨n,r,B,ea,n0,eb,nb,rfl⟩:=ok;have fA:=fS _ (aE ea);have fB:=fS _ (aE eb);have a6:=fA.2.1;have b6:=fB.2.1;rw[OM] at a6;exact cl rfl ⟨(Stp.fetch a b),O,pv,cl rfl ⟨(Stp.fetch a b),O,UX (cG rfl),tI (n::r),ak ea,O,tI B,ak eb,O,O,_,O,O,pv,pv,pv,pv,pv,_,O,_,O,cl rfl ⟨n,r,B,O,cF fA,cF fB,Z,Z,n0,nb,O,q⟩ rfl⟩ rfl⟩ rfl
 |pick a b c=>
  obtain⟨A,B,C,ea,eb,ec,p1,p2,rfl⟩:=ok;exact cl rfl ⟨(Stp.pick a b c),O,pv,cl rfl ⟨(Stp.pick a b c),O,UX (cG rfl),tI A,ak ea,O,tI B,ak eb,O,tI C,ak ec,O,O,_,O,O,pv,pv,pv,pv,pv,_,O,_,O,_,O,cl rfl ⟨A,B,C,O,p1,p2,O,q⟩ rfl⟩ rfl⟩ rfl
 |_=>first|exact cl rfl ⟨_,rfl,sM ok,cl rfl ⟨_,rfl,UX (cG rfl),rfl,_,rfl,rfl,trivial,cl rfl ⟨_,S,Ss,rfl,cG rfl,ok,fs,rfl,q⟩ rfl⟩ rfl⟩ rfl|exact cl rfl ⟨_,rfl,sM ok,cl rfl ⟨_,rfl,UX (cG rfl),tI S,ak ok.1,rfl,rfl,_,rfl,rfl,trivial,trivial,_,rfl,cl rfl ⟨_,S,S,Ss,_,rfl,rfl,ok.1,fS _ (aE ok.1),ok,fs,rfl,q⟩ rfl⟩ rfl⟩ rfl|(obtain⟨A,ea,_⟩:=id ok;exact cl rfl ⟨_,rfl,sM ok,cl rfl ⟨_,rfl,UX (cG rfl),tI A,ak ea,rfl,rfl,_,rfl,rfl,trivial,trivial,_,rfl,cl rfl ⟨_,S,A,Ss,_,rfl,rfl,ea,fS _ (aE ea),ok,fs,rfl,q⟩ rfl⟩ rfl⟩ rfl)
def Na:ZX 34 54 ["step","sides","k"] 3 2 zP La:=ax <| by
 rintro ts Q ⟨t,d,S,Ss,rfl,ht,fS,l40,ok,fs,q⟩;refine⟨O,?_⟩;have al:=yl ok;have a3:=Jm d;subst ht;refine⟨O,sF (bD (show ¬(40:Int)<=((Ss.map tI).length:Nat) by rw[ag];lia)) (cl rfl ⟨d,O,by rw[ag,ag];exact UX a3,kM (l:=ar d) (f:=λ a:Nat=>.int (a:Int)) (by rw[bJ];rfl) (λ _=>.bl Ol) (λ a ha=>?_) ⟨(ar d).map λ _=>Ol,by rw[bJ];rfl,sF on (cl rfl ⟨_,d,S,Ss,O,O,fS,ok,fs,O,Tz,O,q⟩ rfl)⟩⟩ rfl)⟩;refine⟨O,?_⟩;have:=al a ha;show TV.bl (decide (((Ss.map tI).length:Nat)<=(a:Int)))=TV.bl Ol;rw[ag,bD Z]
def Nb:ZX 35 55 ["program","steps","outs","sides","step","told"] 6 1 zQ Lb:=ax <| by
 rintro ts Q ⟨ds,Ss,os,mo,rfl,gd,q⟩;refine⟨O,?_⟩;obtain⟨hmo,gl,d0,d40,o0,o8,ho⟩:=gd;refine⟨_,O,O,_,O,O,O,bP _,O,O,?_⟩;refine cS (λ i ρ=>∃y z,ρ=[Oh (.tup [.tup (ds.map Tq),tI os]),Oh (.tup (ds.map Tq)),Oh (tI os),Oh (.own ((Ss.take i).map tI)),y,z]) ⟨_,_,O⟩ (λ i u ρ hu ⟨y,z,e⟩=>?_) (λ ρ ⟨y,z,e⟩=>?_)
 .subst e;obtain⟨d,rfl,ed⟩:=Ju hu;have idl:=(aY.mp ed).1;have il:i<Ss.length:=by rw[<- gl.1];exact idl
  have eS:=bc il;generalize Ss[i]=S at eS;have ok:=gl.2.2 i d S ed eS;have fs:=gl.2.1 S (aE eS);exact UO rfl ⟨_,d,S,Ss.take i,O,O,λ T hT=>iL (gl.2.1 T (s0d hT)) hmo,by rw[aQ];lia,ok,iL fs hmo,LF2 S,O,_,O,O,_,O,O,by rw[ag,aQ];exact aL Z,_,_,by rw[jB,eS,aG];rfl⟩
 .subst e;rw[ag,cq (by rw[gl.1];exact ao _)];refine sT (cn (show(1:Int)<=((os.map XV).length:Nat) by rw[af];lia)) (sF (by rw[cn (show(((os.map XV).length:Nat):Int)<=8 by rw[af];lia)];rfl) ⟨by rw[af];exact aL Z,ce .int (λ _=>.bl Ol) os (λ o ho'=>?_) ⟨os.map λ _=>Ol,by rw[bJ];rfl,sF on ⟨O,Tz,O,q⟩⟩⟩);have b:=ho o ho';refine sF (bD (show ¬o<0 by lia)) ⟨O,?_⟩;show TV.bl (decide (((ds.map Tq).length:Nat)<=o))=TV.bl Ol;rw[ag,bD Z]
def Nc:ZX 36 56 ["program","told","fault"] 3 1 zR Lc:=ax <| by
 rintro ts Q ⟨ds,Ss,os,mo,rfl,gd,q⟩;refine⟨O,?_⟩;exact cl rfl ⟨ds,Ss,os,mo,O,gd,O,_,O,O,O,_,O,O,q⟩ rfl
def Nd:ZX 37 58 ["sides"] 1 1 zU Ld:=ax <| by
 rintro ts Q ⟨ns,rfl,sd,l,q⟩;refine⟨O,?_⟩;exact cl rfl ⟨ns,O,sd,l,O,TR,O,q⟩ rfl
def Nf:ZX 38 59 ["view","order","sides","strides","own"] 5 2 zV Le:=ax <| by
 rintro ts Q ⟨ns,ss,os,b,rfl,l,sl,s6,t,q⟩;refine⟨O,?_⟩;have ol:=sO t;have tl:(bT ns os).length=ns.length:=by unfold bT;rw[ag,ol]
 refine⟨_,O,cl rfl ⟨ns,os,O,Z,Z,t,O,?_⟩ rfl⟩;have om:∀o∈os,0<=o/\o<(ns.length:Int):=λ o ho=>up_mem.mp (t.subset ho);have e1:ah (ss.map XV) (Oh (((bT ns os).map XV).length:Nat)) Oj=(ss.drop ns.length).map XV:=by rw[af,tl,cg]
 refine⟨_,O,O,by rw[af];exact aL Z,ce XV (λ o:Int=>.int (ss.getD o.toNat 0)) os (λ o ho=>?_) ⟨O,_,O,?_⟩⟩
 .have:=om o ho;exact⟨.int (ss.getD o.toNat 0),kN Z Z,O,O⟩
 have z:(os.map λ o:Int=>XV (ss.getD o.toNat 0))=(bT ss os).map XV:=by unfold bT;rw[bJ];rfl
 refine⟨?_,O,TR,O,?_⟩
 .show(os.map λ o:Int=>XV (ss.getD o.toNat 0)).length+(ah (ss.map XV) (Oh (((bT ns os).map XV).length:Nat)) Oj).length<=Oq;rw[e1,ag,af,bO];exact aH Z
 .show Q (.tup [tI (bT ns os),.int b,.tup ((os.map λ o:Int=>XV (ss.getD o.toNat 0))++ah (ss.map XV) (Oh (((bT ns os).map XV).length:Nat)) Oj)]);rw[e1,z,<- aG];exact q
def Ng:ZX 39 60 ["view","side","sides","stride","start"] 5 2 zW Lf:=ax <| by
 rintro ts Q ⟨ns,ss,b,k,rfl,l,sl,s6,kl,nb,q⟩;refine⟨O,?_⟩;have n5:=nb (ns.getD k 0) (jF kl);refine⟨_,O,cl rfl ⟨ns,(k:Int),O,by unfold Uf;lia,O,?_⟩ rfl⟩;refine⟨_,O,.int (ss.getD k 0),bB Z,O,_,O,.int (ns.getD k 0),bB kl,gX Z Z,O,_,O,?_⟩;exact cl rfl ⟨ss,k,_,O,Z,Z,O,TR,O,q⟩ rfl
def Nh:ZX 40 61 ["view","side","first","many","step","sides","stride"] 7 5 zX Lg:=ax <| by
 rintro ts Q ⟨ns,ss,b,f,m,g,k,rfl,l,sl,s6,kl,m5,nb,q⟩;refine⟨O,?_⟩;have nb':=nb;unfold Vg at nb';refine⟨_,O,cl rfl ⟨ns,(k:Int),f,m,g,O,Z,Z,Z,by unfold Uf;lia,nb,O,?_⟩ rfl⟩;rw[Ot];refine⟨_,O,.int (ss.getD k 0),bB Z,O,_,O,gX Z Z,_,O,gW Z Z,?_⟩;exact cl rfl ⟨ss,k,_,O,Z,Z,O,TR,O,q⟩ rfl
def Ni:ZX 41 62 ["view","side","many","sides"] 4 3 zY Lh:=ax <| by
 rintro ts Q ⟨ns,ss,b,m,k,rfl,sd,l,sl,s6,kl,m0,m1,nb,q⟩;refine⟨O,?_⟩;refine⟨_,O,cl rfl ⟨ns,(k:Int),m,O,sd,Z,m1,by unfold jE;lia,Z,by rw[Ot];exact nb,O,?_⟩ rfl⟩;rw[Ot];exact⟨_,O,_,O,cl rfl ⟨ss,k,0,O,Z,O,TR,O,q⟩ rfl⟩
def Nj:ZX 42 63 ["view","sides","own","strides","more"] 5 2 zZ Li:=ax <| by
 rintro ts Q ⟨ns,ms,ss,b,rfl,hp,nl,ml,sl,q⟩;refine⟨O,?_⟩;have le:ns.length<=ms.length:=by rw[<- hp,aQ];lia
 have e1:(ah (ss.map XV) Oj (Oh (((ns.map XV).length:Nat):Int)))=(ss.take ns.length).map XV:=by rw[af,cY]
 have e2:(ah (ss.map XV) (Oh (((ns.map XV).length:Nat):Int)) Oj)=(ss.drop ns.length).map XV:=by rw[af,cg]
 have e3:(Os ((((ms.map XV).length:Nat):Int)-(((ns.map XV).length:Nat):Int)).toNat (Pc TV.fz [XV 0])).flatten=(dA (ms.length-ns.length)).map XV:=by rw[af,af];exact yz _ _
 have l1:(ss.take ns.length).length<=60:=by rw[aQ];lia
 have l2:(ss.drop ns.length).length<=60:=by rw[bO];lia
 have l3:(dA (ms.length-ns.length)).length<=6:=by rw[kI];lia
 refine⟨_,O,cl rfl ⟨ns,ms,O,hp,?_⟩ rfl⟩;refine⟨_,O,O,_,O,O,O,Ub,on,⟨by rw[af,af];lia,by rw[af,af];lia⟩,?_,O,_,O,?_,?_,O,TR,O,?_⟩
 .rw[af,af];exact aH (by show 1*_<=1000;lia)
 .rw[e1,e3,af,af];exact aH Z
 .rw[e1,e2,e3,aF,af,af,af];exact aH Z
 .show Q (.tup [tI ms,.int b,.tup (ah (ss.map XV) Oj (Oh (((ns.map XV).length:Nat):Int))++(Os ((((ms.map XV).length:Nat):Int)-(((ns.map XV).length:Nat):Int)).toNat (Pc TV.fz [XV 0])).flatten++ah (ss.map XV) (Oh (((ns.map XV).length:Nat):Int)) Oj)]);rw[e1,e2,e3,<- aG,<- aG];exact q
def Nk:ZX 43 64 ["view","side","sides","strides"] 4 2 Aa Lj:=ax <| by
 rintro ts Q ⟨ns,ss,b,k,rfl,l,sl,s6,kl,q⟩;refine⟨O,?_⟩;have el:(ns.eraseIdx k).length=ns.length-1:=by rw[mO,XT kl]
 refine⟨_,O,cl rfl ⟨ns,(k:Int),O,Z,by unfold Uf;lia,?_⟩ rfl⟩;rw[Ot];refine⟨O,_,O,O,_,O,cl rfl ⟨ss,k,O,Z,Z,?_⟩ rfl⟩;exact⟨.int (ss.getD k 0),bB Z,cl rfl ⟨ss.eraseIdx k,ns.length-1,_,by rw[af,el];rfl,by rw[mO];split<;>lia,O,TR,O,q⟩ rfl⟩
def Nl:ZX 44 65 ["step","view"] 2 2 Ab Lk:=ax <| by
 rintro ts Q ⟨d,A,S,ss,b,Ss,rfl,m4,ea,fA,ok,sl,s6,q⟩;refine⟨O,?_⟩;have sd:=cF fA;have l6:=fA.2.1
 cases d with
 |turn a os=>
  obtain⟨A',e2,tk,rfl⟩:=ok;cases bv (ea.symm.trans e2);exact⟨_,O,pv,_,O,cl rfl ⟨A,ss,os,b,O,l6,sl,s6,tk,O,q⟩ rfl⟩
 |flip a s=>
  obtain⟨e2,no⟩:=ok;cases bv (ea.symm.trans e2);obtain⟨k,rfl,kl⟩:=dI no;exact⟨_,O,pv,_,O,pv,_,O,cl rfl ⟨A,ss,b,k,O,l6,sl,s6,kl,fA.1,O,q⟩ rfl⟩
 |cut a s f m g=>
  obtain⟨A',e2,no,nb,m5,rfl⟩:=ok;cases bv (ea.symm.trans e2);obtain⟨k,rfl,kl⟩:=dI no;exact⟨_,O,pv,_,O,pv,_,O,pv,_,O,_,O,_,O,_,O,cl rfl ⟨A,ss,b,f,m,g,k,O,l6,sl,s6,kl,m5,nb,O,q⟩ rfl⟩
 |spread a s m=>
  obtain⟨A',e2,no,m0,m5,nb,rfl⟩:=ok;cases bv (ea.symm.trans e2);unfold jE at no;obtain⟨k,rfl⟩:∃k:Nat,s=k:=⟨s.toNat,Z⟩;exact⟨_,O,pv,_,O,pv,_,O,pv,_,O,_,O,cl rfl ⟨A,ss,b,m,k,O,sd,l6,sl,s6,Z,Z,Z,nb,O,q⟩ rfl⟩
 |_=>exact m4.elim
def Nm:ZX 45 67 ["tree"] 1 1 Ac Ll:=ax <| by
 rintro ts Q ⟨t,rfl,q⟩;refine⟨O,?_⟩;cases t<;>exact⟨_,rfl,rfl,TR,rfl,JJ,rfl,q⟩
def Nn:ZX 46 68 ["tree","form"] 2 1 Ad Lm:=ax <| by
 rintro ts Q ⟨t,rfl,q⟩;refine⟨O,?_⟩
 cases t with
 |pick a b c=>exact⟨_,rfl,rfl,trivial,rfl,q⟩
 |each w t|pair w a b=>exact⟨_,rfl,rfl,trivial,rfl,Tz,rfl,pk,rfl,q⟩
 |fold w n t=>exact⟨_,rfl,rfl,trivial,rfl,Tz,rfl,pk,trivial,rfl,q⟩
 |fetch st s r n ss t=>exact⟨_,rfl,rfl,trivial,rfl,Tz,rfl,pk,trivial,trivial,rfl,q⟩
 |_=>exact⟨_,rfl,rfl,trivial,rfl,Tz,rfl,pk,trivial,trivial,rfl,Ul,rfl,q⟩
def No:ZF 47 [] 69 ["tree","change","form","told"] 4 2 Ae Ln:=by
 refine⟨by kernel_rfl,?_⟩;rintro Φ fa ts P' ⟨t,g,rfl,hg,q⟩;refine⟨O,?_⟩;have ap:∀(p:Int×LI) (Q:TV->Prop),p∈WQ t->Q (.tup [.int (g p.1 p.2).1,tI (g p.1 p.2).2])->∃P1,(∃S,(Ft 47++[UR [] Φ fa])[47]?=Oh S/\S (.str "" :: .obj (.fn fa)::[.int p.1,tI p.2]) P1)/\∀t,P1 t->Q t:=λ p Q hp hq=>⟨Q,⟨_,rfl,.inl ⟨_,rfl,hg p hp Q hq⟩⟩,λ _ h=>h⟩
 cases t with
 |idx s ss=>exact⟨_,rfl,rfl,trivial,rfl,Ub,rfl,_,rfl,_,rfl,rfl,ap (s,ss) _ bg ⟨aH (show 1+2<=1000 by decide),rfl,q⟩⟩
 |read st s ss=>exact⟨_,rfl,rfl,trivial,trivial,_,rfl,rfl,Tz,rfl,_,rfl,_,rfl,rfl,ap (s,ss) _ bg ⟨aH (show 2+2<=1000 by decide),rfl,q⟩⟩
 |fetch st s r n ss t=>exact⟨_,rfl,rfl,trivial,trivial,trivial,rfl,_,rfl,_,rfl,rfl,ap (s,ss) _ bg ⟨rfl,_,rfl,_,rfl,_,rfl,_,rfl,_,rfl,rfl,Vc,rfl,q⟩⟩
 |_=>exact⟨_,rfl,rfl,trivial,trivial,trivial,cl rfl ⟨_,rfl,rfl,q⟩ rfl⟩
def Np:ZX 47 69 ["tree","change","form","told"] 4 2 zO .never:=⟨by kernel_rfl,λ _ _ h=>h.elim⟩
def Nq:ZG 48 [("root_remade",Ae)] "remade" 70 ["tree","change","branches","branch"] 4 2 mR Lo:=by
 refine⟨by kernel_rfl,λ _ _ _ (h:False)=>h,?_⟩;rintro d Φ fa ts P' ⟨t,g,rfl,hd,hg,q⟩;refine⟨O,?_⟩;refine⟨O,Ul,O,cl rfl ⟨t,O,O,?_⟩ rfl⟩;refine cS (λ i ρ=>∃y,ρ=[Oh (Tl t),Oh (.obj (.fn fa)),Oh (.own (((Vi t).take i).map λ b=>Tl (rm g b))),y]) ⟨_,O⟩ (λ i u ρ hu h=>?_) (λ ρ h=>?_)
 .obtain⟨y,rfl⟩:=h;rw[bh] at hu;obtain⟨b,eb,rfl⟩:=kE.mp hu;have mb:=aE eb;have db:=JF mb;obtain⟨d,rfl⟩:∃d',d=d' + 1:=⟨d-1,Z⟩;have bl:=yw t;refine⟨⟨_,O,.inr ⟨"remade",_,ca,O,.inl rfl⟩⟩,O,_,⟨_,O,.inr ⟨"remade",_,ca,O,.inr ⟨_,O,b,g,O,Z,λ p hp=>hg p (JG mb p hp),O,?_,Oh (Tl b),?_⟩⟩⟩,λ _ h=>h⟩
  .rw[ag,aQ];exact aL Z
  .show[Oh (Tl t),Oh (.obj (.fn fa)),Oh (TV.own (((Vi t).take i).map (λ b=>Tl (rm g b))++[Tl (rm g b)])),Oh (Tl b)]=_;rw[jB,eb,aG];rfl
 .obtain⟨y,rfl⟩:=h;rw[ag,bR];have bl:=yw t;have rl:=JK (rm g t);refine⟨⟨_,O,.inr ⟨"root_remade",_,ca,O,.inl rfl⟩⟩,O,_,⟨_,O,.inr ⟨"root_remade",_,ca,O,.inr ⟨_,O,t,g,O,λ p hp=>hg p (JI p hp),?_,O,?_⟩⟩⟩,λ _ h=>h⟩
  .rw[ag];exact aH Z
  .show P' (.tup (Wu (rm g t)++(Vi t).map λ b=>Tl (rm g b)));rw[JE];exact q
def Nr:ZX 48 70 ["tree","change","branches","branch"] 4 2 zO .never:=⟨by kernel_rfl,λ _ _ h=>h.elim⟩
def Nt:ZX 91 72 ["program"] 1 1 Af Lp:=ax <| by
 rintro ts Q ⟨ds,Ss,os,mo,rfl,gd,q⟩;refine⟨O,?_⟩;obtain⟨_,gl,d0,d40,o0,o8,ob⟩:=gd;exact⟨_,O,_,O,cl rfl ⟨_,ds,os,O,O,d40,ob,yE gl,O,q⟩ rfl⟩
def Nu:ZX 92 73 ["program","steps","uses","user","place","number"] 6 1 Ag Lq:=ax <| by
 rintro ts Q ⟨ds,Ss,os,mo,rfl,gd,q⟩;refine⟨O,?_⟩;obtain⟨_,gl,d0,d40,o0,o8,ob⟩:=id gd;have rl:=yH ds os;refine⟨_,O,O,O,by rw[ag];exact aL Z,λ as nd al=>?_⟩;rw[ag] at al;rw[al];refine cl rfl ⟨ds,Ss,os,mo,O,gd,O,?_⟩ rfl;refine cS (λ i ρ=>∃y3 y4 y5,ρ=[Oh (.tup [.tup (ds.map Tq),tI os]),Oh (.tup (ds.map Tq)),Oh (.obj (.lls as (UN ds ((aV ds os).take i)))),y3,y4,y5]) ⟨_,_,_,O⟩ (λ i t ρ ht h=>?_) (λ ρ h=>?_)
 .obtain⟨y3,y4,y5,rfl⟩:=h;obtain⟨u,rfl,eu⟩:=JT ht;have ul:=(mem_reach.mp (aE eu)).1;have ed:=dX ul;have st:=py (ds:=ds) eu;have ui:=(aY.mp eu).1;have bu:=pA (ds:=ds) (live:=aV ds os) i;have lu:=px ds ((aV ds os).take i);rw[st];have hd:=yE gl _ (aE ed);generalize ds.getD u (.num 0)=d at ed hd;generalize UN ds ((aV ds os).take i)=U at *;refine⟨Tq d,ak ed,cl rfl ⟨d,O,O,?_⟩ rfl⟩;refine cS (λ j ρ=>∃y4 y5,ρ=[Oh (.tup [.tup (ds.map Tq),tI os]),Oh (.tup (ds.map Tq)),Oh (.obj (.lls as (Ut u ((ar d).take j) U))),Oh (.int u),y4,y5]) ⟨_,_,O⟩ (λ j t ρ ht h=>?_) (λ ρ h=>?_)
  .obtain⟨y4,y5,rfl⟩:=h;obtain⟨c,rfl,ec⟩:=Jv ht;rw[bh] at ec;obtain⟨a,ea,rfl⟩:=kE.mp ec;have al':=hd a (aE ea);have jl:=(aY.mp ea).1;have a3:=yG d;have ll:(Ut u ((ar d).take j) U).length=ds.length:=by rw[sZ,lu]
   have bb:=pz (u:=u) (as:=ar d) bu j;have eg:(Ut u ((ar d).take j) U)[a]?=Oh ((Ut u ((ar d).take j) U).getD a []):=by rw[aP,bc Z];rfl
   have lb:=bb _ (aE eg);exact⟨a,_,O,eg,Z,O,Tz,[(u:Int),(j:Int)],O,_,_,by rw[mK ea];rfl⟩
  .obtain⟨y4,y5,rfl⟩:=h;rw[pN,ag,ag,bR];exact⟨_,_,_,O⟩
 .obtain⟨y3,y4,y5,rfl⟩:=h;rw[ag,bR];exact⟨O,q⟩
def Nv:ZH 46 93 74 ["tree","sides","move"] ["start","strides","sides","move"] ["start","strides"] [1,2] 3 4 3 (mR 42) pM Lr Lu:=by
 refine⟨by kernel_rfl,?_⟩;rintro Φ fa ts P' ⟨t,S,h,rfl,hd,hm,q⟩;refine⟨O,?_⟩;refine⟨O,[tI S,.obj (.fn fa)],λ args Q=>∃p∈TJ t,args=[.int p.1,tI p.2]/\Q (.tup [.int (h p.1 p.2).1,tI (h p.1 p.2).2]),_,O,λ u hu=>?_,⟨t,h,O,hd,λ p hp Q hq=>⟨p,hp,O,hq⟩,O⟩,?_,λ t e=>e ▸ q⟩
 .rcases aB.mp hu with rfl|hu
  .exact .inl (gB S)
  .cases aI.mp hu;exact .inr ⟨fa,rfl⟩
 .rintro args P'' ⟨p,hp,rfl,hq⟩;obtain⟨S',hφ⟩:=hm p hp;exact⟨O,O,O,TR,O,_,⟨_,O,.inl ⟨_,O,hφ _ ⟨O,hq⟩⟩⟩,λ _ h=>h⟩
def Nw:ZX 93 74 ["tree","sides","move"] 3 3 zO .never:=⟨by kernel_rfl,λ _ _ h=>h.elim⟩
def Nx:ZM 45 94 75 ["tree","sides","longer"] ["view","longer"] ["view"] [2] 3 2 3 pM Ah Lv Lw Lx:=ax <| by
 rintro ts Q ⟨t,S,L,rfl,hd,hl,hp,s6,l6,q⟩;refine⟨O,?_⟩;refine⟨O,[tI L],λ args Q=>∃p∈TJ t,args=[Uj S p.1 p.2]/\Q (Uj L p.1 (cZ S.length (L.length-S.length) p.1 p.2).2),_,O,λ u hu=>?_,⟨t,S,cZ S.length (L.length-S.length),O,hd,λ p hp=>⟨L,λ Q hq=>⟨p,hp,O,hq⟩⟩,O⟩,?_,λ t e=>e ▸ q⟩
 .cases aI.mp hu;exact .inl (gB L)
 .rintro args P'' ⟨p,hp',rfl,hq⟩;exact⟨O,cl rfl ⟨S,L,p.2,p.1,O,hp,s6,l6,(hl p hp').2,O,hq⟩ rfl⟩
def Ny:ZM 45 95 76 ["tree","sides","side"] ["view","side"] ["view"] [2] 3 2 3 pM Ai Ly Lz LB:=ax <| by
 rintro ts Q ⟨t,S,k,rfl,hd,hl,s6,kl,q⟩;refine⟨O,?_⟩;refine⟨O,[.int k],λ args Q=>∃p∈TJ t,args=[Uj S p.1 p.2]/\Q (Uj (S.eraseIdx k) p.1 (cH S.length k p.1 p.2).2),_,O,λ u hu=>?_,⟨t,S,cH S.length k,O,hd,λ p hp=>⟨S.eraseIdx k,λ Q hq=>⟨p,hp,O,hq⟩⟩,O⟩,?_,λ t e=>e ▸ q⟩
 .cases aI.mp hu;exact .inl (by simp[LF])
 .rintro args P'' ⟨p,hp',rfl,hq⟩;exact⟨O,cl rfl ⟨S,p.2,p.1,k,O,s6,(hl p hp').1,(hl p hp').2,kl,O,hq⟩ rfl⟩
def Nz:ZX 96 77 ["store","sides"] 2 2 Aj LC:=ax <| by
 rintro ts Q ⟨st,S,rfl,sd,l,q⟩;refine⟨O,?_⟩;exact cl rfl ⟨S,O,sd,l,O,Us,O,q⟩ rfl
def NA:ZX 97 78 ["step","own","sides","trees","source","asked","strides","row"] 8 4 Ak LD:=ax <| by
 rintro ts Q ⟨a,b,n,r,B,S,ss,st,s,t,Ss,Ts,rfl,ea,eb,eta,etb,s0,s6,b6,S6,hp,hd,hl,q⟩;refine⟨O,?_⟩;have e1:ah (ss.map XV) (Oh 1) Oj=(ss.drop 1).map XV:=cg ss 1;have e3:(Os (((B.map XV).length:Nat):Int).toNat (Pc TV.fz [XV 0])).flatten=(dA B.length).map XV:=by rw[af];exact yI _
 refine⟨_,O,Tl (.read st s ss),ak eta,O,_,O,tI B,ak eb,O,O,Ub,on,⟨by rw[af];lia,by rw[af];lia⟩,by rw[af];exact aH (by show 1*_<=1000;lia),_,O,?_,O,_,O,Tl t,ak etb,?_⟩
 .rw[e3,e1,af,af,kI,bO];exact aH Z
 .refine cl rfl ⟨t,B,S,O,hd,hl,hp,b6,S6,O,_,O,_,O,_,O,_,(show TW (ss.map XV) 0=Oh (.int (ss.getD 0 0)) from bB (k:=0) s0),_,O,tI (n::r),ak ea,.int n,bB (ns:=n::r) (k:=0) on,O,Wt,O,?_⟩ rfl;show Q (.tup [.str "fetch",.int st,.int s,.int (ss.getD 0 0),.int n,.tup ((Os (((B.map XV).length:Nat):Int).toNat (Pc TV.fz [XV 0])).flatten++ah (ss.map XV) (Oh 1) Oj),Tl (rm (cZ B.length (S.length-B.length)) t)]);rw[e3,e1,<- aG];exact q
def NB:ZN 45 98 5 79 ["step","own","sides","trees","form","used","ahead","used_sides"] ["view","step"] ["view"] [0] 8 2 4 pM Al LG LH Am LJ LK:=ax <| by
 rintro ts Q ⟨d,S,Ss,Ts,rfl,ok,fS,fs,⟨hA,hlay,hfet⟩,q⟩;refine⟨O,?_⟩;have S6:=fs.2.1;have sd:=cF fs
 have led:(TQ d=TQ (.each "" 0)\/TQ d=TQ (.pair "" 0 0)\/TQ d=TQ (.pick 0 0 0))->∀a∈ar d,∃t A,Ts[a]?=Oh (Oh t)/\Ss[a]?=Oh A/\(Tt t<=41/\fk A.length t)/\A.length<=6/\S.take A.length=A/\rm (cZ A.length (S.length-A.length)) t=bM Ts Ss S a:=λ h a ha=>by
  obtain⟨t,A,et,eA,wf⟩:=hA a ha;obtain⟨A',eA',hp⟩:=tm ok h a ha;cases eA.symm.trans eA';have a6:=(fS A (aE eA)).2.1;exact⟨t,A,et,eA,gC wf a6 (ao _),a6,hp,by unfold bM;rw[bC et,Uh eA]⟩
 have mvd:VO d->∀q':Q (Uc (cJ Ts Ss S d)),∀t A,Ts[(ar d).headD 0]?=Oh (Oh t)->Ss[(ar d).headD 0]?=Oh A->UY 40 A t->Q (Tl (rm (bW A d) t))/\fit A/\Tt t<=41/\∀(args:List TV) (P'':TV->Prop),(∃p∈TJ t,args=[Uj A p.1 p.2]/\P'' (Uj S (bW A d p.1 p.2).1 (bW A d p.1 p.2).2))->args.length=1/\wE (Um DL 45) GT Am (TN 2 (args++[Tq d])) λ u=>u.pl=Oi/\P'' u:=λ m q' t A et eA wf=>by
  have fA:=fS A (aE eA);have w:=gC wf fA.2.1 (ao _);refine⟨?_,fA,w.1,?_⟩
  .have e:cJ Ts Ss S d=Oh (rm (bW (Tk Ss ((ar d).headD 0)) d) (gt Ts ((ar d).headD 0))):=by cases d<;>first|rfl|exact m.elim
   rw[e,bC et,Uh eA] at q';exact q'
  .rintro args P'' ⟨p,hp,rfl,hq⟩;have lp:=w.2 p hp;exact⟨O,cl rfl ⟨d,A,S,p.2,p.1,Ss,O,m,eA,fA,ok,lp.1,lp.2,O,hq⟩ rfl⟩
 cases d with
 |num n=>exact⟨_,rfl,rfl,cl rfl ⟨_,rfl,rfl,trivial,rfl,q⟩ rfl⟩
 |count ms k=>
  refine⟨_,O,O,cl rfl ⟨_,O,O,pv,pv,⟨by rw[af];lia,by rw[af];lia⟩,by rw[ag,eI,af,Ot];exact aL Z,ce (λ i:Nat=>.int (i:Nat)) (λ j:Nat=>.int (if (j:Int)=k then 1 else 0)) (OB (((S.map XV).length:Nat):Int).toNat) (λ j hj=>⟨_,O,pv,sN (λ h=>⟨O,by rw[XT h];rfl⟩) (λ h=>⟨O,by rw[XR h];rfl⟩)⟩) ⟨O,TR,O,?_⟩⟩ rfl⟩;have e:(OB (((S.map XV).length:Nat):Int).toNat).map (λ j:Nat=>XV (if (j:Int)=k then 1 else 0))=((OB S.length).map λ j:Nat=>if (j:Int)=k then (1:Int) else 0).map XV:=by rw[af,Ot,bJ];rfl
  show Q (.tup [.str "index",.int 0,.tup _]);rw[e];exact q
 |each w a=>
  refine⟨_,O,O,cl rfl ⟨_,O,O,pv,pv,O,TR,O,iP,O,aL (by show 1<=1000;decide),kM (l:=[a]) (f:=λ a:Nat=>XV (a:Int)) rfl (λ a=>Tl (bM Ts Ss S a)) (λ b hb=>?_) ⟨aH (cG rfl),O,q⟩⟩ rfl⟩;obtain⟨t,A,et,eA,⟨h1,h2⟩,a6,hp,e⟩:=led (.inl rfl) b hb;exact⟨Tl t,ak et,tI A,ak eA,cl rfl ⟨t,A,S,O,h1,h2,hp,a6,S6,O,bw Tl e⟩ rfl⟩
 |pair w a b'=>
  refine⟨_,O,O,cl rfl ⟨_,O,O,pv,pv,O,TR,O,iP,O,aL (by show 2<=1000;decide),kM (l:=[a,b']) (f:=λ a:Nat=>XV (a:Int)) rfl (λ a=>Tl (bM Ts Ss S a)) (λ b hb=>?_) ⟨aH (cG rfl),O,q⟩⟩ rfl⟩;obtain⟨t,A,et,eA,⟨h1,h2⟩,a6,hp,e⟩:=led (.inr (.inl rfl)) b hb;exact⟨Tl t,ak et,tI A,ak eA,cl rfl ⟨t,A,S,O,h1,h2,hp,a6,S6,O,bw Tl e⟩ rfl⟩
 |pick a b' c=>
  refine⟨_,O,O,cl rfl ⟨_,O,O,pv,pv,O,TR,O,iP,O,aL (by show 3<=1000;decide),kM (l:=[a,b',c]) (f:=λ a:Nat=>XV (a:Int)) rfl (λ a=>Tl (bM Ts Ss S a)) (λ b hb=>?_) ⟨aH (cG rfl),O,q⟩⟩ rfl⟩;obtain⟨t,A,et,eA,⟨h1,h2⟩,a6,hp,e⟩:=led (.inr (.inr rfl)) b hb;exact⟨Tl t,ak et,tI A,ak eA,cl rfl ⟨t,A,S,O,h1,h2,hp,a6,S6,O,bw Tl e⟩ rfl⟩
 |turn a os|flip a k|cut a k f m g|spread a k m=>
  obtain⟨t,A,et,eA,wf⟩:=hA a (by simp[ar]);obtain⟨q',fA,hd,hw⟩:=mvd trivial q t A et eA wf;exact⟨_,O,O,cl rfl ⟨_,O,O,pv,pv,O,TR,O,iP,O,Us,O,mL,_,O,Tl t,ak et,_,O,tI A,ak eA,O,[Tq _],λ args Q=>∃p∈TJ t,args=[Uj A p.1 p.2]/\Q (Uj S (bW A _ p.1 p.2).1 (bW A _ p.1 p.2).2),_,O,λ u hu=>by cases aI.mp hu;exact .inl (sR _),⟨t,A,bW A _,O,hd,λ p hp=>⟨S,λ Q hq=>⟨p,hp,O,hq⟩⟩,O⟩,hw,λ t e=>e ▸ q'⟩ rfl⟩
 |lay a ms=>
  obtain⟨t,A,et,eA,wf⟩:=hA a (by simp[ar]);obtain⟨st,s,ss,e⟩:=hlay a ms rfl;rw[bC et] at e;subst e;refine⟨_,O,O,cl rfl ⟨_,O,O,pv,pv,O,TR,O,iP,O,Us,O,mL,pv,_,O,Tl (.read st s ss),ak et,_,O,cl rfl ⟨st,S,O,sd,Z,O,?_⟩ rfl⟩ rfl⟩;have z:Q (Tl (.read (kR (gt Ts a)) 0 (aK S))):=q;rw[bC et] at z;exact z
 |fetch a b=>
  obtain⟨t,A,et,eA,wf⟩:=hA a (by simp[ar]);obtain⟨t',B,et',eB,wf'⟩:=hA b (by simp[ar]);obtain⟨n,r,B',ea,n0,eb,nb,rfl⟩:=ok;cases eB.symm.trans eb;cases eA.symm.trans ea;obtain⟨st,s,ss,e⟩:=hfet a b rfl;rw[bC et] at e;subst e;have a6:(n::r).length<=6:=(fS _ (aE eA)).2.1;have b6:=(fS B (aE eB)).2.1;have lp:=wf.2 (s,ss) bg;have w':=gC wf' b6 (ao _);have l1:(n::r).length<=ss.length/\ss.length<=(n::r).length+0:=lp;rw[OM] at l1 a6;refine⟨_,O,O,cl rfl ⟨_,O,O,pv,pv,O,TR,O,iP,O,Us,O,mL,pv,pv,cl rfl ⟨a,b,n,r,B,_,ss,st,s,t',Ss,Ts,O,eA,eB,et,et',Z,Z,b6,S6,s0i,w'.1,w'.2,O,?_⟩ rfl⟩ rfl⟩;have z:Q (Tl (kS (gt Ts a) (Tk Ss a) (Tk Ss b) (bM Ts Ss (B++r) b))):=q;unfold bM at z;rw[bC et,bC et',Uh eA,Uh eB] at z;exact z
 |fold w a side=>
  obtain⟨t,A,et,eA,wf⟩:=hA a (by simp[ar]);obtain⟨A',ea,hw,no,rfl⟩:=ok;cases eA.symm.trans ea;obtain⟨k,rfl,kl⟩:=dI no;have a6:=(fS A (aE eA)).2.1;have w':=gC wf a6 (ao _);refine⟨_,O,O,cl rfl ⟨_,O,O,pv,pv,O,TR,O,iP,O,Us,O,mL,pv,pv,pv,_,O,tI A,ak eA,O,_,O,_,O,.int (A.getD k 0),bB kl,_,O,Tl t,ak et,_,O,cl rfl ⟨t,A,k,O,w'.1,w'.2,a6,kl,O,Us,O,?_⟩ rfl⟩ rfl⟩;have z:Q (Tl (.fold w ((Tk Ss a).getD k 0) (rm (cH (Tk Ss a).length k) (gt Ts a)))):=q;rw[bC et,Uh eA] at z;exact z
 |_=>exact⟨_,rfl,rfl,cl rfl ⟨_,rfl,rfl,trivial,trivial,rfl,TR,rfl,iP,rfl,Us,rfl,mL,trivial,trivial,trivial,rfl,q⟩ rfl⟩
def NC:ZX 99 80 ["k","use","steps","sides","form","is_leading"] 6 4 Ao LM:=ax <| by
 rintro ts Q ⟨ds,Ss,k,u,p,d,S,A,rfl,ed,eA,eS,q⟩;refine⟨O,?_⟩;unfold pF at q;rw[gD ed,Uh eA,Uh eS] at q;have fin:Q (.bl (decide ((((S.map XV).length:Nat):Int)<(((A.map XV).length:Nat):Int))))->Q (.bl (decide ((S.length:Int)<(A.length:Int)))):=λ z=>by rw[af,af] at z;exact z
 have fin':Q (.bl (decide ((S.length:Int)<(A.length:Int))))->Q (.bl (decide ((((S.map XV).length:Nat):Int)<(((A.map XV).length:Nat):Int)))):=λ z=>by rw[af,af];exact z
 cases d with
 |pair w a b|pick a b c=>exact⟨_,rfl,Tq _,ak ed,_,rfl,rfl,rfl,Tz,rfl,tq,rfl,_,rfl,tI A,ak eA,tI S,ak eS,rfl,fin' q⟩
 |fetch a b=>
  have q:Q (.bl (decide (p=1)&&decide ((S.length:Int)<(A.length:Int)))):=q;refine⟨_,O,Tq _,ak ed,_,O,O,O,Tz,O,tq,pv,_,O,pv,O,?_⟩;refine s2 (λ h=>?_) (λ h=>?_)
  .have h:decide (p=1)=Oi:=h;rw[h] at q;exact⟨_,O,tI A,ak eA,tI S,ak eS,O,fin' q⟩
  .have h:decide (p=1)=Ol:=h;rw[h] at q;exact⟨O,q⟩
 |_=>exact⟨_,rfl,Tq _,ak ed,_,rfl,rfl,rfl,Tz,rfl,tq,trivial,rfl,rfl,q⟩
def ND:ZX 100 81 ["k","tree","program","sides","uses","steps","users"] 7 5 Ap LN:=ax <| by
 rintro ts Q ⟨ds,Ss,os,k,d,o,us,S,rfl,ed,eS,lS,hu,u9,ho,ni,q⟩;refine⟨O,?_⟩
 cases d with
 |inp ms=>exact XU rfl (ni ms)
 |lay a ms=>
  obtain⟨t,rfl⟩:=ho (λ h=>h);exact⟨_,O,O,Tq _,ak ed,_,O,pv,O,q⟩
 |run w a s|join a b s=>cases o<;>exact⟨_,rfl,rfl,Tq _,ak ed,_,rfl,trivial,Tq _,ak ed,_,rfl,rfl,Tz,rfl,yJ,rfl,q⟩
 |_=>
  obtain⟨t,rfl⟩:=ho (λ h=>h);have q:Q (.bl (mN ds Ss os k t us)):=q;unfold mN at q;refine⟨_,O,O,Tq _,ak ed,_,O,pv,Tq _,ak ed,_,O,O,Tz,O,yJ,_,O,O,flI os,s2 (λ h=>⟨O,by rw[XT h] at q;exact q⟩) (λ h=>?_)⟩;rw[XR (by rw[h];decide)] at q;refine⟨by rw[ag];exact aL Z,ce kT (λ x=>.str (Vp ds x)) us (λ x hx=>?_) ⟨O,?_⟩⟩
  .obtain⟨u,p,rfl,ul⟩:=hu x hx;exact⟨_,O,Tq _,ak (dX ul),_,fU _,O,O⟩
  refine⟨O,XC ds us,s2 (λ h=>⟨O,by rw[XT h] at q;exact q⟩) (λ h=>?_)⟩;rw[XR (by rw[h];decide)] at q
  have fin:Q (.bl (tz ds Ss k t us))->wS (Um DL 100) GT ((.r (.c1 45 V1) (.c (.bl Ol)) (.ret (.or (.gt (.ln V4) N1) (.or (.cmp .In (.w "spread") V6) (.b1 .any (.comp ["use"] ["k","steps","sides"] [0,5,3] [0] .seq (.a1 V4) (.call 99 (.cons V1 (.cons V0 (.cons V2 (.cons V3 .nil)))))))))))) [Oh (.int k),Oh (Tl t),Oh (.tup [.tup (ds.map Tq),tI os]),Oh (.tup (Ss.map tI)),Oh (.lst (us.map kT)),Oh (.tup (ds.map Tq)),Oh (.own (Wv ds us))] (λ _=>Q .non) Q:=λ q=>by
   unfold tz at q;refine cl rfl ⟨t,O,s2 (λ h=>⟨O,?_⟩) (λ h=>?_)⟩ rfl
   .have h:tu t=Oi:=by cases t<;>exact h
    rw[XT h] at q;exact q
   have h:tu t=Ol:=by cases t<;>exact h
   rw[XR (by rw[h];decide)] at q;refine s2 (λ h=>⟨O,?_⟩) (λ h=>?_)
   .have h:decide (1<(us.length:Int))=Oi:=by rw[<- ag (f:=kT)];exact h
    rw[XT h] at q;exact q
   have h:decide (1<(us.length:Int))=Ol:=by rw[<- ag (f:=kT)];exact h
   rw[XR (by rw[h];decide)] at q;refine⟨O,XC ds us,s2 (λ h=>⟨O,by rw[XT h] at q;exact q⟩) (λ h=>?_)⟩;rw[XR (by rw[h];decide)] at q;refine⟨by rw[ag];exact aL Z,ce kT (λ x=>.bl (pF ds Ss k (x.getD 0 0).toNat (x.getD 1 0))) us (λ x hx=>?_) ⟨_,yK _ us,O,q⟩⟩;obtain⟨u,p,rfl,ul⟩:=hu x hx;exact cl rfl ⟨ds,Ss,k,u,p,_,S,_,O,dX ul,bc Z,eS,O,O⟩ rfl
  refine⟨_,trK t,pv,s2 (λ h=>?_) (λ h=>fin (by rw[XR (by rw[XR (by rw[show(!_L.eqT (XX (VQ t)) (.str "read"))=Ol from h];decide)];decide)] at q;exact q))⟩;rw[XT (show(!_L.eqT (XX (VQ t)) (.str "read"))=Oi from h)] at q;refine⟨by rw[ag];exact aL Z,ce kT (λ x=>.bl (mM ds x)) us (λ x hx=>?_) ⟨_,yK _ us,s2 (λ h=>⟨O,by rw[XT h] at q;exact q⟩) (λ h=>fin (by rw[XR (by rw[h];decide)] at q;exact q))⟩⟩;obtain⟨u,p,rfl,ul⟩:=hu x hx;unfold mM;refine⟨_,O,Tq _,ak (dX ul),_,fU _,pv,s2 (λ h=>?_) (λ h=>?_)⟩
  .rw[XT (show _L.eqT (XX (Vp ds [(u:Int),(p:Int)])) (.str "fetch")=Oi from h)];exact⟨_,O,pv,O,O⟩
  .rw[XR (by rw[show _L.eqT (XX (Vp ds [(u:Int),(p:Int)])) (.str "fetch")=Ol from h];decide)];exact⟨O,O⟩
def NE:ZX 101 82 ["program","sides","steps","live","uses","trees","bare","stored","k","step","tree"] 11 2 Aq LP:=ax <| by
 rintro ts Q ⟨ds,Ss,os,mo,rfl,gd,q⟩;refine⟨O,?_⟩;obtain⟨hmo,gl,d0,d40,o0,o8,ob⟩:=id gd;have fS:=oY gl hmo;refine⟨_,O,O,cl rfl ⟨ds,Ss,os,mo,O,gd,O,cl rfl ⟨ds,Ss,os,mo,O,gd,O,O,Ul,O,O,Ul,O,O,Ul,O,O,?_⟩ rfl⟩ rfl⟩;refine cS (λ i ρ=>∃y8 y9 y10,ρ=[Oh (.tup [.tup (ds.map Tq),tI os]),Oh (.tup (Ss.map tI)),Oh (.tup (ds.map Tq)),Oh (.lst ((aV ds os).map λ k=>.int (k:Nat))),Oh (.lst ((dL ds os).map λ l=>.lst (l.map kT))),Oh (.own ((Th ds Ss os i).Ts.map Uc)),Oh (.own ((Th ds Ss os i).Bs.map Uc)),Oh (.own ((Th ds Ss os i).st.map λ k=>.int (k:Nat))),y8,y9,y10]) ⟨_,_,_,O⟩ (λ i t ρ ht h=>?_) (λ ρ h=>?_)
 .obtain⟨y8,y9,y10,rfl⟩:=h;obtain⟨d,rfl,ed⟩:=tJ ht;have il:=(aY.mp ed).1;have eS:Ss[i]?=Oh (Tk Ss i):=by unfold Tk;rw[aP,bc (by rw[<- gl.1];exact il)];rfl
  have ih:=jI (os:=os) gl d40 i Z;obtain⟨l1,l2,l3⟩:=gE ds Ss os i;have gd':=gD ed;have sz:∀n:Nat,n<=50->n<Oq:=λ n h=>aL Z;have fi:fit (Tk Ss i):=fS _ (aE eS);have inl:=tH i (aV ds os);have st:Th ds Ss os (i+1)=if UD ds Ss os (Th ds Ss os i).Ts i=Oi then ⟨(Th ds Ss os i).Ts++[Oh (.read ((Th ds Ss os i).st.length:Nat) 0 (aK (Tk Ss i)))],(Th ds Ss os i).Bs++[cK ds Ss os (Th ds Ss os i).Ts i],(Th ds Ss os i).st++[i]⟩ else ⟨(Th ds Ss os i).Ts++[cK ds Ss os (Th ds Ss os i).Ts i],(Th ds Ss os i).Bs++[cK ds Ss os (Th ds Ss os i).Ts i],(Th ds Ss os i).st⟩:=rfl;unfold UD cK at st;rw[gd'] at st;generalize Th ds Ss os i=p at *;rw[st];clear st;refine⟨O,hV _,s2 (λ h=>?_) (λ h=>?_)⟩
  .have hr:i∈aV ds os:=aC (inl.symm.trans h);have at':=(mP gl Z ih hr).2;rw[gd'] at at';rw[XT hr,cn hr];have ok:=VR (gl.2.2 i _ _ ed eS);have hno:=pG (Ts:=p.Ts) (Ss:=Ss) (S:=Tk Ss i) (d:=d)
   have ub:((dL ds os).getD i []).length<=900:=by
    have z:=pA (ds:=ds) (live:=aV ds os) (aV ds os).length;rw[bR] at z;have rl:=yH ds os;have:=z ((dL ds os).getD i []) (by rw[aP,bc (by rw[show dL ds os=UN ds (aV ds os) from rfl,px];lia)];exact kj _);lia
   refine⟨tI (Tk Ss i),ak eS,UO rfl ⟨d,_,Ss,p.Ts,O,ok,fS,fi,at',tj _,(yP _).1,?_⟩⟩;generalize cJ p.Ts Ss (Tk Ss i) d=o at *;cases o
   all_goals
    refine⟨O,by rw[ag,l2];exact sz _ Z,?_⟩;refine⟨_,fU d,pv,s2 (λ h=>?_) (λ h=>?_)⟩
    .have h:bI d=Oi:=(eJ d).symm.trans h;rw[XT (by rw[h];rfl)];exact⟨tI (Tk Ss i),ak eS,cl rfl ⟨_,_,O,cF fi,by have:=fi.2.1;lia,O,O,by rw[ag];exact sz _ Z,O,by rw[ag,l1];exact sz _ Z,_,_,_,by rw[aG,aG,aG,ag];rfl⟩ rfl⟩
    .have h:bI d=Ol:=(eJ d).symm.trans h;rw[h];refine⟨O,hV _,s2 (λ _=>?_) (λ h'=>XU hr (fW (inl.symm.trans h')))⟩;refine⟨.lst (((dL ds os).getD i []).map kT),ak (f:=λ l:LL=>TV.lst (l.map kT)) (by rw[aP,bc (by rw[show dL ds os=UN ds (aV ds os) from rfl,px];lia)];rfl),cl rfl ⟨ds,Ss,os,i,d,_,_,Tk Ss i,O,ed,eS,gl.1,JZ,ub,hno,Kf h,s2 (λ h=>?_) (λ h=>?_)⟩ rfl⟩
     .rw[XT (by rw[show kU ds Ss os i d _ ((dL ds os).getD i [])=Oi from h];rfl)];exact⟨tI (Tk Ss i),ak eS,cl rfl ⟨_,_,O,cF fi,by have:=fi.2.1;lia,O,O,by rw[ag];exact sz _ Z,O,by rw[ag,l1];exact sz _ Z,_,_,_,by rw[aG,aG,aG,ag];rfl⟩ rfl⟩
     .rw[XR (by rw[show kU ds Ss os i d _ ((dL ds os).getD i [])=Ol from h];decide)];exact⟨O,by rw[ag,l1];exact sz _ Z,_,_,_,by rw[aG,aG];rfl⟩
  .have hr:i ∉ aV ds os:=fW (inl.symm.trans h);rw[XR hr,bD hr];refine⟨O,?_⟩;refine⟨O,by rw[ag,l2];exact sz _ Z,?_⟩;refine⟨_,fU d,pv,s2 (λ h=>?_) (λ h=>?_)⟩
   .have h:bI d=Oi:=(eJ d).symm.trans h;rw[XT (by rw[h];rfl)];exact⟨tI (Tk Ss i),ak eS,cl rfl ⟨_,_,O,cF fi,by have:=fi.2.1;lia,O,O,by rw[ag];exact sz _ Z,O,by rw[ag,l1];exact sz _ Z,_,_,_,by rw[aG,aG,aG,ag];rfl⟩ rfl⟩
   .have h:bI d=Ol:=(eJ d).symm.trans h;rw[h];refine⟨O,hV _,s2 (λ h'=>XU (aC (inl.symm.trans h')) hr) (λ _=>?_)⟩;rw[XR on];exact⟨O,by rw[ag,l1];exact sz _ Z,_,_,_,by rw[aG,aG];rfl⟩
 obtain⟨y8,y9,y10,rfl⟩:=h;rw[pN,ag];exact⟨O,TR,O,q⟩
def NF:ZX 102 83 ["step","store","sides","trees","used","side","view","tree"] 8 4 Ar LQ:=ax <| by
 rintro ts Q ⟨w,a,k,st,A,t,Ss,Ts,rfl,eA,et,fA,kl,hd,hl,q⟩;refine⟨O,?_⟩;have sl:=mH A;have a6:=fA.2.1;refine⟨_,O,tI A,ak eA,O,_,O,O,cl rfl ⟨A,O,cF fA,Z,cl rfl ⟨A,aK A,0,k,O,a6,Z,Z,kl,O,_,O,Tl t,ak et,cl rfl ⟨t,A,k,O,hd,hl,a6,kl,O,_,O,_,O,.int (A.getD k 0),bB kl,_,O,_,O,O,aH (cG rfl),O,q⟩ rfl⟩ rfl⟩ rfl⟩
def NG:ZX 103 84 ["step","store","own","sides","trees","first","second","strides","start"] 9 5 As LR:=ax <| by
 rintro ts Q ⟨a,b,k,st,A,B,S,ta,tb,Ss,Ts,rfl,eA,eB,eta,etb,fA,fS,kl,lS,q⟩;refine⟨O,?_⟩;have sl:(UC S S.length).reverse.length=S.length:=mH S;have s6:=fS.2.1;have n5:=fA.1 (A.getD k 0) (jF kl);refine⟨_,O,O,_,O,O,cl rfl ⟨S,O,cF fS,Z,O,tI A,ak eA,_,O,.int (A.getD k 0),bB kl,_,O,.int ((aK S).getD k 0),bB Z,gX Z Z,O,tI A,ak eA,Tl ta,ak eta,O,Vc,tI B,ak eB,Tl tb,ak etb,O,Vc,O,Tz,O,q⟩ rfl⟩
def NH:ZX 104 85 ["k","store","program","sides","spun_trees","step","trees"] 7 5 At LS:=ax <| by
 rintro ts Q ⟨ds,Ss,os,mo,k,st,rfl,gd,hk,hi,q⟩;refine⟨O,?_⟩;obtain⟨hmo,gl,d0,d40,o0,o8,ob⟩:=id gd;have fS:=oY gl hmo;have kl:=(mem_reach.mp hk).1;have ed:=dX kl;have eS:Ss[k]?=Oh (Tk Ss k):=by unfold Tk;rw[aP,bc (by rw[<- gl.1];exact kl)];rfl
 have fi:fit (Tk Ss k):=fS _ (aE eS);have hA:=(mP gl Z (λ j hj hr=>jI gl d40 ds.length (ao _) j Z hr) hk).2.1;have ok:=VR (gl.2.2 k _ _ ed eS);obtain⟨l1,l2,l3⟩:=gE ds Ss os ds.length;generalize Th ds Ss os ds.length=p at *;have eB:p.Bs[k]?=Oh (p.Bs.getD k Oj):=by rw[aP,bc Z];rfl
 generalize ds.getD k (.num 0)=d at *;have s6:=fi.2.1
 cases d with
 |run w a s=>
  obtain⟨t,A,et,eA,wf⟩:=hA a (by simp[ar]);obtain⟨eA',hw,no⟩:=ok;obtain⟨c,rfl,cl'⟩:=dI no;cases eA.symm.trans eA';have wf':=gC wf s6 (ao _);have q:Q (.lst [Vk w st (Tk Ss a) c (Tl (rm (cH (Tk Ss a).length c) (gt p.Ts a)))]):=q;rw[Uh eA,bC et] at q;exact⟨_,O,Tq _,ak ed,O,_,O,O,_,O,pv,cl rfl ⟨w,a,c,st,_,t,Ss,p.Ts,O,eA,et,fi,cl',wf'.1,wf'.2,O,Ub,O,q⟩ rfl⟩
 |join a b s=>
  obtain⟨ta,A,eta,eA,wfa⟩:=hA a (by simp[ar]);obtain⟨tb,B,etb,eB',wfb⟩:=hA b (by simp[ar]);obtain⟨A',B',ea,eb,lAB,no,er,nb,e⟩:=ok;cases eA.symm.trans ea;cases eB'.symm.trans eb;have jl:(Tk Ss k).length=A.length:=by rw[e];exact yQ no
  obtain⟨c,rfl,cl'⟩:=dI no;have q:Q (.lst [dY st (Tk Ss a) 0 (aK (Tk Ss k)) (Tl (gt p.Ts a)),dY st (Tk Ss b) ((Tk Ss a).getD c 0*(aK (Tk Ss k)).getD c 0) (aK (Tk Ss k)) (Tl (gt p.Ts b))]):=q;rw[Uh eA,Uh eB',bC eta,bC etb] at q;exact⟨_,O,Tq _,ak ed,O,_,O,O,_,O,pv,_,O,pv,tI _,ak eS,cl rfl ⟨a,b,c,st,A,B,_,ta,tb,Ss,p.Ts,O,eA,eB',eta,etb,fS _ (aE eA),fi,cl',jl,O,q⟩ rfl⟩
 |inp ms=>cases hi
 |_=>
  refine⟨_,O,Tq _,ak ed,O,_,O,O,_,O,pv,_,O,pv,tI _,ak eS,tI _,ak eS,cl rfl ⟨_,O,cF fi,Z,_,O,Uc (p.Bs.getD k Oj),ak eB,?_⟩ rfl⟩;generalize p.Bs.getD k Oj=o at *;cases o<;>exact⟨rfl,Vc,rfl,Ub,rfl,q⟩
def NI:ZX 105 86 ["program","stored"] 2 1 Au LU:=ax <| by
 rintro ts Q ⟨ds,Ss,os,mo,rfl,gd,q⟩;refine⟨O,?_⟩;obtain⟨hmo,gl,d0,d40,o0,o8,ob⟩:=id gd;have hst:=tK (ds:=ds) (Ss:=Ss) (os:=os) ds.length;obtain⟨l1,l2,l3⟩:=gE ds Ss os ds.length;refine cl rfl ⟨ds,Ss,os,mo,O,gd,cl rfl ⟨ds,Ss,os,mo,O,gd,?_⟩ rfl⟩ rfl;generalize Th ds Ss os ds.length=p at *;refine⟨_,O,O,by rw[ag];exact aL Z,gY (λ k:Nat=>.int (k:Nat)) (λ k:Nat=>.int (k:Nat)) (λ k=>!bI (ds.getD k (.num 0))) p.st rfl (λ k hk=>?_) ⟨O,q⟩⟩;have kl:=(hst k hk).1;refine⟨_,O,Tq _,ak (dX kl),_,fU _,pv,?_,λ _=>⟨O,O⟩⟩;exact bw (λ b=>TV.bl (!b)) (eJ _)
def NJ:ZX 106 87 ["program","sides","spun_trees","stored","loops","store","k","stores","outs"] 9 1 Av LW:=ax <| by
 rintro ts Q ⟨ds,Ss,os,mo,rfl,gd,q⟩;refine⟨O,?_⟩;obtain⟨hmo,gl,d0,d40,o0,o8,ob⟩:=id gd;have fS:=oY gl hmo;have hst:=tK (ds:=ds) (Ss:=Ss) (os:=os) ds.length;obtain⟨l1,l2,l3⟩:=gE ds Ss os ds.length;have inv:=λ o h=>jI (os:=os) gl d40 ds.length (ao _) o h;have eSk:∀k,k<ds.length->Ss[k]?=Oh (Tk Ss k):=λ k kl=>by unfold Tk;rw[aP,bc (by rw[<- gl.1];exact kl)];rfl
 refine cl rfl ⟨ds,Ss,os,mo,O,gd,O,cl rfl ⟨ds,Ss,os,mo,O,gd,O,_,O,O,O,Ul,O,O,?_⟩ rfl⟩ rfl;generalize hp:Th ds Ss os ds.length=p at *;refine cS (λ i ρ=>∃y5 y6,ρ=[Oh (.tup [.tup (ds.map Tq),tI os]),Oh (.tup (Ss.map tI)),Oh (WS p),Oh (.lst (p.st.map λ k=>.int (k:Nat))),Oh (.own (UG ds Ss p i)),y5,y6,Oj,Oj]) ⟨_,_,O⟩ (λ i t ρ ht h=>?_) (λ ρ h=>?_)
 .obtain⟨y5,y6,rfl⟩:=h;obtain⟨k,rfl,ek⟩:=tJ (f:=λ k:Nat=>XV (k:Nat)) ht;obtain⟨kl,hl⟩:=hst k (aE ek);have il:=(aY.mp ek).1;have ll:=tM ds Ss p i;have e:UG ds Ss p (i+1)=UG ds Ss p i++(if bI (ds.getD k (.num 0))=Oi then [] else UT Ss p.Ts (Tk Ss k) (p.Bs.getD k Oj) (i:Nat) (ds.getD k (.num 0))):=by show _++_=_;rw[ek]
  rw[e];refine⟨_,O,Tq _,ak (dX kl),_,fU _,pv,s2 (λ h=>?_) (λ h=>?_)⟩
  .have h:bI (ds.getD k (.num 0))=Ol:=by rw[<- eJ];exact oz _ |>.mp h
   rw[XR (by rw[h];decide)];have l2':=pK Ss p.Ts (Tk Ss k) (p.Bs.getD k Oj) (i:Nat) (ds.getD k (.num 0));refine cl rfl ⟨ds,Ss,os,mo,k,(i:Nat),by rw[hp];rfl,gd,hl h,h,?_⟩ rfl;rw[hp];exact⟨O,aH Z,_,_,O⟩
  .have h:bI (ds.getD k (.num 0))=Oi:=by rw[<- eJ];exact(s1f _).mp h
   rw[XT h,ef];exact⟨_,_,O⟩
 obtain⟨y5,y6,rfl⟩:=h;rw[pN,ag];have ll:=tM ds Ss p p.st.length;refine⟨by rw[ag];exact aL Z,ce (λ k:Nat=>.int (k:Nat)) (λ k:Nat=>.tup [.int (k:Nat),.int (ai (Tk Ss k))]) p.st (λ k hk=>?_) ⟨O,_,O,by rw[af];exact aL Z,ce XV (λ o:Int=>.tup [.int (kR (gt p.Ts o.toNat)),tI (Tk Ss o.toNat)]) os (λ o ho=>?_) ⟨O,O,TR,O,q⟩⟩⟩
 .obtain⟨kl,_⟩:=hst k hk;have eS:=eSk k kl;exact⟨tI _,ak eS,cl rfl ⟨_,O,Tk Ss k,.inl rfl,cF (fS _ (aE eS)),O,Tz,O,O⟩ rfl⟩
 .obtain⟨b0,b1⟩:=ob o ho;obtain⟨k,rfl⟩:∃k:Nat,o=k:=⟨o.toNat,Z⟩;have I:=inv k Z (yD ob ho);obtain⟨t,A,e1,e2,_⟩:=I.w;obtain⟨st,s,ss,e⟩:=I.o ho;rw[Ot,e];rw[bC e1] at e;subst e;exact⟨_,O,Tl (.read st s ss),ak e1,_,O,tI _,ak (eSk k Z),O,Tz,O,O⟩
def NK:ZX 107 89 ["_law_sides","_law_size_here","_law_length"] 3 1 Aw LX:=ax <| by
 rintro ts Q ⟨t,ns,rfl,ht,sd,q⟩;refine⟨O,?_⟩
 rcases ht with rfl|rfl
 .refine⟨O,O,cS (λ i ρ=>∃y,ρ=[Oh (tI ns),Oh (.int (ai (ns.take i))),y]) ⟨_,O⟩ (λ i u ρ hu ⟨y,e⟩=>?_) (λ ρ ⟨y,e⟩=>?_)⟩
  .subst e;obtain⟨n,rfl,hn⟩:=iN hu;have b:=sd n (aE hn);exact⟨gW Z Z,O,Oh (.int n),by rw[mz hn];rfl⟩
  .subst e;rw[af,bR];exact⟨O,q⟩
 .refine⟨O,O,cS (λ i ρ=>∃y,ρ=[Oh (lI ns),Oh (.int (ai (ns.take i))),y]) ⟨_,O⟩ (λ i u ρ hu ⟨y,e⟩=>?_) (λ ρ ⟨y,e⟩=>?_)⟩
  .subst e;obtain⟨n,rfl,hn⟩:=iN hu;have b:=sd n (aE hn);exact⟨gW Z Z,O,Oh (.int n),by rw[mz hn];rfl⟩
  .subst e;rw[af,bR];exact⟨O,q⟩
def NL:ZX 108 90 ["_law_sides"] 1 1 Ax LY:=ax <| by
 rintro ts Q ⟨ns,rfl,sd,l,q⟩;refine⟨O,?_⟩;refine⟨by rw[af];exact aL Z,ce .int (λ n=>.int (aq n)) ns (λ n hn=>⟨O,?_⟩) (cl rfl ⟨_,ns.map aq,O,.inr (by unfold lI;rw[bJ];rfl),xI sd,O,q⟩ rfl)⟩;rw[<- sC (sd n hn).1];rfl
def NM:ZX 109 91 ["_law_n"] 1 1 Ay LZ:=ax <| by
 rintro ts Q ⟨n,rfl,q⟩;refine⟨O,?_⟩;have m17:aJ n 17=n%17:=XT ca;unfold mB at q;refine⟨ca,pv,sN (λ h=>?_) (λ h=>?_)⟩
 .rw[m17] at h;rw[XT h] at q;have e:aJ (aR n 17) 4=n/17%4:=by rw[show aR n 17=n/17 from XT ca];exact XT ca
  exact⟨Wo,Wo,p62,O,Us,⟨ca,ca,ca⟩,ca,.int _,(by rw[e];exact Jw Z Z),O,q⟩
 .rw[m17] at h;rw[XR h] at q;exact⟨Wo,Xx,ca,Wo,O,q⟩
def NN:ZX 110 92 ["_law_pool","_law_d"] 2 2 Az Ma:=ax <| by
 rintro ts Q ⟨ks,d,rfl,l,l2,q⟩;refine⟨O,?_⟩;have in1:∀i:Int,0<=i->i<ks.length->Q (.int (ks.getD i.toNat 0)):=λ i h0 h1=>q _ (getD_mem Z);have d3:aR d 3=d/3:=XT ca;refine⟨ca,pv,sN (λ h=>?_) (λ h=>?_)⟩
 .have m1:aJ (aR d 3) (((ks.map XV).length:Nat):Int)=d/3%(ks.length:Int):=by rw[af,d3];exact XT Z
  have a0:=fX (d/3) (show(ks.length:Int)≠0 by lia);have a1:=fY (d/3) (show(0:Int)<ks.length by lia);exact⟨⟨ca,ca,ca⟩,by rw[af];lia,.int (ks.getD (d/3%(ks.length:Int)).toNat 0),by rw[m1];exact kN a0 a1,O,in1 _ a0 a1⟩
 .have m1:aJ (aR d 3) (if (((ks.map XV).length:Nat):Int)<3 then (((ks.map XV).length:Nat):Int) else 3)=d/3%(if (ks.length:Int)<3 then (ks.length:Int) else 3):=by rw[af,d3];exact XT (by split<;>lia)
  have a0:=fX (d/3) (show(if (ks.length:Int)<3 then (ks.length:Int) else 3)≠0 by split<;>lia);have a1:=fY (d/3) (show(0:Int)<(if (ks.length:Int)<3 then (ks.length:Int) else 3) by split<;>lia);have a2:(if (ks.length:Int)<3 then (ks.length:Int) else 3)<=ks.length:=by split<;>lia
  exact⟨⟨ca,ca,ca⟩,by rw[af];split<;>lia,.int (ks.getD ((ks.length:Int)-1-d/3%(if (ks.length:Int)<3 then (ks.length:Int) else 3)).toNat 0),by rw[m1,af];exact kN Z Z,O,in1 _ Z Z⟩
def NO:ZX 111 93 ["_law_kind","_law_n","_law_cell","_law_most","_law_made","_law_part","_law_k","_law_free","_law_length"] 9 4 AA Mb:=ax <| by
 rintro ts Q ⟨kd,n,cell,mo,rfl,hmo,q⟩;refine⟨O,?_⟩;have m2:=hmo.1;have m3:=hmo.2;refine⟨pv,sN (λ c=>cl rfl ⟨cell,O,O,Tz,O,Ul,O,Tz,O,q (.num (mB cell)) [] (λ _=>⟨O,Iy cell⟩) (oW hmo)⟩ rfl) (λ c=>?_)⟩;have b5:0<=aJ (aR n 15) 5/\aJ (aR n 15) 5<5:=by rw[bX ca];lia
 refine⟨O,Ul,O,⟨ca,ca,ca⟩,O,ca,O,⟨Z,Z⟩,?_⟩;refine cS (λ i ρ=>∃(ms:LI) (pt:Int) (y6 y7 y8:Option TV),aU mo ms/\ms.length=i/\ρ=[Oh (.int kd),Oh (.int n),Oh (.int cell),Oh (.int mo),Oh (tI ms),Oh (.int pt),y6,y7,y8]) ⟨[],_,_,_,_,oW hmo,O,O⟩ (λ i t ρ ht h=>?_) (λ ρ h=>?_)
 .obtain⟨ms,pt,y6,y7,y8,hf,ml,rfl⟩:=h;obtain⟨il,rfl⟩:=oZ ht;have sdm:bS ms:=λ n hn=>by have:=hf.1 n hn;exact⟨Z,Z⟩
  have pb:=hf.2.2;have d1:1<=mo/ai (ms.map aq):=sD pb.1 pb.2;have dv:aR mo (ai (ms.map aq))=mo/ai (ms.map aq):=yr Z;have fs:=λ n=>sG (n:=n) hf Z;obtain⟨x,hx,x0⟩:=JA (aJ (aR pt 5) 7) (by rw[bX ca];lia) (by rw[bX ca];lia);refine⟨⟨ca,ca,ca⟩,O,cl rfl ⟨ms,O,sdm,Z,⟨Z,Z,Z⟩,O,O,Wt,ca,.int x,hx,O,?_⟩ rfl⟩;rw[dv];generalize mo/ai (ms.map aq)=fr at *
  have fin:∀x:Int,0<=x->x<=fr->(ms.map XV).length + [XV x].length<=Oq/\(XW (ms.map XV++[XV x])).nb=Oi/\∃(ms':LI) (pt':Int) (y6 y7 y8:Option TV),aU mo ms'/\ms'.length=i+1/\[Oh (XV kd),Oh (.int n),Oh (.int cell),Oh (.int mo),Oh (XW (ms.map XV++[XV x])),Oh (.int (aR pt 5)),Oh (.int (i:Nat)),Oh (.int fr),Oh (.int x)]=[Oh (.int kd),Oh (.int n),Oh (.int cell),Oh (.int mo),Oh (tI ms'),Oh (.int pt'),y6,y7,y8]:=λ x x0 x1=>
   ⟨aH (show(ms.map XV).length+1<=1000 by rw[af];lia),rfl,ms++[x],_,_,_,_,fs x x0 x1,by rw[aF,ml];rfl,by unfold tI;rw[aG];rfl⟩
  exact⟨ca,pv,sN (λ _=>⟨O,O,Ub,fin fr Z (ka _)⟩) (λ _=>⟨O,Ub,fin _ (by split<;>lia) (by split<;>lia)⟩)⟩
 .obtain⟨ms,pt,y6,y7,y8,hf,ml,rfl⟩:=h;refine⟨pv,sN (λ _=>⟨O,Tz,O,Tz,O,q (.inp ms) ms (λ _=>⟨O,oU (iL hf hmo)⟩) hf⟩) (λ _=>⟨O,Ul,Vb ms,?_⟩)⟩
  have fin:∀ns:LI,aU mo ns->0<ns.length->((15:Int)≠0/\-18446744073709551616<(15:Int)/\(15:Int)<1606938044258990275541962092341162602522202993782792835301376)/\(((ns.map XV).length:Nat):Int)≠0/\[XX "count",tI ns,XV (aJ (aR n 15) ((ns.map XV).length:Nat))].all TV.nb=Oi/\3<=Oq/\[XW [XX "count",tI ns,XV (aJ (aR n 15) ((ns.map XV).length:Nat))],tI ns].all TV.nb=Oi/\2<=Oq/\Oi=Oi/\Q (.tup [XW [XX "count",tI ns,XV (aJ (aR n 15) ((ns.map XV).length:Nat))],tI ns]):=λ ns hf l0=>by
   refine⟨⟨ca,ca,ca⟩,by rw[af];lia,O,TR,O,Tz,O,?_⟩;rw[af,bX Z];have f0:=fX (aR n 15) (show(ns.length:Int)≠0 by lia);have f1:=fY (aR n 15) (show(0:Int)<ns.length by lia);exact q (.count ns (aR n 15%ns.length)) ns (λ _=>⟨O,oU (iL hf hmo),λ z=>by unfold Uf at z;lia⟩) hf
  by_cases c0:ms=[]
  .have x0:0<=(if mo<3 then mo else 3)/\(if mo<3 then mo else 3)<=mo:=by split<;>lia
   exact sT ((kO ms).trans (cn c0)) ⟨O,Ub,O,fin [if mo<3 then mo else 3] (sG (ns:=[]) (oW hmo) ca x0.1 (by show _<=mo/1;rw[SK];exact x0.2)) (oa _)⟩
  .exact sF ((kO ms).trans (bD c0)) (fin ms hf (pO.mpr c0))
def NP:ZX 112 94 ["_law_one","_law_other","_law_least"] 3 2 AB Mc:=ax <| by
 rintro ts Q ⟨ns,ms,rfl,q⟩;refine⟨O,?_⟩;have hm:(if (((ms.map XV).length:Nat):Int)<(((ns.map XV).length:Nat):Int) then (((ms.map XV).length:Nat):Int) else (((ns.map XV).length:Nat):Int))=((if ms.length<ns.length then ms.length else ns.length:Nat):Int):=by rw[af,af];split<;>split<;>lia
 refine⟨O,?_⟩;rw[hm];generalize hL:(if ms.length<ns.length then ms.length else ns.length)=L;have e1:=cY ns L;have e2:=cY ms L;refine⟨by show _L.dp 99 (XW (ah (ns.map XV) Oj (Oh (L:Int))));rw[e1];exact Vb _,O,?_⟩;show Q (.bl (_L.eqT (XW (ah (ns.map XV) Oj (Oh (L:Int)))) (XW (ah (ms.map XV) Oj (Oh (L:Int))))));rw[e1,e2,mG];refine q _ ?_;rw[dh];unfold cu;subst hL;by_cases c:ms.length<ns.length
 .rw[XT c,XT c,bR]
 .rw[XR c,XR c,bR];exact eq_comm
def NQ:ZX 113 95 ["_law_kind","_law_d","_law_sides","_law_every","_law_a","_law_fit","_law_b","_law_longer","_law_words","_law_c"] 10 3 AC Me:=ax <| by
 rintro ts Q ⟨kd,d0,d1,d2,mo,Ss,rfl,n0,n4,hS,q⟩;refine⟨O,?_⟩;refine⟨⟨Z,by rw[ag];lia⟩,O,?_⟩;rw[ag,ph];refine⟨_,O,UO rfl ⟨TD Ss.length,d0,O,by rw[fc];exact n0,by rw[fc];lia,λ k hk=>?_⟩⟩;obtain⟨a,rfl,al⟩:=fT hk;have eA:=fj al;generalize Ss.getD a []=A at eA;have fA:=hS _ (aE eA);obtain⟨w4,hw4,wm4⟩:=sQ mC (k:=aJ d2 4) (by rw[bX ca];lia) (by rw[bX ca];show d2%4<((4:Nat):Int);lia);refine⟨by simp[LF],O,pv,sN (λ _=>⟨O,Us,_,O,ca,.str w4,hw4,O,TR,tI A,ak eA,O,Tz,O,q (.each w4 a) A ⟨eA,wm4⟩ fA⟩) (λ _=>?_)⟩;refine⟨by rw[af,fc];exact aL Z,gY XV XV (pB Ss A) (TD Ss.length) rfl (λ k hk=>?_) ?_⟩
 .obtain⟨j,rfl,jl⟩:=fT hk;exact⟨tI A,ak eA,tI (Ss.getD j []),ak (fj jl),cl rfl ⟨A,Ss.getD j [],O,λ b hb=>⟨by rw[yt hb (pi (k:=(j:Int)))],λ _=>⟨O,O⟩⟩⟩ rfl⟩
 generalize hks:(TD Ss.length).filter (pB Ss A)=ks;have km:∀k,k∈ks ↔ k∈TD Ss.length/\cu A (Ss.getD k.toNat []):=λ k=>by rw[<- hks,fZ,pi]
 have kl:ks.length<=40:=by rw[<- hks];exact cL (kQ _ _) (by rw[fc];exact n4)
 have kpos:0<ks.length:=tT ((km a).mpr ⟨xZ al,by rw[Ot,aP,eA];exact xV A⟩);refine⟨O,_,O,UO rfl ⟨ks,d1,O,kpos,Z,λ k hk=>?_⟩⟩;obtain⟨ku,pB'⟩:=(km k).mp hk;obtain⟨b,rfl,bl⟩:=fT ku;have eB:=fj bl;rw[Ot] at pB';generalize Ss.getD b []=B at eB pB';have fB:=hS _ (aE eB);have fL:aU mo (bQ A B):=xY fA fB;obtain⟨w,hw,wm⟩:=sQ mD (k:=aJ d2 12) (by rw[bX ca];lia) (by rw[bX ca];show d2%12<((12:Nat):Int);lia);refine⟨by simp[LF],O,tI A,ak eA,tI B,ak eB,O,?_⟩;rw[Xz pB'];refine⟨pv,sN (λ _=>⟨O,Jx,O,_,O,ca,.str w,hw,O,Us,O,Tz,O,q (.pair w a b) (bQ A B) ⟨A,B,eA,eB,wm,pB',O⟩ fL⟩) (λ _=>?_)⟩;refine⟨by rw[af];exact aL Z,gY XV XV (pB Ss B) ks rfl (λ k hk=>?_) ?_⟩
 .obtain⟨j,rfl,jl⟩:=fT ((km k).mp hk).1;exact⟨tI B,ak eB,tI (Ss.getD j []),ak (fj jl),cl rfl ⟨B,Ss.getD j [],O,λ b hb=>⟨by rw[yt hb (pi (k:=(j:Int)))],λ _=>⟨O,O⟩⟩⟩ rfl⟩
 generalize hls:ks.filter (pB Ss B)=ls;have lm:∀k,k∈ls ↔ k∈ks/\cu B (Ss.getD k.toNat []):=λ k=>by rw[<- hls,fZ,pi]
 have ll:ls.length<=40:=by rw[<- hls];exact cL (kQ _ _) kl
 have lpos:0<ls.length:=tT ((lm b).mpr ⟨hk,by rw[Ot,aP,eB];exact xV B⟩);refine⟨O,_,O,UO rfl ⟨ls,d2,O,lpos,Z,λ k hk2=>?_⟩⟩;obtain⟨kk,pC⟩:=(lm k).mp hk2;obtain⟨ku2,pAC⟩:=(km k).mp kk;obtain⟨c,rfl,cl'⟩:=fT ku2;have eC:=fj cl';rw[Ot] at pC pAC;generalize Ss.getD c []=C at eC pC pAC;have fC:=hS _ (aE eC)
 have pLC:cu (bQ A B) C:=by
  by_cases z:A.length<B.length
  .rw[xX z];exact pC
  .rw[xW pB' Z];exact pAC
 have z:Q (.tup [Tq (.pick a b c),XW (if ((bQ A B).map XV).length<(C.map XV).length then C.map XV else (bQ A B).map XV)]):=by rw[Xz pLC];exact q (.pick a b c) (bQ (bQ A B) C) ⟨A,B,C,eA,eB,eC,pB',pLC,rfl⟩ (xY fL fC)
 exact⟨by simp[LF],O,O,Us,tI C,ak eC,O,Tz,O,z⟩
def NR:ZX 114 96 ["_law_own","_law_d","_law_size_here"] 3 2 AD Mf:=ax <| by
 rintro ts Q ⟨ns,d,mo,rfl,ft,mk,q⟩;refine⟨O,?_⟩;have fA:=iL ft mk;have sd:=cF fA;have l6:=fA.2.1;have m4:aJ d 4=d%4:=XT ca;unfold jG at q;refine cl rfl ⟨_,ns,O,.inl rfl,sd,O,ca,pv,sN (λ h=>?_) (λ h=>⟨ca,pv,?_⟩)⟩ rfl
 .rw[m4] at h;rw[XT h] at q;exact⟨O,Ub,O,q⟩
 rw[m4] at h;rw[XR h] at q;have v2:aR (ai ns) 2=ai ns/2:=XT ca;have w2:aJ (ai ns) 2=ai ns%2:=XT ca;have rv:Q (tI ns.reverse)->Q (XW (ns.map XV).reverse):=λ q=>by rw[<- Ro];exact q
 refine sN (λ h2=>?_) (λ h2=>?_)
 .rw[m4] at h2;refine s2 (λ h3=>?_) (λ h3=>?_)
  .have h3:(((ns.map XV).length:Nat):Int)<6:=aC h3;rw[af] at h3;rw[XT ⟨h2,Z⟩] at q;exact⟨O,Ub,aH (show 1+(ns.map XV).length<=1000 by rw[af];lia),O,q⟩
  .have h3:¬(((ns.map XV).length:Nat):Int)<6:=fW h3;rw[af] at h3;rw[XR Z,XR Z] at q;exact⟨ca,pv,sN (λ h4=>by rw[m4] at h4;lia) (λ h4=>⟨O,rv q⟩)⟩
 .rw[m4] at h2;rw[XR (λ z=>h2 z.1)] at q;refine⟨ca,pv,sN (λ h4=>⟨ca,pv,sN (λ h5=>?_) (λ h5=>⟨O,rv ?_⟩)⟩) (λ h4=>⟨O,rv ?_⟩)⟩
  .rw[m4] at h4;rw[w2] at h5;rw[XT ⟨h4,h5⟩,<- v2] at q;exact⟨⟨ca,ca,ca⟩,O,Tz,O,q⟩
  .rw[w2] at h5
   rwa [XR (λ z=>h5 z.2)] at q
  .rw[m4] at h4
   rwa [XR (λ z=>h4 z.1)] at q
def NS:ZX 115 97 ["_law_kind","_law_d","_law_a","_law_own","_law_most","_law_order","_law_part","_law_k","_law_place","_law_length","_law_side","_law_gap","_law_first","_law_many"] 14 5 AE Mg:=ax <| by
 rintro ts Q ⟨kd,d0,d1,d2,mo,a,A,Ss,rfl,ea,hf,hmo,q⟩;refine⟨O,?_⟩;have a6:=hf.2.1;have sd:=IT hf hmo;have m1:=hmo.1;have m2:=hmo.2;have pb:=hf.2.2;refine⟨pv,sN (λ _=>?_) (λ _=>?_)⟩
 .refine⟨O,Ul,O,_,O,O,O,⟨Z,by rw[af];lia⟩,?_⟩;refine cS (λ i ρ=>∃(os:LI) (n:Int) (y:Option TV),os.Perm (TD i)/\ρ=[Oh (.int kd),Oh (lI [d0,d1,d2]),Oh (.int a),Oh (tI A),Oh (.int mo),Oh (.own (os.map .int)),Oh (.int n),y,Oj,Oj,Oj,Oj,Oj,Oj]) ⟨[],_,_,List.Perm.refl _,O⟩ (λ i t ρ ht h=>?_) (λ ρ h=>?_)
  .obtain⟨os,n,y,pm,rfl⟩:=h;obtain⟨il,rfl⟩:=oZ ht;rw[af] at il;have ol:os.length=i:=by rw[pm.length_eq,fc]
   have mp:aJ n ((i:Int)+1)=n%((i:Int)+1):=bX Z;have f0:=fX n (show(i:Int)+1≠0 by lia);have f1:=fY n (show(0:Int)<(i:Int)+1 by lia);refine⟨show(i:Int)+1≠0 by lia,O,⟨by rw[mp];exact f0,by rw[mp,af,ol];lia⟩,by rw[af];exact aL Z,⟨show(i:Int)+1≠0 by lia,show -18446744073709551616<(i:Int)+1 by lia,show(i:Int)+1<_ by lia⟩,O,os.take (aJ n ((i:Int)+1)).toNat++(i:Int)::os.drop (aJ n ((i:Int)+1)).toNat,aR n ((i:Int)+1),Oh (.int (i:Nat)),IW pm,by rw[aG,cO,Sq,So];rfl⟩
  .obtain⟨os,n,y,pm,rfl⟩:=h;rw[ag,eI,af,Ot] at pm;have ol:os.length=A.length:=by rw[pm.length_eq,fc]
   have om:∀z∈os,0<=z/\z<(A.length:Int):=λ z hz=>up_mem.mp (pm.subset hz);refine⟨O,TR,by rw[af];exact aL Z,ce .int (λ z:Int=>.int (A.getD z.toNat 0)) os (λ z hz=>⟨_,kN (om z hz).1 (om z hz).2,O,O⟩) ⟨O,Tz,O,?_⟩⟩;have z:=q (.turn a os) (bT A os) ⟨A,ea,pm,rfl⟩ (IY hf pm);unfold Vh Tq Wr tI bT at z;rw[bJ] at z;exact z
 have lo:=IU (d:=d2) hf hmo;refine⟨pv,sN (λ _=>⟨_,O,cl rfl ⟨A,d2,mo,O,hf,hmo,O,TR,_,O,cl rfl ⟨A,d2,mo,O,hf,hmo,O,Tz,O,q (.lay a (jG A d2)) (jG A d2) ⟨A,ea,oU (iL lo.1 hmo),lo.2.symm,O⟩ lo.1⟩ rfl⟩ rfl⟩) (λ _=>?_)⟩;refine⟨O,Ul,Vb A,or3 (λ sp=>?_) (λ ne=>?_)⟩
 .have l6:A.length<6:=by
   rcases sp with z|⟨_,z⟩
   .have z:=aC ((kO A).symm.trans z);rw[z];decide
   .have z:(((A.map XV).length:Nat):Int)<6:=aC z;rw[af] at z;lia
  have mp:aJ d1 ((((A.map XV).length:Nat):Int)+1)=d1%((A.length:Int)+1):=by rw[af];exact bX Z
  have f0:=fX d1 (show(A.length:Int)+1≠0 by lia);have f1:=fY d1 (show(0:Int)<(A.length:Int)+1 by lia);obtain⟨k,hk⟩:∃k:Nat,d1%((A.length:Int)+1)=k:=⟨_,(iH f0).symm⟩;rw[hk] at f1 mp;refine⟨_,O,show(((A.map XV).length:Nat):Int)+1≠0 by rw[af];lia,O,?_⟩;rw[mp];have dv:=sD pb.1 pb.2;have de:aR mo (ai (A.map aq))=mo/ai (A.map aq):=yr Z;refine⟨_,O,cl rfl ⟨A,O,sd,Z,⟨Z,Z,Z⟩,?_⟩ rfl⟩;rw[de];have fi:=λ x=>Ja (x:=x) (k:=k) hf l6;have fm:mo/ai (A.map aq)<=mo:=Rn _ Z;generalize mo/ai (A.map aq)=fr at *;have c4:0<(if fr<4 then fr else 4)/\(if fr<4 then fr else 4)<=fr:=by split<;>lia
  have me:aJ d2 (if fr<4 then fr else 4)=d2%(if fr<4 then fr else 4):=bX c4.1;have g0:=fX d2 (show(if fr<4 then fr else 4)≠0 by lia);have g1:=fY d2 c4.1
  have fin:∀x:Int,0<=x->x<=fr->Q (.tup [.tup [.str "spread",.int a,.int k,.int x],.tup ((ah (A.map XV) Oj (Oh (k:Int))++[XV x])++ah (A.map XV) (Oh (k:Int)) Oj)]):=λ x x0 x1=>by
   rw[JB];exact q (.spread a k x) (bF A k x) ⟨A,ea,by unfold jE;lia,Z,Z,oU (iL (fi x x0 x1) hmo),O⟩ (fi x x0 x1)
  have la:=jH (a:=Oj) (b:=Oh (k:Int)) a6;have lb:=jH (a:=Oh (k:Int)) (b:=Oj) a6;have l2:∀x,(ah (A.map XV) Oj (Oh (k:Int))++[XV x]).length+(ah (A.map XV) (Oh (k:Int)) Oj).length<=Oq:=λ x=>aH (by rw[aF,gJ];lia);have l1:(ah (A.map XV) Oj (Oh (k:Int))).length+1<=Oq:=aH Z;exact⟨show(if fr<4 then fr else 4)≠0 by lia,O,_,O,ca,pv,sN (λ _=>⟨O,O,Us,O,Ub,l1,l2 _,O,Tz,O,fin 0 Z Z⟩) (λ _=>⟨O,Us,O,Ub,l1,l2 _,O,Tz,O,fin _ (by rw[me];lia) (by rw[me];lia)⟩)⟩
 .have A0:0<A.length:=pO.mpr (fW ((kO A).symm.trans ne));have mp:aJ d1 (((A.map XV).length:Nat):Int)=d1%(A.length:Int):=by rw[af];exact bX Z
  have f0:=fX d1 (show(A.length:Int)≠0 by lia);have f1:=fY d1 (show(0:Int)<(A.length:Int) by lia);obtain⟨k,hk⟩:∃k:Nat,d1%(A.length:Int)=k:=⟨_,(iH f0).symm⟩;rw[hk] at f1 mp;refine⟨_,O,show(((A.map XV).length:Nat):Int)≠0 by rw[af];lia,O,?_⟩;rw[mp];have kl:k<A.length:=Z;refine⟨pv,s2 (λ _=>⟨O,TR,O,Tz,O,q (.flip a k) A ⟨ea,by unfold Uf;lia⟩ hf⟩) (λ _=>?_)⟩;have an:=(hf.1 _ (jF kl)).1;have am:=(hf.1 _ (jF kl)).2;have o1:=iK an;have ge:aJ d2 3=d2%3:=bX ca;have fe:aJ (aR d2 3) (if A.getD k 0 > 1 then A.getD k 0 else 1)=aR d2 3%aq (A.getD k 0):=by rw[sC an];exact bX Z
  have h0:=fX (aR d2 3) (show aq (A.getD k 0)≠0 by lia);have h1:=fY (aR d2 3) (show 0<aq (A.getD k 0) by lia);have o2:aq (A.getD k 0)<=512:=by have:=hmo.2;unfold aq;split<;>lia
  have g1:1<=1+aJ d2 3/\1+aJ d2 3<=3:=by rw[ge];lia
  refine⟨_,O,ca,O,_,O,⟨ca,ca,ca⟩,_,bB kl,show(if A.getD k 0 > 1 then A.getD k 0 else 1)≠0 by rw[sC an];lia,O,?_⟩;rw[fe];generalize aR d2 3%aq (A.getD k 0)=f at *;generalize 1+aJ d2 3=g at *;have e3:0<=aJ (aR d2 300) 3:=by rw[bX ca];lia
  have cm:=Jg (e:=aJ (aR d2 300) 3) an h0 g1.1 e3;rw[<- yp] at cm;have la:=jH (a:=Oj) (b:=Oh (k:Int)) a6;have lb:=jH (a:=Oh ((k:Int)+1)) (b:=Oj) a6;have l2:∀x,(ah (A.map XV) Oj (Oh (k:Int))++[XV x]).length+(ah (A.map XV) (Oh ((k:Int)+1)) Oj).length<=Oq:=λ x=>aH (by rw[aF,gJ];lia);refine⟨_,bB kl,⟨Z,Z,Z⟩,_,O,⟨ca,ca,ca⟩,ca,O,?_⟩;generalize (if aR (A.getD k 0-1-f) g+1-aJ (aR d2 300) 3 > 0 then aR (A.getD k 0-1-f) g+1-aJ (aR d2 300) 3 else 0)=m at *;refine⟨O,Vc,O,Ub,aH (by show(ah (A.map XV) Oj (Oh (k:Int))).length+1<=1000;lia),l2 m,O,Tz,O,?_⟩;show Q (.tup [.tup [.str "cut",.int a,.int k,.int f,.int m,.int g],.tup ((ah (A.map XV) Oj (Oh (k:Int))++[XV m])++ah (A.map XV) (Oh ((k:Int)+1)) Oj)]);rw[JC kl];exact q (.cut a k f m g) (A.set k m) ⟨A,ea,by unfold Uf;lia,by unfold Vg;rw[Ot];exact λ z=>z.elim Z λ z=>z.elim Z λ z=>z.elim Z cm.2.2,⟨Z,Z,Z⟩,by rw[Ot]⟩ (Je hf cm.1 cm.2.1)
def NT:ZX 116 98 ["_law_own","_law_other","_law_side"] 3 3 AF Mh:=ax <| by
 rintro ts Q ⟨A,B,k,rfl,kl,a6,b6,q⟩;refine⟨O,?_⟩
 have ct:∀L:LI,L.length<=6->ah (L.map XV) Oj (Oh (k:Int))++ah (L.map XV) (Oh ((k:Int)+1)) Oj=(L.eraseIdx k).map XV/\(ah (L.map XV) Oj (Oh (k:Int))).length<=6/\(ah (L.map XV) (Oh ((k:Int)+1)) Oj).length<=6:=λ L hL=>by
  have e1:=cY L k;have e2:ah (L.map XV) (Oh ((k:Int)+1)) Oj=(L.drop (k+1)).map XV:=by rw[show(k:Int)+1=((k+1:Nat):Int) by lia];exact cg L (k+1)
  refine⟨by rw[e1,e2,jx,aG],by rw[e1,af,aQ];lia,by rw[e2,af,bO];lia⟩
 obtain⟨ea,la,lb⟩:=ct A a6;obtain⟨eb,lc,ld⟩:=ct B b6;unfold fg at q;have nl:∀a b:Nat,a<=6->b<=6->a+b<=Oq:=λ a b h1 h2=>aH Z;have dpA:_L.dp 99 (XW (ah (A.map XV) Oj (Oh (k:Int))++ah (A.map XV) (Oh ((k:Int)+1)) Oj)):=by rw[ea];exact Vb _
 have eq1:_L.eqT (XW (ah (A.map XV) Oj (Oh (k:Int))++ah (A.map XV) (Oh ((k:Int)+1)) Oj)) (XW (ah (B.map XV) Oj (Oh (k:Int))++ah (B.map XV) (Oh ((k:Int)+1)) Oj))=decide (A.eraseIdx k=B.eraseIdx k):=by rw[ea,eb,mG]
 by_cases c1:A.length=B.length
 .by_cases c2:A.eraseIdx k=B.eraseIdx k
  .rw[XT ⟨c1,c2⟩] at q;have e1:=cY A k;have e2:ah (A.map XV) (Oh ((k:Int)+1)) Oj=(A.drop (k+1)).map XV:=by rw[show(k:Int)+1=((k+1:Nat):Int) by lia];exact cg A (k+1)
   have e3:(ah (A.map XV) Oj (Oh (k:Int))++[XV (A.getD k 0+B.getD k 0)])++ah (A.map XV) (Oh ((k:Int)+1)) Oj=(fR A B k).map XV:=by unfold fR;rw[Ot,e1,e2,oT,XT kl];simp
   unfold tI at q;rw[<- e3] at q;exact⟨pv,sF (Wp (by rw[af,af,c1])) ⟨nl _ _ la lb,nl _ _ lc ld,dpA,sF (by show(!_L.eqT (XW _) (XW _))=Ol;rw[eq1,cn c2];rfl) ⟨_,bB kl,_,bB Z,O,Ub,nl _ 1 la ca,aH (show(ah (A.map XV) Oj (Oh (k:Int))++[XV (A.getD k 0+B.getD k 0)]).length+(ah (A.map XV) (Oh ((k:Int)+1)) Oj).length<=1000 by rw[aF,gJ];lia),O,q⟩⟩⟩
  .rw[XR (λ z=>c2 z.2)] at q;exact⟨pv,sF (Wp (by rw[af,af,c1])) ⟨nl _ _ la lb,nl _ _ lc ld,dpA,sT (by show(!_L.eqT (XW _) (XW _))=Oi;rw[eq1,bD c2];rfl) ⟨O,Ul,O,q⟩⟩⟩
 .rw[XR (λ z=>c1 z.1)] at q;exact⟨pv,sT (neT (by rw[af,af];lia)) ⟨O,Ul,O,q⟩⟩
def NU:ZX 117 99 ["_law_kind","_law_d","_law_sides","_law_most","_law_sided","_law_a","_law_own","_law_side","_law_words","_law_made","_law_fit","_law_b"] 12 4 AG Mi:=ax <| by
 rintro ts Q ⟨kd,d0,d1,d2,mo,Ss,rfl,⟨S0,S0m,S0l⟩,k11,k14,n4,hS,hmo,q⟩;refine⟨O,?_⟩;obtain⟨j0,j0l,j0e⟩:=List.mem_iff_getElem.mp S0m;refine⟨⟨Z,by rw[ag];lia⟩,by rw[ag,eI,ag];exact aL Z,gY XV XV (λ k:Int=>!decide (Ss.getD k.toNat []=[])) (TD Ss.length) (by rw[ag];exact ph _) (λ k hk=>?_) ?_⟩
 .obtain⟨j,rfl,jl⟩:=fT hk;exact⟨tI (Ss.getD j []),ak (fj jl),O,Ul,Vb _,by rw[Ot,<- kO];rfl,λ _=>⟨O,O⟩⟩
 generalize hks:(TD Ss.length).filter (λ k:Int=>!decide (Ss.getD k.toNat []=[]))=ks;have km:∀k,k∈ks ↔ k∈TD Ss.length/\Ss.getD k.toNat []≠[]:=λ k=>by rw[<- hks,fZ];simp
 have kl:ks.length<=40:=by rw[<- hks];exact cL (kQ _ _) (by rw[fc];exact n4)
 have kpos:0<ks.length:=tT ((km j0).mpr ⟨xZ j0l,by rw[Ot,aP,bc j0l,j0e];exact pO.mp S0l⟩);refine⟨O,_,O,UO rfl ⟨ks,d0,O,kpos,Z,λ k hk=>?_⟩⟩;obtain⟨ku,An⟩:=(km k).mp hk;obtain⟨a,rfl,al⟩:=fT ku;have eA:=fj al;rw[Ot] at An;generalize Ss.getD a []=A at eA An;have A0:=pO.mpr An;have fA:=hS _ (aE eA);have a6:=fA.2.1;have mp:aJ d1 (((A.map XV).length:Nat):Int)=d1%(A.length:Int):=by rw[af];exact bX Z
 have f0:=fX d1 (show(A.length:Int)≠0 by lia);have f1:=fY d1 (show(0:Int)<(A.length:Int) by lia);obtain⟨k,hk⟩:∃k:Nat,d1%(A.length:Int)=k:=⟨_,(iH f0).symm⟩;rw[hk] at f1 mp;have kl:k<A.length:=Z;refine⟨by simp[LF],O,tI A,ak eA,O,_,O,show(((A.map XV).length:Nat):Int)≠0 by rw[af];lia,O,?_⟩;rw[mp];obtain⟨w,hw,wm⟩:=sQ fw (k:=aJ d2 7) (by rw[bX ca];lia) (by rw[bX ca];show d2%7<((7:Nat):Int);lia);have la:=jH (a:=Oj) (b:=Oh (k:Int)) a6;have lb:=jH (a:=Oh ((k:Int)+1)) (b:=Oj) a6;have er:ah (A.map XV) Oj (Oh (k:Int))++ah (A.map XV) (Oh ((k:Int)+1)) Oj=(A.eraseIdx k).map XV:=by rw[show(k:Int)+1=((k+1:Nat):Int) by lia,cY,cg,jx,aG]
 have qf:Q (.tup [.tup [.str "fold",.str w,.int a,.int k],.tup (ah (A.map XV) Oj (Oh (k:Int))++ah (A.map XV) (Oh ((k:Int)+1)) Oj)]):=by
  rw[er];exact q (.fold w a k) (A.eraseIdx k) ⟨A,eA,wm,by unfold Uf;lia,by rw[Ot]⟩ (Jf fA)
 refine⟨O,Wt,O,pv,sN (λ _=>⟨_,O,ca,.str w,hw,O,Us,aH (by show(ah (A.map XV) Oj (Oh (k:Int))).length+(ah (A.map XV) (Oh ((k:Int)+1)) Oj).length<=1000;lia),O,Tz,O,qf⟩) (λ n13=>?_)⟩;refine⟨pv,sN (λ _=>⟨_,O,ca,.str w,hw,O,Us,O,Tz,O,q (.run w a k) A ⟨eA,wm,by unfold Uf;lia⟩ fA⟩) (λ n14=>?_)⟩;refine⟨O,Ul,O,Ub,O,?_⟩;refine sU (λ ρ=>∃Ms:LL,Md kd A k Ss Ms/\ρ=[Oh (.int kd),Oh (lI [d0,d1,d2]),Oh (.lst (Ss.map tI)),Oh (.int mo),Oh (.own (ks.map .int)),Oh (.int a),Oh (tI A),Oh (.int k),Oh (.own (fw.map .str)),Oh (.own (Ms.map tI)),Oj,Oj]) ?_ (λ ρ' ⟨Ms,hM,e⟩=>?_)
 .refine⟨pv,sN (λ c11=>⟨by rw[ag];exact aL Z,ce tI (λ B=>tI (fg A B k)) Ss (λ B hB=>cl rfl ⟨A,B,k,O,kl,a6,(hS B hB).2.1,O,O⟩ rfl) ⟨O,Ss.map (λ B=>fg A B k),.inl ⟨c11,O⟩,by rw[bJ];rfl⟩⟩) (λ c11=>⟨_,yv A0,s3 (λ cA=>⟨by rw[ag];exact aL Z,ce tI (λ B=>tI (B++A.drop 1)) Ss (λ B hB=>?_) ⟨O,Ss.map (λ B=>B++A.drop 1),.inr (.inl ⟨Z,cA,O⟩),by rw[bJ];rfl⟩⟩) (λ cA=>⟨[[]],.inr (.inr ⟨c11,cA,O⟩),O⟩)⟩)⟩;have e1:ah (A.map XV) (Oh 1) Oj=(A.drop 1).map XV:=cg A 1;have b6:=(hS B hB).2.1;have lc:=jH (a:=Oh 1) (b:=Oj) a6;refine⟨aH (by show(B.map XV).length+(ah (A.map XV) (Oh 1) Oj).length<=1000;rw[af];lia),O,?_⟩;show XW (B.map XV++ah (A.map XV) (Oh 1) Oj)=tI (B++A.drop 1);rw[e1,<- aG];rfl
 subst e;have ml:=Jh hM n4;have mb:=Ji hM fA hS hmo;refine⟨⟨Z,by rw[ag];lia⟩,by rw[ag,eI,ag];exact aL Z,gY XV XV (λ k:Int=>(decide (kd=12)&&decide (0<A.getD 0 0)) || !decide (Ms.getD k.toNat []=[])) (TD Ms.length) (by rw[ag];exact ph _) (λ k hk=>?_) ?_⟩
 .obtain⟨j,rfl,jl⟩:=fT hk;have nn:(!_L.eqT (tI (Ms.getD j [])).fz (XW []).fz)=!decide (Ms.getD ((j:Int).toNat) []=[]):=by rw[Ot,<- kO];rfl
  refine⟨pv,sN (λ c12=>⟨_,yv A0,s3 (λ cA=>?_) (λ cA=>?_)⟩) (λ c12=>?_)⟩
  .exact⟨by rw[cn c12,cn cA];rfl,λ _=>⟨O,O⟩⟩
  .exact⟨tI (Ms.getD j []),ak (fj jl),O,Ul,Vb _,by rw[bD cA,lW,jt,<- nn];rfl,λ _=>⟨O,O⟩⟩
  .exact⟨tI (Ms.getD j []),ak (fj jl),O,Ul,Vb _,by rw[bD c12,s0e,jt,<- nn];rfl,λ _=>⟨O,O⟩⟩
 generalize hks1:(TD Ms.length).filter (λ k:Int=>(decide (kd=12)&&decide (0<A.getD 0 0)) || !decide (Ms.getD k.toNat []=[]))=ks1;have km1:∀k,k∈ks1 ↔ k∈TD Ms.length/\((kd=12/\0<A.getD 0 0)\/Ms.getD k.toNat []≠[]):=λ k=>by rw[<- hks1,fZ];simp
 have kl1:ks1.length<=40:=by rw[<- hks1];exact cL (kQ _ _) (by rw[fc];exact ml)
 refine⟨O,by rw[af];exact aL Z,gY XV XV (λ k:Int=>decide ((Ms.getD k.toNat []).length<=6)&&decide (ai ((Ms.getD k.toNat []).map aq)<=mo)) ks1 rfl (λ k hk=>?_) ?_⟩
 .obtain⟨j,rfl,jl⟩:=fT ((km1 k).mp hk).1;rw[Ot];have eM:=fj jl;generalize Ms.getD j []=M at *;refine⟨tI M,ak eM,s2 (λ c6=>?_) (λ c6=>?_)⟩
  .have c6:(((M.map XV).length:Nat):Int)<=6:=aC c6;rw[af] at c6;exact⟨tI M,ak eM,cl rfl ⟨M,O,Jj (mb M (aE eM)),Z,by rw[cn (show M.length<=6 by lia),Sm],λ _=>⟨O,O⟩⟩ rfl⟩
  .have c6:¬(((M.map XV).length:Nat):Int)<=6:=fW c6;rw[af] at c6;exact⟨by rw[bD (show ¬M.length<=6 by lia),s0e],λ _=>⟨O,O⟩⟩
 generalize hls:ks1.filter (λ k:Int=>decide ((Ms.getD k.toNat []).length<=6)&&decide (ai ((Ms.getD k.toNat []).map aq)<=mo))=ls;have lm:∀k,k∈ls ↔ k∈ks1/\(Ms.getD k.toNat []).length<=6/\ai ((Ms.getD k.toNat []).map aq)<=mo:=λ k=>by rw[<- hls,fZ,bp,dh,dh]
 have ll:ls.length<=40:=by rw[<- hls];exact cL (kQ _ _) kl1
 refine⟨O,pv,sN (λ _=>⟨O,TR,O,Tz,O,q (.flip a k) A ⟨eA,by unfold Uf;lia⟩ fA⟩) (λ lne=>?_)⟩;have lne:ls.length≠0:=λ z=>lne (by rw[af,z];rfl);refine⟨_,O,UO rfl ⟨ls,d2,O,Z,Z,λ x hx=>?_⟩⟩;obtain⟨xm,m6,mw⟩:=(lm x).mp hx;obtain⟨xu,hb⟩:=(km1 x).mp xm;obtain⟨b,rfl,bl⟩:=fT xu;rw[Ot] at m6 mw hb;have eM:=fj bl;generalize Ms.getD b []=M at *;have nb:=Jk hmo m6 mw;have fM:=sJ (λ n hn=>(mb M (aE eM) n hn).1) m6 mw;refine⟨by simp[LF],O,pv,sN (λ c11=>?_) (λ n11=>?_)⟩
 .have mne:¬M=[]:=hb.elim (λ z=>by lia) id
  obtain⟨B,eB,rfl⟩:∃B,Ss[b]?=Oh B/\M=fg A B k:=by
   rcases hM with ⟨_,rfl⟩|⟨z,_⟩|⟨z,_⟩
   .rw[bh] at eM
    cases hx:Ss[b]? with
    |none=>rw[hx] at eM;cases eM
    |some B=>rw[hx] at eM;cases eM;exact⟨B,rfl,rfl⟩
   .lia
   .exact XU c11 z
  obtain⟨j1,j2,j3⟩:=yi mne;exact⟨O,Us,tI (fg A B k),ak eM,O,Tz,O,q (.join a b k) (fg A B k) ⟨A,B,eA,eB,j1,by unfold Uf;lia,by rw[Ot];exact j2,by rw[<- j3];exact nb,j3⟩ fM⟩
 have k12:kd=12:=Z
 obtain⟨n,r,rfl⟩:∃n r,A=n::r:=by
  match A,A0 with
  |n::r,_=>exact⟨n,r,rfl⟩
 obtain⟨B,n0,eB,rfl⟩:∃B,0<n/\Ss[b]?=Oh B/\M=B++r:=by
  rcases hM with ⟨z,_⟩|⟨_,z,rfl⟩|⟨_,z,rfl⟩
  .exact XU z n11
  .rw[bh] at eM
   cases hx:Ss[b]? with
   |none=>rw[hx] at eM;cases eM
   |some B=>rw[hx] at eM;cases eM;exact⟨B,z,rfl,rfl⟩
  .rcases hb with y|y
   .exact XU y.2 z
   .match b,eM with
    |0,eM=>cases eM;exact XU rfl y
 exact⟨O,TR,tI (B++r),ak eM,O,Tz,O,q (.fetch a b) (B++r) ⟨n,r,B,eA,Z,eB,nb,O⟩ fM⟩
def NV:ZX 118 100 ["_law_cell","_law_sides","_law_most","_law_n","_law_kind","_law_d","_law_a"] 7 3 AH Mj:=ax <| by
 rintro ts Q ⟨cell,mo,Ss,rfl,n4,hS,hmo,q⟩;refine⟨O,?_⟩;refine⟨gW ca ca,ca,O,?_⟩;generalize aJ (cell*48271) 2147483647=n;refine⟨ca,O,?_⟩;obtain⟨kd,ek⟩:∃kd,aJ n 15=kd:=⟨_,rfl⟩;have kb:0<=kd/\kd<15:=by rw[<- ek,bX ca];lia
 rw[ek];refine⟨⟨ca,ca,ca⟩,ca,⟨ca,ca,ca⟩,ca,⟨ca,ca,ca⟩,O,TR,O,?_⟩;generalize aJ (aR n 15) 120=d0;generalize aJ (aR n 1800) 120=d1;generalize aR n 216000=d2;refine⟨pv,s2 (λ _=>⟨ca,cl rfl ⟨_,n,cell,mo,O,hmo,λ d S ok fs=>⟨O,q d S (ok Ss) fs⟩⟩ rfl⟩) (λ h0=>s3 (λ _=>⟨ca,cl rfl ⟨_,n,cell,mo,O,hmo,λ d S ok fs=>⟨O,q d S (ok Ss) fs⟩⟩ rfl⟩) (λ k3=>?_))⟩
 have n0:0<Ss.length:=by
  have h0:¬(((Ss.map tI).length:Nat):Int)=0:=fW h0;rw[ag] at h0;lia
 refine s3 (λ _=>UO rfl ⟨kd,d0,d1,d2,mo,Ss,O,n0,n4,hS,λ d S ok fs=>⟨pf d S,O,q d S ok fs⟩⟩) (λ k6=>?_);refine sU (λ ρ=>ρ=[Oh (.int cell),Oh (.lst (Ss.map tI)),Oh (.int mo),Oh (.int n),Oh (.int kd),Oh (.own [.int d0,.int d1,.int d2]),Oj]) ?_ (λ ρ' e=>?_)
 .refine s3 (λ h10=>⟨by rw[ag];exact aL Z,ce tI (λ S=>.int ((S.map XV).length:Nat)) Ss (λ S _=>⟨O,O⟩) ⟨Ss.map (λ S=>(S.length:Int)),by rw[bJ];exact rH λ S _=>by rw[af];rfl,by rw[ag];exact n0,λ M hM _=>s3 (λ hM0=>?_) (λ _=>rfl)⟩⟩) (λ h10=>rfl);exact UO rfl ⟨kd,d0,d1,d2,mo,Ss,O,Jl hM Z,Z,Z,n4,hS,hmo,λ d S ok fs=>⟨pf d S,O,q d S ok fs⟩⟩
 subst e;refine⟨⟨Z,by rw[ag];lia⟩,_,O,cl rfl ⟨TD Ss.length,d0,by show[TV.lst ((OB (((Ss.map tI).length:Nat):Int).toNat).map λ i:Nat=>XV (i:Nat)),XV d0]=_;rw[ag,ph];rfl,by rw[fc];exact n0,by rw[fc];lia,λ k hk=>?_⟩ rfl⟩;obtain⟨a,rfl,al⟩:=fT hk;have eA:=fj al;generalize Ss.getD a []=A at eA;exact⟨O,tI A,ak eA,UO rfl ⟨_,d0,d1,d2,mo,a,A,Ss,O,eA,hS _ (aE eA),hmo,λ d S ok fs=>⟨pf d S,O,q d S ok fs⟩⟩⟩
def NW:ZX 119 101 ["_law_cells","_law_most","_law_steps","_law_sides","_law_cell","_law_made","_law_outs","_law_n","_law_k"] 9 2 AI Ml:=ax <| by
 rintro ts Q ⟨cs,mo,rfl,c40,hmo,q⟩;refine⟨O,?_⟩;refine⟨O,Ul,O,O,Ul,O,O,?_⟩;refine cS (λ i ρ=>∃(ds:List Stp) (Ss:LL) (y4 y5:Option TV),eH mo ds Ss/\ds.length=i/\ρ=[Oh (lI cs),Oh (.int mo),Oh (.own (ds.map Tq)),Oh (.own (Ss.map tI)),y4,y5,Oj,Oj,Oj]) ⟨[],[],_,_,yh mo,O,O⟩ (λ i t ρ ht h=>?_) (λ ρ h=>?_)
 .obtain⟨ds,Ss,y4,y5,gl,dl,rfl⟩:=h;obtain⟨c,rfl,hc⟩:=iN ht;have il:=(aY.mp hc).1;have Sl:Ss.length=i:=by rw[<- gl.1,dl]
  exact UO rfl ⟨c,mo,Ss,O,Z,gl.2.1,hmo,λ d S ok fs=>⟨pf d S,O,_,O,O,by rw[ag,dl];exact aL Z,_,O,O,by rw[ag,Sl];exact aL Z,ds++[d],Ss++[S],_,_,yg gl ok fs,by rw[aF,dl];rfl,by rw[aG,aG];rfl⟩⟩
 obtain⟨ds,Ss,y4,y5,gl,dl,rfl⟩:=h;rw[ag] at dl;refine sU (λ ρ=>∃(ds:List Stp) (Ss:LL),eH mo ds Ss/\0<ds.length/\ds.length<=40/\ρ=[Oh (lI cs),Oh (.int mo),Oh (.own (ds.map Tq)),Oh (.own (Ss.map tI)),y4,y5,Oj,Oj,Oj]) ?_ (λ ρ' h=>?_)
 .refine⟨pv,sN (λ z=>?_) (λ z=>⟨ds,Ss,gl,by rw[ag] at z;lia,Z,O⟩)⟩;rw[ag] at z;have e1:ds=[]:=AS.mp Z;have e2:Ss=[]:=AS.mp (by rw[<- gl.1,e1];rfl);subst e1 e2;exact⟨O,Tz,O,UX (n:=0) ca,O,Ul,O,UX (n:=0) ca,[.num 0],[[]],yg (yh mo) (d:=.num 0) (S:=[]) ⟨O,by unfold UW;decide⟩ (oW hmo),ca,ca,O⟩
 obtain⟨ds,Ss,gl,d0,d40,rfl⟩:=h;refine⟨O,Ul,O,cs,O,gW ca ca,ca,O,?_⟩;generalize aJ (cs.sum*16807) 2147483647=n;obtain⟨x,hx,x1,x8⟩:=JD (aJ n 6) (by rw[bX ca];lia) (by rw[bX ca];lia);refine⟨O,Vc,ca,.int x,hx,O,⟨Z,Z⟩,?_⟩;refine cS (λ i ρ=>∃(os:LI) (n:Int) (y8:Option TV),os.length=i/\(∀o∈os,0<=o/\o<(ds.length:Int))/\ρ=[Oh (lI cs),Oh (.int mo),Oh (.own (ds.map Tq)),Oh (.own (Ss.map tI)),y4,y5,Oh (.own (os.map .int)),Oh (.int n),y8]) ⟨[],n,_,O,(λ o ho=>nomatch ho),O⟩ (λ i t ρ ht h=>?_) (λ ρ h=>?_)
 .obtain⟨os,n,y8,ol,ob,rfl⟩:=h;obtain⟨il,rfl⟩:=oZ ht;have f0:=fX (aR (aJ (n*48271+11) 2147483647) 16) (show(ds.length:Int)≠0 by lia);have f1:=fY (aR (aJ (n*48271+11) 2147483647) 16) (show(0:Int)<ds.length by lia);have em:aJ (aR (aJ (n*48271+11) 2147483647) 16) (((ds.map Tq).length:Nat):Int)=aR (aJ (n*48271+11) 2147483647) 16%(ds.length:Int):=by rw[ag];exact bX Z
  refine⟨gW ca ca,ca,O,⟨ca,ca,ca⟩,by rw[ag];lia,O,by rw[af,ol];exact aL Z,os++[aJ (aR (aJ (n*48271+11) 2147483647) 16) (((ds.map Tq).length:Nat):Int)],aJ (n*48271+11) 2147483647,Oh (.int (i:Nat)),by rw[aF,ol];rfl,λ o ho=>?_,by rw[aG];rfl⟩
  rcases bY.mp ho with z|z
  .exact ob o z
  .cases aI.mp z;rw[em];exact⟨f0,f1⟩
 obtain⟨os,n,y8,ol,ob,rfl⟩:=h;rw[ag,eI] at ol;have f0:=fX n (show(os.length:Int)≠0 by lia);have f1:=fY n (show(0:Int)<os.length by lia);obtain⟨k,hk⟩:∃k:Nat,n%(os.length:Int)=k:=⟨_,(iH f0).symm⟩;rw[hk] at f1;refine⟨O,by rw[af];lia,k,by rw[af,bX Z,hk];exact sn Z,O,TR,O,?_⟩
 have z:=q ds Ss (os.set k ((ds.length:Int) - 1)) ⟨hmo,gl,d0,d40,by rw[dE];lia,by rw[dE];lia,λ o ho=>by
  rcases mF ho with z|z
  .exact ob o z
  .lia⟩
 unfold tI at z;rw[s1m] at z;show Q (.tup [.tup (ds.map Tq),.tup ((os.map XV).set k (.int (((ds.map Tq).length:Nat)-1))),.lst (Ss.map tI)]);rw[ag];exact z
def NX:ZX 120 102 ["_law_sides"] 1 1 AJ Mm:=ax <| by
 rintro ts Q ⟨ns,rfl,sd,l,q⟩;refine⟨O,?_⟩;have e:(OB (((ns.map XV).length:Nat):Int).toNat).map (λ k:Nat=>XV (ai (ns.drop (k+1))))=(aK ns).map XV:=by rw[af,Ot,<- yS,bJ];rfl
 refine⟨⟨by rw[af];lia,by rw[af];lia⟩,by rw[ag,eI,af,Ot];exact aL Z,ce (λ i:Nat=>.int (i:Nat)) (λ k:Nat=>.int (ai (ns.drop (k+1)))) (OB (((ns.map XV).length:Nat):Int).toNat) (λ k hk=>?_) ⟨O,by rw[e];exact q⟩⟩;exact cl rfl ⟨_,ns.drop (k+1),O,.inl (bw XW (cg ns (k+1))),Kg sd _,O,O⟩ rfl
def NY:ZM 46 121 103 ["_law_tree_here","_law_own","_law_mine","_law_many"] ["_law_start","_law_strides_here","_law_own","_law_many"] ["_law_start","_law_strides_here"] [1,3] 4 4 3 (mR 42) AK Mn Mp Mq:=ax <| by
 rintro ts Q ⟨t,S,L,rfl,hd,hl,hp,s6,l6,q⟩;refine⟨O,?_⟩;have le:S.length<=L.length:=by rw[<- hp,aQ];lia
 refine⟨O,O,[tI S,.int (((L.map XV).length:Nat)-((S.map XV).length:Nat):Int)],λ args Q=>∃p∈TJ t,args=[.int p.1,tI p.2]/\Q (.tup [.int (cZ S.length (L.length-S.length) p.1 p.2).1,tI (cZ S.length (L.length-S.length) p.1 p.2).2]),_,O,λ u hu=>?_,⟨t,cZ S.length (L.length-S.length),O,hd,λ p hp Q hq=>⟨p,hp,O,hq⟩,O⟩,?_,λ t e=>e ▸ q⟩
 .rcases aB.mp hu with rfl|hu
  .exact .inl (gB S)
  .cases aI.mp hu;exact .inl (by simp[LF])
 .rintro args P'' ⟨p,hp',rfl,hq⟩;have lp:=hl p hp';have e1:ah (p.2.map XV) Oj (Oh (((S.map XV).length:Nat):Int))=(p.2.take S.length).map XV:=by rw[af,cY]
  have e2:ah (p.2.map XV) (Oh (((S.map XV).length:Nat):Int)) Oj=(p.2.drop S.length).map XV:=by rw[af,cg]
  have e3:(Os ((((L.map XV).length:Nat):Int)-(((S.map XV).length:Nat):Int)).toNat (Pc TV.fz [XV 0])).flatten=(dA (L.length-S.length)).map XV:=by rw[af,af];exact yz _ _
  have l1:(p.2.take S.length).length<=60:=by rw[aQ];lia
  have l2:(p.2.drop S.length).length<=60:=by rw[bO];lia
  have l3:(dA (L.length-S.length)).length<=6:=by rw[kI];lia
  refine⟨O,O,Ub,on,⟨by rw[af,af];lia,by rw[af,af];lia⟩,?_,?_,?_,O,Tz,O,?_⟩
  .rw[af,af];exact aH (by show 1*_<=1000;lia)
  .rw[e1,e3,af,af];exact aH Z
  .rw[e1,e2,e3,aF,af,af,af];exact aH Z
  .show P'' (.tup [.int p.1,.tup (ah (p.2.map XV) Oj (Oh (((S.map XV).length:Nat):Int))++(Os ((((L.map XV).length:Nat):Int)-(((S.map XV).length:Nat):Int)).toNat (Pc TV.fz [XV 0])).flatten++ah (p.2.map XV) (Oh (((S.map XV).length:Nat):Int)) Oj)]);rw[e1,e2,e3,<- aG,<- aG];exact hq
def NZ:ZJ 46 122 104 ["_law_tree_here","_law_own","_law_k","_law_change"] ["_law_start","_law_strides_here","_law_own","_law_k","_law_rest"] ["_law_start","_law_strides_here"] [1,2] 3 4 5 3 (mR 42) AL Mr Mt:=ax <| by
 rintro ts Q ⟨t,S,k,rfl,hd,hl,s6,kl,q⟩;refine⟨O,?_⟩;refine⟨(λ u z=>by cases z),O,[tI S,.int k],λ args Q=>∃p∈TJ t,args=[.int p.1,tI p.2]/\Q (.tup [.int (cH S.length k p.1 p.2).1,tI (cH S.length k p.1 p.2).2]),_,O,λ u hu=>?_,⟨t,cH S.length k,O,hd,λ p hp Q hq=>⟨p,hp,O,hq⟩,O⟩,?_,λ t e=>e ▸ q⟩
 .rcases aB.mp hu with rfl|hu
  .exact .inl (gB S)
  .cases aI.mp hu;exact .inl (by simp[LF])
 .rintro args P'' ⟨p,hp',rfl,hq⟩;obtain⟨lp,lq⟩:=hl p hp';have e1:ah (p.2.map XV) Oj (Oh (k:Int))=(p.2.take k).map XV:=cY _ _;have e2:ah (p.2.map XV) (Oh (((S.map XV).length:Nat):Int)) Oj=(p.2.drop S.length).map XV:=by rw[af,cg]
  have e3:ah (p.2.map XV) (Oh ((k:Int)+1)) (Oh (((S.map XV).length:Nat):Int))=((p.2.drop (k+1)).take (S.length-(k+1))).map XV:=by rw[af];exact Ki (a:=k+1) lp Z
  have l1:(p.2.take k).length<=60:=by rw[aQ];lia
  have l2:(p.2.drop S.length).length<=60:=by rw[bO];lia
  have l3:((p.2.drop (k+1)).take (S.length-(k+1))).length<=60:=by rw[aQ,bO];lia
  refine⟨O,O,?_,.int (p.2.getD k 0),bB Z,O,Ub,?_,?_,O,Tz,O,?_⟩
  .rw[e1,e3,af,af];exact aH Z
  .rw[e1,e3,aF,af,af];exact aH (by show _+1<=1000;lia)
  .rw[e1,e2,e3,aF,aF,af,af,af];exact aH (by show _+_+1+_<=1000;lia)
  .show P'' (.tup [.int p.1,.tup (ah (p.2.map XV) Oj (Oh (k:Int))++ah (p.2.map XV) (Oh ((k:Int)+1)) (Oh (((S.map XV).length:Nat):Int))++[.int (p.2.getD k 0)]++ah (p.2.map XV) (Oh (((S.map XV).length:Nat):Int)) Oj)]);rw[e1,e2,e3,show[XV (p.2.getD k 0)]=[p.2.getD k 0].map XV from rfl,<- aG,<- aG,<- aG,Kj lp kl];exact hq
def Oa:ZJ 46 123 105 ["_law_step_here","_law_tree_here","_law_own","_law_change"] ["_law_start","_law_strides_here","_law_step_here","_law_own","_law_k"] ["_law_start","_law_strides_here"] [0,2] 3 4 5 3 (mR 42) AM Mu Mv:=ax <| by
 rintro ts Q ⟨d,A,S,t,Ss,rfl,m4,ea,fA,ok,hd,hl,q⟩;refine⟨O,?_⟩;have l6:=fA.2.1;refine⟨(λ u z=>by cases z),O,[Tq d,tI A],λ args Q=>∃p∈TJ t,args=[.int p.1,tI p.2]/\Q (.tup [.int (bW A d p.1 p.2).1,tI (bW A d p.1 p.2).2]),_,O,λ u hu=>?_,⟨t,bW A d,O,hd,λ p hp Q hq=>⟨p,hp,O,hq⟩,O⟩,?_,λ t e=>e ▸ q⟩
 .rcases aB.mp hu with rfl|hu
  .exact .inl (sR _)
  .cases aI.mp hu;exact .inl (gB A)
 .rintro args P'' ⟨p,hp',rfl,hq⟩;obtain⟨lp,lq⟩:=hl p hp';have e2:∀c:Nat,ah (p.2.map XV) Oj (Oh (c:Int))=(p.2.take c).map XV:=λ c=>cY _ _;have e3:∀c:Nat,ah (p.2.map XV) (Oh ((c:Int)+1)) Oj=(p.2.drop (c+1)).map XV:=λ c=>cg _ (c+1);have e4:∀c:Nat,ah (p.2.map XV) (Oh (c:Int)) Oj=(p.2.drop c).map XV:=λ c=>cg _ c;have l1:∀c:Nat,(p.2.take c).length<=60:=λ c=>by rw[aQ];lia
  have l2:∀c:Nat,(p.2.drop c).length<=60:=λ c=>by rw[bO];lia
  cases d with
  |flip a s=>
   obtain⟨e5,no⟩:=ok;cases bv (ea.symm.trans e5);obtain⟨c,rfl,kl⟩:=dI no;have n5:=fA.1 (A.getD c 0) (jF kl);have m1:=l1 c;have m2:=l2 (c+1);refine⟨O,_,O,O,_,O,pv,_,O,pv,.int (A.getD c 0),bB kl,.int (p.2.getD c 0),bB Z,gX Z Z,.int (p.2.getD c 0),bB Z,O,Ub,?_,?_,O,Tz,O,?_⟩
   .rw[e2,af];exact aH (by show _+1<=1000;lia)
   .rw[e2,e3,aF,af,af];exact aH (by show _+1+_<=1000;lia)
   .show P'' (.tup [.int (p.1+(A.getD c 0-1)*p.2.getD c 0),.tup (ah (p.2.map XV) Oj (Oh (c:Int))++[.int (-p.2.getD c 0)]++ah (p.2.map XV) (Oh ((c:Int)+1)) Oj)]);rw[e2,e3,show[XV (-p.2.getD c 0)]=[-p.2.getD c 0].map XV from rfl,<- aG,<- aG,yT Z];exact hq
  |cut a s f m g=>
   obtain⟨A',e5,no,nb,m5,rfl⟩:=ok;cases bv (ea.symm.trans e5);obtain⟨c,rfl,kl⟩:=dI no;have nb':=nb;unfold Vg at nb';have m1:=l1 c;have m2:=l2 (c+1);refine⟨O,_,O,O,_,O,pv,_,O,pv,_,O,pv,_,O,.int (p.2.getD c 0),bB Z,gX Z Z,_,O,.int (p.2.getD c 0),bB Z,gX Z Z,O,Ub,?_,?_,O,Tz,O,?_⟩
   .rw[e2,af];exact aH (by show _+1<=1000;lia)
   .rw[e2,e3,aF,af,af];exact aH (by show _+1+_<=1000;lia)
   .show P'' (.tup [.int (p.1+f*p.2.getD c 0),.tup (ah (p.2.map XV) Oj (Oh (c:Int))++[.int (g*p.2.getD c 0)]++ah (p.2.map XV) (Oh ((c:Int)+1)) Oj)]);rw[e2,e3,oR g,show[XV (p.2.getD c 0*g)]=[p.2.getD c 0*g].map XV from rfl,<- aG,<- aG,yT Z];exact hq
  |spread a s m=>
   obtain⟨A',e5,no,m0,m5,nb,rfl⟩:=ok;cases bv (ea.symm.trans e5);unfold jE at no;obtain⟨c,rfl⟩:∃k:Nat,s=k:=⟨s.toNat,Z⟩;have m1:=l1 c;have m2:=l2 c;refine⟨O,_,O,O,_,O,pv,_,O,pv,_,O,pv,O,Ub,?_,?_,O,Tz,O,?_⟩
   .rw[e2,af];exact aH (by show _+1<=1000;lia)
   .rw[e2,e4,aF,af,af];exact aH (by show _+1+_<=1000;lia)
   .show P'' (.tup [.int p.1,.tup (ah (p.2.map XV) Oj (Oh (c:Int))++[.int 0]++ah (p.2.map XV) (Oh (c:Int)) Oj)]);rw[e2,e4,show[XV 0]=[(0:Int)].map XV from rfl,<- aG,<- aG];exact hq
  |turn a os=>
   obtain⟨A',e5,tk,rfl⟩:=ok;cases bv (ea.symm.trans e5);have ol:=sO tk;have om:∀o∈os,0<=o/\o<(A.length:Int):=λ o ho=>up_mem.mp (tk.subset ho);have z:(os.map λ o:Int=>XV (p.2.getD o.toNat 0))=(bT p.2 os).map XV:=by unfold bT;rw[bJ];rfl
   have e6:ah (p.2.map XV) (Oh (((A.map XV).length:Nat):Int)) Oj=(p.2.drop A.length).map XV:=by rw[af,cg]
   have m2:=l2 A.length;refine⟨O,_,O,O,_,O,pv,_,O,by rw[af];exact aL Z,ce XV (λ o:Int=>.int (p.2.getD o.toNat 0)) os (λ o ho=>?_) ⟨?_,O,Tz,O,?_⟩⟩
   .have:=om o ho;exact⟨.int (p.2.getD o.toNat 0),kN Z Z,O,O⟩
   .show(os.map λ o:Int=>XV (p.2.getD o.toNat 0)).length+(ah (p.2.map XV) (Oh (((A.map XV).length:Nat):Int)) Oj).length<=Oq;rw[e6,ag,af];exact aH Z
   .show P'' (.tup [.int p.1,.tup ((os.map λ o:Int=>XV (p.2.getD o.toNat 0))++ah (p.2.map XV) (Oh (((A.map XV).length:Nat):Int)) Oj)]);rw[e6,z,<- aG];exact hq
  |_=>exact m4.elim
def Ob:ZX 124 106 ["_law_step_here","_law_trees","_law_sides","_law_mine","_law_word","_law_store","_law_start","_law_strides_here","_law_far","_law_index"] 10 4 AN Mw:=ax <| by
 rintro ts Q ⟨a,b,n,r,B,S,ss,st,s,t,Ss,Ts,rfl,ea,eb,eta,etb,s0,s6,b6,S6,hp,hd,hl,q⟩;refine⟨O,?_⟩;have e1:ah (ss.map XV) (Oh 1) Oj=(ss.drop 1).map XV:=cg ss 1;have e3:(Os (((B.map XV).length:Nat):Int).toNat (Pc TV.fz [XV 0])).flatten=(dA B.length).map XV:=by rw[af];exact yI _
 refine⟨_,O,Tl (.read st s ss),ak eta,O,Ub,_,O,tI B,ak eb,on,⟨by rw[af];lia,by rw[af];lia⟩,by rw[af];exact aH (by show 1*_<=1000;lia),?_,O,_,O,Tl t,ak etb,_,O,tI B,ak eb,?_⟩
 .rw[e3,e1,af,af,kI,bO];exact aH Z
 .refine cl rfl ⟨t,B,S,O,hd,hl,hp,b6,S6,O,.int (ss.getD 0 0),bB (k:=0) s0,_,O,tI (n::r),ak ea,.int n,bB (ns:=n::r) (k:=0) on,O,Wt,O,?_⟩ rfl;show Q (.tup [.str "fetch",.int st,.int s,.int (ss.getD 0 0),.int n,.tup ((Os (((B.map XV).length:Nat):Int).toNat (Pc TV.fz [XV 0])).flatten++ah (ss.map XV) (Oh 1) Oj),Tl (rm (cZ B.length (S.length-B.length)) t)]);rw[e3,e1,<- aG];exact q
def Oc:ZX 125 107 ["_law_step_here","_law_trees","_law_sides","_law_mine","_law_kind","_law_own"] 6 4 AO Mx:=ax <| by
 rintro ts Q ⟨d,S,Ss,Ts,rfl,ok,fS,fs,⟨hA,hlay,hfet⟩,nt,q⟩;refine⟨O,?_⟩;have S6:=fs.2.1;have sd:=cF fs
 have led:(TQ d=TQ (.each "" 0)\/TQ d=TQ (.pair "" 0 0)\/TQ d=TQ (.pick 0 0 0))->∀a∈ar d,∃t A,Ts[a]?=Oh (Oh t)/\Ss[a]?=Oh A/\(Tt t<=41/\fk A.length t)/\A.length<=6/\S.take A.length=A/\rm (cZ A.length (S.length-A.length)) t=bM Ts Ss S a:=λ h a ha=>by
  obtain⟨t,A,et,eA,wf⟩:=hA a ha;obtain⟨A',eA',hp⟩:=tm ok h a ha;cases eA.symm.trans eA';have a6:=(fS A (aE eA)).2.1;exact⟨t,A,et,eA,gC wf a6 (ao _),a6,hp,by unfold bM;rw[bC et,Uh eA]⟩
 have mvd:VO d->Q (Uc (cJ Ts Ss S d))->∀t A,Ts[(ar d).headD 0]?=Oh (Oh t)->Ss[(ar d).headD 0]?=Oh A->UY 40 A t->Q (Tl (rm (bW A d) t))/\fit A/\Tt t<=41/\fk A.length t:=λ m q' t A et eA wf=>by
  have fA:=fS A (aE eA);have w:=gC wf fA.2.1 (ao _);refine⟨?_,fA,w.1,w.2⟩
  have e:cJ Ts Ss S d=Oh (rm (bW (Tk Ss ((ar d).headD 0)) d) (gt Ts ((ar d).headD 0))):=by cases d<;>first|rfl|exact m.elim
  rw[e,bC et,Uh eA] at q';exact q'
 cases d with
 |num n=>exact⟨_,rfl,rfl,trivial,_,rfl,rfl,Tz,rfl,q⟩
 |count ms k=>
  refine⟨_,O,O,pv,pv,⟨by rw[af];lia,by rw[af];lia⟩,by rw[ag,eI,af,Ot];exact aL Z,ce (λ i:Nat=>.int (i:Nat)) (λ j:Nat=>.int (if (j:Int)=k then 1 else 0)) (OB (((S.map XV).length:Nat):Int).toNat) (λ j hj=>⟨_,O,pv,?_⟩) ⟨O,TR,O,?_⟩⟩
  .refine⟨O,?_⟩;show XV (if decide ((j:Int)=k)=Oi then 1 else 0)=_;by_cases h:(j:Int)=k
   .rw[XT h,cn h];rfl
   .rw[XR h,bD h];rfl
  .have e:(OB (((S.map XV).length:Nat):Int).toNat).map (λ j:Nat=>XV (if (j:Int)=k then 1 else 0))=((OB S.length).map λ j:Nat=>if (j:Int)=k then (1:Int) else 0).map XV:=by rw[af,Ot,bJ];rfl
   show Q (.tup [.str "index",.int 0,.tup _]);rw[e];exact q
 |each w a=>
  obtain⟨t,A,et,eA,⟨h1,h2⟩,a6,hp,e⟩:=led (.inl rfl) a (by simp[ar])
  have eS:A=S:=by
   have z:=ok.1;rw[eA] at z;cases z;rfl
  subst eS;rw[Kh] at e;refine⟨_,O,O,pv,pv,pv,_,O,_,O,Tl t,ak et,O,TR,O,?_⟩;have q:Q (Tl (.each w (bM Ts Ss A a))):=q;rw[<- e] at q;exact q
 |pair w a b'=>
  refine⟨_,O,O,pv,pv,pv,pv,_,O,O,Tz,aL (by show 2<=1000;decide),kM (l:=[a,b']) (f:=λ a:Nat=>XV (a:Int)) rfl (λ a=>Tl (bM Ts Ss S a)) (λ b hb=>?_) ⟨aH (cG rfl),O,q⟩⟩;obtain⟨t,A,et,eA,⟨h1,h2⟩,a6,hp,e⟩:=led (.inr (.inl rfl)) b hb;exact⟨Tl t,ak et,tI A,ak eA,cl rfl ⟨t,A,S,O,h1,h2,hp,a6,S6,O,bw Tl e⟩ rfl⟩
 |pick a b' c=>
  refine⟨_,O,O,pv,pv,pv,pv,pv,O,Ub,aL (by show 3<=1000;decide),kM (l:=[a,b',c]) (f:=λ a:Nat=>XV (a:Int)) rfl (λ a=>Tl (bM Ts Ss S a)) (λ b hb=>?_) ⟨aH (cG rfl),O,q⟩⟩;obtain⟨t,A,et,eA,⟨h1,h2⟩,a6,hp,e⟩:=led (.inr (.inr rfl)) b hb;exact⟨Tl t,ak et,tI A,ak eA,cl rfl ⟨t,A,S,O,h1,h2,hp,a6,S6,O,bw Tl e⟩ rfl⟩
 |fold w a side=>
  obtain⟨t,A,et,eA,wf⟩:=hA a (by simp[ar]);obtain⟨A',ea,hw,no,rfl⟩:=ok;cases eA.symm.trans ea;obtain⟨k,rfl,kl⟩:=dI no;have a6:=(fS A (aE eA)).2.1;have w':=gC wf a6 (ao _);refine⟨_,O,O,pv,pv,pv,pv,pv,pv,_,O,tI A,ak eA,O,_,O,_,O,.int (A.getD k 0),bB kl,_,O,Tl t,ak et,_,O,cl rfl ⟨t,A,k,O,w'.1,w'.2,a6,kl,O,Us,O,?_⟩ rfl⟩;have z:Q (Tl (.fold w ((Tk Ss a).getD k 0) (rm (cH (Tk Ss a).length k) (gt Ts a)))):=q;rw[bC et,Uh eA] at z;exact z
 |fetch a b=>
  obtain⟨t,A,et,eA,wf⟩:=hA a (by simp[ar]);obtain⟨t',B,et',eB,wf'⟩:=hA b (by simp[ar]);obtain⟨n,r,B',ea,n0,eb,nb,rfl⟩:=ok;cases eB.symm.trans eb;cases eA.symm.trans ea;obtain⟨st,s,ss,e⟩:=hfet a b rfl;rw[bC et] at e;subst e;have a6:(n::r).length<=6:=(fS _ (aE eA)).2.1;have b6:=(fS B (aE eB)).2.1;have w':=gC wf' b6 (ao _);have l1:(n::r).length<=ss.length/\ss.length<=(n::r).length+0:=wf.2 (s,ss) bg;rw[OM] at l1 a6;refine⟨_,O,O,pv,pv,pv,pv,pv,pv,pv,cl rfl ⟨a,b,n,r,B,_,ss,st,s,t',Ss,Ts,O,eA,eB,et,et',Z,Z,b6,S6,s0i,w'.1,w'.2,O,?_⟩ rfl⟩;have z:Q (Tl (kS (gt Ts a) (Tk Ss a) (Tk Ss b) (bM Ts Ss (B++r) b))):=q;unfold bM at z;rw[bC et,bC et',Uh eA,Uh eB] at z;exact z
 |lay a ms=>
  obtain⟨t,A,et,eA,wf⟩:=hA a (by simp[ar]);obtain⟨st,s,ss,e⟩:=hlay a ms rfl;rw[bC et] at e;subst e;refine⟨_,O,O,pv,pv,pv,pv,pv,pv,pv,pv,_,O,Tl (.read st s ss),ak et,_,O,cl rfl ⟨S,O,sd,Z,O,Us,O,?_⟩ rfl⟩;have z:Q (Tl (.read (kR (gt Ts a)) 0 (aK S))):=q;rw[bC et] at z;exact z
 |turn a os|flip a k|cut a k f m g|spread a k m=>
  obtain⟨t,A,et,eA,wf⟩:=hA a (by simp[ar]);obtain⟨q',fA,hd,hl⟩:=mvd trivial q t A et eA wf;exact⟨_,O,O,pv,pv,pv,pv,pv,pv,pv,pv,_,O,Tl t,ak et,_,O,tI A,ak eA,cl rfl ⟨_,A,S,t,Ss,O,pv,eA,fA,ok,hd,hl,O,q'⟩ rfl⟩
 |_=>exact XU trivial nt
def Od:ZX 126 108 ["_law_step_here","_law_store","_law_trees","_law_sides","_law_mine","_law_strides_here","_law_k","_law_outer","_law_tree_here","_law_far","_law_first"] 11 5 AQ Mz:=ax <| by
 rintro ts Q ⟨d,S,st,Ss,Ts,rfl,ok,fS,fs,hA,ni,q⟩;refine⟨O,?_⟩;have S6:=fs.2.1;have sd:=cF fs;have sl:(aK S).length=S.length:=mH S
 have oth:∀(h1:¬kW d) (q:Q (.lst [dY st S 0 (aK S) (Uc (cJ Ts Ss S d))])),∃t,cJ Ts Ss S d=Oh t/\Q (.lst [dY st S 0 (aK S) (Tl t)]):=λ h1 q=>by
  obtain⟨t,et⟩:=pG (Ts:=Ts) (Ss:=Ss) (S:=S) h1;rw[et] at q;exact⟨t,et,q⟩
 cases d with
 |inp ms=>cases ni
 |run w a s=>
  obtain⟨t,A,et,eA,wf⟩:=hA.1 a (by simp[ar]);obtain⟨eA',hw,no⟩:=ok;obtain⟨c,rfl,cl'⟩:=dI no;cases eA.symm.trans eA';have wf':=gC wf S6 (ao _);have q:Q (.lst [Vk w st (Tk Ss a) c (Tl (rm (cH (Tk Ss a).length c) (gt Ts a)))]):=q;rw[Uh eA,bC et] at q;have e1:ah (S.map XV) Oj (Oh (c:Int))=(S.take c).map XV:=cY S c;have e2:ah (S.map XV) (Oh ((c:Int)+1)) Oj=(S.drop (c+1)).map XV:=cg S (c+1);have e3:ah ((aK S).map XV) Oj (Oh (c:Int))=((aK S).take c).map XV:=cY _ c;have e4:ah ((aK S).map XV) (Oh ((c:Int)+1)) Oj=((aK S).drop (c+1)).map XV:=cg _ (c+1)
  have ee:(cH S.length c 0 (aK S)).2=(aK S).take c++(aK S).drop (c+1)++[(aK S).getD c 0]:=by
   show bF ((aK S).eraseIdx c) (S.length-1) _=_;rw[Kk _ _ _ (by rw[mO,XT Z,sl]),yU]
  refine cl rfl ⟨S,O,sd,Z,O,_,O,pv,_,O,O,?_,O,_,O,Tl t,ak et,cl rfl ⟨t,S,c,O,wf'.1,wf'.2,S6,cl',O,?_⟩ rfl⟩ rfl
  .rw[e1,e2,af,af,aQ,bO];exact aH Z
  .refine⟨_,O,.int (S.getD c 0),bB cl',?_,.int ((aK S).getD c 0),bB Z,O,Ub,?_,O,aH (cG rfl),O,Ub,O,?_⟩
   .rw[e3,e4,af,af,aQ,bO];exact aH Z
   .rw[e3,e4,aF,af,af,aQ,bO];exact aH (by show _+1<=1000;lia)
   .show Q (.lst [.tup [.str "run",.str w,.int st,.tup (ah (S.map XV) Oj (Oh (c:Int))++ah (S.map XV) (Oh ((c:Int)+1)) Oj),.int (S.getD c 0),.int 0,.tup (ah ((aK S).map XV) Oj (Oh (c:Int))++ah ((aK S).map XV) (Oh ((c:Int)+1)) Oj++[.int ((aK S).getD c 0)]),Tl (rm (cH S.length c) t)]]);unfold Vk at q;rw[ee] at q;rw[e1,e2,e3,e4,<- aG,yU,<- aG,show[XV ((aK S).getD c 0)]=[(aK S).getD c 0].map XV from rfl,<- aG];exact q
 |join a b s=>
  obtain⟨ta,A,eta,eA,wfa⟩:=hA.1 a (by simp[ar]);obtain⟨tb,B,etb,eB',wfb⟩:=hA.1 b (by simp[ar]);obtain⟨A',B',ea,eb,lAB,no,er,nb,e⟩:=ok;cases eA.symm.trans ea;cases eB'.symm.trans eb;have jl:S.length=A.length:=by rw[e];exact yQ no
  obtain⟨c,rfl,cl'⟩:=dI no;have n5:=(fS A (aE eA)).1 (A.getD c 0) (jF cl');have q:Q (.lst [dY st (Tk Ss a) 0 (aK S) (Tl (gt Ts a)),dY st (Tk Ss b) ((Tk Ss a).getD c 0*(aK S).getD c 0) (aK S) (Tl (gt Ts b))]):=q;rw[Uh eA,Uh eB',bC eta,bC etb] at q;exact cl rfl ⟨S,O,sd,Z,O,_,O,pv,_,O,pv,_,O,tI A,ak eA,_,O,.int (A.getD c 0),bB cl',_,O,.int ((aK S).getD c 0),bB Z,gX Z Z,O,_,O,tI A,ak eA,_,O,Tl ta,ak eta,O,Vc,O,_,O,tI B,ak eB',_,O,Tl tb,ak etb,O,Vc,O,Tz,O,q⟩ rfl
 |_=>
  obtain⟨t,et,q⟩:=oth (λ h=>h) q;exact cl rfl ⟨S,O,sd,Z,O,_,O,pv,_,O,pv,cl rfl ⟨_,S,Ss,Ts,O,ok,fS,fs,hA,λ h=>h,by rw[et];exact⟨O,Vc,O,Ub,O,q⟩⟩ rfl⟩ rfl
def Oe:ZX 127 109 ["_law_script","_law_steps","_law_outs","_law_sides","_law_kept","_law_live","_law_found","_law_trees","_law_loops_here","_law_many","_law_k","_law_step_here","_law_tree_here"] 13 1 AR MA:=ax <| by
 rintro ts Q ⟨ns,rfl,h63,q⟩;refine⟨O,?_⟩;have e39:ah (ns.map XV) Oj (Oh (39:Int))=(ns.take 39).map XV:=cY ns 39;refine cl rfl ⟨ns.take 39,24,by show[TV.lst (ah (ns.map XV) Oj (Oh (39:Int))),XV 24]=_;rw[e39];rfl,by rw[aQ];lia,⟨ca,ca⟩,λ ds Ss os gd=>⟨O,Tz,cl rfl ⟨ds,Ss,os,24,O,gd,O,O,Tz,cl rfl ⟨ds,Ss,os,24,O,gd,O,O,Tz,cl rfl ⟨ds,Ss,os,24,O,gd,O,O,Ul,O,O,Ul,O,O,O,?_⟩ rfl⟩ rfl⟩ rfl⟩⟩ rfl;obtain⟨hmo,gl,d0,d40,o0,o8,ob⟩:=id gd;have fS:=oY gl hmo;have eSk:∀k,k<ds.length->Ss[k]?=Oh (Tk Ss k):=λ k kl=>by unfold Tk;rw[aP,bc (by rw[<- gl.1];exact kl)];rfl
 refine cS (λ i ρ=>∃y10 y11 y12,ρ=[Oh (lI ns),Oh (.tup (ds.map Tq)),Oh (tI os),Oh (.lst (Ss.map tI)),Oh (.lst ((fV ds (Th ds Ss os ds.length)).map λ k=>.int (k:Nat))),Oh (.lst ((aV ds os).map λ k=>.int (k:Nat))),Oh (yR ds Ss os (Th ds Ss os ds.length)),Oh (.own ((Th ds Ss os i).Ts.map Uc)),Oh (.own (UZ ds Ss os (Th ds Ss os ds.length) i)),Oh (.int ((Th ds Ss os i).st.length:Nat)),y10,y11,y12]) ⟨_,_,_,O⟩ (λ i t ρ ht h=>?_) (λ ρ h=>?_)
 .obtain⟨y10,y11,y12,rfl⟩:=h;obtain⟨d,rfl,ed⟩:=tJ ht;have il:=(aY.mp ed).1;have eS:=eSk i il;have ih:=jI (os:=os) gl d40 i Z;obtain⟨l1,l2,l3⟩:=gE ds Ss os i;have gd':=gD ed;have sz:∀n:Nat,n<=50->n<Oq:=λ n h=>aL Z;have fi:fit (Tk Ss i):=fS _ (aE eS);have ok:=VR (gl.2.2 i _ _ ed eS);have inl:=tH i (aV ds os);have ink:=tH i (fV ds (Th ds Ss os ds.length));have ki:=kept_iff (ds:=ds) (Ss:=Ss) (os:=os) (k:=i) (n:=ds.length);have ll:=tN ds Ss os (Th ds Ss os ds.length) i;obtain⟨lw1,lw2⟩:=Kv (ds:=ds) (Ss:=Ss) (os:=os) (p:=Th ds Ss os ds.length) (k:=i);obtain⟨s1',s2'⟩:=Ku (ds:=ds) (Ss:=Ss) (os:=os) (k:=i);have at':=λ hr=>(mP gl Z ih hr).2;have kb:UD ds Ss os (Th ds Ss os i).Ts i=(bI (ds.getD i (.num 0)) || (decide (i∈aV ds os)&&kU ds Ss os i (ds.getD i (.num 0)) (cK ds Ss os (Th ds Ss os i).Ts i) ((dL ds os).getD i []))):=rfl;have bo:cK ds Ss os (Th ds Ss os i).Ts i=if i∈aV ds os then cJ (Th ds Ss os i).Ts Ss (Tk Ss i) (ds.getD i (.num 0)) else Oj:=rfl;rw[gd'] at ki lw1 at' kb bo;have nk:i ∉ fV ds (Th ds Ss os ds.length)->bI d=Ol->UD ds Ss os (Th ds Ss os i).Ts i=Ol:=λ h1 h2=>pJ.mpr λ z=>h1 (ki.mpr ⟨⟨il,z⟩,h2⟩);generalize hP:Th ds Ss os i=p at *;refine⟨O,O,hV _,s2 (λ h=>?_) (λ h=>?_)⟩
  .have hk:i∈fV ds (Th ds Ss os ds.length):=aC (ink.symm.trans h);obtain⟨⟨_,kp⟩,ni⟩:=ki.mp hk;obtain⟨eT,eN⟩:=s1' kp;rw[kb,ni,jt,bp,dh] at kp;have hr:=kp.1;rw[lw1 hk,eT,eN];have l2':=pK Ss p.Ts (Tk Ss i) (cJ p.Ts Ss (Tk Ss i) d) (p.st.length:Nat) d;refine⟨tI (Tk Ss i),ak eS,clX rfl ⟨d,Tk Ss i,(p.st.length:Nat),Ss,p.Ts,O,ok,fS,fi,at' hr,ni,_,O,Kt,aH Z,O,hV _,s2 (λ _=>?_) (λ h'=>XU hk (fW (ink.symm.trans h')))⟩⟩;exact⟨tI (Tk Ss i),ak eS,cl rfl ⟨_,O,cF fi,by have:=fi.2.1;lia,O,Us,O,O,O,by rw[ag,l1];exact sz _ Z,_,_,_,by rw[aG];rfl⟩ rfl⟩
  .have hk:i ∉ fV ds (Th ds Ss os ds.length):=fW (ink.symm.trans h);rw[lw2 hk];have inp:bI d=Oi->UD ds Ss os p.Ts i=Oi:=λ z=>by rw[kb,z];rfl
   refine⟨O,hV _,s2 (λ hl=>?_) (λ hl=>?_)⟩
   .have hr:i∈aV ds os:=aC (inl.symm.trans hl);refine⟨_,fU d,pv,s2 (λ hi=>?_) (λ hi=>?_)⟩
    .have hi:bI d=Ol:=by rw[<- eJ];exact oz _ |>.mp hi
     have kf:=nk hk hi;obtain⟨eT,eN⟩:=s2' kf;rw[kb,hi,cn hr,jt,Sm] at kf
     have nt:¬kW d:=by
      cases d with
      |inp ms=>cases hi
      |run w a s|join a b s=>cases kf
      |_=>exact λ h=>h
     obtain⟨t,et⟩:=pG (Ts:=p.Ts) (Ss:=Ss) (S:=Tk Ss i) nt;rw[eT,eN,bo,XT hr,et];refine⟨tI (Tk Ss i),ak eS,UO rfl ⟨d,Tk Ss i,Ss,p.Ts,O,ok,fS,fi,at' hr,nt,tj _,(yP _).1,?_⟩⟩;rw[et];exact⟨O,hV _,s2 (λ h'=>XU (aC (ink.symm.trans h')) hk) (λ _=>⟨_,fU d,pv,s2 (λ h'=>by rw[show bI d=Oi from (eJ d).symm.trans h'] at hi;cases hi) (λ _=>⟨O,by rw[ag,l1];exact sz _ Z,_,_,_,by rw[aG];rfl⟩)⟩)⟩
    .have hi:bI d=Oi:=by rw[<- eJ];exact(s1f _).mp hi
     obtain⟨eT,eN⟩:=s1' (inp hi);rw[eT,eN];refine⟨O,hV _,s2 (λ h'=>XU (aC (ink.symm.trans h')) hk) (λ _=>⟨_,fU d,pv,s2 (λ _=>?_) (λ h'=>by rw[show bI d=Ol from (eJ d).symm.trans h'] at hi;cases hi)⟩)⟩;exact⟨tI (Tk Ss i),ak eS,cl rfl ⟨_,O,cF fi,by have:=fi.2.1;lia,O,Us,O,O,O,by rw[ag,l1];exact sz _ Z,_,_,_,by rw[aG];rfl⟩ rfl⟩
   .have hr:i ∉ aV ds os:=fW (inl.symm.trans hl);refine⟨O,hV _,s2 (λ h'=>XU (aC (ink.symm.trans h')) hk) (λ _=>⟨_,fU d,pv,s2 (λ h'=>?_) (λ h'=>?_)⟩)⟩
    .have hi:bI d=Oi:=(eJ d).symm.trans h';obtain⟨eT,eN⟩:=s1' (inp hi);rw[eT,eN];exact⟨tI (Tk Ss i),ak eS,cl rfl ⟨_,O,cF fi,by have:=fi.2.1;lia,O,Us,O,O,O,by rw[ag,l1];exact sz _ Z,_,_,_,by rw[aG];rfl⟩ rfl⟩
    .have hi:bI d=Ol:=(eJ d).symm.trans h';obtain⟨eT,eN⟩:=s2' (nk hk hi);rw[eT,eN,bo,XR hr];exact⟨O,by rw[ag,l1];exact sz _ Z,_,_,_,by rw[aG];rfl⟩
 obtain⟨y10,y11,y12,rfl⟩:=h;rw[pN,ag];obtain⟨dp1,dp2⟩:=yY gl d40 (os:=os) ds.length (ao _);have lw:=yX (os:=os) gl ds.length (ao _);have dl:_L.dp 99 (.tup (UG ds Ss (Th ds Ss os ds.length) (Th ds Ss os ds.length).st.length)):=yZ (Kp dp1) dp2 _;have ll:=tN ds Ss os (Th ds Ss os ds.length) ds.length;have inv:=λ o h=>jI (os:=os) gl d40 ds.length (ao _) o h;rw[lw];generalize hp:Th ds Ss os ds.length=p at *;refine⟨_,O,dl,s2 (λ h=>?_) (λ _=>?_)⟩
 .have h:(!_L.eqT (XW (UG ds Ss p p.st.length)) (XW (UG ds Ss p p.st.length)))=Oi:=h;rw[qT dl] at h;cases h
 refine⟨_,O,by rw[af];exact aL Z,ce XV (λ o:Int=>.tup [.int (kR (gt p.Ts o.toNat)),tI (Tk Ss o.toNat)]) os (λ o ho=>?_) ⟨zb Ss p.Ts os,O,?_⟩⟩
 .obtain⟨b0,b1⟩:=ob o ho;obtain⟨k,rfl⟩:∃k:Nat,o=k:=⟨o.toNat,Z⟩;have I:=inv k Z (yD ob ho);obtain⟨t,A,e1,e2,_⟩:=I.w;obtain⟨st,s,ss,e⟩:=I.o ho;rw[Ot,e];rw[bC e1] at e;subst e;exact⟨Tl (.read st s ss),ak e1,_,O,tI _,ak (eSk k Z),O,Tz,O,O⟩
 show Q (.bl (_L.eqT (pL Ss p.Ts os) (pL Ss p.Ts os)));rw[qT (zb Ss p.Ts os)];exact q
def glt_ex{K:FG}{st:Ox}{oc:Value}{od an:OA}{osl:AV}{kV doc pm ct:Value}{oc2:Value}{od2:OA}{vs:Array Value}{sl2:AV}(a:W.nsIn K OC x=Oh (Oh (.ref f)))(l:K.lookup f=Oh ⟨oc,od,.func (W.fnOf x x (gm st) (aN st) (aD st) .none kV doc pm an (.ref c) ct),osl⟩)(q:W.codeIn K (.ref c) x=Oi)(k:W.keepIn K (.ref f)=Oi)(h4:K.lookup c=Oh ⟨oc2,od2,.fields vs,sl2⟩)(h5:vs[11]?=Oh (.ref T)):∃f fd c,Ua K x st f fd c T:=⟨_,_,_,⟨vc l q k,a⟩,rfl,Fx a l rfl h4 h5⟩
noncomputable def pP(K:FG)(ts:List On):Sp:=λ vs H Q _=>∃(a:On) (ns:LI),vs=[.ref a]/\SqL K H a (ns.map V.int)/\ns.length<=63/\(∀T∈ts,H T=Oh (.tbl #[]))/\∀H',Q (.bl Oi) H'
def fx{α:Type}{p:α->Prop}{a:α}{l:List α}(h:p a)(t:∀n∈l,p n):∀n∈a::l,p n:=λ n hn=>by
 rcases aB.mp hn with rfl|z
 .exact h
 .exact t n z
def fx0{α:Type}{p:α->Prop}:∀n∈([]:List α),p n:=λ _ h=>nomatch h
noncomputable def pT(p:Str×List (Str×Int)):TV:=.tup [.str p.1,.tup (p.2.map λ q=>.tup [.str q.1,.int q.2])]
theorem AT{K:FG}:∀ {fs:List (Str×Int)}{xs:List V},si K fs xs->RpL K F H (fs.map λ q=>.tup [.str q.1,.int q.2]) xs
 |[],[],_=>rfl
 |[],_::_,h=>h.elim
 |_::_,[],h=>h.elim
 |f::fs,y::ys,⟨⟨a,e,k⟩,h2⟩=>⟨y,ys,rfl,⟨a,_,e,k.sq,_,_,rfl,rfl,_,_,rfl,rfl,rfl⟩,AT h2⟩
theorem AU{K:FG}:∀ {fs:List (Str×List (Str×Int))}{kvs:LA},sj K fs kvs->∀y t,VF (fs.map pT) y=Oh t->∃a,kvs.lookup y=Oh a/\∀F H,Rp K F H t (.ref a)
 |[],_,_,y,t,e=>nomatch e
 |_::_,[],h,_,_,_=>h.elim
 |(g,gs)::fs,(p,pa)::ps,h,y,t,e=>by
  obtain⟨⟨e1,xs,k1,k2⟩,h2⟩:=h;cases (show p=g from e1);have e:(if decide (g=y)=Oi then Oh (XW (gs.map λ q=>.tup [.str q.1,.int q.2])) else VF (fs.map pT) y)=Oh t:=e;rw[dR];by_cases c:g=y
  .subst c;rw[XT (cn rfl)] at e;cases e;rw[show(g == g)=Oi from jW g];exact⟨pa,O,λ F H=>⟨pa,xs,O,k1.sq,AT k2⟩⟩
  .rw[XR (by rw[bD c];decide)] at e;rw[show(y == g)=Ol from pR.mpr λ z=>c z.symm];exact AU h2 y t e
def kts{K:FG}{sl:AV}(h:K.lookup a=Oh ⟨.type "tuple",Oj,.seq #[.str x t,.int i u] n,sl⟩):KTup K a [.str x,.int i]:=my h (small (show(2:Nat)<=1000 by decide)) (.cons ⟨_,rfl⟩ (.cons ⟨_,rfl⟩ .nil))
def ktr1{K:FG}{sl:AV}(h:K.lookup a=Oh ⟨.type "tuple",Oj,.seq #[.ref a0] n,sl⟩):KTup K a [.ref a0]:=my h (small (show(1:Nat)<=1000 by decide)) (.cons rfl (.nil))
def ktr2{K:FG}{sl:AV}(h:K.lookup a=Oh ⟨.type "tuple",Oj,.seq #[.ref a0,.ref a1] n,sl⟩):KTup K a [.ref a0,.ref a1]:=my h (small (show(2:Nat)<=1000 by decide)) (.cons rfl (.cons rfl (.nil)))
def ktr3{K:FG}{sl:AV}(h:K.lookup a=Oh ⟨.type "tuple",Oj,.seq #[.ref a0,.ref a1,.ref a2] n,sl⟩):KTup K a [.ref a0,.ref a1,.ref a2]:=my h (small (show(3:Nat)<=1000 by decide)) (.cons rfl (.cons rfl (.cons rfl (.nil))))
def ktr5{K:FG}{a a0 a1 a2 a3 a4:On}{sl:AV}(h:K.lookup a=Oh ⟨.type "tuple",Oj,.seq #[.ref a0,.ref a1,.ref a2,.ref a3,.ref a4] n,sl⟩):KTup K a [.ref a0,.ref a1,.ref a2,.ref a3,.ref a4]:=my h (small (show(5:Nat)<=1000 by decide)) (.cons rfl (.cons rfl (.cons rfl (.cons rfl (.cons rfl (.nil))))))
theorem pt_mk{w:Ow}{K:FG}{t0 t1 t2 t3 t4 t5 t6 t7 t8 t9 t10 t11 t12 t13 t14:Tok}{a0 a1 a2 a3 a4 a5 a6 a7 a8 a9 a10 a11 a12 a13 a14:On}
  (gPT:W.nsIn K OC "PARTS"=Oh (Oh (.ref dPT))) (dPT0:(dPT == Qy)=Ol)
  (lPT:K.lookup dPT=Oh { cls:=.type "dict",data:=.dict #[⟨ON w.params "in",.str "in" t0,.ref a0⟩,⟨ON w.params "num",.str "num" t1,.ref a1⟩,⟨ON w.params "count",.str "count" t2,.ref a2⟩,⟨ON w.params "each",.str "each" t3,.ref a3⟩,⟨ON w.params "pair",.str "pair" t4,.ref a4⟩,⟨ON w.params "pick",.str "pick" t5,.ref a5⟩,⟨ON w.params "turn",.str "turn" t6,.ref a6⟩,⟨ON w.params "flip",.str "flip" t7,.ref a7⟩,⟨ON w.params "cut",.str "cut" t8,.ref a8⟩,⟨ON w.params "spread",.str "spread" t9,.ref a9⟩,⟨ON w.params "lay",.str "lay" t10,.ref a10⟩,⟨ON w.params "join",.str "join" t11,.ref a11⟩,⟨ON w.params "fetch",.str "fetch" t12,.ref a12⟩,⟨ON w.params "fold",.str "fold" t13,.ref a13⟩,⟨ON w.params "run",.str "run" t14,.ref a14⟩] nPT })(l0:KTup K a0 [.ref a0_0])
  (l0_0:KTup K a0_0 [.str "sides",.int 1])(l1:KTup K a1 [.ref a1_0])
  (l1_0:KTup K a1_0 [.str "number",.int 1])(l2:KTup K a2 [.ref a2_0,.ref a2_1])
  (l2_0:KTup K a2_0 [.str "small",.int 2])
  (l2_1:KTup K a2_1 [.str "sides",.int 1])(l3:KTup K a3 [.ref a3_0,.ref a3_1])
  (l3_0:KTup K a3_0 [.str "word",.int 1])
  (l3_1:KTup K a3_1 [.str "step",.int 2])(l4:KTup K a4 [.ref a4_0,.ref a4_1,.ref a4_2])
  (l4_0:KTup K a4_0 [.str "word",.int 1])
  (l4_1:KTup K a4_1 [.str "step",.int 2])
  (l4_2:KTup K a4_2 [.str "step",.int 3])(l5:KTup K a5 [.ref a5_0,.ref a5_1,.ref a5_2])
  (l5_0:KTup K a5_0 [.str "step",.int 1])
  (l5_1:KTup K a5_1 [.str "step",.int 2])
  (l5_2:KTup K a5_2 [.str "step",.int 3])(l6:KTup K a6 [.ref a6_0,.ref a6_1])
  (l6_0:KTup K a6_0 [.str "step",.int 1])
  (l6_1:KTup K a6_1 [.str "sides",.int 2])(l7:KTup K a7 [.ref a7_0,.ref a7_1])
  (l7_0:KTup K a7_0 [.str "step",.int 1])
  (l7_1:KTup K a7_1 [.str "small",.int 2])(l8:KTup K a8 [.ref a8_0,.ref a8_1,.ref a8_2,.ref a8_3,.ref a8_4])
  (l8_0:KTup K a8_0 [.str "step",.int 1])
  (l8_1:KTup K a8_1 [.str "small",.int 2])
  (l8_2:KTup K a8_2 [.str "small",.int 3])
  (l8_3:KTup K a8_3 [.str "small",.int 4])
  (l8_4:KTup K a8_4 [.str "small",.int 5])(l9:KTup K a9 [.ref a9_0,.ref a9_1,.ref a9_2])
  (l9_0:KTup K a9_0 [.str "step",.int 1])
  (l9_1:KTup K a9_1 [.str "small",.int 2])
  (l9_2:KTup K a9_2 [.str "small",.int 3])(l10:KTup K a10 [.ref a10_0,.ref a10_1])
  (l10_0:KTup K a10_0 [.str "step",.int 1])
  (l10_1:KTup K a10_1 [.str "sides",.int 2])(l11:KTup K a11 [.ref a11_0,.ref a11_1,.ref a11_2])
  (l11_0:KTup K a11_0 [.str "step",.int 1])
  (l11_1:KTup K a11_1 [.str "step",.int 2])
  (l11_2:KTup K a11_2 [.str "small",.int 3])(l12:KTup K a12 [.ref a12_0,.ref a12_1])
  (l12_0:KTup K a12_0 [.str "step",.int 1])
  (l12_1:KTup K a12_1 [.str "step",.int 2])(l13:KTup K a13 [.ref a13_0,.ref a13_1,.ref a13_2])
  (l13_0:KTup K a13_0 [.str "word",.int 1])
  (l13_1:KTup K a13_1 [.str "step",.int 2])
  (l13_2:KTup K a13_2 [.str "small",.int 3])(l14:KTup K a14 [.ref a14_0,.ref a14_1,.ref a14_2])
  (l14_0:KTup K a14_0 [.str "word",.int 1])
  (l14_1:KTup K a14_1 [.str "step",.int 2])
  (l14_2:KTup K a14_2 [.str "small",.int 3]):∃d,W.nsIn K OC "PARTS"=Oh (Oh (.ref d))/\xH P w K d:=⟨_,gPT,⟨_,KTab.mk (l:=[("in",t0,a0),("num",t1,a1),("count",t2,a2),("each",t3,a3),("pair",t4,a4),("pick",t5,a5),("turn",t6,a6),("flip",t7,a7),("cut",t8,a8),("spread",t9,a9),("lay",t10,a10),("join",t11,a11),("fetch",t12,a12),("fold",t13,a13),("run",t14,a14)]) dPT0 lPT rfl (show(["in","num","count","each","pair","pick","turn","flip","cut","spread","lay","join","fetch","fold","run"]:List Str).Nodup by decide +kernel),⟨⟨rfl,_,l0,⟨⟨_,rfl,l0_0⟩,trivial⟩⟩,⟨⟨rfl,_,l1,⟨⟨_,rfl,l1_0⟩,trivial⟩⟩,⟨⟨rfl,_,l2,⟨⟨_,rfl,l2_0⟩,⟨⟨_,rfl,l2_1⟩,trivial⟩⟩⟩,⟨⟨rfl,_,l3,⟨⟨_,rfl,l3_0⟩,⟨⟨_,rfl,l3_1⟩,trivial⟩⟩⟩,⟨⟨rfl,_,l4,⟨⟨_,rfl,l4_0⟩,⟨⟨_,rfl,l4_1⟩,⟨⟨_,rfl,l4_2⟩,trivial⟩⟩⟩⟩,⟨⟨rfl,_,l5,⟨⟨_,rfl,l5_0⟩,⟨⟨_,rfl,l5_1⟩,⟨⟨_,rfl,l5_2⟩,trivial⟩⟩⟩⟩,⟨⟨rfl,_,l6,⟨⟨_,rfl,l6_0⟩,⟨⟨_,rfl,l6_1⟩,trivial⟩⟩⟩,⟨⟨rfl,_,l7,⟨⟨_,rfl,l7_0⟩,⟨⟨_,rfl,l7_1⟩,trivial⟩⟩⟩,⟨⟨rfl,_,l8,⟨⟨_,rfl,l8_0⟩,⟨⟨_,rfl,l8_1⟩,⟨⟨_,rfl,l8_2⟩,⟨⟨_,rfl,l8_3⟩,⟨⟨_,rfl,l8_4⟩,trivial⟩⟩⟩⟩⟩⟩,⟨⟨rfl,_,l9,⟨⟨_,rfl,l9_0⟩,⟨⟨_,rfl,l9_1⟩,⟨⟨_,rfl,l9_2⟩,trivial⟩⟩⟩⟩,⟨⟨rfl,_,l10,⟨⟨_,rfl,l10_0⟩,⟨⟨_,rfl,l10_1⟩,trivial⟩⟩⟩,⟨⟨rfl,_,l11,⟨⟨_,rfl,l11_0⟩,⟨⟨_,rfl,l11_1⟩,⟨⟨_,rfl,l11_2⟩,trivial⟩⟩⟩⟩,⟨⟨rfl,_,l12,⟨⟨_,rfl,l12_0⟩,⟨⟨_,rfl,l12_1⟩,trivial⟩⟩⟩,⟨⟨rfl,_,l13,⟨⟨_,rfl,l13_0⟩,⟨⟨_,rfl,l13_1⟩,⟨⟨_,rfl,l13_2⟩,trivial⟩⟩⟩⟩,⟨⟨rfl,_,l14,⟨⟨_,rfl,l14_0⟩,⟨⟨_,rfl,l14_1⟩,⟨⟨_,rfl,l14_2⟩,trivial⟩⟩⟩⟩,trivial⟩⟩⟩⟩⟩⟩⟩⟩⟩⟩⟩⟩⟩⟩⟩⟩⟩
noncomputable abbrev ay(K:FG)(x:Str)(i:Nat):Prop:=Gx K x (top i)
noncomputable abbrev nB(K:FG)(x:Str):Prop:=W.nsIn K OC x=Oh Oj
structure Sv (P:Ov)(w:Ow)(K:FG)(T93 T94 T95 T98 T121 T122 T123:On):Prop where
 g0:ay K "wrapped" 11
 g1:ay K "sign_of" 12
 g2:ay K "quotient" 13
 g3:ay K "remainder" 14
 g4:ay K "once" 15
 g5:ay K "twice" 16
 g6:ay K "neutral" 17
 g7:ay K "arg_places" 22
 g8:ay K "args_of" 23
 g9:ay K "reached_from" 24
 g10:ay K "amount" 28
 g11:ay K "breadth" 29
 g12:ay K "allowed" 30
 g13:ay K "strides_of" 31
 g14:ay K "changed_at" 32
 g15:ay K "added_at" 33
 g16:ay K "dropped_at" 34
 g17:ay K "ask_side" 36
 g18:ay K "turned_sides" 37
 g19:ay K "flipped_sides" 38
 g20:ay K "cut_sides" 39
 g21:ay K "spread_sides" 40
 g22:ay K "laid_sides" 41
 g23:ay K "joined_sides" 42
 g24:ay K "led_sides" 43
 g25:ay K "paired_sides" 44
 g26:ay K "picked_sides" 45
 g27:ay K "fetched_sides" 46
 g28:ay K "folded_sides" 47
 g29:ay K "counted_sides" 48
 g30:ay K "ask_word" 50
 g31:ay K "first_sides" 51
 g32:ay K "moved_sides" 52
 g33:ay K "step_sides" 53
 g34:ay K "step_told" 54
 g35:ay K "program_told" 55
 g36:ay K "checked" 56
 g37:ay K "plain_view" 58
 g38:ay K "turned_view" 59
 g39:ay K "flipped_view" 60
 g40:ay K "cut_view" 61
 g41:ay K "spread_view" 62
 g42:ay K "led_view" 63
 g43:ay K "inner_view" 64
 g44:ay K "moved_view" 65
 g45:ay K "is_free" 67
 g46:ay K "branches_of" 68
 g47:ay K "root_remade" 69
 g48:ay K "remade" 70
 g91:ay K "live_steps" 72
 g92:ay K "uses_of" 73
 g96:ay K "read_of" 77
 g97:ay K "fetched_tree" 78
 g99:ay K "is_led" 80
 g100:ay K "is_kept" 81
 g101:ay K "spun" 82
 g102:ay K "run_loop" 83
 g103:ay K "join_loops" 84
 g104:ay K "step_loops" 85
 g105:ay K "kept_steps" 86
 g106:ay K "woven" 87
 g107:ay K "_law_size" 89
 g108:ay K "_law_wide" 90
 g109:ay K "_law_number" 91
 g110:ay K "_law_recent" 92
 g111:ay K "_law_begun" 93
 g112:ay K "_law_led" 94
 g113:ay K "_law_lifted" 95
 g114:ay K "_law_laid" 96
 g115:ay K "_law_moved" 97
 g116:ay K "_law_both" 98
 g117:ay K "_law_met" 99
 g118:ay K "_law_step" 100
 g119:ay K "_law_program" 101
 g120:ay K "_law_strides" 102
 g124:ay K "_law_by_fetch" 106
 g125:ay K "_law_tree" 107
 g126:ay K "_law_loops" 108
 g127:ay K "law" 109
 g93:∃f fd c,Ua K "seen_as" (top 74) f fd c T93
 g94:∃f fd c,Ua K "led_tree" (top 75) f fd c T94
 g95:∃f fd c,Ua K "inner_tree" (top 76) f fd c T95
 g98:∃f fd c,Ua K "bare_tree" (top 79) f fd c T98
 g121:∃f fd c,Ua K "_law_led_to" (top 103) f fd c T121
 g122:∃f fd c,Ua K "_law_inner" (top 104) f fd c T122
 g123:∃f fd c,Ua K "_law_by_move" (top 105) f fd c T123
 nd:[T93,T94,T95,T98,T121,T122,T123].Nodup
 blen:nB K "len"
 btuple:nB K "tuple"
 blist:nB K "list"
 bsum:nB K "sum"
 bmax:nB K "max"
 bmin:nB K "min"
 babs:nB K "abs"
 bint:nB K "int"
 bstr:nB K "str"
 bsorted:nB K "sorted"
 bany:nB K "any"
 ball:nB K "all"
 bisinstance:nB K "isinstance"
 bbool:nB K "bool"
 brange:nB K "range"
 bzip:nB K "zip"
 benumerate:nB K "enumerate"
 breversed:nB K "reversed"
 bset:nB K "set"
 bdict:nB K "dict"
 qLOW:∃t,W.nsIn K OC "LOW"=Oh (Oh (.int (-9223372036854775808) t))
 qHIGH:∃t,W.nsIn K OC "HIGH"=Oh (Oh (.int 9223372036854775807 t))
 qMOST_SIDES:∃t,W.nsIn K OC "MOST_SIDES"=Oh (Oh (.int 6 t))
 qMOST_BREADTH:∃t,W.nsIn K OC "MOST_BREADTH"=Oh (Oh (.int 512 t))
 qMOST_STEPS:∃t,W.nsIn K OC "MOST_STEPS"=Oh (Oh (.int 40 t))
 qMOST_OUTS:∃t,W.nsIn K OC "MOST_OUTS"=Oh (Oh (.int 8 t))
 qPT:∃d,W.nsIn K OC "PARTS"=Oh (Oh (.ref d))/\xH P w K d
noncomputable def tL(T93 T94 T95 T98 T121 T122 T123:On):List (On×Pos×Str):=[(T93,(TX ((aN (top 74)).headD (.Pass ⟨0,0,0,0⟩))).p,"seen_as.<locals>.<lambda>"),(T94,(TX ((aN (top 75)).getLastD (.Pass ⟨0,0,0,0⟩))).p,"led_tree.<locals>.<lambda>"),(T95,(TX ((aN (top 76)).getLastD (.Pass ⟨0,0,0,0⟩))).p,"inner_tree.<locals>.<lambda>"),(T98,(TX (UM 5 (top 79)).2.1).p,"bare_tree.<locals>.<lambda>"),(T121,(TX ((aN (top 103)).getLastD (.Pass ⟨0,0,0,0⟩))).p,"_law_led_to.<locals>.<lambda>"),(T122,(TY (top 104)).p,"_law_inner.<locals>._law_change"),(T123,(TY (top 105)).p,"_law_by_move.<locals>._law_change")]
def Of{K:FG}{L:List (On×Pos×Str)}{ts:List On}(e:L.map (·.1)=ts)(F:FnOk P w K mg base Tu k f fd ps (rZ K (TbJ L))):FnOk P w K mg base Tu k f fd ps (pP K ts):=F.imp λ vs H Q E ⟨a,ns,e1,sq,l,hT,q⟩=>⟨a,ns,e1,sq,l,λ x hx=>⟨#[],hT _ (by rw[<- e];exact List.mem_map_of_mem hx),trivial,.inl rfl⟩,q⟩
def all_mk{l:W.OpenLaw}{K:FG}(X:K.In h)(G:h.Ns OC mg)(hfa:mg "law"=Oh (.ref fa))(S:Sv l.prog w K T93 T94 T95 T98 T121 T122 T123):∃(fd:OP) (tbs:List (Str×On×On)),(∀p∈tbs,W.tabIn K p.1=Oh p.2/\p.1∈(["seen_as","led_tree","inner_tree","bare_tree","_law_led_to","_law_inner","_law_by_move"]:List Str))/\(∀(s:Oo) (v:Value),QK s fd ⟨[v],[]⟩ [("_law_script",v)])/\∀base:Oz,K.In base->base.Ns OC mg->(∀p∈tbs,TL base mg p.2.1 p.2.2)->FnOk l.prog w K mg base Tu 128 fa fd ["_law_script"] (pP K (tbs.map λ p=>p.2.2)):=by
 have hm:∀ {x:Str}{v:Option Value},W.nsIn K OC x=Oh v->mg x=v:=λ {x v} z=>by cases v with|none=>exact W.mg_none_of X G z|some u=>exact W.mg_of X G z
 obtain⟨f,fd,gL⟩:=S.g127;have e:=hfa.symm.trans (hm gL.a);cases e;obtain⟨_,_,kVL,dcL,pmL,anL,cdL,ctL,_,eL,_,_⟩:=gL.F.ex;obtain⟨f93,d93,c93,t93⟩:=S.g93;obtain⟨f94,d94,c94,t94⟩:=S.g94;obtain⟨f95,d95,c95,t95⟩:=S.g95;obtain⟨f98,d98,c98,t98⟩:=S.g98;obtain⟨f121,d121,c121,t121⟩:=S.g121;obtain⟨f122,d122,c122,t122⟩:=S.g122;obtain⟨f123,d123,c123,t123⟩:=S.g123;refine⟨fd,[("seen_as",c93,T93),("led_tree",c94,T94),("inner_tree",c95,T95),("bare_tree",c98,T98),("_law_led_to",c121,T121),("_law_inner",c122,T122),("_law_by_move",c123,T123)],(fx ⟨t93.tb,on⟩ (fx ⟨t94.tb,on⟩ (fx ⟨t95.tb,on⟩ (fx ⟨t98.tb,on⟩ (fx ⟨t121.tb,on⟩ (fx ⟨t122.tb,on⟩ (fx ⟨t123.tb,on⟩ fx0))))))),λ s v=>by rw[eL];exact .of_eq rfl,λ base KB GB tf=>?_⟩;have M:MOk l.prog w K mg (TbJ (tL T93 T94 T95 T98 T121 T122 T123)) GT gs:=⟨TbJ.js,λ g x t h1 h2 nb=>?_,λ g x t h1 h2=>?_,λ x hx=>?_⟩
 .have C:CM l.prog w K mg base (TbJ (tL T93 T94 T95 T98 T121 T122 T123)) GT gs DL 0:=⟨Cals.z,M,hm⟩
  replace C:=C |>.d S.g0 zw0 |>.d S.g1 zw1 |>.d S.g2 zw2 |>.d S.g3 zw3 |>.d S.g4 zw4 |>.d S.g5 zw5 |>.d S.g6 zw6 |>.d S.g7 zw7 |>.d S.g8 zw8 |>.d S.g9 zw9 |>.d S.g10 MB |>.d S.g11 MC |>.d S.g12 MD |>.d S.g13 ME |>.d S.g14 MF |>.d S.g15 MG |>.d S.g16 MH |>.d S.g17 MI |>.d S.g18 MJ |>.d S.g19 MK |>.d S.g20 ML |>.d S.g21 MN |>.d S.g22 MO |>.d S.g23 MP |>.d S.g24 MQ |>.d S.g25 MR |>.d S.g26 MS |>.d S.g27 MT |>.d S.g28 MU |>.d S.g29 MV |>.d S.g30 MW |>.d S.g31 MX |>.d S.g32 MY |>.d S.g33 MZ |>.d S.g34 Na |>.d S.g35 Nb |>.d S.g36 Nc |>.d S.g37 Nd |>.d S.g38 Nf |>.d S.g39 Ng
  replace C:=C |>.d S.g40 Nh |>.d S.g41 Ni |>.d S.g42 Nj |>.d S.g43 Nk |>.d S.g44 Nl |>.d S.g45 Nm |>.d S.g46 Nn
  have H47:=C.fn (kf:=47) S.g47 No ca hc0;replace C:=C.d S.g47 Np;have H48:=C.fr (kf:=47) S.g48 Nq ca (hc1 (H47.mono ca));replace C:=C.d S.g48 Nr;replace C:=C.pad (i0:=0) (S0:=WT) (z:=zd) 42 (λ _ _ h=>h) ca rfl rfl
  replace C:=C |>.d S.g91 Nt |>.d S.g92 Nu
  have H93:=C.fh (kf:=46) t93 (tf ("seen_as",c93,T93) on) bg S.nd Nv ((H48 42).mono ca) ca;replace C:=C.d ⟨_,_,t93.toGl'⟩ Nw;replace C:=C.ml t94 (tf ("led_tree",c94,T94) on) (aW _ bg) S.nd Nx (H93.mono ca) ca;replace C:=C.ml t95 (tf ("inner_tree",c95,T95) on) (aW _ (aW _ bg)) S.nd Ny (H93.mono ca) ca
  replace C:=C |>.d S.g96 Nz |>.d S.g97 NA
  replace C:=C.mm t98 (tf ("bare_tree",c98,T98) on) (aW _ (aW _ (aW _ bg))) S.nd NB (H93.mono ca) ca
  replace C:=C |>.d S.g99 NC |>.d S.g100 ND |>.d S.g101 NE |>.d S.g102 NF |>.d S.g103 NG |>.d S.g104 NH |>.d S.g105 NI |>.d S.g106 NJ |>.d S.g107 NK |>.d S.g108 NL |>.d S.g109 NM |>.d S.g110 NN |>.d S.g111 NO |>.d S.g112 NP |>.d S.g113 NQ |>.d S.g114 NR |>.d S.g115 NS |>.d S.g116 NT |>.d S.g117 NU |>.d S.g118 NV |>.d S.g119 NW |>.d S.g120 NX
  replace C:=C.ml t121 (tf ("_law_led_to",c121,T121) on) (aW _ (aW _ (aW _ (aW _ bg)))) S.nd NY ((H48 42).mono ca) ca;replace C:=C.md t122 (tf ("_law_inner",c122,T122) on) (aW _ (aW _ (aW _ (aW _ (aW _ bg))))) S.nd NZ ((H48 42).mono ca) ca;replace C:=C.md t123 (tf ("_law_by_move",c123,T123) on) (aW _ (aW _ (aW _ (aW _ (aW _ (aW _ bg)))))) S.nd Oa ((H48 42).mono ca) ca
  replace C:=C |>.d S.g124 Ob |>.d S.g125 Oc |>.d S.g126 Od
  exact Of rfl (C.law gL Oe)
 .match g,h1,h2 with
  |0,h1,h2=>cases h1;cases h2;obtain⟨t,q⟩:=S.qLOW;exact⟨.int (-9223372036854775808),_,hm q,⟨t,rfl⟩,λ F H=>rfl⟩
  |1,h1,h2=>cases h1;cases h2;obtain⟨t,q⟩:=S.qHIGH;exact⟨.int 9223372036854775807,_,hm q,⟨t,rfl⟩,λ F H=>rfl⟩
  |2,h1,h2=>cases h1;cases h2;obtain⟨t,q⟩:=S.qMOST_SIDES;exact⟨.int 6,_,hm q,⟨t,rfl⟩,λ F H=>rfl⟩
  |3,h1,h2=>cases h1;cases h2;obtain⟨t,q⟩:=S.qMOST_BREADTH;exact⟨.int 512,_,hm q,⟨t,rfl⟩,λ F H=>rfl⟩
  |4,h1,h2=>cases h1;cases h2;obtain⟨t,q⟩:=S.qMOST_STEPS;exact⟨.int 40,_,hm q,⟨t,rfl⟩,λ F H=>rfl⟩
  |5,h1,h2=>cases h1;cases h2;obtain⟨t,q⟩:=S.qMOST_OUTS;exact⟨.int 8,_,hm q,⟨t,rfl⟩,λ F H=>rfl⟩
  |6,h1,h2=>cases h1;cases h2;cases nb
  |n+7,h1,h2=>cases h1
 .match g,h1,h2 with
  |0,h1,h2=>cases h2
  |1,h1,h2=>cases h2
  |2,h1,h2=>cases h2
  |3,h1,h2=>cases h2
  |4,h1,h2=>cases h2
  |5,h1,h2=>cases h2
  |6,h1,h2=>cases h1;cases h2;obtain⟨d,e,kvs,TK,PA⟩:=S.qPT;exact⟨d,kvs,hm e,TK,AU PA⟩
  |n+7,h1,h2=>cases h1
 .simp only[BN,aB,bf,bd] at hx
  rcases hx with rfl|rfl|rfl|rfl|rfl|rfl|rfl|rfl|rfl|rfl|rfl|rfl|rfl|rfl|rfl|rfl|rfl|rfl|rfl|rfl
  .exact hm S.blen
  .exact hm S.btuple
  .exact hm S.blist
  .exact hm S.bsum
  .exact hm S.bmax
  .exact hm S.bmin
  .exact hm S.babs
  .exact hm S.bint
  .exact hm S.bstr
  .exact hm S.bsorted
  .exact hm S.bany
  .exact hm S.ball
  .exact hm S.bisinstance
  .exact hm S.bbool
  .exact hm S.brange
  .exact hm S.bzip
  .exact hm S.benumerate
  .exact hm S.breversed
  .exact hm S.bset
  .exact hm S.bdict
open PySem.W in
theorem walk{l:W.OpenLaw}{YP:Ow->Oz->Prop}{d:DefRec}{K:Params->FG}(hn:l.most=Oh 63)(hdf:d.params.defaults=[])
  (hY:∀(w:Ow) (h:Oz),YP w h->(K w.params).In h) (hK0:∀w:Ow,noTabs (K w.params)=Oi) (hrec:∀x∈(["seen_as","led_tree","inner_tree","bare_tree","_law_led_to","_law_inner","_law_by_move"]:List Str),((recsOf q).find? λ e=>e.name == x).isSome=Oi)
  (F:∀(w:Ow) (mg:SV) (fa:On) (h:Oz),(K w.params).In h->h.Ns OC mg->mg d.name=Oh (.ref fa) ->
   ∃(fd:OP) (tbs:List (Str×On×On)),(∀p∈tbs,tabIn (K w.params) p.1=Oh p.2/\p.1∈(["seen_as","led_tree","inner_tree","bare_tree","_law_led_to","_law_inner","_law_by_move"]:List Str))/\(∀(s:Oo) (u:Value),QK s fd ⟨[u],[]⟩ [("_law_script",u)])/\∀base:Oz,(K w.params).In base->base.Ns OC mg->(∀p∈tbs,TL base mg p.2.1 p.2.2)->FnOk l.prog w (K w.params) mg base Tu 128 fa fd ["_law_script"] (pP (K w.params) (tbs.map λ p=>p.2.2))) :
  W.WalkO q loose XP YP l.row.toRowW d [] (λ f vs=>RJ f vs) :=
 _L.walk_ofT (n:=63) (k:=128) (x := "_law_script") (CX:=λ _=>Tu) (sp:=λ w ts=>pP (K w.params) ts) hn ca hdf ⟨rfl,ca,ca⟩ hY hK0 (λ w mg fa h a b c=>by
  obtain⟨fd,tbs,h1,h2⟩:=F w mg fa h a b c
  exact⟨fd,tbs,λ p hp=>⟨(h1 p hp).1,hrec _ (h1 p hp).2⟩,h2⟩) (λ _ _ a ns ts hl hT hS=>⟨a,ns,O,hS,hl,hT,λ _=>rfl⟩) λ _ _ _ _ _ z=>z
end _M
end
end
open PySem PySem.W PyProof.Rows
set_option maxRecDepth 100000 in
set_option maxHeartbeats 0 in
theorem PySem.Challenge.cw_sideloom_k68_woven_trees_holds : PySem.Challenge.rw_sideloom_k68_woven_trees.Holds := by
 w_on;o_law;k_head;(case hw=>w_witness2)
 k_fill
 refine _M.walk (l:=PySem.Challenge.rw_sideloom_k68_woven_trees) rfl rfl (λ w h Y=>W.km_in_of Y) ?K0 ?rec ?F
 case K0=>intro w;kernel_rfl
 case rec=>exact(_M.fx (by kernel_rfl) (_M.fx (by kernel_rfl) (_M.fx (by kernel_rfl) (_M.fx (by kernel_rfl) (_M.fx (by kernel_rfl) (_M.fx (by kernel_rfl) (_M.fx (by kernel_rfl) _M.fx0)))))))
 case F=>
  intro w mg fa h KX G hmg
  refine' _M.all_mk KX G hmg ?S
  case S=>
   constructor
   iterate 79 (refine' _L.gl_ex ?ya ?yb ?yc ?yd;(case ya=>k_is);(case yb=>k_is);(case yc=>k_is);(case yd=>k_is))
   iterate 7 (refine' _M.glt_ex ?ya ?yb ?yc ?yd ?ye ?yf;(case ya=>k_is);(case yb=>k_is);(case yc=>k_is);(case yd=>k_is);(case ye=>k_is);(case yf=>rfl))
   .decide
   iterate 20 (unfold _M.nB;k_is)
   iterate 6 (refine' _L.gx_int ?ya;(case ya=>k_is))
   .refine' _M.pt_mk ?gPT ?dPT0 ?lPT ?l0 ?l0_0 ?l1 ?l1_0 ?l2 ?l2_0 ?l2_1 ?l3 ?l3_0 ?l3_1 ?l4 ?l4_0 ?l4_1 ?l4_2 ?l5 ?l5_0 ?l5_1 ?l5_2 ?l6 ?l6_0 ?l6_1 ?l7 ?l7_0 ?l7_1 ?l8 ?l8_0 ?l8_1 ?l8_2 ?l8_3 ?l8_4 ?l9 ?l9_0 ?l9_1 ?l9_2 ?l10 ?l10_0 ?l10_1 ?l11 ?l11_0 ?l11_1 ?l11_2 ?l12 ?l12_0 ?l12_1 ?l13 ?l13_0 ?l13_1 ?l13_2 ?l14 ?l14_0 ?l14_1 ?l14_2
    (case gPT=>k_is)
    (case dPT0=>first|decide +kernel|rfl)
    (case lPT=>k_is)
    (case l0=>refine' _M.ktr1 ?ya;(case ya=>k_is))
    (case l1=>refine' _M.ktr1 ?ya;(case ya=>k_is))
    (case l2=>refine' _M.ktr2 ?ya;(case ya=>k_is))
    (case l3=>refine' _M.ktr2 ?ya;(case ya=>k_is))
    (case l4=>refine' _M.ktr3 ?ya;(case ya=>k_is))
    (case l5=>refine' _M.ktr3 ?ya;(case ya=>k_is))
    (case l6=>refine' _M.ktr2 ?ya;(case ya=>k_is))
    (case l7=>refine' _M.ktr2 ?ya;(case ya=>k_is))
    (case l8=>refine' _M.ktr5 ?ya;(case ya=>k_is))
    (case l9=>refine' _M.ktr3 ?ya;(case ya=>k_is))
    (case l10=>refine' _M.ktr2 ?ya;(case ya=>k_is))
    (case l11=>refine' _M.ktr3 ?ya;(case ya=>k_is))
    (case l12=>refine' _M.ktr2 ?ya;(case ya=>k_is))
    (case l13=>refine' _M.ktr3 ?ya;(case ya=>k_is))
    (case l14=>refine' _M.ktr3 ?ya;(case ya=>k_is))
    iterate 37 (refine' _M.kts ?ya;(case ya=>k_is))
