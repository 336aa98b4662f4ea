import PyProof.Rows.All
import Wide.All
import OpenK.AllK
import Wide.FinOn
import Lean
import PyProof.EqAt
import PyProof.EqKinds
import PyProof.TupleCall
import PySem.Challenge.RW_sideloom_k68_woven_trees
set_option Elab.async false
set_option linter.all false
set_option autoImplicit true
set_option maxRecDepth 100000
def O{a:α}:a=a:=rfl
def Z{p:Prop}(h:p:=by lia):p:=h
def ca{p:Prop}(h:p:=by decide):p:=h
def on{p:Prop}(h:p:=by simp):p:=h
def pv:True:=trivial
def XU:=@absurd
def XT:=@if_pos
def XR:=@if_neg
def A1{p:Prop}(h:p:=by first|exact .inl rfl|exact .inr rfl|assumption):p:=h
def A2{p:Prop}(h:p:=by repeat' (first|rfl|(refine λ _=>?_))):p:=h
def A3{p:Prop}(h:p:=by with_unfolding_all rfl):p:=h
def A4{p:Prop}(h:p:=by intro _;rfl):p:=h
def A5{p:Prop}(h:p:=by intros;rfl):p:=h
def A6{p:Prop}(h:p:=by kernel_rfl):p:=h
def A7{p:Prop}(h:p:=by intro;rfl):p:=h
def A8{p:Prop}(h:p:=by rfl):p:=h
set_option tactic.hygienic false
abbrev VS:=PySem.Value->PySem.Shared->Prop
abbrev LL:=List (List Int)
abbrev LI:=List Int
abbrev LO:=List (PySem.Addr×PySem.Obj)
abbrev LA:=List (PySem.Str×PySem.Addr)
abbrev SV:=PySem.Str->Option PySem.Value
abbrev LV:=List PySem.Value
abbrev FG:=PySem.W.Frag
abbrev AV:=Array (Option PySem.Value)
abbrev OA:=Option PySem.Addr
open PySem.Builtin.Range renaming rangeSize->OJ,small->Pk
open Pure renaming pure->OM
open PySem.Str renaming ofString->ON
open PySem.Value renaming ref->OP,none->OZ,type->Pq,bool->PD,int->QX,isStrOf->Sn,str->Ta
open PySem.PyData renaming keyHash->OR
open PySem.Builtin.Tuple renaming tupleExact->OS,tupleItemsOf->Qt,tupleTooMany->Qu,tupleIsExact->Si
open PySem.NameKind renaming free->OW,cell->Sm
open PySem.Builtin.List renaming listExtendWith->OX,listTooLong->Pc,listSameRef->Pj,listFitsIndex->Pm,listLengthHint->Qq,listItems->SY
open False renaming elim->OY
open Sum renaming inr->Pg,inl->Qk
open PySem.Builtin.Slice renaming slicePlaces->Po,sliceAdjust->PH,sliceApplied->Qs,slicePartIndex->RR,sliceFields->SD
open PySem.Builtin.SmallTypes renaming nextOf->Pp,newRecord->RS
open MonadExcept renaming tryCatch->PP
open PySem.SeqAt renaming EqAt->PU
open ForInStep renaming yield->Qg
open ToString renaming toString->Qn
open List renaming length_map->ah,getD_eq_getElem?_getD->aO,mem_of_getElem?->aE,getElem?_eq_some_iff->aX,length_append->aF,getElem?_eq_getElem->aZ,mem_singleton->aH,mem_cons->aB,mem_cons_of_mem->aV,length_take->aP,size_toArray->aY,map_append->aL,mem_cons_self->bd,getElem?_map->bh,mem_append_right->bH,not_mem_nil->bg,getElem?_append_right->cH,getElem?_append_left->cI,take_of_length_le->cj,length_drop->bL,take_length->bQ,mem_map->bq,length_replicate->dC,mem_append->bX,getElem?_eq_none_iff->fk,map_map->bF,getElem?_set->cR,getElem?_replicate->fH,eraseIdx_eq_take_drop_succ->jn,replicate_succ->eR,map_cons->cJ,all_cons->cK,mem_append_left->fG,lookup_cons->dS,length_range->eK,length_set->dE,length_singleton->gF,append_nil->eE,flatten_cons->gh,getElem?_set_self->iP,all_eq_true->gj,eq_nil_of_length_eq_zero->lO,getElem?_eq_none->jf,mem_filter->fV,nodup_cons->fZ,set_eq_take_append_cons_drop->oK,append_assoc->ig,length_reverse->jc,mem_or_eq_of_mem_set->mx,length_filter_le->kF,getElem?_set_ne->jA,take_add_one->jr,foldl_cons->ij,getElem?_reverse->lG,getElem?_of_mem->lZ,length_eraseIdx->mH,getElem?_take_of_lt->nc,reverse_cons->jK,foldl_append->kz,getElem_mem->jV,take_append_of_le_length->sj,pairwise_cons->lM,prefix_append->mK,getElem?_toArray->nH,mem_iff_getElem?->nP,getElem?_mapIdx->oa,mem_range->jz,drop_eq_getElem_cons->rJ,take_zero->kE,getElem?_range->nZ,length_pos_iff->pL,of_mem_zip->kX,forIn_cons->lJ,length_mapIdx->pK,flatten_replicate_singleton->yz,length_pos_of_mem->tQ,eraseIdxIfInBounds_toArray->uW,take_append_drop->sC,cons_append->nN,any_eq_true->nS,mem_of_mem_drop->sG,any_cons->lj,filterMap_cons->pQ,nil_append->nr,map_congr_left->rC,perm_append_singleton->xT,map_replicate->sP,getElem?_zip_eq_some->wy,set_eq_of_length_le->yQ,filter_cons_of_pos->xv,filter_cons_of_neg->xw,length_eq_zero_iff->AX,drop_length->rK,isEmpty_iff->rN,prefix_refl->tK,range_succ_eq_map->vT,drop_of_length_le->yp,dropLast_eq_take->wZ,getElem_toArray->vt,mem_of_mem_take->s0b,take_left->s0g,mem_filterMap->s0q,zip_cons_cons->s1a,getElem?_take->s1b,map_set->s1k,replicate->Ow,range->OE,length_cons->OQ,map->Pd,length->Pi,lookup->Px,foldl->QP,ext_getElem?->Re,take_sublist->Rf,map_reverse->Rn,perm_middle->Ro,all_append->RB,length_nil->RC,range_succ->RD,drop_zero->RT,map_drop->Sj,map_take->Sk,all_map->SJ,map_nil->SK,zipWith->SL
open PySem renaming wpAny_bind->ae,wpAny_pure->au,wpAny_newObj_type->cZ,mem_of_lookup->dQ,builtinLookup_eq_fast->eV,typeLookup_type->eU,wpAny_call_entry->fI,wpAny_mono->cy,wpAny_truthy_bool->fW,wpAny_callSpecial?_slot->iU,wpAny_holding->eO,wpAny_field->dD,plainId_quiet->fK,codeAny_builtin->gG,wpAny_of_eq->eW,wpAny_specialOf->ip,wpAny_Call_Name_kw->jG,call_meets->fJ,isSubtype_type->iX,wpAny_seqItems->iY,wpAny_typeOf->hV,wpAny_updateSeq->jN,wpAny_tryCatch->jR,wpAny_isInstance->lC,wpAny_passesOwn->kO,wpAny_pyIter_tuple->nK,wpAny_pyIter_enum->nL,wpAny_setField->lE,codeAny_extend_loopS->qG,wpAny_standAt->kM,wpAny_attempt->lD,wpAny_execs_nil->mO,sizeLine_eq->jF,wpAny_letOwnedTupleGo_enum->vD,codeAny_mono->kW,wpAny_binaryOp_repeat_ref->uY,wpAny_pyNext_enum_itemD->vC,noFill_tuple_add->qm,wpAny_pyNext_range_end->uj,wpAny_pyIter_rangeiter->uk,wpAny_storeName_local->tV,name_of_addr->mZ,codeAny_call_function->uD,concat_meets->ng,typeIs_int->lx,wpAny_rule->lF,wpAny_storeName_cell->tW,fitsIndex_both->s0d,wpAny_letGo->s0l,wpAny_pyIter_range->s0p,seq_tuple_add->s0s,nums_intItems->s0y,wpAny_load->s1e,seqIndex_neg->s1g,seqIndex_of->s1m,numAt_eq->s1p,Addr->Os,Shared->Ot,sizeLine->Ou,wpAny->Ov,model->Oy,Program->Oz,World->OB,Stmt->OC,Around->OD,NameKind->OF,mainGlobals->OG,Heap->OH,starEach->OI,cellsFrom->OL,rawInt->OO,FuncData->OT,compareOp->OV,binaryOp->Pa,Arguments->Pb,bindArgs->Pf,closureFor->Pl,pyNext->Pn,typeLookup->Ps,codeAny->Pt,backTo->Pu,cLine->Pv,letOwnedTupleGo->Pw,Paired->Py,bootBuiltins->Pz,holding->PB,sliceBounds->PF,wpAny_loadPart'->PJ,seqItems?->PL,updateSeq->PQ,builtinsNs->PV,defaultsOf->PX,getItem->PY,relabel->PZ,IsPart->Qa,bindC->Qb,bindL->Qc,InCallC->Qd,swapsWith->Qf,assign->Qh,assignEach->Qi,GenState->Qj,callerA->Ql,firstArgMember->Qm,CmpOp->Qo,TriplesOk->Qr,behindInMarks->Qw,foldedSetIterable->Qy,sysModules->Qz,Keyword->QA,argsOk->QD,seqIndex?->QH,storeName->QI,IsRangeIter->QJ,subscripted->QK,BindsTo->QL,ItemsOf->QM,standAt->QN,IntMulOk->QO,Operator->QR,qualnameIn->QS,ExceptHandler->QT,swappedStores->QU,swapsWithSole->QV,Result->QW,WalksS->QY,cellOf->QZ,execs->Ra,field->Rb,newList->Rc,list_append->Rh,init_tuple_lookup->Ri,object_init_meets->Rj,wpAny_pyIter_list->Rk,wpAny_sequenceKey->Rl,seqSlot_of->Rt,annTrees->Ru,checkBuiltinCall->Rv,entryFor_of_tree->Rw,rule->Rx,wpAny_execs_cons->Ry,BoolOp->Rz,Meets->RE,Moved->RF,call->RH,again->RJ,codeAny_of_tree->RK,pushCells_keeps->RL,pyIter->RM,theTreesLotGoes->RN,typeIs_str->RO,wpAny_Name->RP,wpAny_call->RQ,callType_codes->RV,codeAmong_snoc->RW,collect->RX,isSubtype_stop->RY,madeHere_tuple->RZ,newFunctionEnv->Sa,recursionLimit->Sb,sub_tuple_self->Sd,wpAny_runValue->Se,lastMarks->Sf,noteFrame->Sg,attributeBase->So,call_list_seq->Sq,comprehension->Su,evalPart_none->Sw,intBits_le_64->Sz,wpAny_handled->SC,Drawn->SE,IsEnum->SI,compEnvC->SM,compPost->SN,entryFor->SQ,newExc->SR,newTuple->SU,revObj->SW
open PySem.Heap renaming get?_push_of_some->aM,get?_push_size->bn,lt_size->aJ,get?_update_other->eQ,get?_update_self->hZ,size_push->iV
open Nat renaming le_refl->ao,lt_of_lt_of_le->bE,le_of_ble_eq_true->bW,ne_of_lt->bf,zero_le->bP,lt_succ_of_lt->eH,le_trans->cG,min_eq_left->eI,lt_irrefl->dM,le_of_lt->dN,lt_succ_self->iW,sub_self->gP,succ_le_succ->ly,zero_lt_succ->nU,lt_of_le_of_lt->qz,succ_ne_self->qL,lt_or_ge->pE,ne_of_gt->s1f,mul_comm->s1h,lt_trans->s1i,le_of_eq->s1j
open Bool renaming and_eq_true->bp,false_ne_true->bK,or_eq_true->iE,and_eq_true_iff->lV,false_eq_true->lK,false_or->jg,eq_iff_iff->kR,not_eq_true'->oi,eq_false_iff->pG,and_false->lN,false_and->s0c,not_eq_false'->s1d,true->On,false->Op,noConfusion->Oq,true_and->Sh
open Option.some renaming inj->bw,injEq->ou
open PyProof.Rows renaming callWith_type1->fY,slot_tuple_getitem->nh,subscriptTail_builtinR->uN,entry_tuple_getitem->s0i,args_tuple_getitem->s0t,len_tuple->s0u,boot_reversed->s0w,envOfC->Ph,AllBare->PR,IntsAre->Qe,IsTup->Qp,subscriptTail->Qx,Call_->QE,callWith_builtin1->RG,Subscript_->RI,boot_enumerate->RU,slicePart_none->Sc,getItem_tuple->Sy,tupleItemsOf_->SB,seqObj->SX
open PySem.Around renaming under_plainId->gH,frames_deeper->uB
open Option renaming isSome_iff_exists->iS,map_eq_some_iff->kt,some->Om,none->Oo,map_some->QG,getD_none->Rs
open PySem.F renaming plainAttrs_list->jo,plain_max_loop->iZ,slot_tuple_iterator_next->nI,args_object_init_2->nA,args_tuple_add_2->qq,slot_list_extend->rQ,entry_tuple_add->qp,slot_tuple_add->qo,entry_max_loop->qO,plain_list_iadd->nE,plain_tuple_new->nG,args_tuple_iterator_next_1->vx,slot_int_rmul->ny,plain_extend_loop->qF,entry_tuple_iterator_next->vv,args_tuple_mul_2->qX,entry_tuple_mul->qW,slot_list_append->xg,type_list_append->xh,type_list_extend->xj,slot_tuple_mul->qV,entry_proto_collect->vp,plain_proto_collect->vq,slot_enumerate_next->vB,slot_list_pop->xa,type_list_pop->xc,args_list_append_2->uV,entry_list_append->s0j,entry_object_init->s0k,slot_list_append->s0v,typeCall_tuple_1->s0x
open Int renaming mul_le_mul_of_nonneg_left->mq,mul_le_mul_of_nonneg_right->oP,fdiv_eq_ediv_of_nonneg->mV,toNat_of_nonneg->lW,emod_lt_of_pos->oW,le_trans->kB,le_refl->jS,emod_nonneg->oV,fmod_eq_emod_of_nonneg->um,mul_comm->oH,mul_ediv_self_le->s0a,mul_le_mul->s0f,mul_one->s0h,one_mul->s0m,natCast_nonneg->s0r,mul_assoc->s1c,toNat_natCast->Ox,ofNat->QF,ediv_le_self->Rm,ediv_nonneg->RA,ediv_one->SH
open PySem.Obj renaming data_mapFields->jM,isFreed_of_fields->qD,mapSeq->Pe,mapFields->Qv,cls_mapFields->Rg
open Ne renaming symm->cx
open PySem.W renaming cellsFrom_some->jH,Frag->QC
open Array renaming getElem?_eq_getElem->qH,getElem?_toList->qw,getElem?_eq_some_iff->vm,toArray_toList->vF,length_toList->OU,toList->QB,ext->SZ
open PySem.AutoSeq1 renaming wpAny_loadPart'->qK,idx_int->qJ
open And renaming intro->gK
open LawfulBEq renaming eq_of_beq->hW
open PySem.Heap.SameBut renaming update->qC
open PySem.PassesOwn renaming never->oC
open PySem.Calls renaming Name_function_global->tX,spliced_cons->qg,spliced_nil->qd,callWith_builtin->uQ
open PyProof renaming noPylong_of_log2->vd
open List.cons renaming inj->nQ
open Prod.mk renaming injEq->oy
open PySem.SeqAt.EqAt renaming same->qv,int_str->s0n,str_int->s0o,of_refs->s0z
open PySem.Moved renaming drop_new->s0e
open Sum.inr renaming inj->s1l
open PySem.ItemsOf renaming nil->s1n
open LawfulMonad renaming pure_bind->s1o
def aC:=@of_decide_eq_true
def bD:=@decide_eq_false
def da:=@decide_eq_true_eq
def cB:=@decide_eq_true
def be:=@or_false
def bA:=@congrArg
def gz:=@of_decide_eq_false
def jO:=@beq_self_eq_true
def pO:=@beq_eq_false_iff_ne
def ga:=@if_true
def wx:=@decide_eq_false_iff_not
def pZ:=@decide_eq_decide
def iT:=@if_false
section
set_option compiler.extract_closed false
set_option hygiene false

set_option hygiene true
noncomputable section
set_option genInjectivity false
set_option genSizeOfSpec false
namespace _L
open PySem PySem.Spec PyProof.Rows
noncomputable abbrev TU:=Sum Int Str
noncomputable def mM:TU->Value->Bool
 |.inl k,v=>Value.isInt k v
 |.inr x,v=>Sn x v
noncomputable def Ba(w:OB):TU->Int
 |.inl k=>hashInt k
 |.inr x=>hashStr w x
theorem gA:∀ {k:TU}{v:Value},mM k v=On->(∃i t,k=Qk i/\v=QX i t)\/(∃x t,k=Pg x/\v=Ta x t)
 |.inl i,v,h=>by
  obtain⟨t,e⟩:=Value.isInt_shape (k:=i) (v:=v) h;exact .inl ⟨i,t,O,e⟩
 |.inr x,v,h=>by
  obtain⟨t,e⟩:=Value.isStrOf_shape (x:=x) (v:=v) h;exact .inr ⟨x,t,O,e⟩
def pN(x:Str)(t:Tok):mM (.inr x) (.str x t)=On:=by simp[mM,Sn]
def Bb(a b:Int):decide ((Qk a:TU)=Qk b)=(a == b):=by
 by_cases e:a=b
 .subst e;simp
 .have h:¬(Qk a:TU)=Qk b:=λ q=>e (Sum.inl.inj q);rw[bD h];exact(pO.mpr e).symm
def Bc(a b:Str):decide ((Pg a:TU)=Pg b)=decide (a=b):=by
 by_cases e:a=b
 .subst e;simp
 .have h:¬(Pg a:TU)=Pg b:=λ q=>e (s1l q);rw[bD h,bD e]
def Bd(a:Int)(b:Str):decide ((Qk a:TU)=Pg b)=Op:=bD (λ q=>nomatch q)
def Be(a:Str)(b:Int):decide ((Pg a:TU)=Qk b)=Op:=bD (λ q=>nomatch q)
def pP(prog:Oz)(w:OB):PySem.KeyKind prog w TU where
 is:=mM
 hash:=Ba w
 inj:=λ v a b ha hb=>by
  rcases gA ha with ⟨i,t,rfl,rfl⟩|⟨x,t,rfl,rfl⟩
  .rcases gA hb with ⟨j,u,rfl,e⟩|⟨y,u,rfl,e⟩
   .injection e with e1 _;rw[e1]
   .exact nomatch e
  .rcases gA hb with ⟨j,u,rfl,e⟩|⟨y,u,rfl,e⟩
   .exact nomatch e
   .injection e with e1 _;rw[e1]
 byValue:=λ k v h=>by
  rcases gA h with ⟨i,t,rfl,rfl⟩|⟨x,t,rfl,rfl⟩<;>rfl
 pyHash:=λ hv h=>by
  rcases gA hv with ⟨i,t,rfl,rfl⟩|⟨x,t,rfl,rfl⟩
  .exact wpAny_pyHash_int h
  .exact wpAny_pyHash_str h
 eqBool:=λ hu hv h=>by
  rcases gA hu with ⟨i,t,rfl,rfl⟩|⟨x,t,rfl,rfl⟩
  .rcases gA hv with ⟨j,u,rfl,rfl⟩|⟨y,u,rfl,rfl⟩
   .rw[Bb] at h;exact wpAny_eqBool_int h
   .rw[Bd] at h;exact s0n i t y u _ _ _ _ h
  .rcases gA hv with ⟨j,u,rfl,rfl⟩|⟨y,u,rfl,rfl⟩
   .rw[Be] at h;exact s0o x t j u _ _ _ _ h
   .rw[Bc] at h;exact wpAny_eqBool_str h
 «strs»:=λ k x t v h=>by
  rcases gA h with ⟨i,u,rfl,e⟩|⟨y,u,rfl,e⟩
  .exact nomatch e
  .injection e with e1 _
   subst e1;cases v<;>rfl
set_option genInjectivity true in
set_option genSizeOfSpec true in
inductive V where
 |non|bl (b:Bool)|int (i:Int)|str (x:Str)|byt (b:Array UInt8)|flt (b:UInt64)|ref (a:Os)|ty (n:String)
 deriving DecidableEq
def RelV:V->Value->Prop
 |.non,u=>u=OZ
 |.bl b,u=>u=PD b
 |.int i,u=>∃t,u=QX i t
 |.str x,u=>∃t,u=Ta x t
 |.byt b,u=>∃t,u=Value.bytes b t
 |.flt b,u=>∃t,u=Value.float b t
 |.ref a,u=>u=OP a
 |.ty n,u=>u=Pq n
abbrev Vals:List V->LV->Prop:=Py RelV
def Vals.length(r:Vals xs us):xs.length=us.length:=Paired.length r
theorem Vals.get:∀ {xs:List V}{us:LV}{i:Nat}{x:V},Vals xs us->xs[i]?=Om x->∃u,us[i]?=Om u/\RelV x u
 |_,_,_,_,.nil,e=>by simp at e
 |_,_,0,_,.cons r _,e=>by simp at e;subst e;exact⟨_,rfl,r⟩
 |_,_,i+1,x,.cons _ t,e=>by
  obtain⟨u,h1,h2⟩:=Vals.get (i:=i) (x:=x) t (by simpa using e);exact⟨u,by simpa using h1,h2⟩
theorem Vals.set(r:RelV x u):∀ {xs:List V}{us:LV}(i:Nat),Vals xs us->Vals (xs.set i x) (us.set i u)
 |_,_,_,.nil=>.nil
 |_,_,0,.cons _ t=>.cons r t
 |_,_,i+1,.cons q t=>.cons q (Vals.set r i t)
theorem Vals.append:∀ {xs ys:List V}{us ws:LV},Vals xs us->Vals ys ws->Vals (xs++ys) (us++ws)
 |_,_,_,_,.nil,s=>s
 |_,_,_,_,.cons r t,s=>.cons r (Vals.append t s)
theorem Vals.take:∀ {xs:List V}{us:LV}(n:Nat),Vals xs us->Vals (xs.take n) (us.take n)
 |_,_,0,_=>.nil
 |_,_,_+1,.nil=>.nil
 |_,_,n+1,.cons r t=>.cons r (Vals.take n t)
theorem Vals.drop:∀ {xs:List V}{us:LV}(n:Nat),Vals xs us->Vals (xs.drop n) (us.drop n)
 |_,_,0,r=>r
 |_,_,_+1,.nil=>.nil
 |_,_,n+1,.cons _ t=>Vals.drop n t
def tR:Option V->Option Value->Prop
 |some v,Om u=>RelV v u
 |none,Oo=>True
 |_,_=>False
def KV{κ:Type}:List (κ×V)->List (κ×Value)->Prop:=Py λ(p:κ×V) (q:κ×Value)=>p.1=q.1/\RelV p.2 q.2
noncomputable def kV:TU->V
 |.inl i=>.int i
 |.inr x=>.str x
set_option genSizeOfSpec true in
inductive HO where
 |lst (xs:List V)
 |tup (xs:List V)
 |dK (kvs:List (TU×V))|dT (kvs:List (List TU×V))
 |set (S:Int->Bool) (n:Nat)
 |ins (C dx:Os) (fs:List (Str×V))
 |own (x:Os)
 |xd (fs:List (Str×V))
 |met (f x:Os)
 |rng (lo hi:Int)
 |frz (o:Obj) (u:HO)
 |tbl (ps:Array Value)
 |ext (φ:OH->Prop)
noncomputable abbrev Hp:=Os->Option HO
noncomputable def Tf(H:Hp)(a:Os)(o:HO):Hp:=λ b=>if b=a then Om o else H b
def bT:Tf H a o a=Om o:=by unfold Tf;rw[XT rfl]
def aA{a b:Os}(h:b≠a):Tf H a o b=H b:=by unfold Tf;rw[XR h]
def iO{H:Hp}(h:H a=Om o)(h':H b=Oo):a≠b:=by
 intro e;subst e;rw[h] at h';cases h'
def TupO(h:OH)(a:Os)(its:Array Value):Prop:=∃o,h.get? a=Om o/\(o.cls=.type "tuple" /\ ∃n,o.data=.seq its n)/\o.dict=Oo
def TupO.new(h:OH)(its:Array Value):TupO (h.push { cls:=.type "tuple",data:=.seq its }) h.objs.size its:=⟨_,bn _ rfl,⟨rfl,0,rfl⟩,rfl⟩
def TupO.tup(t:TupO h a its):Qp h a its:=let ⟨o,e,⟨c,n,d⟩,_⟩:=t;⟨o,e,c,n,d⟩
def TupO.lt(t:TupO h a its):a<h.objs.size:=t.tup.lt
section
variable (P:Oz)(w:OB)
def ObjOk(H:Hp)(h:OH)(a:Os):HO->Prop
 |.lst xs=>xs.length<=Ou/\∃(its:LV) (n:Nat),Vals xs its/\h.get? a=Om { cls:=.type "list",data:=.seq its.toArray n }
 |.tup xs=>xs.length<=Ou/\∃its:LV,Vals xs its/\TupO h a its.toArray
 |.dK kvs=>kvs.length<=Ou/\(a == Qz)=Op/\∃vs,KV kvs vs/\h.DictOf (pP P w) a vs
 |.dT kvs=>kvs.length<=Ou/\(a == Qz)=Op/\∃xs:List (List TU×Os×Value),
   Py (λ(p:List TU×V) (q:List TU×Os×Value)=>p.1=q.1/\H q.2.1=Om (.tup (p.1.map kV))/\RelV p.2 q.2.2) kvs xs /\
   ∃o es ep,h.get? a=Om o/\o.ExactDict/\o.data=.dict es ep/\es.toList=xs.map (entryOfKey (tupleKind (pP P w)))/\(xs.map (·.1)).Nodup
 |.set S n=>h.SetOf (intKind P w) a S n
 |.ins C dx fs=>H dx=Om (.own a)/\fs.length<=1000/\dx≠a/\h.get? a=Om (W.instObj C dx) /\
   ∃mA,h.Ns1 dx mA/\(∀f,tR (fs.lookup f) (mA f))/\PySem.Within mA (fs.map (·.1))
 |.own _=>∃o,h.get? a=Om o
 |.xd fs=>∃mA,h.Ns1 a mA/\∀f,tR (fs.lookup f) (mA f)
 |.rng lo hi=>∃t u v,h.get? a=Om { cls:=.type "range",data:=.fields #[.int lo t,.int hi u,.int 1 v] }
 |.frz o u=>h.get? a=Om o/\ObjOk H h a u
 |.tbl ps=>h.get? a=Om { cls:=.none,data:=.fields ps }
 |.met f x=>h.get? a=Om (W.methodObj (.ref f) (.ref x))
 |.ext φ=>φ h/\(∃o,h.get? a=Om o)/\∀h1 h2:OH,φ h1->(∀o,h1.get? a=Om o->h2.get? a=Om o)->φ h2
def HOk(H:Hp)(h:OH):Prop:=∀a o,H a=Om o->ObjOk P w H h a o
end
section
variable {P:Oz}{w:OB}{H H':Hp}{h h':OH}{a:Os}{o:HO}
def ObjOk.lt(x:ObjOk P w H h a o):a<h.objs.size:=by
 cases o with
 |lst xs=>obtain⟨_,_,_,_,e⟩:=x;exact aJ e
 |tup xs=>obtain⟨_,_,_,p⟩:=x;exact p.lt
 |dK kvs|dT kvs=>obtain⟨_,_,_,_,o,_,_,e,_⟩:=x;exact aJ e
 |set S n=>obtain⟨o,_,_,_,e,_⟩:=x;exact aJ e
 |ins C dx fs=>obtain⟨_,_,_,e,_⟩:=x;exact aJ e
 |own y=>obtain⟨_,e⟩:=x;exact aJ e
 |xd fs=>obtain⟨_,⟨_,_,_,e,_⟩,_⟩:=x;exact aJ e
 |rng lo hi=>obtain⟨_,_,_,e⟩:=x;exact aJ e
 |frz ob u=>obtain⟨e,_⟩:=x;exact aJ e
 |tbl ps|met f y=>exact aJ (show h.get? a=Om _ from x)
 |ext φ=>obtain⟨_,⟨_,e⟩,_⟩:=x;exact aJ e
theorem Paired.mapP{α β:Type}{F G:α->β->Prop}:∀ {l₁:List α}{l₂:List β},Py F l₁ l₂->(∀a b,F a b->G a b)->Py G l₁ l₂
 |_,_,.nil,_=>.nil
 |_,_,.cons r t,f=>.cons (f _ _ r) (Paired.mapP t f)
theorem ObjOk.stay(x:ObjOk P w H h a o)(k:∀b u,(b=a\/H b=Om (.own a))->h.get? b=Om u->h'.get? b=Om u)
  (ho:∀b,H b=Om (.own a)->H' b=Om (.own a)) (ht:∀b xs,H b=Om (.tup xs)->H' b=Om (.tup xs)):ObjOk P w H' h' a o:=by
 induction o with
 |lst xs=>obtain⟨z,its,n,r,e⟩:=x;exact⟨z,its,n,r,k _ _ (.inl rfl) e⟩
 |tup xs=>obtain⟨z,its,r,ob,e,c⟩:=x;exact⟨z,its,r,ob,k _ _ (.inl rfl) e,c⟩
 |dK kvs=>obtain⟨z,y,vs,r,ob,es,ep,e,c⟩:=x;exact⟨z,y,vs,r,ob,es,ep,k _ _ (.inl rfl) e,c⟩
 |dT kvs=>
  obtain⟨z,y,xs,r,ob,es,ep,e,c⟩:=x;exact⟨z,y,xs,Paired.mapP r λ p q z=>⟨z.1,ht _ _ z.2.1,z.2.2⟩,ob,es,ep,k _ _ (.inl rfl) e,c⟩
 |set S n=>obtain⟨ob,es,ep,t,e,c⟩:=x;exact⟨ob,es,ep,t,k _ _ (.inl rfl) e,c⟩
 |ins C dx fs=>
  obtain⟨d,z,ne,e,mA,⟨od,es,ep,e2,c⟩,r⟩:=x;exact⟨ho _ d,z,ne,k _ _ (.inl rfl) e,mA,⟨od,es,ep,k _ _ (.inr d) e2,c⟩,r⟩
 |own y=>obtain⟨ob,e⟩:=x;exact⟨ob,k _ _ (.inl rfl) e⟩
 |xd fs=>obtain⟨mA,⟨od,es,ep,e,c⟩,r⟩:=x;exact⟨mA,⟨od,es,ep,k _ _ (.inl rfl) e,c⟩,r⟩
 |rng lo hi=>obtain⟨t,u,v,e⟩:=x;exact⟨t,u,v,k _ _ (.inl rfl) e⟩
 |frz ob u ih=>obtain⟨e,q⟩:=x;exact⟨k _ _ (.inl rfl) e,ih q⟩
 |tbl ps=>
  have e:h.get? a=Om { cls:=.none,data:=.fields ps }:=x;show h'.get? a=Om { cls:=.none,data:=.fields ps };exact k a _ (.inl rfl) e
 |met f y=>
  have e:h.get? a=Om (W.methodObj (.ref f) (.ref y)):=x;show h'.get? a=Om (W.methodObj (.ref f) (.ref y));exact k a _ (.inl rfl) e
 |ext φ=>obtain⟨p,⟨o,e⟩,st⟩:=x;exact⟨st _ _ p λ o q=>k _ _ (.inl rfl) q,⟨o,k _ _ (.inl rfl) e⟩,st⟩
def HOk.lt(x:HOk P w H h)(e:H a=Om o):a<h.objs.size:=(x a o e).lt
def HOk.fresh(x:HOk P w H h)(e:h.objs.size<=a):H a=Oo:=by
 cases q:H a with
 |none=>rfl
 |some u=>exact XU (bE (x.lt q) e) (dM _)
def HOk.kept(x:HOk P w H h)(k:∀b u,h.get? b=Om u->h'.get? b=Om u):HOk P w H h':=λ a o e=>
 (x a o e).stay (λ b u _ q=>k b u q) (λ _ q=>q) λ _ _ q=>q
def HOk.laid(x:HOk P w H h)(k:∀b u,h.get? b=Om u->h'.get? b=Om u)(hp:h.objs.size<=a)(new:ObjOk P w (Tf H a o) h' a o):HOk P w (Tf H a o) h':=λ b u e=>by
 have hn:=x.fresh hp;by_cases hb:b=a
 .subst hb;rw[bT] at e;cases e;exact new
 .rw[aA hb] at e;exact(x b u e).stay (λ c v _ q=>k c v q) (λ c q=>by rw[aA (iO q hn)];exact q) λ c xs q=>by rw[aA (iO q hn)];exact q
end
def Rd(H:Hp)(a:Os)(u:HO):Prop:=H a=Om u\/∃o,H a=Om (.frz o u)
def Rd.ok(r:Rd H a u)(x:HOk P w H h):ObjOk P w H h a u:=by
 rcases r with r|⟨o,r⟩
 .exact x a u r
 .obtain⟨_,q⟩:=x a _ r;exact q
def VR:Option HO->Prop
 |some (.lst _)=>True
 |some (.dK _)=>True
 |some (.dT _)=>True
 |some (.set _ _)=>True
 |some (.ins _ _ _)=>True
 |some (.ext _)=>True
 |_=>False
section
variable {P:Oz}{w:OB}{H:Hp}{h h':OH}{x e:Os}{o':HO}
theorem HOk.write(ok:HOk P w H h)(mu:VR (H x))(he:e=x\/H e=Om (.own x))(k:∀b u,b≠e->h.get? b=Om u->h'.get? b=Om u)(heo:∃u,h'.get? e=Om u)
  (new:ObjOk P w (Tf H x o') h' x o'):HOk P w (Tf H x o') h':=λ b u q=>by
 have nown:∀c y,H c=Om (.own y)->c≠x:=λ c y r z=>by subst z;rw[r] at mu;exact mu
 have ntup:∀c xs,H c=Om (.tup xs)->c≠x:=λ c xs r z=>by subst z;rw[r] at mu;exact mu
 by_cases hb:b=x
 .subst hb;rw[bT] at q;cases q;exact new
 .rw[aA hb] at q;by_cases hbe:b=e
  .have q':H b=Om (.own x):=by
    rcases he with z|z
    .exact XU (hbe.trans z) hb
    .rw[hbe];exact z
   rw[q] at q';cases q';obtain⟨v,hv⟩:=heo;exact⟨v,by rw[hbe];exact hv⟩
  .refine(ok b u q).stay (λ c v hc r=>k c v ?_ r) (λ c r=>by rw[aA (nown c b r)];exact r) λ c xs r=>by rw[aA (ntup c xs r)];exact r
   rcases hc with rfl|hc
   .exact hbe
   .rintro rfl
    rcases he with z|z
    .exact nown c b hc z
    .rw[hc] at z;cases z;exact hb rfl
end
structure Un (fs ex:List Os)(H H':Hp)(h h':OH):Prop where
 keep:∀b o,h.get? b=Om o->H b=Oo->b ∉ fs->b ∉ ex->h'.get? b=Om o
 slot:∀b o,h.get? b=Om o->H b=Oo->b∈fs->b ∉ ex->∃sl,h'.get? b=Om { o with slots:=sl }
 free:∀b o,h.get? b=Om o->H b=Oo->b ∉ ex->H' b=Oo
 there:∀b o,h.get? b=Om o->b ∉ ex->∃o',h'.get? b=Om o'
 tups:∀b xs,H b=Om (.tup xs)->H' b=Om (.tup xs)
 frzs:∀b o u,H b=Om (.frz o u)->H' b=Om (.frz o u)
 tbls:∀b ps,H b=Om (.tbl ps)->∃more,H' b=Om (.tbl (ps++more))
section
variable {fs fs' ex ex':List Os}{H H1 H2:Hp}{h h1 h2 h':OH}{a x e:Os}{o:HO}
def Un.any(u:Un fs ex H H1 h h1){b:Os}(q:h.get? b=Om ob)(n:H b=Oo)(hx:b ∉ ex):∃sl,h1.get? b=Om { ob with slots:=sl }:=by
 by_cases hb:b∈fs
 .exact u.slot b ob q n hb hx
 .exact⟨ob.slots,u.keep b ob q n hb hx⟩
def Un.kept(k:∀b u,h.get? b=Om u->h'.get? b=Om u):Un fs ex H H h h' :=
 ⟨λ b ob q _ _ _=>k b ob q,λ b ob q _ _ _=>⟨ob.slots,k b ob q⟩,λ _ _ _ n _=>n,λ b ob q _=>⟨ob,k b ob q⟩,λ _ _ q=>q,λ _ _ _ q=>q,λ _ ps q=>⟨#[],by rw[q];simp⟩⟩
def Un.refl:Un fs ex H H h h:=Un.kept λ _ _ q=>q
theorem Un.laid(k:∀b u,h.get? b=Om u->h'.get? b=Om u)(hp:h.objs.size<=a)(hn:H a=Oo):Un fs ex H (Tf H a o) h h' where
 keep:=λ b u q _ _ _=>k b u q
 slot:=λ b u q _ _ _=>⟨u.slots,k b u q⟩
 free:=λ b u q n _=>by rw[aA (bf (bE (aJ q) hp))];exact n
 there:=λ b u q _=>⟨u,k b u q⟩
 tups:=λ b xs q=>by rw[aA (iO q hn)];exact q
 frzs:=λ b u xs q=>by rw[aA (iO q hn)];exact q
 tbls:=λ b ps q=>⟨#[],by rw[aA (iO q hn),q];simp⟩
def Un.write(mu:VR (H x))(he:e=x\/H e=Om (.own x))(k:∀b u,b≠e->h.get? b=Om u->h'.get? b=Om u)(heo:∃u,h'.get? e=Om u):Un fs ex H (Tf H x o) h h':=by
 have hx:∀b,H b=Oo->b≠x:=λ b n z=>by subst z;rw[n] at mu;exact mu
 have hb:∀b,H b=Oo->b≠e:=λ b n z=>by
  subst z
  rcases he with r|r
  .exact hx b n r
  .rw[n] at r;cases r
 have hm:∀b u,H b=Om u->¬VR (Om u)->b≠x:=λ b u q nm z=>by subst z;rw[q] at mu;exact nm mu
 refine⟨λ b u q n _ _=>k b u (hb b n) q,λ b u q n _ _=>⟨u.slots,k b u (hb b n) q⟩,λ b u q n _=>by rw[aA (hx b n)];exact n,λ b u q _=>?_,
  λ b xs q=>by rw[aA (hm b _ q λ z=>z)];exact q,λ b u xs q=>by rw[aA (hm b _ q λ z=>z)];exact q,λ b ps q=>⟨#[],by rw[aA (hm b _ q λ z=>z),q];simp⟩⟩
 by_cases hbe:b=e
 .subst hbe;exact heo
 .exact⟨u,k b u hbe q⟩
end
noncomputable def Ut(h:OH)(H:Hp):List Os:=(OE h.objs.size).filter λ a=>(H a).isSome
def fF(h:OH)(H:Hp):OH:=W.hideAll h (Ut h H)
def Bf(h:OH)(H:Hp):(fF h H).objs.size=h.objs.size:=W.hideAll_size _ _
def Bg{h:OH}{H:Hp}{b:Os}(e:h.get? b=Om o)(n:H b=Oo):(fF h H).get? b=Om o :=
 W.hideAll_get _ e λ hm=>by
  have q:(H b).isSome=On:=(fV.mp hm).2;rw[n] at q;simp at q
def tS{b:Os}(e:(fF h H).get? b=Om o):h.get? b=Om o/\H b=Oo:=by
 have e':h.get? b=Om o:=W.of_hideAll (Ut h H) e;refine⟨e',?_⟩
 cases q:H b with
 |none=>rfl
 |some x=>
  have hm:b∈Ut h H:=fV.mpr ⟨jz.mpr (aJ e'),by simp[q]⟩;have z:(fF h H).get? b=Oo:=W.hideAll_none (Ut h H) hm;rw[z] at e;cases e
noncomputable def Bh(g h:OH)(L:Os):LO:=(OE h.objs.size).filterMap λ a=>if a=L\/(g.get? a).isSome=On then Oo else (h.get? a).map λ o=>(a,o)
def Td(g h:OH)(L d:Os):LO:=(Bh g h L).filter λ p=>decide (p.1≠d)
structure Mod (K:FG)(mg:SV)(base:OH):Prop where
 kin:K.In base
 glob:base.Ns OG mg
 blt:∃mb,base.Ns PV mb/\∀x:Str,x ≠ "__name__" -> mb x=Pz x
 nolimit:base.NoLimit
structure Cx where
 prog:Oz
 w:OB
 K:FG
 mg:SV
 base:OH
 A:OD
 N:List Str
 s₀:Ot
 H₀:Hp
 env:Env
 outer:List Env
 stack:List Env
 ex:List Os
 fn:Str->Bool
 calm:Bool
 pn:LO
 xe:VS
noncomputable def Us(l:List Env):List Os:=l.filterMap (·.frame)
abbrev Cx.fs(X:Cx):List Os:=Us X.outer
def VA(sc:Scope)(x:Str):Prop:=sc.names.lookup x=Om .local\/sc.names.lookup x=Om .cell\/sc.names.lookup x=Om .free
def UK(sc:Scope)(x:Str):Prop:=sc.names.lookup x=Om .local\/sc.names.lookup x=Om .cell
def Bi(env:Env)(h:OH)(m:SV)(x:Str)(u:Value):Prop :=
 (env.kindOf x=Om .local/\m x=Om u)\/((env.kindOf x=Om .cell\/env.kindOf x=Om .free)/\∃c,env.cells.lookup x=Om c/\h.IsCell c (Om u))
structure Cx.Ok (X:Cx):Prop where
 mod:Mod X.K X.mg X.base
 kind:X.env.scope.kind=.function
 glob:X.env.globals=OG
 blt:X.env.builtins=PV
 above:X.s₀.heap.objs.size<=X.env.locals
 inj:∀x y c,X.env.cells.lookup x=Om c->X.env.cells.lookup y=Om c->x=y
 has:∀x,(X.env.kindOf x=Om .cell\/X.env.kindOf x=Om .free)->∃c,X.env.cells.lookup x=Om c
 cab:∀x c,X.fn x=On->X.env.cells.lookup x=Om c->X.s₀.heap.objs.size<=c
 hd:X.calm=On->X.A.handled=Oo
 frames:X.A.frames=Om X.stack
 stk:X.stack=X.outer\/(X.stack=X.env::X.outer/\X.env.frame=Om X.env.locals)
 exf:∀b∈X.ex,b≠X.env.locals/\∀x c,X.env.cells.lookup x=Om c->c≠b
 bs:∀b o,X.base.get? b=Om o->X.s₀.heap.get? b=Om o/\X.H₀ b=Oo
 bsz:X.base.objs.size<=X.s₀.heap.objs.size
 noex:∀b o,X.base.get? b=Om o->b ∉ X.ex
 exfs:∀b∈X.ex,b ∉ X.fs
 funs:X.s₀.heap.FunFrames X.base X.outer
 frf:∀b∈X.fs,X.H₀ b=Oo
structure Inv (X:Cx)(Tb:LO)(σ:List (Option V))(H:Hp)(s:Ot):Prop where
 ok:X.Ok
 os:s.os=X.s₀.os
 bare:PR s.gens
 base:Un X.fs X.ex X.H₀ H X.s₀.heap s.heap
 loc:∃m,s.heap.Ns X.env.locals m/\∀(i:Nat) (x:Str) (v:V),X.N[i]?=Om x->σ[i]?=Om (Om v)->VA X.env.scope x->∃u,RelV v u/\Bi X.env s.heap m x u
 cell:∀x c,X.env.cells.lookup x=Om c->∃v,s.heap.IsCell c v
 free:H X.env.locals=Oo
 freeC:∀x c,X.env.cells.lookup x=Om c->H c=Oo
 pin:∀p∈X.pn++Tb,s.heap.get? p.1=Om p.2/\H p.1=Oo/\p.1≠X.env.locals/\p.1 ∉ X.fs/\∀v,p.2.data≠.cell v
 hok:HOk X.prog X.w H s.heap
 len:σ.length=X.N.length
variable {X:Cx}
section
variable {Tb:LO}{σ:List (Option V)}{H H':Hp}{s:Ot}{h':OH}
def Cx.Ok.nofr(ok:X.Ok){b:Os}(e:X.base.get? b=Om o):b ∉ X.fs:=λ hb=>by
 have:=(ok.funs.mem hb).1;rw[e] at this;cases this
def Inv.bs(I:Inv X Tb σ H s):∀b o,X.base.get? b=Om o->s.heap.get? b=Om o/\H b=Oo:=λ b o e=>
 ⟨I.base.keep b o (I.ok.bs b o e).1 (I.ok.bs b o e).2 (I.ok.nofr e) (I.ok.noex b o e),I.base.free b o (I.ok.bs b o e).1 (I.ok.bs b o e).2 (I.ok.noex b o e)⟩
def Inv.bk(I:Inv X Tb σ H s):∀b o,X.base.get? b=Om o->s.heap.get? b=Om o:=λ b o e=>(I.bs b o e).1
def Inv.mod(I:Inv X Tb σ H s):Mod X.K X.mg X.base:=I.ok.mod
def Inv.kIn(I:Inv X Tb σ H s):X.K.In s.heap:=I.ok.mod.kin.keeps I.bk
def Inv.lt(I:Inv X Tb σ H s):X.env.locals<s.heap.objs.size:=let ⟨_,hn,_⟩:=I.loc;hn.lt
def Inv.sz(I:Inv X Tb σ H s):X.s₀.heap.objs.size<=s.heap.objs.size:=cG I.ok.above (dN I.lt)
def Inv.nofs(I:Inv X Tb σ H s){a:Os}(h:s.heap.objs.size<=a):a ∉ X.fs:=λ hb=>by
 obtain⟨_,o,ho,_⟩:=I.ok.funs.mem hb;exact XU (bE (aJ ho) (cG I.sz h)) (dM _)
def Inv.cne(I:Inv X Tb σ H s):∀x c,X.env.cells.lookup x=Om c->c≠X.env.locals:=λ x c e z=>by
 obtain⟨v,o,ho,hd⟩:=I.cell x c e;obtain⟨m,⟨o',es,ep,ho',hd',_⟩,_⟩:=I.loc;rw[z,ho'] at ho;cases ho;rw[hd'] at hd;cases hd
def Inv.funs(I:Inv X Tb σ H s):s.heap.FunFrames X.base X.outer:=by
 have all:∀(l:List Env),(∀b∈Us l,b∈X.fs)->X.s₀.heap.FunFrames X.base l->s.heap.FunFrames X.base l:=by
  intro l
  induction l with
  |nil=>intro _ _;trivial
  |cons env r ih=>
   intro hs hl;obtain⟨hk,⟨L,o,hf,hn,ho,hd⟩,hr⟩:=hl;have hL:L∈X.fs:=hs L (by unfold Us;rw[pQ,hf];exact bd);obtain⟨sl,e⟩:=I.base.slot L o ho (I.ok.frf L hL) hL λ z=>I.ok.exfs L z hL;exact⟨hk,⟨L,_,hf,hn,e,hd⟩,ih (λ b hb=>hs b (by unfold Us;rw[pQ,hf];exact aV _ hb)) hr⟩
 exact all X.outer (λ _ hb=>hb) I.ok.funs
def Inv.stack(I:Inv X Tb σ H s):s.heap.FunFrames X.base X.stack:=by
 rcases I.ok.stk with e|⟨e,hf⟩
 .rw[e];exact I.funs
 .rw[e];obtain⟨m,hn,_⟩:=I.loc;refine .cons (by rw[I.ok.kind];decide) hf hn ?_ I.funs;exact Heap.get?_none_of_le (cG I.ok.bsz I.ok.above)
def Inv.stkSub(I:Inv X Tb σ H s):∀b∈Us X.stack,b∈X.env.locals::X.fs:=λ b hb=>by
 rcases I.ok.stk with e|⟨e,hf⟩
 .rw[e] at hb;exact aV _ hb
 .rw[e] at hb;unfold Us at hb;rw[pQ,hf] at hb;exact hb
def Inv.stkFree(I:Inv X Tb σ H s):∀b∈Us X.stack,H b=Oo:=λ b hb=>by
 rcases aB.mp (I.stkSub b hb) with e|hb
 .rw[e];exact I.free
 .obtain⟨_,o,ho,_⟩:=I.ok.funs.mem hb;exact I.base.free b o ho (I.ok.frf b hb) λ z=>I.ok.exfs b z hb
theorem Inv.step{t':Nat}{d':SE}{ch:List Os}(I:Inv X Tb σ H s)
  (hch:∀b∈ch,(b∈X.ex\/X.s₀.heap.objs.size<=b)/\b≠X.env.locals/\(∀x c,X.env.cells.lookup x=Om c->c≠b)/\∀p∈X.pn++Tb,p.1≠b)
  (keep:∀b o,b≠X.env.locals->b ∉ X.fs->b ∉ ch->s.heap.get? b=Om o->H b=Oo->h'.get? b=Om o)
  (slot:∀b o,b≠X.env.locals->b∈X.fs->b ∉ ch->s.heap.get? b=Om o->H b=Oo->∃sl,h'.get? b=Om { o with slots:=sl }) (free:∀b o,b ∉ ch->s.heap.get? b=Om o->H b=Oo->H' b=Oo)
  (there:∀b o,b ∉ ch->s.heap.get? b=Om o->∃o',h'.get? b=Om o')
  (tups:∀b xs,H b=Om (.tup xs)->H' b=Om (.tup xs)) (frzs:∀b o u,H b=Om (.frz o u)->H' b=Om (.frz o u)) (tbls:∀b ps,H b=Om (.tbl ps)->∃more,H' b=Om (.tbl (ps++more)))
  (ns:∀m,s.heap.Ns X.env.locals m->h'.Ns X.env.locals m) (hok:HOk X.prog X.w H' h') (hg:PR g') :
  Inv X Tb σ H' { s with heap:=h',gens:=g',drawn:=d',toks:=t' }:=by
 have neL:∀b o,X.s₀.heap.get? b=Om o->b≠X.env.locals:=λ b o e=>bf (bE (aJ e) I.ok.above)
 have neC:∀b o,X.s₀.heap.get? b=Om o->b ∉ X.ex->b ∉ ch:=λ b o e hx hb=>by
  rcases(hch b hb).1 with z|z
  .exact hx z
  .exact XU (bE (aJ e) z) (dM _)
 have cellK:∀x c,X.env.cells.lookup x=Om c->∀v,s.heap.IsCell c v->h'.IsCell c v:=λ x c e v ⟨o,ho,hd⟩=>by
  have nch:c ∉ ch:=λ z=>(hch c z).2.2.1 x c e rfl;by_cases hc:c∈X.fs
  .obtain⟨sl,q⟩:=slot c o (I.cne x c e) hc nch ho (I.freeC x c e);exact⟨_,q,hd⟩
  .exact⟨o,keep c o (I.cne x c e) hc nch ho (I.freeC x c e),hd⟩
 refine⟨I.ok,I.os,hg,⟨λ b o e n hb hx=>?_,λ b o e n hb hx=>?_,λ b o e n hx=>?_,λ b o e hx=>?_,λ b xs e=>tups b xs (I.base.tups b xs e),λ b o xs e=>frzs b o xs (I.base.frzs b o xs e),λ b ps e=>?_⟩,?_,λ x c e=>?_,?_,λ x c e=>?_,λ p hp=>?_,hok,I.len⟩
 .exact keep b o (neL b o e) hb (neC b o e hx) (I.base.keep b o e n hb hx) (I.base.free b o e n hx)
 .obtain⟨sl,e1⟩:=I.base.slot b o e n hb hx;obtain⟨sl',e2⟩:=slot b _ (neL b o e) hb (neC b o e hx) e1 (I.base.free b o e n hx);exact⟨sl',e2⟩
 .obtain⟨o',e1⟩:=I.base.there b o e hx;exact free b o' (neC b o e hx) e1 (I.base.free b o e n hx)
 .obtain⟨o',e1⟩:=I.base.there b o e hx;exact there b o' (neC b o e hx) e1
 .obtain⟨m1,e1⟩:=I.base.tbls b ps e;obtain⟨m2,e2⟩:=tbls b _ e1;exact⟨m1++m2,by rw[e2,Array.append_assoc]⟩
 .obtain⟨m,hn,hl⟩:=I.loc;refine⟨m,ns m hn,λ i x v e1 e2 e3=>?_⟩;obtain⟨u,r,l⟩:=hl i x v e1 e2 e3;refine⟨u,r,?_⟩
  rcases l with l|⟨k,c,e,z⟩
  .exact .inl l
  .exact .inr ⟨k,c,e,cellK x c e _ z⟩
 .obtain⟨v,z⟩:=I.cell x c e;exact⟨v,cellK x c e v z⟩
 .obtain⟨m,⟨o,_,_,ho,_⟩,_⟩:=I.loc;exact free _ o (λ z=>(hch _ z).2.1 rfl) ho I.free
 .obtain⟨v,o,ho,hd⟩:=I.cell x c e;exact free c o (λ z=>(hch c z).2.2.1 x c e rfl) ho (I.freeC x c e)
 .obtain⟨e,n,ne,nf,d⟩:=I.pin p hp;have nch:p.1 ∉ ch:=λ z=>(hch p.1 z).2.2.2 p hp rfl;exact⟨keep p.1 p.2 ne nf nch e n,free p.1 p.2 nch e n,ne,nf,d⟩
def Inv.un{t':Nat}(I:Inv X Tb σ H s)(u:Un X.fs [] H H' s.heap h')(hok:HOk X.prog X.w H' h'):Inv X Tb σ H' { s with heap:=h',toks:=t' }:=by
 obtain⟨m,⟨o,es,ep,ho,r⟩,_⟩:=id I.loc;obtain⟨sl,hL⟩:=u.any ho I.free on
 exact I.step (g':=s.gens) (d':=s.drawn) (ch:=[]) (λ _ z=>nomatch z) (λ b o _ hb _ e n=>u.keep b o e n hb on) (λ b o _ hb _ e n=>u.slot b o e n hb on) (λ b o _ e n=>u.free b o e n on) (λ b o _ e=>u.there b o e on) u.tups u.frzs u.tbls (λ m' hm=>by
  obtain⟨o',es',ep',ho',r'⟩:=hm;rw[ho] at ho';cases ho'
  exact⟨_,es',ep',hL,r'⟩) hok I.bare
theorem Inv.call{t':Nat}{d':SE}(I:Inv X Tb σ H s)(u:Un (Us X.stack) ch H H' s.heap h')(hok:HOk X.prog X.w H' h')(hg:PR g')
  (hch:∀b∈ch,(b∈X.ex\/X.s₀.heap.objs.size<=b)/\b≠X.env.locals/\(∀x c,X.env.cells.lookup x=Om c->c≠b)/\∀p∈X.pn++Tb,p.1≠b) :
  Inv X Tb σ H' { s with heap:=h',gens:=g',drawn:=d',toks:=t' }:=by
 obtain⟨m,⟨o,es,ep,ho,r⟩,_⟩:=id I.loc;obtain⟨sl,hL⟩:=u.any ho I.free λ z=>(hch _ z).2.1 rfl
 exact I.step (ch:=ch) hch (λ b o hL hb hc e n=>u.keep b o e n (λ z=>(aB.mp (I.stkSub b z)).elim hL hb) hc) (λ b o _ _ hc e n=>u.any e n hc) (λ b o hc e n=>u.free b o e n hc) (λ b o hc e=>u.there b o e hc) u.tups u.frzs u.tbls (λ m' hm=>by
  obtain⟨o',es',ep',ho',r'⟩:=hm;rw[ho] at ho';cases ho'
  exact⟨_,es',ep',hL,r'⟩) hok hg
theorem Inv.turned{t':Nat}{it:Os}(I:Inv X Tb σ H s)(k:∀b o,b≠it->s.heap.get? b=Om o->h'.get? b=Om o)(hn:H it=Oo)(hL:it≠X.env.locals)
  (h1:it∈X.ex\/X.s₀.heap.objs.size<=it) (h2:∀x c,X.env.cells.lookup x=Om c->c≠it) (h3:∀p∈X.pn++Tb,p.1≠it):Inv X Tb σ H { s with heap:=h',toks:=t' }:=by
 have nit:∀b u,H b=Om u->b≠it:=λ b u e z=>by rw[z,hn] at e;cases e
 refine I.step (g':=s.gens) (d':=s.drawn) (ch:=[it]) (λ b hb=>?_) (λ b o _ _ hc e _=>k b o (λ z=>hc (by simp[z])) e) (λ b o _ _ hc e _=>⟨o.slots,k b o (λ z=>hc (by simp[z])) e⟩) (λ _ _ _ _ n=>n)
  (λ b o hc e=>⟨o,k b o (λ z=>hc (by simp[z])) e⟩) (λ _ _ e=>e) (λ _ _ _ e=>e) (λ b ps e=>⟨#[],by rw[e];simp⟩) (λ m hm=>?_) (λ b u e=>?_) I.bare
 .have e:b=it:=by simpa using hb
  subst e;exact⟨h1,hL,h2,h3⟩
 .obtain⟨o,es,ep,ho,r⟩:=hm;exact⟨o,es,ep,k _ o (cx hL) ho,r⟩
 .refine(I.hok b u e).stay (λ c v hc q=>k c v ?_ q) (λ _ q=>q) λ _ _ q=>q
  rcases hc with z|z
  .rw[z];exact nit b u e
  .exact nit c _ z
def Inv.tok(I:Inv X Tb σ H s)(t:Nat):Inv X Tb σ H { s with toks:=t }:=I.un (h':=s.heap) (t':=t) Un.refl I.hok
def Inv.kept{t':Nat}(I:Inv X Tb σ H s)(k:∀b u,s.heap.get? b=Om u->h'.get? b=Om u):Inv X Tb σ H { s with heap:=h',toks:=t' }:=I.un (Un.kept k) (I.hok.kept k)
theorem Inv.laid{a:Os}{t':Nat}(I:Inv X Tb σ H s)(k:∀b u,s.heap.get? b=Om u->h'.get? b=Om u)(hp:s.heap.objs.size<=a)(new:ObjOk X.prog X.w (Tf H a o) h' a o) :
  Inv X Tb σ (Tf H a o) { s with heap:=h',toks:=t' }:=I.un (Un.laid k hp (I.hok.fresh hp)) (I.hok.laid k hp new)
theorem Inv.write{x e:Os}{t':Nat}(I:Inv X Tb σ H s)(mu:VR (H x))(he:e=x\/H e=Om (.own x))(k:∀b u,b≠e->s.heap.get? b=Om u->h'.get? b=Om u)(heo:∃u,h'.get? e=Om u)
  (new:ObjOk X.prog X.w (Tf H x o) h' x o):Inv X Tb σ (Tf H x o) { s with heap:=h',toks:=t' }:=I.un (Un.write mu he k heo) (I.hok.write mu he k heo new)
def Inv.pins_of{pins':LO}(I:Inv X Tb σ H s)(h:∀p∈pins',s.heap.get? p.1=Om p.2/\H p.1=Oo/\p.1≠X.env.locals/\p.1 ∉ X.fs/\∀v,p.2.data≠.cell v):Inv X pins' σ H s :=
 ⟨I.ok,I.os,I.bare,I.base,I.loc,I.cell,I.free,I.freeC,λ p hp=>(bX.mp hp).elim (λ z=>I.pin p (fG _ z)) (h p),I.hok,I.len⟩
def tT{N:List Str}(hN:N.Nodup){i j:Nat}(a:N[i]?=Om x)(b:N[j]?=Om x):i=j:=by
 obtain⟨h1,e1⟩:=aX.mp a;obtain⟨h2,e2⟩:=aX.mp b;exact(List.getElem_inj hN).mp (e1.trans e2.symm)
theorem tU{i:Nat}{Q:Unit->Ot->Prop}(I:Inv X Tb σ H s)(hN:X.N.Nodup)(hi:X.N[i]?=Om x)(hx:UK X.env.scope x)(r:RelV v u)
  (h:∀s',Inv X Tb (σ.set i (Om v)) H s'->(∃a,Heap.SameBut a s.heap s'.heap/\(a=X.env.locals\/X.env.cells.lookup x=Om a))->Q () s') (hf:autoParam (X.fn x=On\/X.env.scope.names.lookup x=Om .local) A1._auto_1):Ov M A (QI X.env x u) Q E s:=by
 obtain⟨m,hn,hl⟩:=id I.loc;have hcls:(X.env.scope.kind == .class || (X.env.scope.kind == .module&&X.env.locals != X.env.globals))=Op:=by rw[I.ok.kind];rfl
 have hiσ:i<σ.length:=by rw[I.len];exact(aX.mp hi).1
 have cne:=I.cne
 have tracked:∀ {a:Os}{h':OH},(∃o,s.heap.get? a=Om o/\H a=Oo)->Heap.SameBut a s.heap h'->HOk X.prog X.w H h':=λ {a h'} ha hs b ob e=>by
  obtain⟨_,_,hfree⟩:=ha;refine(I.hok b ob e).stay (λ c w' hc q=>(hs.2 c ?_).trans q) (λ _ q=>q) λ _ _ q=>q;rintro rfl
  rcases hc with rfl|hc
  .rw[hfree] at e;cases e
  .rw[hfree] at hc;cases hc
 rcases hx with hk|hk
 .refine tV hk hn (λ h' hn' hs=>?_) hcls;obtain⟨oL,_,_,hoL,_⟩:=id hn;refine h _ ⟨I.ok,I.os,I.bare,⟨λ b o e n hb hx=>?_,λ b o e n hb hx=>?_,I.base.free,λ b o e hx=>?_,I.base.tups,I.base.frzs,I.base.tbls⟩,⟨_,hn',λ j y v' e1 e2 e3=>?_⟩,λ y c e=>?_,I.free,I.freeC,λ p hp=>?_,tracked ⟨oL,hoL,I.free⟩ hs,by simpa using I.len⟩ ⟨_,hs,.inl rfl⟩
  .exact(hs.2 b (bf (bE (aJ e) I.ok.above))).trans (I.base.keep b o e n hb hx)
  .obtain⟨sl,e1⟩:=I.base.slot b o e n hb hx;exact⟨sl,(hs.2 b (bf (bE (aJ e) I.ok.above))).trans e1⟩
  .obtain⟨o',e1⟩:=I.base.there b o e hx;exact⟨o',(hs.2 b (bf (bE (aJ e) I.ok.above))).trans e1⟩
  .by_cases hj:j=i
   .subst hj;rw[hi] at e1;cases e1;rw[iP hiσ] at e2;cases e2;exact⟨u,r,.inl ⟨hk,on⟩⟩
   .rw[jA (cx hj)] at e2;obtain⟨u',r',q⟩:=hl j y v' e1 e2 e3;refine⟨u',r',?_⟩
    rcases q with ⟨k,e⟩|⟨k,c,e,z⟩
    .refine .inl ⟨k,?_⟩;have:y≠x:=λ e=>hj (tT hN e1 (e ▸ hi));simp[this,e]
    .exact .inr ⟨k,c,e,z.sameBut hs (cne y c e)⟩
  .obtain⟨w',z⟩:=I.cell y c e;exact⟨w',z.sameBut hs (cne y c e)⟩
  .obtain⟨e,n,ne,nf,d⟩:=I.pin p hp;exact⟨(hs.2 p.1 ne).trans e,n,ne,nf,d⟩
 .have hfn:X.fn x=On:=by
   rcases hf with z|z
   .exact z
   .rw[z] at hk;cases hk
  obtain⟨c,hc⟩:=I.ok.has x (.inl hk);obtain⟨w',z⟩:=I.cell x c hc;refine tW I.ok.kind hk hc z (λ h' hc' hs=>?_);obtain⟨oc,hoc,hocd⟩:=id z;refine h { s with heap:=h' } ⟨I.ok,I.os,I.bare,⟨λ b o e n hb hx=>?_,λ b o e n hb hx=>?_,I.base.free,λ b o e hx=>?_,I.base.tups,I.base.frzs,I.base.tbls⟩,⟨m,hn.sameBut hs (cx (cne x c hc)),λ j y v' e1 e2 e3=>?_⟩,λ y c' e=>?_,I.free,I.freeC,λ p hp=>?_,tracked ⟨oc,hoc,I.freeC x c hc⟩ hs,by simpa using I.len⟩ ⟨c,hs,.inr hc⟩
  .exact(hs.2 b (bf (bE (aJ e) (I.ok.cab x c hfn hc)))).trans (I.base.keep b o e n hb hx)
  .obtain⟨sl,e1⟩:=I.base.slot b o e n hb hx;exact⟨sl,(hs.2 b (bf (bE (aJ e) (I.ok.cab x c hfn hc)))).trans e1⟩
  .obtain⟨o',e1⟩:=I.base.there b o e hx;exact⟨o',(hs.2 b (bf (bE (aJ e) (I.ok.cab x c hfn hc)))).trans e1⟩
  .by_cases hj:j=i
   .subst hj;rw[hi] at e1;cases e1;rw[iP hiσ] at e2;cases e2;exact⟨u,r,.inr ⟨.inl hk,c,hc,hc'⟩⟩
   .rw[jA (cx hj)] at e2;obtain⟨u',r',q⟩:=hl j y v' e1 e2 e3;refine⟨u',r',?_⟩
    rcases q with q|⟨k,c',e,z'⟩
    .exact .inl q
    .refine .inr ⟨k,c',e,z'.sameBut hs ?_⟩;rintro rfl;exact hj (tT hN e1 (I.ok.inj _ _ _ e hc ▸ hi))
  .by_cases hcc:c'=c
   .subst hcc;exact⟨_,hc'⟩
   .obtain⟨w2,z2⟩:=I.cell y c' e;exact⟨w2,z2.sameBut hs hcc⟩
  .obtain⟨e,n,ne,nf,d⟩:=I.pin p hp;refine⟨(hs.2 p.1 ?_).trans e,n,ne,nf,d⟩;intro q;rw[q,hoc] at e;have q':oc=p.2:=bw e;exact d w' (by rw[<- q'];exact hocd)
theorem pR{i:Nat}{Q:Unit->Ot->Prop}(I:Inv X Tb σ H s)(hN:X.N.Nodup)(hi:X.N[i]?=Om x)(hx:UK X.env.scope x)(r:RelV v u)
  (h:∀s',Inv X Tb (σ.set i (Om v)) H s'->Q () s') (hf:autoParam (X.fn x=On\/X.env.scope.names.lookup x=Om .local) A1._auto_1):Ov M A (QI X.env x u) Q E s :=
 tU I hN hi hx r (λ s' I' _=>h s' I') hf
theorem Inv.call'{s':Ot}(I:Inv X Tb σ H s)(ho:s'.os=s.os)(u:Un (Us X.stack) ch H H' s.heap s'.heap)(hok:HOk X.prog X.w H' s'.heap)(hg:PR s'.gens)
  (hch:∀b∈ch,(b∈X.ex\/X.s₀.heap.objs.size<=b)/\b≠X.env.locals/\(∀x c,X.env.cells.lookup x=Om c->c≠b)/\∀p∈X.pn++Tb,p.1≠b):Inv X Tb σ H' s':=by
 obtain⟨h',g',d',t',o'⟩:=s';have e:o'=s.os:=ho;subst e;exact I.call (g':=g') (t':=t') (d':=d') u hok hg hch
end
abbrev XK:=Value->OA->Hp->Prop
abbrev St:=List (Option V)
abbrev VK:=V->Hp->Prop
abbrev TE:=St->Hp->VK->Prop
abbrev TT:=St->Hp->(Bool->Hp->Prop)->Prop
abbrev TA:=St->Hp->(List V->Hp->Prop)->Prop
structure UG where
 nx:St->Hp->Prop
 rt:VK
 bk:St->Hp->Prop:=λ _ _=>False
 ct:St->Hp->Prop:=λ _ _=>False
abbrev TS:=UG->St->Hp->Prop
def EP(X:Cx)(Tb:LO)(σ:St)(Q:VK)(u:Value)(s':Ot):Prop:=∃v H',Inv X Tb σ H' s'/\RelV v u/\Q v H'
def TP(X:Cx)(Tb:LO)(σ:St)(Q:Bool->Hp->Prop)(b:Bool)(s':Ot):Prop:=∃H',Inv X Tb σ H' s'/\Q b H'
def AP(X:Cx)(Tb:LO)(σ:St)(Q:List V->Hp->Prop)(us:LV)(s':Ot):Prop:=∃vs H',Inv X Tb σ H' s'/\Vals vs us/\Q vs H'
def SP(X:Cx)(Tb:LO)(D:UG)(f:Flow)(s':Ot):Prop :=
 match f with
 |.next=>∃σ' H',Inv X Tb σ' H' s'/\D.nx σ' H'
 |.brk=>∃σ' H',Inv X Tb σ' H' s'/\D.bk σ' H'
 |.cont=>∃σ' H',Inv X Tb σ' H' s'/\D.ct σ' H'
 |.ret u=>∃v σ' H',Inv X Tb σ' H' s'/\RelV v u/\D.rt v H'
def PE(X:Cx)(e:Expr)(t:TE):Prop :=
 ∀(Tb:LO) (s:Ot) (σ:St) (H:Hp) (Q:VK),Inv X Tb σ H s->t σ H Q->Ov (Oy X.prog X.w) X.A (eval e X.env) (EP X Tb σ Q) X.xe s
def PT(X:Cx)(e:Expr)(t:TT):Prop :=
 ∀(Tb:LO) (s:Ot) (σ:St) (H:Hp) (Q:Bool->Hp->Prop),Inv X Tb σ H s->t σ H Q->Ov (Oy X.prog X.w) X.A (isTrue e X.env (eval e X.env)) (TP X Tb σ Q) X.xe s
def PW(X:Cx)(e:Expr)(t:TT):Prop :=
 ∀(whole:Sem Value) (Tb:LO) (s:Ot) (σ:St) (H:Hp) (Q:Bool->Hp->Prop),Inv X Tb σ H s->t σ H Q->Ov (Oy X.prog X.w) X.A (isTrue e X.env whole) (TP X Tb σ Q) X.xe s
def PW.pt(h:PW X e t):PT X e t:=h _
def PA(X:Cx)(es:List Expr)(t:TA):Prop :=
 ∀(pos:Pos) (Tb:LO) (s:Ot) (σ:St) (H:Hp) (Q:List V->Hp->Prop),Inv X Tb σ H s->t σ H Q->Ov (Oy X.prog X.w) X.A (spliced (Pu pos (OI es X.env))) (AP X Tb σ Q) X.xe s
def PS(X:Cx)(st:OC)(t:TS):Prop :=
 ∀(Tb:LO) (s:Ot) (σ:St) (H:Hp) (D:UG),Inv X Tb σ H s->t D σ H->Ov (Oy X.prog X.w) X.A (exec st X.env) (SP X Tb D) X.xe s
def PSs(X:Cx)(st:List OC)(t:TS):Prop :=
 ∀(Tb:LO) (s:Ot) (σ:St) (H:Hp) (D:UG),Inv X Tb σ H s->t D σ H->Ov (Oy X.prog X.w) X.A (Ra st X.env) (SP X Tb D) X.xe s
def Tl{α:Type}{t:Sem α}{Q Q':α->Ot->Prop}(h:Ov M A t Q E s)(hQ:∀a s,Q a s->Q' a s):Ov M A t Q' E s:=cy h hQ λ _ _ x=>x
section
theorem bin(ha:PE X a ta)(hb:PE X b tb){R:V->V->Hp->Prop}(I:Inv X Tb σ H s)(h:ta σ H λ x H1=>tb σ H1 λ y H2=>R x y H2)
  {α:Type}{Q:α->Ot->Prop}{f:Value->Value->Sem α}
  (hf:∀v u s2 x y H2,Inv X Tb σ H2 s2->RelV x v->RelV y u->R x y H2->Ov (Oy X.prog X.w) X.A (f v u) Q X.xe s2) :
  Ov (Oy X.prog X.w) X.A (eval a X.env) (λ v s₁=>Ov (Oy X.prog X.w) X.A (eval b X.env) (λ u s₂=>Ov (Oy X.prog X.w) X.A (f v u) Q X.xe s₂) X.xe s₁) X.xe s:=by
 refine Tl (ha Tb s σ H _ I h) λ v s1 ⟨x,H1,I1,r1,q1⟩=>?_;refine Tl (hb Tb s1 σ H1 _ I1 q1) λ u s2 ⟨y,H2,I2,r2,q2⟩=>?_;exact hf v u s2 x y H2 I2 r1 r2 q2
def isB(x:V)(P:Bool->Prop):Prop:=match x with|.bl k=>P k|_=>False
def isI(x:V)(P:Int->Prop):Prop:=match x with|.int k=>P k|_=>False
def pS(x y:V)(P:Int->Int->Prop):Prop:=match x,y with|.int i,.int j=>P i j|_,_=>False
def jB(h:isB x P):∃k,x=.bl k/\P k:=by cases x<;>first|exact⟨_,rfl,h⟩|exact h.elim
def Bj(h:isI x P):∃k,x=.int k/\P k:=by cases x<;>first|exact⟨_,rfl,h⟩|exact h.elim
def pU(h:pS x y P):∃i j,x=.int i/\y=.int j/\P i j:=by cases x<;>cases y<;>first|exact⟨_,_,rfl,rfl,h⟩|exact h.elim
def cg(i:Nat):TE:=λ σ H Q=>match σ[i]? with|some (Om v)=>Q v H|_=>False
set_option tactic.hygienic true in
def Bk(h:cg i σ H Q):∃v,σ[i]?=Om (Om v)/\Q v H:=by
 unfold cg at h;split at h
 .rename_i v e;exact⟨v,e,h⟩
 .exact h.elim
def tC(v:V):TE:=λ _ H Q=>Q v H
def gB{i:Nat}(hN:X.N[i]?=Om x)(hv:VA X.env.scope x)(hd:autoParam ((x == ("__debug__" : Str))=Op) ca._auto_1)(hcd:autoParam ((x == ("__classdict__" : Str))=Op) ca._auto_1):PE X (.Name x pos) (cg i):=by
 intro Tb s σ H Q I h;obtain⟨v,e,h⟩:=Bk h;obtain⟨m,hn,hl⟩:=I.loc;obtain⟨u,r,l⟩:=hl i x v hN e hv;have fin:EP X Tb σ Q u s:=⟨v,H,I,r,h⟩
 rcases l with ⟨hk,hm⟩|⟨hk,c,hc,hcell⟩
 .exact RP (wpAny_loadName_local I.ok.kind hk hn hm fin) hd
 .rcases hk with hk|hk
  .exact RP (wpAny_loadName_cell I.ok.kind hk hc hcell fin) hd
  .exact RP (wpAny_loadName_free I.ok.kind hk hc hcell fin hcd) hd
def pe_int{i j pos}:PE X (.Constant (.int i) j pos) (tC (.int i)):=λ _ _ _ H _ I h=>wpAny_Constant_int ⟨.int i,H,I.tok _,⟨_,rfl⟩,h⟩
def pe_bl{b j pos}:PE X (.Constant (.bool b) j pos) (tC (.bl b)):=λ _ _ _ H _ I h=>Constant_bool ⟨.bl b,H,I,rfl,h⟩
def pe_non{j pos}:PE X (.Constant .none j pos) (tC .non):=λ _ _ _ H _ I h=>Constant_none ⟨.non,H,I,rfl,h⟩
def pe_str{x j pos}:PE X (.Constant (.str x) j pos) (tC (.str x)):=λ _ _ _ H _ I h=>Calls.Constant_str ⟨.str x,H,I.tok _,⟨_,rfl⟩,h⟩
def Gl(X:Cx)(x:Str):Prop:=X.env.kindOf x=Om .globalImplicit
theorem mN{Q:VS}(I:Inv X Tb σ H s)(hg:Gl X x)(hm:X.mg x=Om u)(h:Q u s)
  (hd:autoParam ((x == ("__debug__" : Str))=Op) ca._auto_1):Ov (Oy X.prog X.w) X.A (eval (.Name x pos) X.env) Q E s :=
 tX I.ok.kind hg (Calls.loadGlobal_global (by rw[I.ok.glob];exact I.mod.glob.keeps I.bk) hm h) hd
theorem eh{Q:VS}(I:Inv X Tb σ H s)(hg:Gl X x)(hm:X.mg x=Oo)(hv:Pz x=Om u)(h:Q u s)
  (hn:x ≠ "__name__" := by decide) (hd:autoParam ((x == ("__debug__" : Str))=Op) ca._auto_1):Ov (Oy X.prog X.w) X.A (eval (.Name x pos) X.env) Q E s:=by
 obtain⟨mb,h1,h2⟩:=I.mod.blt;exact tX I.ok.kind hg (Calls.loadGlobal_builtin (by rw[I.ok.glob];exact I.mod.glob.keeps I.bk) hm (by rw[I.ok.blt];exact h1.keeps I.bk) ((h2 x hn).trans hv) h) hd
def Bl(hg:Gl X x)(hm:X.mg x=Om u)(r:RelV v u)(hd:autoParam ((x == ("__debug__" : Str))=Op) ca._auto_1):PE X (.Name x pos) (tC v) :=
 λ _ _ _ H _ I h=>mN I hg hm ⟨v,H,I,r,h⟩ hd
variable {a b:Expr}{ta tb:TE}{pos:Pos}
def tB(t:TE):TT:=λ σ H Q=>t σ H λ x H1=>isB x λ c=>Q c H1
def Bm(h:PE X e t)(he:autoParam (∀whole,isTrue e X.env whole=(do let v <- whole;QN e.pos;PB [v] (truthy v))) A4._auto_1):PT X e (tB t):=by
 intro Tb s σ H Q I hw;refine isTrue_plain (Tl (h Tb s σ H _ I hw) λ v s1 ⟨x,H1,I1,r1,q1⟩=>?_) (he _);obtain⟨d,rfl,q⟩:=jB q1;cases r1;exact fW ⟨H1,I1,q⟩
variable {tA tB':TT}{Td:List Expr}
def Bn(t u:TT):TT:=λ σ H Q=>t σ H λ c H1=>if c=On then u σ H1 Q else Q Op H1
def tOr(t u:TT):TT:=λ σ H Q=>t σ H λ c H1=>if c=On then Q On H1 else u σ H1 Q
def Bo(t:TT):TT:=λ σ H Q=>t σ H λ c H1=>Q (!c) H1
def Bp(ha:PT X a tA):PW X (.BoolOp .And [a] pos) tA:=by
 intro wh Tb s σ H Q I h;refine isTrue_and (Tl (ha Tb s σ H Q I h) λ c s1 e=>?_)
 cases c with
 |true=>exact isTrue_and_nil e
 |false=>exact e
def Bq(ha:PT X a tA):PW X (.BoolOp .Or [a] pos) tA:=by
 intro wh Tb s σ H Q I h;refine isTrue_or (Tl (ha Tb s σ H Q I h) λ c s1 e=>?_)
 cases c with
 |false=>exact isTrue_or_nil e
 |true=>exact e
def Br(ha:PT X a tA)(hb:PW X (.BoolOp .And (b::Td) pos) tB'):PW X (.BoolOp .And (a::b::Td) pos) (Bn tA tB'):=by
 intro wh Tb s σ H Q I h;refine isTrue_and (Tl (ha Tb s σ H _ I h) λ c s1 ⟨H1,I1,q1⟩=>?_)
 cases c with
 |true=>exact hb wh Tb s1 σ H1 Q I1 q1
 |false=>exact⟨H1,I1,q1⟩
def Bt(ha:PT X a tA)(hb:PW X (.BoolOp .Or (b::Td) pos) tB'):PW X (.BoolOp .Or (a::b::Td) pos) (tOr tA tB'):=by
 intro wh Tb s σ H Q I h;refine isTrue_or (Tl (ha Tb s σ H _ I h) λ c s1 ⟨H1,I1,q1⟩=>?_)
 cases c with
 |true=>exact⟨H1,I1,q1⟩
 |false=>exact hb wh Tb s1 σ H1 Q I1 q1
def Bu(ha:PT X a tA):PT X (.UnaryOp .Not a pos) (Bo tA):=by
 intro Tb s σ H Q I h;exact isTrue_not (ha Tb s σ H (λ c H1=>Q (!c) H1) I h)
def Bv(ta tb:TE):TE:=λ σ H Q=>ta σ H λ x H1=>isB x λ c=>if c=On then tb σ H1 Q else Q (.bl Op) H1
def Bw(ta tb:TE):TE:=λ σ H Q=>ta σ H λ x H1=>isB x λ c=>if c=On then Q (.bl On) H1 else tb σ H1 Q
def Bx(ta:TE):TE:=λ σ H Q=>ta σ H λ x H1=>∃c,x=.bl c/\Q (.bl (!c)) H1
def tY{op}(h:PE X a t):PE X (.BoolOp op [a] pos) t:=λ Tb s σ H Q I hw=>BoolOp_one (h Tb s σ H Q I hw)
def By(ha:PE X a ta)(hb:PE X (.BoolOp .And (b::Td) pos) tb):PE X (.BoolOp .And (a::b::Td) pos) (Bv ta tb):=by
 intro Tb s σ H Q I h;refine BoolOp_and (Tl (ha Tb s σ H _ I h) λ v s1 ⟨x,H1,I1,r1,q1⟩=>?_);obtain⟨c,rfl,q1⟩:=jB q1;cases r1;refine fW ?_
 cases c with
 |true=>exact hb Tb s1 σ H1 Q I1 q1
 |false=>exact⟨.bl Op,H1,I1,rfl,q1⟩
def Bz(ha:PE X a ta)(hb:PE X (.BoolOp .Or (b::Td) pos) tb):PE X (.BoolOp .Or (a::b::Td) pos) (Bw ta tb):=by
 intro Tb s σ H Q I h;refine BoolOp_or (Tl (ha Tb s σ H _ I h) λ v s1 ⟨x,H1,I1,r1,q1⟩=>?_);obtain⟨c,rfl,q1⟩:=jB q1;cases r1;refine fW ?_
 cases c with
 |false=>exact hb Tb s1 σ H1 Q I1 q1
 |true=>exact⟨.bl On,H1,I1,rfl,q1⟩
def BA(ha:PE X a ta):PE X (.UnaryOp .Not a pos) (Bx ta):=by
 intro Tb s σ H Q I h;refine UnaryOp_ (Tl (ha Tb s σ H _ I h) λ v s1 ⟨x,H1,I1,r1,q1⟩=>?_);obtain⟨c,rfl,q1⟩:=q1;cases r1;exact not_of (fW ⟨.bl (!c),H1,I1,O,q1⟩)
def tIf(t:TT)(ta tb:TE):TE:=λ σ H Q=>t σ H λ c H1=>if c=On then ta σ H1 Q else tb σ H1 Q
def BB(hc:PT X c tA)(ha:PE X a ta)(hb:PE X b tb):PE X (.IfExp c a b pos) (tIf tA ta tb):=by
 intro Tb s σ H Q I h;refine wpAny_IfExp (Tl (hc Tb s σ H _ I h) λ d s1 ⟨H1,I1,q1⟩=>?_)
 cases d with
 |true=>exact ha Tb s1 σ H1 Q I1 q1
 |false=>exact hb Tb s1 σ H1 Q I1 q1
end
def SqL(K:FG)(H:Hp)(a:Os)(xs:List V):Prop :=
 Rd H a (.lst xs) \/
  ∃(o:Obj) (its:Array Value) (n:Nat),K.lookup a=Om o/\o.cls=.type "list" /\ o.dict=Oo/\o.data=.seq its n/\its.size<=Ou/\Vals xs its.toList
def SqT(K:FG)(H:Hp)(a:Os)(xs:List V):Prop :=
 Rd H a (.tup xs) \/
  ∃(o:Obj) (its:Array Value) (n:Nat),K.lookup a=Om o/\o.cls=.type "tuple" /\ o.dict=Oo/\o.data=.seq its n/\its.size<=Ou/\Vals xs its.toList
noncomputable def BC:Value->Option V
 |.none=>Om .non
 |.bool b=>Om (.bl b)
 |.int i _=>Om (.int i)
 |.str x _=>Om (.str x)
 |.bytes b _=>Om (.byt b)
 |.float b _=>Om (.flt b)
 |.ref a=>Om (.ref a)
 |.type n=>Om (.ty n)
 |_=>Oo
def RelV.abs(r:RelV x u):BC u=Om x:=by
 cases x with
 |non|bl _|ref _|ty _=>cases r;rfl
 |int _|str _|byt _|flt _=>obtain⟨t,rfl⟩:=r;rfl
def RelV.inj(r:RelV x u)(q:RelV y u):x=y:=bw (r.abs.symm.trans q.abs)
theorem Vals.inj:∀ {xs ys:List V}{us:LV},Vals xs us->Vals ys us->xs=ys
 |_,_,_,.nil,.nil=>rfl
 |_,_,_,.cons r t,.cons r' t'=>by rw[r.inj r',Vals.inj t t']
section
variable {Tb:LO}{σ:St}{H:Hp}{s:Ot}{a:Os}{xs ys:List V}
def SqL.of{K:FG}(h:H a=Om (.lst xs)):SqL K H a xs:=.inl (.inl h)
def SqT.of{K:FG}(h:H a=Om (.tup xs)):SqT K H a xs:=.inl (.inl h)
def Inv.list(I:Inv X Tb σ H s)(h:SqL X.K H a xs):∃its:LV,Vals xs its/\PlainL s.heap a its.toArray/\xs.length<=Ou:=by
 rcases h with h|⟨o,its,n,hk,hc,hd,hs,hz,r⟩
 .obtain⟨z,its,n,r,e⟩:=h.ok I.hok;exact⟨its,r,⟨_,n,e,O,O,O⟩,z⟩
 .refine⟨its.toList,r,⟨o,n,I.kIn a o hk,hc,hd,by simpa using hs⟩,?_⟩;have e:=r.length;simp only[OU] at e;lia
def Inv.tuple(I:Inv X Tb σ H s)(h:SqT X.K H a xs):∃its:LV,Vals xs its/\Qp s.heap a its.toArray/\xs.length<=Ou:=by
 rcases h with h|⟨o,its,n,hk,hc,_,hs,hz,r⟩
 .obtain⟨z,its,r,p⟩:=h.ok I.hok;exact⟨its,r,p.tup,z⟩
 .refine⟨its.toList,r,⟨o,I.kIn a o hk,hc,n,by simpa using hs⟩,?_⟩;have e:=r.length;simp only[OU] at e;lia
def Inv.list_inj(I:Inv X Tb σ H s)(h:SqL X.K H a xs)(h':SqL X.K H a ys):xs=ys:=by
 obtain⟨its,r,⟨o,n,e,_,_,d⟩,_⟩:=I.list h;obtain⟨its',r',⟨o',n',e',_,_,d'⟩,_⟩:=I.list h';rw[e] at e';cases e';rw[d] at d'
 injection d' with d1 _
 have:its=its':=by simpa using bA QB d1
 subst this;exact r.inj r'
def Inv.tuple_inj(I:Inv X Tb σ H s)(h:SqT X.K H a xs)(h':SqT X.K H a ys):xs=ys:=by
 obtain⟨its,r,⟨o,e,_,n,d⟩,_⟩:=I.tuple h;obtain⟨its',r',⟨o',e',_,n',d'⟩,_⟩:=I.tuple h';rw[e] at e';cases e';rw[d] at d'
 injection d' with d1 _
 have:its=its':=by simpa using bA QB d1
 subst this;exact r.inj r'
end
noncomputable abbrev Cx.wish(X:Cx)(E:VS):Cx:={ X with xe:=E }
abbrev Cx.nox(X:Cx):Cx:=X.wish λ _ _=>False
def Cx.Ok.wish{X:Cx}(ok:X.Ok)(E:VS):(X.wish E).Ok :=
 ⟨ok.mod,ok.kind,ok.glob,ok.blt,ok.above,ok.inj,ok.has,ok.cab,ok.hd,ok.frames,ok.stk,ok.exf,ok.bs,ok.bsz,ok.noex,ok.exfs,ok.funs,ok.frf⟩
def Cx.Ok.unwish{X:Cx}(ok:(X.wish E).Ok):X.Ok :=
 ⟨ok.mod,ok.kind,ok.glob,ok.blt,ok.above,ok.inj,ok.has,ok.cab,ok.hd,ok.frames,ok.stk,ok.exf,ok.bs,ok.bsz,ok.noex,ok.exfs,ok.funs,ok.frf⟩
section
variable {Tb:LO}{σ:St}{H:Hp}{s:Ot}{E:VS}
def Inv.wish(I:Inv X Tb σ H s)(E:VS):Inv (X.wish E) Tb σ H s:=⟨I.ok.wish E,I.os,I.bare,I.base,I.loc,I.cell,I.free,I.freeC,I.pin,I.hok,I.len⟩
def Inv.unwish(I:Inv (X.wish E) Tb σ H s):Inv X Tb σ H s:=⟨I.ok.unwish,I.os,I.bare,I.base,I.loc,I.cell,I.free,I.freeC,I.pin,I.hok,I.len⟩
def SP.unwish(h:SP (X.wish E) Tb D f s'):SP X Tb D f s':=by
 cases f with
 |next|brk|cont=>obtain⟨σ',H',I,q⟩:=h;exact⟨σ',H',I.unwish,q⟩
 |ret u=>obtain⟨v,σ',H',I,r,q⟩:=h;exact⟨v,σ',H',I.unwish,r,q⟩
def PSs.nox{st:List OC}(h:PSs X.nox st t):PSs X st t:=λ Tb s σ H D I hw=>
 cy (h Tb s σ H D (I.wish _) hw) (λ _ _ q=>q.unwish) λ _ _ z=>OY z
end
section
variable {st:OC}{Td:List OC}{t u:TS}{e:Expr}{te:TE}{pos:Pos}
def BD:TS:=λ D σ H=>D.nx σ H
def tZ(t u:TS):TS:=λ D σ H=>t { D with nx:=u D } σ H
def pss_nil:PSs X [] BD:=λ _ _ σ H _ I h=>mO ⟨σ,H,I,h⟩
def dO(h1:PS X st t)(h2:PSs X Td u):PSs X (st::Td) (tZ t u):=by
 intro Tb s σ H D I h;refine Ry (Tl (h1 Tb s σ H { D with nx:=u D } I h) λ f s1 q=>?_)
 cases f with
 |next=>
  obtain⟨σ',H',I',q⟩:=q;exact h2 Tb s1 σ' H' D I' q
 |ret v|brk|cont=>exact q
def ua(h1:PS X st t):PSs X [st] t:=by
 intro Tb s σ H D I h;refine Ry (Tl (h1 Tb s σ H D I h) λ f s1 q=>?_)
 cases f with
 |next=>exact mO q
 |ret v|brk|cont=>exact q
def Inv.quiet(I:Inv X Tb σ H s):interactive X.env=Op:=by simp[interactive,I.ok.kind]
def BE(te:TE):TS:=λ D σ H=>te σ H λ _ H1=>D.nx σ H1
def mP(he:PE X e te)(hs:autoParam (Qf e Oo pos.line X.env=OM Op) A8._auto_1):PS X (.Expr e pos) (BE te):=by
 intro Tb s σ H D I h;exact wpAny_Expr_any (Tl (he Tb s σ H _ I h) λ v s1 ⟨x,H1,I1,r1,q1⟩=>⟨σ,H1,I1,q1⟩) I.quiet hs
def BF(te:TE):TS:=λ D σ H=>te σ H D.rt
def pV(he:PE X e te):PS X (.Return (Om e) pos) (BF te):=by
 intro Tb s σ H D I h;exact wpAny_Return_some (Tl (he Tb s σ H _ I h) λ v s1 ⟨x,H1,I1,r1,q1⟩=>⟨x,σ,H1,I1,r1,q1⟩)
def BG(c:TT)(t u:TS):TS:=λ D σ H=>c σ H λ b H1=>if b=On then t D σ H1 else u D σ H1
def uc(hc:PT X c tc)(ha:PSs X a t)(hb:PSs X b u):PS X (.If c a b pos) (BG tc t u):=by
 intro Tb s σ H D I h;refine wpAny_If (Tl (hc Tb s σ H _ I h) λ d s1 ⟨H1,I1,q1⟩=>?_)
 cases d with
 |true=>exact ha Tb s1 σ H1 D I1 q1
 |false=>exact hb Tb s1 σ H1 D I1 q1
def BH:TS:=λ _ _ _=>False
def pss_never:PSs X sts BH:=λ _ _ _ _ _ _ h=>h.elim
end
abbrev TG:=V->St->Hp->(St->Hp->Prop)->Prop
abbrev VB:=List V->St->Hp->(St->Hp->Prop)->Prop
def PG(X:Cx)(target:Expr)(t:TG):Prop :=
 ∀(Tb:LO) (s:Ot) (σ:St) (H:Hp) (v:V) (u:Value) (Q:St->Hp->Prop),Inv X Tb σ H s->RelV v u->t v σ H Q ->
  Ov (Oy X.prog X.w) X.A (Qh target X.env u) (λ _ s'=>∃σ' H',Inv X Tb σ' H' s'/\Q σ' H') X.xe s
def VT(X:Cx)(ts:List Expr)(t:VB):Prop :=
 ∀(Tb:LO) (s:Ot) (σ:St) (H:Hp) (vs:List V) (us:LV) (Q:St->Hp->Prop),Inv X Tb σ H s->Vals vs us->t vs σ H Q ->
  Ov (Oy X.prog X.w) X.A (assignInOrder ((Qi ts X.env).map (·.2)) us) (λ _ s'=>∃σ' H',Inv X Tb σ' H' s'/\Q σ' H') X.xe s
abbrev ud:=V->V->V->Hp->(Hp->Prop)->Prop
def ue(X:Cx)(t:ud):Prop :=
 ∀(Tb:LO) (s:Ot) (σ:St) (H:Hp) (o i v:V) (ov iv u:Value) (Q:Hp->Prop),Inv X Tb σ H s->RelV o ov->RelV i iv->RelV v u->t o i v H Q ->
  Ov (Oy X.prog X.w) X.A (setItem ov iv u) (λ _ s'=>∃H',Inv X Tb σ H' s'/\Q H') X.xe s
section
variable {pos:Pos}
def cX(i:Nat):TG:=λ v σ H Q=>Q (σ.set i (Om v)) H
def uf{i:Nat}(hN:X.N.Nodup)(hi:X.N[i]?=Om x)(hx:UK X.env.scope x)(hf:autoParam (X.fn x=On\/X.env.scope.names.lookup x=Om .local) A1._auto_1):PG X (.Name x pos) (cX i):=by
 intro Tb s σ H v u Q I r h;exact wpAny_assign_Name (pR I hN hi hx r (λ s' I'=>⟨_,H,I',h⟩) hf)
def mQ:VB:=λ vs σ H Q=>vs=[]/\Q σ H
def fX(t:TG)(u:VB):VB:=λ vs σ H Q=>∃v r,vs=v::r/\t v σ H λ σ' H'=>u r σ' H' Q
def pW:VT X [] mQ:=by
 intro Tb s σ H vs us Q I r h;obtain⟨e,h⟩:=h;subst e;cases r;exact assignInOrder_nil ⟨σ,H,I,h⟩
theorem gC(h1:PG X e t)(h2:VT X es u)
  (hs:autoParam ((Qi (e::es) X.env).map (·.2)=Qh e X.env::(Qi es X.env).map (·.2)) A8._auto_1):VT X (e::es) (fX t u):=by
 intro Tb s σ H vs us Q I r h;obtain⟨v,vr,e1,h⟩:=h;subst e1
 cases r with
 |cons r rr=>
  rw[hs];refine assignInOrder_cons (Tl (h1 Tb s σ H _ _ _ I r h) λ _ s1 ⟨σ1,H1,I1,q1⟩=>?_);exact h2 Tb s1 σ1 H1 _ _ Q I1 rr q1
def mR(K:FG)(n:Nat)(t:VB):TG:=λ v σ H Q=>∃a xs,v=.ref a/\SqT K H a xs/\xs.length=n/\t xs σ H Q
theorem pX{n:Nat}(hc:X.calm=On)(h:VT X es t)
  (hn:autoParam ((Qi es X.env).length=n) A8._auto_1) (hst:autoParam ((Qi es X.env).findIdx? (·.1)=Oo) A8._auto_1):PG X (.Tuple es k pos) (mR X.K n t):=by
 intro Tb s σ H v u Q I r hw;obtain⟨a,xs,e1,hq,hl,hw⟩:=hw;subst e1;cases r;obtain⟨its,rv,ht,hz⟩:=I.tuple hq;refine assign_Tuple_tuple (I.ok.hd hc) ht (by simp[hn,<- hl,rv.length]) hst λ h' hx=>?_;have I1:Inv X Tb σ H { s with heap:=h' }:=I.kept (t':=s.toks) λ b o e=>hx b o (bf (aJ e)) e;exact h Tb _ σ H xs _ Q I1 (by simpa using rv) hw
def BJ(to ti:TE)(t:ud):TG:=λ v σ H Q=>to σ H λ o H1=>ti σ H1 λ i H2=>t o i v H2 λ H3=>Q σ H3
theorem BK(ho:PE X o to)(hi:PE X i ti)(hs:ue X t)
  (ha:∀v,Qh (.Subscript o i pos) X.env v=(do
   let ov <- PB [v] (eval o X.env)
   let iv <- PB [v,ov] (eval i X.env)
   QN pos
   PB [v,ov,iv] (setItem ov iv v)
   release [v,ov,iv] []):=by intro _;rfl):PG X (.Subscript o i pos) (BJ to ti t):=by
 intro Tb s σ H v u Q I r h;rw[ha];refine ae (eO (Tl (ho Tb s σ H _ I h) λ ov s1 ⟨x,H1,I1,r1,q1⟩=>?_));refine ae (eO (Tl (hi Tb s1 σ H1 _ I1 q1) λ iv s2 ⟨y,H2,I2,r2,q2⟩=>?_));refine ae (kM (ae (eO (Tl (hs Tb s2 σ H2 x y v ov iv u _ I2 r1 r2 r q2) λ _ s3 ⟨H3,I3,q3⟩=>?_))));exact wpAny_release ⟨σ,H3,I3,q3⟩
def jC(te:TE)(g:TG):TS:=λ D σ H=>te σ H λ x H1=>g x σ H1 D.nx
theorem ug(he:PE X e te)(hg:PG X tg g)(hs:autoParam (QV [tg] e pos.line X.env=OM Op) A8._auto_1)(hw:autoParam (QU [tg] e X.env=OM Oo) A8._auto_1)
  (h1:autoParam ((Qi [tg] X.env).map (·.2)=[Qh tg X.env]) A8._auto_1):PS X (.Assign [tg] e pos) (jC te g):=by
 intro Tb s σ H D I h;refine wpAny_Assign_stores (Tl (he Tb s σ H _ I h) λ v s1 ⟨x,H1,I1,r1,q1⟩=>?_) hs hw;rw[h1];exact Tl (hg Tb s1 σ H1 x v _ I1 r1 q1) λ _ s2 q=>q
theorem uh{i:Nat}(hN:X.N.Nodup)(hi:X.N[i]?=Om x)(hx:UK X.env.scope x)(he:PE X e te)(hs:autoParam (Qf e (Om (.Name x pos')) pos.line X.env=OM Op) A8._auto_1)(hf:autoParam (X.fn x=On\/X.env.scope.names.lookup x=Om .local) A1._auto_1) :
  PS X (.Assign [.Name x pos'] e pos) (jC te (cX i)):=by
 intro Tb s σ H D I h;refine wpAny_Assign_Name (Tl (he Tb s σ H _ I h) λ v s1 ⟨y,H1,I1,r1,q1⟩=>?_) hs;exact pR I1 hN hi hx r1 (λ s2 I2=>⟨_,H1,I2,q1⟩) hf
end
section
variable {pos:Pos}
end
structure It where
 go:Nat->Hp->Prop
 yld:Nat->Hp->V->Hp->Prop
 stop:Nat->Hp->Prop
def hG(X:Cx)(Tb:LO)(H:Hp)(b:Os):Prop :=
 H b=Oo/\b≠X.env.locals/\b ∉ X.fs/\(b∈X.ex\/X.s₀.heap.objs.size<=b)/\(∀x c,X.env.cells.lookup x=Om c->c≠b)/\∀p∈X.pn++Tb,p.1≠b
def Inv.fpOk{H H':Hp}{b:Os}(I:Inv X Tb σ H s)(hb:s.heap.objs.size<=b)(hn:H' b=Oo):hG X Tb H' b:=by
 refine⟨hn,s1f (bE I.lt hb),I.nofs hb,.inr (cG I.sz hb),λ x c e z=>?_,λ p hp z=>?_⟩
 .obtain⟨v,q⟩:=I.cell x c e;exact XU (bE q.lt (by rw[z];exact hb)) (dM _)
 .exact XU (bE (aJ (I.pin p hp).1) (by rw[z];exact hb)) (dM _)
structure Uw (P:Oz)(w:OB)(K:FG)(tg:Expr)(J:It)(fp:List Os)(it:Os)(tn:Nat->OH->Prop):Prop where
 mem:it∈fp
 obj:∀i h,tn i h->∀b∈fp,∃o,h.get? b=Om o/\∀v,o.data≠.cell v
 keep:∀i h h',tn i h->(∀b∈fp,∀o,h.get? b=Om o->h'.get? b=Om o)->tn i h'
 item:∀(X:Cx),X.prog=P->X.w=w->X.K=K->X.calm=On->∀(i:Nat) (Tb:LO) (s:Ot) (σ:St) (H:Hp) (E:VS),Inv X Tb σ H s->(∀b∈fp,hG X Tb H b)->tn i s.heap->J.go i H ->
  Ov (Oy P w) X.A (Pn (.ref it)) (λ r s1=>∃u,r=Om u /\
   Ov (Oy P w) X.A (Pw tg (.ref it) u) (λ _ s2=>∃x H',Inv X Tb σ H' s2/\RelV x u/\J.yld i H x H'/\tn (i+1) s2.heap/\∀b∈fp,H' b=Oo) E s1) E s
 done:∀(X:Cx),X.prog=P->X.w=w->X.K=K->X.calm=On->∀(i:Nat) (Tb:LO) (s:Ot) (σ:St) (H:Hp) (E:VS),Inv X Tb σ H s->(∀b∈fp,hG X Tb H b)->tn i s.heap->J.stop i H ->
  Ov (Oy P w) X.A (Pn (.ref it)) (λ r s1=>r=Oo/\Inv X Tb σ H s1) E s
 self:∀(A:OD) (i:Nat) (s:Ot) (Q:VS) (E:VS),tn i s.heap->Q (.ref it) s->Ov (Oy P w) A (RM (.ref it)) Q E s
abbrev TI:=St->Hp->(It->Hp->Prop)->Prop
def WR(X:Cx)(Tb:LO)(σ:St)(tg:Expr)(R:It->Hp->Prop)(itv:Value)(s2:Ot):Prop :=
 ∃(it:Os) (fp:List Os) (tn:Nat->OH->Prop) (J:It) (H':Hp),itv=.ref it/\Inv X Tb σ H' s2/\Uw X.prog X.w X.K tg J fp it tn/\tn 0 s2.heap/\(∀b∈fp,hG X Tb H' b)/\R J H'
def PI(X:Cx)(tg iter:Expr)(wi:TI):Prop :=
 ∀(Tb:LO) (s:Ot) (σ:St) (H:Hp) (R:It->Hp->Prop),Inv X Tb σ H s->wi σ H R ->
  Ov (Oy X.prog X.w) X.A (eval iter X.env) (λ v s1=>Ov (Oy X.prog X.w) X.A (RM v) (WR X Tb σ tg R) X.xe s1) X.xe s
theorem kN{s:Ot}{it:Os}{vs:Array Value}{Q:Unit->Ot->Prop}(ho:s.heap.get? it=Om o)(hc:o.cls=.type n)(hd:o.data=.fields vs)
    (hn:["enumerate","zip","dict_itemiterator","dict_reverseitemiterator","odict_iterator","itertools.zip_longest","itertools.pairwise"].contains n=Op) (hQ:Q () s):Ov M A (Pw tg (.ref it) u) Q E s:=by
  unfold Pw
  cases tg<;>first
    |exact au hQ
    | (cases u<;>first
        |exact au hQ
        | (refine ae (s1e ho ?_)
           rw[hc,hd];show Ov M A (if (["enumerate","zip","dict_itemiterator","dict_reverseitemiterator","odict_iterator","itertools.zip_longest","itertools.pairwise"].contains n&&vs[0]? == Om (OO _))=On then _ else _) Q E s;rw[XR (by intro h;rw[hn,s0c] at h;cases h)]
           exact au hQ))
noncomputable def Wt(K:FG)(a:Os):It :=
 ⟨λ i H=>∃xs x,SqL K H a xs/\xs[i]?=Om x,λ i H x H'=>H'=H/\∀xs,SqL K H a xs->xs[i]?=Om x,λ i H=>∃xs,SqL K H a xs/\xs.length<=i⟩
noncomputable def Wu(K:FG)(a:Os):It :=
 ⟨λ i H=>∃xs x,SqT K H a xs/\xs[i]?=Om x,λ i H x H'=>H'=H/\∀xs,SqT K H a xs->xs[i]?=Om x,λ i H=>∃xs,SqT K H a xs/\xs.length<=i⟩
noncomputable def VU(lo:Int)(n:Nat):It:=⟨λ i _=>i<n,λ i H x H'=>H'=H/\x=.int (lo+i),λ i _=>n<=i⟩
theorem BL{K:FG}(a it:Os):Uw P w K tg (Wt K a) [it] it (λ i h=>h.IsListIter it a i) where
 mem:=on
 obj:=λ i h st b hb=>by
  have e:b=it:=by simpa using hb
  subst e;obtain⟨o,e,c,d⟩:=st;exact⟨o,e,λ v z=>by rw[d] at z;cases z⟩
 keep:=λ i h h' st k=>st.at λ o e=>k it on o e
 item:=by
  intro X hP hw hK hc i Tb s σ H E I hf st hg;subst hP hw hK;obtain⟨xs,x,hq,hx⟩:=hg;obtain⟨its,rv,p,hz⟩:=I.list hq;obtain⟨u,hu,ru⟩:=rv.get hx;obtain⟨f0,f1,f2,f3,f4,f5⟩:=hf it on;refine wpAny_pyNext_list_item st p.isList (x:=u) (by simpa using hu) λ h' st' sb=>?_;have I1:Inv X Tb σ H { s with heap:=h' }:=I.turned (t':=s.toks) (λ b o hb e=>(sb.2 b hb).trans e) f0 f1 f3 f4 f5;obtain⟨o,e,c,d⟩:=id st';exact⟨u,O,kN (s:={ s with heap:=h' }) e c d ca ⟨x,H,I1,ru,⟨O,λ ys hy=>by rw[I.list_inj hy hq];exact hx⟩,st',λ b hb=>(hf b hb).1⟩⟩
 done:=by
  intro X hP hw hK hc i Tb s σ H E I hf st hg;subst hP hw hK;obtain⟨xs,hq,hx⟩:=hg;obtain⟨its,rv,p,hz⟩:=I.list hq;obtain⟨f0,f1,f2,f3,f4,f5⟩:=hf it on;have hl:=rv.length;exact wpAny_pyNext_list_end (I.ok.hd hc) st p.isList (by simp;lia) λ h' eb=>⟨O,I.turned (t':=s.toks) (λ b o hb e=>eb b o hb e) f0 f1 f3 f4 f5⟩
 self:=λ _ _ _ _ _ st h=>wpAny_pyIter_listiter st h
theorem BM{K:FG}(a it:Os):Uw P w K tg (Wu K a) [it] it (λ i h=>h.IsTupleIter it a i) where
 mem:=on
 obj:=λ i h st b hb=>by
  have e:b=it:=by simpa using hb
  subst e;obtain⟨o,e,c,d⟩:=st;exact⟨o,e,λ v z=>by rw[d] at z;cases z⟩
 keep:=λ i h h' st k=>st.at λ o e=>k it on o e
 item:=by
  intro X hP hw hK hc i Tb s σ H E I hf st hg;subst hP hw hK;obtain⟨xs,x,hq,hx⟩:=hg;obtain⟨its,rv,p,hz⟩:=I.tuple hq;obtain⟨u,hu,ru⟩:=rv.get hx;obtain⟨f0,f1,f2,f3,f4,f5⟩:=hf it on;refine wpAny_pyNext_tuple_item st (show s.heap.IsTuple a its.toArray from p) (x:=u) (by simpa using hu) λ h' st' sb=>?_;have I1:Inv X Tb σ H { s with heap:=h' }:=I.turned (t':=s.toks) (λ b o hb e=>(sb.2 b hb).trans e) f0 f1 f3 f4 f5;obtain⟨o,e,c,d⟩:=id st';exact⟨u,O,kN (s:={ s with heap:=h' }) e c d ca ⟨x,H,I1,ru,⟨O,λ ys hy=>by rw[I.tuple_inj hy hq];exact hx⟩,st',λ b hb=>(hf b hb).1⟩⟩
 done:=by
  intro X hP hw hK hc i Tb s σ H E I hf st hg;subst hP hw hK;obtain⟨xs,hq,hx⟩:=hg;obtain⟨its,rv,p,hz⟩:=I.tuple hq;obtain⟨f0,f1,f2,f3,f4,f5⟩:=hf it on;have hl:=rv.length;exact wpAny_pyNext_tuple_end (I.ok.hd hc) st (show s.heap.IsTuple a its.toArray from p) (by simp;lia) λ h' eb=>⟨O,I.turned (t':=s.toks) (λ b o hb e=>eb b o hb e) f0 f1 f3 f4 f5⟩
 self:=λ _ _ _ _ _ st h=>wpAny_pyIter_tupleiter st h
theorem BO{K:QC}(it:Os)(lo:Int)(n:Nat):Uw P w K tg (VU lo n) [it] it (λ i h=>QJ h it (lo+(i:Nat)*1) ((n:Int)-(i:Nat)) 1) where
 mem:=on
 obj:=λ i h st b hb=>by
  have e:b=it:=by simpa using hb
  subst e
  exact⟨_,st,λ v z=>by
   have z':Data.fields _=Data.cell v:=z
   cases z'⟩
 keep:=λ i h h' st k=>k it on _ st
 item:=by
  intro X hP hw hK hc i Tb s σ H E I hf st hg;subst hP hw hK;obtain⟨f0,f1,f2,f3,f4,f5⟩:=hf it on;have W:=Walks.range (prog:=X.prog) (w:=X.w) (I.ok.hd hc) it lo 1 n;refine W.item i s _ _ hg st λ v h' tk hv st' kk=>?_;obtain⟨t,rfl⟩:=hv;have I1:Inv X Tb σ H { s with heap:=h',toks:=tk }:=I.turned (λ b o hb e=>kk b o (by simpa using hb) e) f0 f1 f3 f4 f5;refine⟨_,O,kN (s:={ s with heap:=h',toks:=tk }) (n := "range_iterator") st' rfl rfl ca ⟨.int (lo+i),H,I1,⟨t,?_⟩,⟨O,O⟩,st',λ b hb=>(hf b hb).1⟩⟩;rw[s0h]
 done:=by
  intro X hP hw hK hc i Tb s σ H E I hf st hg;subst hP hw hK;obtain⟨f0,f1,f2,f3,f4,f5⟩:=hf it on;exact uj (I.ok.hd hc) st (by have:n<=i:=hg;lia) λ h' eb=>⟨O,I.turned (t':=s.toks) (λ b o hb e=>eb b o hb e) f0 f1 f3 f4 f5⟩
 self:=λ _ _ _ _ _ st h=>uk st h
section
variable {tg:Expr}
theorem BP{R:It->Hp->Prop}{lo hi:Int}{tk:Nat}(I:Inv X Tb σ H s)(h1:-(2 ^ 62)<=lo)(h2:lo<2 ^ 62)(h3:-(2 ^ 62)<=hi)(h4:hi<2 ^ 62)
  (q:R (VU lo (hi-lo).toNat) H):Ov (Oy X.prog X.w) X.A (RM (.ref s.heap.objs.size)) (WR X Tb σ tg R) E { s with heap:=s.heap.push { cls:=.type "range",data:=.fields #[.int lo t,.int hi u,.int 1 v] },toks:=tk }:=by
 refine s0p (IsRange.new ..) (small_one h1 h2 h3 h4) ?_;have I1:Inv X Tb σ H { s with heap:=s.heap.push { cls:=.type "range",data:=.fields #[.int lo t,.int hi u,.int 1 v] },toks:=tk }:=I.kept λ b o e=>aM _ e
 refine⟨(s.heap.push { cls:=.type "range",data:=.fields #[.int lo t,.int hi u,.int 1 v] }).objs.size,[(s.heap.push { cls:=.type "range",data:=.fields #[.int lo t,.int hi u,.int 1 v] }).objs.size],_,_,H,O,
  I1.kept (t':=tk) λ b o e=>aM _ e,BO _ lo (hi-lo).toNat,?_,λ b hb=>?_,q⟩
 .have e1:lo+((0:Nat):Int)*1=lo:=by simp
  have e2:(((hi-lo).toNat:Nat):Int)-((0:Nat):Int)=OJ lo hi 1:=by rw[rangeSize_one];split<;>lia
  show QJ _ _ (lo+((0:Nat):Int)*1) ((((hi-lo).toNat:Nat):Int)-((0:Nat):Int)) 1;rw[e1,e2];exact bn _ rfl
 .have e:b=(s.heap.push { cls:=.type "range",data:=.fields #[.int lo t,.int hi u,.int 1 v] }).objs.size:=by simpa using hb
  subst e;exact I1.fpOk (ao _) (I1.hok.fresh (ao _))
def BQ(ta:TA):TI:=λ σ H R=>ta σ H λ vs H1=>∃j:Int,vs=[.int j]/\-(2 ^ 62)<=j/\j<2 ^ 62/\R (VU 0 j.toNat) H1
def BR{a:Expr}{p pos:Pos}(hg:Gl X "range")(hm:X.mg "range"=Oo)(ha:PA X [a] ta)(hs:autoParam (OI [a] X.env=[(Op,eval a X.env)]) A8._auto_1):PI X tg (.Call (.Name "range" p) [a] [] pos) (BQ ta):=by
 intro Tb s σ H R I h;refine QE (eh I hg hm boot_range (fY (Tl (ha pos Tb s σ H _ I h) λ us s1 ⟨vs,H1,I1,r1,q1⟩=>?_) hs rfl));obtain⟨j,e,q1,q2,q⟩:=q1;subst e
 cases r1 with
 |cons r rr=>
  cases rr;obtain⟨t,rfl⟩:=r;exact call_range_1 (BP I1 Z Z q1 q2 (by simpa using q))
def BS(wi:TI)(g:TG)(tb:TS):TS:=λ D σ H=>wi σ H λ J H1=>∃W:Nat->Nat->St->Hp->Prop,(∃m,W 0 m σ H1)/\∀i m σ H,W i m σ H ->
 (J.stop i H/\D.nx σ H)\/(J.go i H/\∃N:St->Hp->Prop,(∀σ' H',N σ' H'->∃m',m'<m/\W (i+1) m' σ' H')/\∀x H',J.yld i H x H'->g x σ H' λ σ2 H2=>tb { D with nx:=N,ct:=N,bk:=D.nx } σ2 H2)
noncomputable def mS(fp:List Os)(h:OH):LO:=fp.filterMap λ b=>(h.get? b).map λ o=>(b,o)
def jD{fp:List Os}{h:OH}{b:Os}(hb:b∈fp)(e:h.get? b=Om o):(b,o)∈mS fp h:=s0q.mpr ⟨b,hb,by rw[e];rfl⟩
def BU{fp:List Os}{h:OH}{p:Os×Obj}(hp:p∈mS fp h):p.1∈fp/\h.get? p.1=Om p.2:=by
 obtain⟨b,hb,e⟩:=s0q.mp hp
 cases q:h.get? b with
 |none=>rw[q] at e;cases e
 |some o=>
  rw[q] at e;have e':(b,o)=p:=bw e;subst e';exact⟨hb,q⟩
def Inv.pinned{fp:List Os}(I:Inv X Tb σ H s)(hf:∀b∈fp,hG X Tb H b)(ho:∀b∈fp,∃o,s.heap.get? b=Om o/\∀v,o.data≠.cell v):Inv X (Tb++mS fp s.heap) σ H s :=
 I.pins_of λ p hp=>(bX.mp hp).elim (λ z=>I.pin p (bH _ z)) λ z=>by
  obtain⟨hb,e⟩:=BU z;obtain⟨f0,f1,f2,_⟩:=hf p.1 hb;obtain⟨o,e',d⟩:=ho p.1 hb;rw[e] at e';cases e';exact⟨e,f0,f1,f2,d⟩
def Inv.unpinned{Tb pl:LO}(I:Inv X (Tb++pl) σ H s):Inv X Tb σ H s:=I.pins_of λ p hp=>I.pin p (bH _ (fG _ hp))
theorem BV{iter:Expr}(hp:PassesOwn (Oy X.prog X.w) X.A X.env X.xe)(hc:X.calm=On)(hi:PI X tg iter wi)(hg:PG X tg g)(hb:PSs X body tb)
  (hs:autoParam (∀x,Qy iter X.env x=OM x) A4._auto_1):PS X (.For tg iter body [] pos) (BS wi g tb):=by
 intro Tb s σ H D I h;refine wpAny_For (Tl (hi Tb s σ H _ I h) λ v s1 h1=>Tl h1 λ itv s2 h2=>?_) hs;obtain⟨it,fp,tn,J,H2,e,I2,T,st2,f2,W,⟨m0,w0⟩,turn⟩:=h2;subst e;have stat:∀ {H':Hp},(∀b∈fp,H' b=Oo)->∀b∈fp,hG X Tb H' b:=λ hn b hb=>⟨hn b hb,(f2 b hb).2⟩;refine codeAny_forLoop_any (λ n s'=>∃i σ' H',Inv X Tb σ' H' s'/\tn i s'.heap/\(∀b∈fp,H' b=Oo)/\W i n σ' H') ?_ m0 ⟨0,σ,H2,I2,st2,λ b hb=>(f2 b hb).1,w0⟩;rintro n s3 ⟨i,σ3,H3,I3,st3,fr3,w3⟩
 rcases turn i n σ3 H3 w3 with ⟨stop,qn⟩|⟨go,N,hN,step⟩
 .refine kO hp (Tl (T.done X rfl rfl rfl hc i Tb s3 σ3 H3 X.xe I3 (stat fr3) st3 stop) λ r s4 ⟨hr,I4⟩=>?_);subst hr;exact mO ⟨σ3,H3,I4,qn⟩
 .refine kO hp (Tl (T.item X rfl rfl rfl hc i Tb s3 σ3 H3 X.xe I3 (stat fr3) st3 go) λ r s4 ⟨u,hr,h4⟩=>?_);subst hr;refine kO hp (Tl h4 λ _ s5 ⟨x,H5,I5,r5,y5,st5,fr5⟩=>?_);have I5':=I5.pinned (stat fr5) (T.obj _ _ st5);refine kO hp (Tl (hg _ s5 σ3 H5 x u _ I5' r5 (step x H5 y5)) λ _ s6 ⟨σ6,H6,I6,q6⟩=>?_);refine kO hp (Tl (hb _ s6 σ6 H6 _ I6 q6) λ f s7 q7=>?_)
  have RJ:∀ {σ7:St}{H7:Hp},Inv X (Tb++mS fp s5.heap) σ7 H7 s7->N σ7 H7->∃m,m<n/\∃i σ' H',Inv X Tb σ' H' s7/\tn i s7.heap/\(∀b∈fp,H' b=Oo)/\W i m σ' H':=λ {σ7 H7} I7 n7=>by
   obtain⟨m',hm,w7⟩:=hN σ7 H7 n7;refine⟨m',hm,i+1,σ7,H7,I7.unpinned,T.keep _ _ _ st5 λ b hb o e=>(I7.pin (b,o) (bH _ (bH _ (jD hb e)))).1,λ b hb=>?_,w7⟩;obtain⟨o,e,d⟩:=T.obj _ _ st5 b hb;exact(I7.pin (b,o) (bH _ (bH _ (jD hb e)))).2.1
  cases f with
  |next|cont=>obtain⟨σ7,H7,I7,n7⟩:=q7;exact RJ I7 n7
  |brk=>obtain⟨σ7,H7,I7,q7⟩:=q7;exact⟨σ7,H7,I7.unpinned,q7⟩
  |ret v=>obtain⟨x7,σ7,H7,I7,r7,q7⟩:=q7;exact⟨x7,σ7,H7,I7.unpinned,r7,q7⟩
end
abbrev R2:=V->V->Hp->VK->Prop
def TB(X:Cx)(f:Value->Value->Sem Value)(r:R2):Prop :=
 ∀(Tb:LO) (s:Ot) (σ:St) (H:Hp) (x y:V) (v u:Value) (Q:VK),Inv X Tb σ H s->RelV x v->RelV y u->r x y H Q ->
  Ov (Oy X.prog X.w) X.A (f v u) (EP X Tb σ Q) X.xe s
def Wv(X:Cx)(f:Value->Sem Value)(r:V->Hp->VK->Prop):Prop :=
 ∀(Tb:LO) (s:Ot) (σ:St) (H:Hp) (x:V) (v:Value) (Q:VK),Inv X Tb σ H s->RelV x v->r x H Q ->
  Ov (Oy X.prog X.w) X.A (f v) (EP X Tb σ Q) X.xe s
def bY(X:Cx)(f:Value)(r:List V->Hp->VK->Prop):Prop :=
 ∀(Tb:LO) (s:Ot) (σ:St) (H:Hp) (xs:List V) (us:LV) (Q:VK),Inv X Tb σ H s->Vals xs us->r xs H Q ->
  Ov (Oy X.prog X.w) X.A (call f us) (EP X Tb σ Q) X.xe s
def Vs(r:R2)(ta tb:TE):TE:=λ σ H Q=>ta σ H λ x H1=>tb σ H1 λ y H2=>r x y H2 Q
def tUn(r:V->Hp->VK->Prop)(ta:TE):TE:=λ σ H Q=>ta σ H λ x H1=>r x H1 Q
def rI(C:Int->Int->Prop)(g:Int->Int->V):R2:=λ x y H Q=>pS x y λ i j=>C i j/\Q (g i j) H
def UO(g:Int->Int->V):R2:=λ x y H Q=>pS x y λ i j=>Q (g i j) H
def rU(g:Int->V):V->Hp->VK->Prop:=λ x H Q=>isI x λ i=>Q (g i) H
section
variable {a b c:Expr}{ta tb tc:TE}{pos:Pos}
theorem pY(ha:PE X a ta)(hb:PE X b tb){R:V->V->Hp->Prop}(I:Inv X Tb σ H s)
  (h:ta σ H λ x H1=>tb σ H1 λ y H2=>R x y H2){f:Value->Value->Sem Value}
  (hf:∀v u s2 x y H2,Inv X Tb σ H2 s2->RelV x v->RelV y u->R x y H2->Ov (Oy X.prog X.w) X.A (f v u) Q X.xe s2) :
  Ov (Oy X.prog X.w) X.A (eval a X.env) (λ v s₁=>Ov (Oy X.prog X.w) X.A (eval b X.env) (λ u s₂=>Ov (Oy X.prog X.w) X.A (f v u) Q X.xe s₂) X.xe s₁) X.xe s:=by
 refine Tl (ha Tb s σ H _ I h) λ v s1 ⟨x,H1,I1,r1,q1⟩=>?_;refine Tl (hb Tb s1 σ H1 _ I1 q1) λ u s2 ⟨y,H2,I2,r2,q2⟩=>?_;exact hf v u s2 x y H2 I2 r1 r2 q2
def BW(ho:TB X (Pa op) r)(ha:PE X a ta)(hb:PE X b tb):PE X (.BinOp a op b pos) (Vs r ta tb):=by
 intro Tb s σ H Q I h;exact wpAny_BinOp (pY ha hb I h λ v u s2 x y H2 I2 rx ry q=>ho Tb s2 σ H2 x y v u Q I2 rx ry q)
def BX(ho:Wv X (unaryOp op) r)(ha:PE X a ta):PE X (.UnaryOp op a pos) (tUn r ta):=by
 intro Tb s σ H Q I h;exact UnaryOp_ (Tl (ha Tb s σ H _ I h) λ v s1 ⟨x,H1,I1,r1,q1⟩=>ho Tb s1 σ H1 x v Q I1 r1 q1)
theorem Vm{f:Value->Value->Sem Value}{C:Int->Int->Prop}{g:Int->Int->Int}
  (Rx:∀(i j:Int) (t u:Tok) (s:Ot) (Q:VS) (E:VS),C i j->Q (.int (g i j) s.toks) { s with toks:=s.toks+1 }->Ov (Oy X.prog X.w) X.A (f (.int i t) (.int j u)) Q E s) :
  TB X f (rI C λ i j=>.int (g i j)):=by
 intro Tb s σ H x y v u Q I rx ry h;obtain⟨i,j,rfl,rfl,hc,q⟩:=pU h;obtain⟨t,rfl⟩:=rx;obtain⟨t',rfl⟩:=ry;exact Rx i j t t' s _ _ hc ⟨.int (g i j),H,I.tok _,⟨_,O⟩,q⟩
theorem kP{f:Value->Value->Sem Value}{g:Int->Int->Int}
  (Rx:∀(i j:Int) (t u:Tok) (s:Ot) (Q:VS) (E:VS),Q (.int (g i j) s.toks) { s with toks:=s.toks+1 }->Ov (Oy X.prog X.w) X.A (f (.int i t) (.int j u)) Q E s) :
  TB X f (UO λ i j=>.int (g i j)):=by
 intro Tb s σ H x y v u Q I rx ry h;obtain⟨i,j,rfl,rfl,q⟩:=pU h;obtain⟨t,rfl⟩:=rx;obtain⟨t',rfl⟩:=ry;exact Rx i j t t' s _ _ ⟨.int (g i j),H,I.tok _,⟨_,O⟩,q⟩
theorem mU{f:Value->Value->Sem Value}{g:Int->Int->Bool}
  (Rx:∀(i j:Int) (t u:Tok) (s:Ot) (Q:VS) (E:VS),Q (.bool (g i j)) s->Ov (Oy X.prog X.w) X.A (f (.int i t) (.int j u)) Q E s) :
  TB X f (UO λ i j=>.bl (g i j)):=by
 intro Tb s σ H x y v u Q I rx ry h;obtain⟨i,j,rfl,rfl,q⟩:=pU h;obtain⟨t,rfl⟩:=rx;obtain⟨t',rfl⟩:=ry;exact Rx i j t t' s _ _ ⟨.bl (g i j),H,I,O,q⟩
def kQ(i j:Int):Prop:=0<=j/\j<=1000000/\i.natAbs<2 ^ 64
def CMul(i j:Int):Prop:=(-(2 ^ 64)<i/\i<2 ^ 64)\/(-(2 ^ 64)<j/\j<2 ^ 64)
def CMul.ok(h:CMul i j):QO i j:=by
 rcases h with ⟨h1,h2⟩|⟨h1,h2⟩
 .exact .of_left (Sz h1 h2)
 .exact .of_right (Sz h1 h2)
def BY(k:Nat):(0:Int)<=2 ^ k:=by
 rw[two_pow_cast];exact s0r _
def BZ:TB X (Pa .Add) (UO λ i j=>.int (i+j)):=kP λ _ _ _ _ _ _ _ q=>add_int q
def Ca:TB X (Pa .Sub) (UO λ i j=>.int (i-j)):=kP λ _ _ _ _ _ _ _ q=>sub_int q
def Cb:TB X (Pa .Mod) (rI (λ _ j=>0<j) λ i j=>.int (i%j)):=Vm λ i j _ _ _ _ _ hc q=>by
 have h1:(0:Int)<j:=hc;exact mod_int' Z (by rw[um i Z];exact q)
def Cc:TB X (Pa .Mod) (rI (λ _ j=>j≠0) λ i j=>.int (i.fmod j)):=Vm λ _ _ _ _ _ _ _ hc q=>mod_int' hc q
def Ce:TB X (Pa .Pow) (rI kQ λ i j=>.int (i ^ j.toNat)):=Vm λ _ _ _ _ _ _ _ hc q=>pow_int_small hc.1 hc.2.1 hc.2.2 q
def Cf:TB X (Pa .RShift) (rI (λ _ j=>0<=j) λ i j=>.int (i/2 ^ j.toNat)):=Vm λ i j _ _ _ _ _ hc q=>
 rshift_int hc (by rw[mV i (BY _)];exact q)
def Cg:TB X (Pa .BitAnd) (UO λ i j=>.int (Builtin.bitAnd i j)):=kP λ _ _ _ _ _ _ _ q=>and_int q
def Ch:TB X (Pa .BitOr) (UO λ i j=>.int (Builtin.bitOr i j)):=kP λ _ _ _ _ _ _ _ q=>or_int q
def Ci:TB X (Pa .BitXor) (UO λ i j=>.int (Builtin.bitXor i j)):=kP λ _ _ _ _ _ _ _ q=>xor_int q
theorem unI{f:Value->Sem Value}{g:Int->Int}
  (Rx:∀(i:Int) (t:Tok) (s:Ot) (Q:VS) (E:VS),Q (.int (g i) s.toks) { s with toks:=s.toks+1 }->Ov (Oy X.prog X.w) X.A (f (.int i t)) Q E s) :
  Wv X f (rU λ i=>.int (g i)):=by
 intro Tb s σ H x v Q I rx h;obtain⟨i,rfl,q⟩:=Bj h;obtain⟨t,rfl⟩:=rx;exact Rx i t s _ _ ⟨.int (g i),H,I.tok _,⟨_,O⟩,q⟩
def Cj:Wv X (unaryOp .USub) (rU λ i=>.int (-i)):=unI λ _ _ _ _ _ q=>neg_int q
end
noncomputable def du:V->V->Bool
 |.non,.non=>On|.non,.int _=>On|.int _,.non=>On|.non,.bl _=>On|.bl _,.non=>On|.non,.str _=>On|.str _,.non=>On
 |.int _,.int _=>On|.bl _,.bl _=>On|.str _,.str _=>On|.byt _,.byt _=>On
 |.int _,.str _=>On|.str _,.int _=>On|.bl _,.str _=>On|.str _,.bl _=>On
 |_,_=>Op
def Ww:R2:=λ x y H Q=>match x,y with
 |.int i,.int j=>Q (.bl (decide (i=j))) H
 |.str i,.str j=>Q (.bl (decide (i=j))) H
 |x,y=>du x y=On/\Q (.bl (decide (x=y))) H
def WS(i j:Int):decide (V.int i=V.int j)=decide (i=j):=pZ.mpr ⟨λ h=>V.int.inj h,λ h=>h ▸ rfl⟩
def WT(i j:Str):decide (V.str i=V.str j)=decide (i=j):=pZ.mpr ⟨λ h=>V.str.inj h,λ h=>h ▸ rfl⟩
def mW(p:Prop):p=(On=On/\p):=propext ⟨λ h=>⟨rfl,h⟩,λ h=>h.2⟩
def rEq_ex:Ww x y H Q=(du x y=On/\Q (.bl (decide (x=y))) H):=by
 cases x<;>cases y<;>first|rfl|(rw[WS];exact mW _)|(rw[WT];exact mW _)
def Ck(h:Ww x y H Q):du x y=On/\Q (.bl (decide (x=y))) H:=rEq_ex.mp h
def Wx:R2:=λ x y H Q=>match x,y with
 |.int i,.int j=>Q (.bl (!decide (i=j))) H
 |.str i,.str j=>Q (.bl (!decide (i=j))) H
 |x,y=>du x y=On/\Q (.bl (!decide (x=y))) H
def rNe_ex:Wx x y H Q=(du x y=On/\Q (.bl (!decide (x=y))) H):=by
 cases x<;>cases y<;>first|rfl|(rw[WS];exact mW _)|(rw[WT];exact mW _)
def Cm(h:Wx x y H Q):du x y=On/\Q (.bl (!decide (x=y))) H:=rNe_ex.mp h
def uo:decide (V.int i=V.int j)=(i == j):=by
 rw[kR];simp
def uq:decide (V.bl i=V.bl j)=(i == j):=by
 rw[kR];simp
def ur:decide (V.str i=V.str j)=(i == j):=by
 rw[kR];simp
def ut:decide (V.byt i=V.byt j)=(i.toList == j.toList):=by
 rw[kR];cases i;cases j;simp
section
variable {a b c:Expr}{ta tb tc:TE}{pos:Pos}
def bx{Q:VK}{k k':Bool}(I:Inv X Tb σ H s)(q:Q (.bl k) H)(e:k=k'):EP X Tb σ Q (.bool k') s:=by
 subst e;exact⟨.bl k,H,I,O,q⟩
def iQ:TB X (OV .Eq) Ww:=by
 intro Tb s σ H x y v u Q I rx ry h;obtain⟨hs,q⟩:=Ck h
 cases x with
 |non=>
  cases rx
  cases y with
  |non=>cases ry;exact PySem.EqNone.eq_none_none (bx I q on)
  |bl j=>cases ry;exact PySem.EqNone.eq_none_bool (bx I q on)
  |int j=>obtain⟨t',rfl⟩:=ry;exact PySem.EqNone.eq_none_int (bx I q on)
  |str j=>obtain⟨t',rfl⟩:=ry;exact PySem.EqNone.eq_none_str (bx I q on)
  |_=>exact XU (show Op=On from hs) bK
 |bl i=>
  cases rx
  cases y with
  |non=>cases ry;exact PySem.EqNone.eq_bool_none (bx I q on)
  |bl j=>cases ry;exact eq_bool (bx I q uq)
  |str j=>obtain⟨t',rfl⟩:=ry;exact PySem.EqMixed.eq_bool_str (bx I q on)
  |_=>exact XU (show Op=On from hs) bK
 |int i=>
  obtain⟨t,rfl⟩:=rx
  cases y with
  |non=>cases ry;exact PySem.EqNone.eq_int_none (bx I q on)
  |int j=>obtain⟨t',rfl⟩:=ry;exact eq_int (bx I q uo)
  |str j=>obtain⟨t',rfl⟩:=ry;exact PySem.EqMixed.eq_int_str (bx I q on)
  |_=>exact XU (show Op=On from hs) bK
 |str i=>
  obtain⟨t,rfl⟩:=rx
  cases y with
  |non=>cases ry;exact PySem.EqNone.eq_str_none (bx I q on)
  |bl j=>cases ry;exact PySem.EqMixed.eq_str_bool (bx I q on)
  |int j=>obtain⟨t',rfl⟩:=ry;exact PySem.EqMixed.eq_str_int (bx I q on)
  |str j=>obtain⟨t',rfl⟩:=ry;exact eq_str (bx I q ur)
  |_=>exact XU (show Op=On from hs) bK
 |byt i=>
  obtain⟨t,rfl⟩:=rx
  cases y with
  |byt j=>obtain⟨t',rfl⟩:=ry;exact W.eq_bytes (bx I q ut)
  |_=>exact XU (show Op=On from hs) bK
 |_=>cases y<;>exact XU (show Op=On from hs) bK
def iR:TB X (OV .NotEq) Wx:=by
 intro Tb s σ H x y v u Q I rx ry h;obtain⟨hs,q⟩:=Cm h
 cases x with
 |non=>
  cases rx
  cases y with
  |non=>cases ry;exact PySem.EqNone.ne_none_none (bx I q on)
  |bl j=>cases ry;exact PySem.EqNone.ne_none_bool (bx I q on)
  |int j=>obtain⟨t',rfl⟩:=ry;exact PySem.EqNone.ne_none_int (bx I q on)
  |str j=>obtain⟨t',rfl⟩:=ry;exact PySem.EqNone.ne_none_str (bx I q on)
  |_=>exact XU (show Op=On from hs) bK
 |bl i=>
  cases rx
  cases y with
  |non=>cases ry;exact PySem.EqNone.ne_bool_none (bx I q on)
  |bl j=>cases ry;exact ne_bool (bx I q (bA not uq))
  |str j=>obtain⟨t',rfl⟩:=ry;exact PySem.EqMixed.ne_bool_str (bx I q on)
  |_=>exact XU (show Op=On from hs) bK
 |int i=>
  obtain⟨t,rfl⟩:=rx
  cases y with
  |non=>cases ry;exact PySem.EqNone.ne_int_none (bx I q on)
  |int j=>obtain⟨t',rfl⟩:=ry;exact ne_int (bx I q (bA not uo))
  |str j=>obtain⟨t',rfl⟩:=ry;exact PySem.EqMixed.ne_int_str (bx I q on)
  |_=>exact XU (show Op=On from hs) bK
 |str i=>
  obtain⟨t,rfl⟩:=rx
  cases y with
  |non=>cases ry;exact PySem.EqNone.ne_str_none (bx I q on)
  |bl j=>cases ry;exact PySem.EqMixed.ne_str_bool (bx I q on)
  |int j=>obtain⟨t',rfl⟩:=ry;exact PySem.EqMixed.ne_str_int (bx I q on)
  |str j=>obtain⟨t',rfl⟩:=ry;exact ne_str (bx I q (bA not ur))
  |_=>exact XU (show Op=On from hs) bK
 |byt i=>
  obtain⟨t,rfl⟩:=rx
  cases y with
  |byt j=>obtain⟨t',rfl⟩:=ry;exact W.ne_bytes (bx I q (bA not ut))
  |_=>exact XU (show Op=On from hs) bK
 |_=>cases y<;>exact XU (show Op=On from hs) bK
def Cn:TB X (OV .Lt) (UO λ i j=>.bl (decide (i<j))):=mU λ _ _ _ _ _ _ _ q=>lt_int q
def Co:TB X (OV .LtE) (UO λ i j=>.bl (decide (i<=j))):=mU λ _ _ _ _ _ _ _ q=>le_int q
def Cp:TB X (OV .Gt) (UO λ i j=>.bl (decide (j<i))):=mU λ _ _ _ _ _ _ _ q=>gt_int q
def Cq:TB X (OV .GtE) (UO λ i j=>.bl (decide (j<=i))):=mU λ _ _ _ _ _ _ _ q=>ge_int q
def Cs:TB X (OV .Is) (λ x y H Q=>y=.non/\Q (.bl (decide (x=.non))) H):=by
 intro Tb s σ H x y v u Q I rx ry h;obtain⟨rfl,q⟩:=h;cases ry;refine is_none_gen (bx I q ?_)
 cases x<;>first
  |(cases rx;rfl)
  |(obtain⟨t,rfl⟩:=rx;rfl)
def Cu:TB X (OV .IsNot) (λ x y H Q=>y=.non/\Q (.bl (!decide (x=.non))) H):=by
 intro Tb s σ H x y v u Q I rx ry h;obtain⟨rfl,q⟩:=h;cases ry;refine isnot_none_gen (bx I q ?_)
 cases x<;>first
  |(cases rx;rfl)
  |(obtain⟨t,rfl⟩:=rx;rfl)
def Cv(ho:TB X (OV op) r)(ha:PE X a ta)(hb:PE X b tb)(hm:Qw op b=Op):PE X (.Compare a [op] [b] pos) (Vs r ta tb):=by
 intro Tb s σ H Q I h;exact wpAny_Compare1 (pY ha hb I h λ v u s2 x y H2 I2 rx ry q=>ho Tb s2 σ H2 x y v u Q I2 rx ry q) hm
def uu(t:TE):TT:=λ σ H Q=>t σ H λ x H'=>isB x λ k=>Q k H'
def Cw(ho:TB X (OV op) r)(ha:PE X a ta)(hb:PE X b tb)(hm:Qw op b=Op):PT X (.Compare a [op] [b] pos) (uu (Vs r ta tb)):=by
 intro Tb s σ H Q I h
 refine wpAny_isTrue_Compare1 (Tl (ha Tb s σ H _ I h) λ v s1 ⟨x,H1,I1,r1,q1⟩=>Tl (hb Tb s1 σ H1 _ I1 q1) λ u s2 ⟨y,H2,I2,r2,q2⟩ =>
  Tl (ho Tb s2 σ H2 x y v u _ I2 r1 r2 q2) λ c s3 ⟨z,H3,I3,r3,q3⟩=>?_) hm
 obtain⟨k,e,q3⟩:=jB q3;subst e;cases r3;exact fW ⟨H3,I3,q3⟩
def uv(r r':R2)(ta tb tc:TE):TE:=λ σ H Q=>ta σ H λ x H1=>tb σ H1 λ y H2=>r x y H2 λ z H3=>∃k,z=.bl k /\
 (if k=On then tc σ H3 λ w' H4=>r' y w' H4 Q else Q (.bl Op) H3)
theorem Cy(ho:TB X (OV op) r)(ho':TB X (OV op') r')(ha:PE X a ta)(hb:PE X b tb)(hc:PE X c tc)
  (hm:autoParam (Sf [op,op'] [b,c]=Op) A3._auto_1):PE X (.Compare a [op,op'] [b,c] pos) (uv r r' ta tb tc):=by
 intro Tb s σ H Q I h
 refine Compare_chain (Tl (ha Tb s σ H _ I h) λ v s1 ⟨x,H1,I1,r1,q1⟩=>chain_link (Tl (hb Tb s1 σ H1 _ I1 q1) λ u s2 ⟨y,H2,I2,r2,q2⟩ =>
  Tl (ho Tb s2 σ H2 x y v u _ I2 r1 r2 q2) λ d s3 ⟨z,H3,I3,r3,k,e,q3⟩=>?_)) hm
 subst e;cases r3;refine fW ?_
 cases k with
 |false=>exact ite_ff ⟨.bl Op,H3,I3,rfl,q3⟩
 |true=>exact ite_tt (chain_last (Tl (hc Tb s3 σ H3 _ I3 q3) λ w' s4 ⟨z',H4,I4,r4,q4⟩=>ho' Tb s4 σ H4 y z' u w' Q I4 r2 r4 q4))
theorem Cz(ho:TB X (OV op) r)(ho':TB X (OV op') r')(ha:PE X a ta)(hb:PE X b tb)(hc:PE X c tc)
  (hm:autoParam (Sf [op,op'] [b,c]=Op) A3._auto_1):PT X (.Compare a [op,op'] [b,c] pos) (uu (uv r r' ta tb tc)):=by
 intro Tb s σ H Q I h
 refine isTrue_chain (Tl (ha Tb s σ H _ I h) λ v s1 ⟨x,H1,I1,r1,q1⟩=>test_link (Tl (hb Tb s1 σ H1 _ I1 q1) λ u s2 ⟨y,H2,I2,r2,q2⟩ =>
  Tl (ho Tb s2 σ H2 x y v u _ I2 r1 r2 q2) λ d s3 ⟨z,H3,I3,r3,k,e,q3⟩=>?_)) hm
 subst e;cases r3;refine fW ?_
 cases k with
 |false=>
  obtain⟨k',e',q'⟩:=jB (show isB (V.bl Op) (λ k=>Q k H3) from q3);cases e';exact ite_ff ⟨H3,I3,q'⟩
 |true=>
  refine ite_tt (test_last (Tl (hc Tb s3 σ H3 _ I3 q3) λ w' s4 ⟨z',H4,I4,r4,q4⟩=>Tl (ho' Tb s4 σ H4 y z' u w' _ I4 r2 r4 q4) λ d' s5 ⟨z2,H5,I5,r5,q5⟩=>?_));obtain⟨k2,e2,q5⟩:=jB q5;subst e2;cases r5;exact fW ⟨H5,I5,q5⟩
def jE:(Ou:Nat)<2 ^ 63:=by rw[jF];decide
def cz{x:V}(r:Vals [x] us):∃u,us=[u]/\RelV x u:=by
 cases r with
 |cons r1 r2=>cases r2;exact⟨_,rfl,r1⟩
def mX{x y:V}(r:Vals [x,y] us):∃u w',us=[u,w']/\RelV x u/\RelV y w':=by
 cases r with
 |cons r1 r2=>
  cases r2 with
  |cons r3 r4=>cases r4;exact⟨_,_,rfl,r1,r3⟩
def CA:bY X (.builtin "abs") (λ xs H Q=>∃i,xs=[.int i]/\Q (.int (if i<0 then -i else i)) H):=by
 intro Tb s σ H xs us Q I r h;obtain⟨i,rfl,q⟩:=h;obtain⟨u,rfl,t,rfl⟩:=cz r;exact call_abs_int λ u tk=>⟨.int (if i<0 then -i else i),H,I.tok _,⟨_,O⟩,q⟩
def CB(hc:X.calm=On):bY X (.builtin "max") (λ xs H Q=>∃i j,xs=[.int i,.int j]/\Q (.int (if j > i then j else i)) H):=by
 intro Tb s σ H xs us Q I r h;obtain⟨i,j,rfl,q⟩:=h;obtain⟨u,w',rfl,⟨t,rfl⟩,⟨t',rfl⟩⟩:=mX r;refine max_two_ints (I.ok.hd hc) λ h' tk k=>⟨_,H,I.kept k,?_,q⟩;by_cases hj:j > i
 .rw[XT hj,XT hj];exact⟨_,rfl⟩
 .rw[XR hj,XR hj];exact⟨_,rfl⟩
def CC(hc:X.calm=On):bY X (.builtin "min") (λ xs H Q=>∃i j,xs=[.int i,.int j]/\Q (.int (if j<i then j else i)) H):=by
 intro Tb s σ H xs us Q I r h;obtain⟨i,j,rfl,q⟩:=h;obtain⟨u,w',rfl,⟨t,rfl⟩,⟨t',rfl⟩⟩:=mX r;refine min_two_ints (I.ok.hd hc) λ h' tk k=>⟨_,H,I.kept k,?_,q⟩;by_cases hj:j<i
 .rw[XT hj,XT hj];exact⟨_,rfl⟩
 .rw[XR hj,XR hj];exact⟨_,rfl⟩
def uw:bY X (.type "int") (λ xs H Q=>(∃i,xs=[.int i]/\Q (.int i) H)\/∃k,xs=[.bl k]/\Q (.int (if k then 1 else 0)) H):=by
 intro Tb s σ H xs us Q I r h
 rcases h with ⟨i,rfl,q⟩|⟨k,rfl,q⟩
 .obtain⟨u,rfl,t,rfl⟩:=cz r;exact call_int_int ⟨.int i,H,I,⟨_,O⟩,q⟩
 .obtain⟨u,rfl,r1⟩:=cz r;cases r1;exact call_int_bool ⟨.int (if k then 1 else 0),H,I.tok _,⟨_,O⟩,q⟩
end
section
variable {prog:Oz}{w:OB}{A:OD}{E:VS}{s:Ot}{K:FG}{x dx C f:Os}{mA:SV}{name:Str}{v:Value}
end
section
variable {P:Oz}{w:OB}{H H':Hp}{h h':OH}{a C dx:Os}{fs fs':List (Str×V)}
end
section
variable {Tb:LO}{σ:St}{H:Hp}{s:Ot}{a C dx:Os}{fs:List (Str×V)}{f:Str}{v:V}{A:OD}{E:VS}
end
section
variable {o e value:Expr}{f:Str}{pos pos' tpos:Pos}{ta tv:TE}
end
section
variable {Tb:LO}{σ:St}{H:Hp}{s:Ot}{A:OD}{E:VS}{Q:VS}{c:Value}{b:Bool}
end
structure Room (k:Nat)(A:OD):Prop where
 hd:A.handled=Oo
 dp:A.depth+3*k+5<Sb
 un:A.units+16*k+200<Pv
def Room.mono{j k:Nat}(r:Room k A)(h:j<=k):Room j A:=⟨r.hd,by have:=r.dp;lia,by have:=r.un;lia⟩
def Room.deeper{k:Nat}(r:Room (k+1) A)(env:Env):Room k (A.deeper env) :=
 ⟨r.hd,by have:=r.dp;show A.depth+1+3*k+5<_;lia,by have:=r.un;show A.units+3+16*k+200<_;lia⟩
def Room.depth(r:Room k A):A.depth<Sb:=by have:=r.dp;lia
def kS:TA:=λ _ H Q=>Q [] H
def CD(ta:TE)(tr:TA):TA:=λ σ H Q=>ta σ H λ x H1=>tr σ H1 λ xs H2=>Q (x::xs) H2
section
variable {e:Expr}{es:List Expr}{te:TE}{t:TA}{pos:Pos}
def pa_nil:PA X [] kS:=λ _ _ _ _ H Q I h=>qd ⟨[],H,I,.nil,h⟩
def cY(ha:PE X e te)(hr:PA X es t)(hs:autoParam (OI (e::es) X.env=(Op,eval e X.env)::OI es X.env) A8._auto_1):PA X (e::es) (CD te t):=by
 intro pos Tb s σ H Q I h;rw[hs];show Ov _ _ (spliced ((Op,eval e X.env)::Pu pos (OI es X.env))) _ _ s;refine qg (Tl (ha Tb s σ H _ I h) λ u s1 ⟨x,H1,I1,r1,q1⟩=>?_);exact Tl (hr pos Tb s1 σ H1 _ I1 q1) λ us s2 ⟨xs,H2,I2,r2,q2⟩=>⟨x::xs,H2,I2,.cons r1 r2,q2⟩
def CF(t:TA):TE:=λ σ H Q=>t σ H λ xs H1=>xs.length<=Ou/\∀p,H1 p=Oo->Q (.ref p) (Tf H1 p (.tup xs))
def kU(t:TA):TE:=λ σ H Q=>t σ H λ xs H1=>xs.length<=Ou/\∀p,H1 p=Oo->Q (.ref p) (Tf H1 p (.lst xs))
def CG{x1}(h:PA X es t):PE X (.Tuple es x1 pos) (CF t):=by
 intro Tb s σ H Q I hq;refine wpAny_Tuple_spliced (Tl (h pos Tb s σ H _ I hq) λ us s1 ⟨xs,H1,I1,r,z,q⟩=>⟨by rw[<- r.length];exact z,?_⟩);have hf:H1 s1.heap.objs.size=Oo:=I1.hok.fresh (ao _);refine⟨.ref s1.heap.objs.size,Tf H1 s1.heap.objs.size (.tup xs),I1.laid (t':=s1.toks) (λ b u e=>aM _ e) (ao _) ?_,O,q _ hf⟩;exact⟨z,us,r,⟨_,bn _ rfl,⟨O,_,O⟩,O⟩⟩
def qh(h:PA X es t):PE X (.List es pos) (kU t):=by
 intro Tb s σ H Q I hq;refine wpAny_List_spliced (Tl (h pos Tb s σ H _ I hq) λ us s1 ⟨xs,H1,I1,r,z,q⟩=>⟨by rw[<- r.length];exact z,?_⟩);have hf:H1 s1.heap.objs.size=Oo:=I1.hok.fresh (ao _);refine⟨.ref s1.heap.objs.size,Tf H1 s1.heap.objs.size (.lst xs),I1.laid (t':=s1.toks) (λ b u e=>aM _ e) (ao _) ?_,O,q _ hf⟩;exact⟨z,us,0,r,bn _ rfl⟩
end
abbrev Sp:=List V->Hp->VK->XK->Prop
abbrev UC:=List Env->Hp->Ot->XK->VS
structure Uz (P:Oz)(w:OB)(K:FG)(mg:SV)(base:OH)(A:OD)(outer:List Env)(s:Ot)(H:Hp):Prop where
 frames:A.frames=Om outer
 mod:Mod K mg base
 bs:∀b o,base.get? b=Om o->s.heap.get? b=Om o/\H b=Oo
 bsz:base.objs.size<=s.heap.objs.size
 funs:s.heap.FunFrames base outer
 frf:∀b∈Us outer,H b=Oo
 hok:HOk P w H s.heap
 bare:PR s.gens
def CE(outer:List Env)(P:Oz)(w:OB)(H:Hp)(s:Ot)(Q:VK)(u:Value)(s':Ot):Prop :=
 ∃v H',s'.os=s.os/\PR s'.gens/\Un (Us outer) [] H H' s.heap s'.heap/\HOk P w H' s'.heap/\RelV v u/\Q v H'
def CR(CX:UC)(outer:List Env)(P:Oz)(w:OB)(H:Hp)(s:Ot)(Q:VK)(E:XK)(r:QW)(s':Ot):Prop :=
 match r with
 |.ok (.ret u)=>CE outer P w H s Q u s'
 |.ok _=>False
 |.error e=>CX outer H s E e s'
structure FnOk (P:Oz)(w:OB)(K:FG)(mg:SV)(base:OH)(CX:UC)(k:Nat)(f:Os)(fd:OT)(ps:List Str)(sp:Sp):Prop where
 len:∀vs H Q E,sp vs H Q E->vs.length=ps.length
 run:∀(A:OD) (outer:List Env) (s:Ot) (H:Hp) (args:Args) (us:LV) (vs:List V) (Q:VK) (E:XK),Room k A->Uz P w K mg base A outer s H->QL s fd args (ps.zip us)->Vals vs us->sp vs H Q E ->
  Pt (Oy P w) A (.call (.ref f) args) (CR CX outer P w H s Q E) s
theorem FnOk.mono{K:FG}{j k:Nat}(F:FnOk P w K mg base CX j f fd ps sp)(h:j<=k) :
  FnOk P w K mg base CX k f fd ps sp:=⟨F.len,λ A outer s H args us vs Q E hr=>F.run A outer s H args us vs Q E (hr.mono h)⟩
theorem FnOk.imp{K:FG}{sp sp':Sp}(F:FnOk P w K mg base CX k f fd ps sp)
  (h:∀vs H Q E,sp' vs H Q E->sp vs H Q E):FnOk P w K mg base CX k f fd ps sp' :=
 ⟨λ vs H Q E q=>F.len vs H Q E (h _ _ _ _ q),λ A outer s H args us vs Q E hr he hb hv hs=>F.run A outer s H args us vs Q E hr he hb hv (h _ _ _ _ hs)⟩
section
variable {Tb:LO}{σ:St}{H:Hp}{s s':Ot}
def Inv.env0(I:Inv X Tb σ H s):Uz X.prog X.w X.K X.mg X.base X.A X.stack s H :=
 ⟨I.ok.frames,I.ok.mod,I.bs,cG I.ok.bsz I.sz,I.stack,I.stkFree,I.hok,I.bare⟩
def Inv.after(I:Inv X Tb σ H s)(h:CE X.stack X.prog X.w H s Q u s'):EP X Tb σ Q u s':=by
 obtain⟨v,H',os,bare,un,hok,r,q⟩:=h;obtain⟨hh,g,d,t,os'⟩:=s';obtain rfl:os'=s.os:=os;exact⟨v,H',I.call (h':=hh) (g':=g) (d':=d) (t':=t) (ch:=[]) un hok bare (λ b z=>XU z on),r,q⟩
end
def uy(sp:Sp)(dvs:List V)(E:XK)(t:TA):TE:=λ σ H Q=>t σ H λ vs H1=>sp (vs++dvs) H1 Q E
def Binds(K:FG)(fd:OT)(ps:List Str)(ds:LV):Prop :=
 ∀(s:Ot) (us:LV),K.In s.heap->(us++ds).length=ps.length->QL s fd ⟨us,[]⟩ (ps.zip (us++ds))
def Binds.all{K:FG}{ps:List Str}(h:∀us:LV,us.length=ps.length->Pf fd ⟨us,[]⟩=OM (ps.zip us)):Binds K fd ps []:=λ s us _ hl=>by
 rw[eE] at hl ⊢;exact .of_eq (h us hl)
def mY(CX:UC)(X:Cx)(E:XK):Prop:=∀(Tb:LO) (σ:St) (H:Hp) (s:Ot) (e:Value) (s':Ot),Inv X Tb σ H s->CX X.stack H s E e s'->X.xe e s'
section
variable {CX:UC}{k:Nat}{f C:Os}{fd:OT}{ps:List Str}{sp:Sp}{dvs:List V}{ds:LV}{E:XK}{x m:Str}{p pos apos:Pos}{e o:Expr}{es:List Expr}{ta:TE}{t:TA}
theorem CH{vs:List V}(F:FnOk X.prog X.w X.K X.mg X.base CX k f fd ps sp)(hr:Room k X.A)(hb:Binds X.K fd ps ds)(hd:Vals dvs ds)(hx:mY CX X E)
  (I:Inv X Tb σ H s) (r:Vals vs us) (h:sp (vs++dvs) H Q E):Ov (Oy X.prog X.w) X.A (call (.ref f) us) (EP X Tb σ Q) X.xe s:=by
 have r2:Vals (vs++dvs) (us++ds):=r.append hd;have hl:(us++ds).length=ps.length:=by rw[<- r2.length];exact F.len _ _ _ _ h
 refine RQ (kW (F.run X.A X.stack s H ⟨us,[]⟩ (us++ds) (vs++dvs) Q E hr I.env0 (hb s us I.kIn hl) r2 h) λ r s' hq=>?_)
 cases r with
 |error e=>exact hx Tb σ H s e s' I hq
 |ok fl=>
  cases fl with
  |ret u=>exact I.after hq
  |next|brk|cont=>exact OY hq
theorem CI(F:FnOk X.prog X.w X.K X.mg X.base CX k f fd ps sp)(hr:Room k X.A)(hg:Gl X x)(hm:X.mg x=Om (.ref f))(hk:W.keepIn X.K (.ref f)=On)(hb:Binds X.K fd ps ds)(hd:Vals dvs ds)(hx:mY CX X E)
  (ha:PA X (e::es) t) (hdb:autoParam ((x == ("__debug__" : Str))=Op) ca._auto_1) (he:autoParam (OI (e::es) X.env=(Op,eval e X.env)::OI es X.env) A8._auto_1) (hpl:autoParam ((Pu pos (OI es X.env)).any (·.1)=Op) A8._auto_1) :
  PE X (.Call (.Name x p) (e::es) [] pos) (uy sp dvs E t):=by
 intro Tb s σ H Q I h;refine jG (mN I hg hm ?_ hdb);refine W.callWith_K (h₀:=X.base) I.ok.mod.kin hk (Tl (ha pos Tb s σ H _ I h) λ us s1 ⟨vs,H1,I1,r,q⟩=>⟨I1.kIn,?_⟩) he hpl;exact CH F hr hb hd hx I1 r q
end
section
variable {CX:UC}{k:Nat}{f C:Os}{fd:OT}{ps ks:List Str}{sp:Sp}{E:XK}{x m:Str}{p pos apos kpos:Pos}{e o:Expr}{es:List Expr}{kws:List QA}{te ta:TE}{t tk:TA}{nm:Option Str}
variable {g:LV->LV->LV}{gV:List V->List V->List V}
end
structure Tt (N P:List Str)(sc:Scope):Prop where
 kind:sc.kind=.function
 co:sc.isCoroutine=Op
 gen:sc.isGenerator=Op
 nd:N.Nodup
 pre:N.take P.length=P
 par:∀x∈P,sc.names.lookup x=Om .local\/sc.names.lookup x=Om .cell
 nofree:∀y∈sc.names,y.2≠.free
theorem uz{kindOf:Str->Option OF}{x:Str}:∀ {binds:List (Str×Value)}{m:SV},(∀v,(x,v) ∉ binds)->Qc kindOf binds m x=m x
 |[],_,_=>rfl
 |(n,v)::r,m,h=>by
  unfold Qc;rw[uz λ w hw=>h w (aV _ hw)];split
  .have:x≠n:=by rintro rfl;exact h v bd
   simp[this]
  .rfl
theorem uA{kindOf:Str->Option OF}{x:Str}:∀ {binds:List (Str×Value)}{m:SV},(∀v,(x,v) ∉ binds)->Qb kindOf binds m x=m x
 |[],_,_=>rfl
 |(n,v)::r,m,h=>by
  unfold Qb;rw[uA λ w hw=>h w (aV _ hw)];split
  .rfl
  .have:x≠n:=by rintro rfl;exact h v bd
   simp[this]
theorem qi{kindOf:Str->Option OF}:∀ {P:List Str}{vs:LV}{i:Nat}{m:SV},P.Nodup->P[i]?=Om x->vs[i]?=Om v->kindOf x=Om .local ->
  Qc kindOf (P.zip vs) m x=Om v
 |[],_,_,_,_,h,_,_=>by simp at h
 |_::_,[],_,_,_,_,h,_=>by simp at h
 |p::P,w::vs,0,m,nd,h1,h2,hk=>by
  simp at h1 h2;subst h1;subst h2;show Qc kindOf ((p,w)::P.zip vs) m p=_;unfold Qc;rw[uz λ v hv=>(fZ.mp nd).1 (kX hv).1,XT hk];simp
 |p::P,w::vs,i+1,m,nd,h1,h2,hk=>by
  show Qc kindOf ((p,w)::P.zip vs) m x=_;unfold Qc;exact qi (i:=i) (fZ.mp nd).2 (by simpa using h1) (by simpa using h2) hk
theorem qj{kindOf:Str->Option OF}:∀ {P:List Str}{vs:LV}{i:Nat}{m:SV},P.Nodup->P[i]?=Om x->vs[i]?=Om v->kindOf x≠Om .local ->
  Qb kindOf (P.zip vs) m x=Om v
 |[],_,_,_,_,h,_,_=>by simp at h
 |_::_,[],_,_,_,_,h,_=>by simp at h
 |p::P,w::vs,0,m,nd,h1,h2,hk=>by
  simp at h1 h2;subst h1;subst h2;show Qb kindOf ((p,w)::P.zip vs) m p=_;unfold Qb;rw[uA λ v hv=>(fZ.mp nd).1 (kX hv).1,XR hk];simp
 |p::P,w::vs,i+1,m,nd,h1,h2,hk=>by
  show Qb kindOf ((p,w)::P.zip vs) m x=_;unfold Qb;exact qj (i:=i) (fZ.mp nd).2 (by simpa using h1) (by simpa using h2) hk
noncomputable def Ti(N:List Str)(vs:List V):St:=vs.map Om++Ow (N.length-vs.length) Oo
noncomputable def dP(CX:UC)(P:Oz)(w:OB)(K:FG)(mg:SV)(base:OH)(N:List Str)(qual:Str)(scope:Scope)(f:Os)(cd:Value)(A:OD)(outer:List Env)(s:Ot)(H:Hp)(E:XK):Cx where
 prog:=P
 w:=w
 K:=K
 mg:=mg
 base:=base
 A:=A.deeper (Ph qual scope s.heap.objs.size f cd)
 N:=N
 s₀:=s
 H₀:=H
 env:=Ph qual scope s.heap.objs.size f cd
 outer:=outer
 stack:=Ph qual scope s.heap.objs.size f cd::outer
 ex:=[]
 calm:=On
 fn:=λ _=>On
 pn:=[]
 xe:=λ e s'=>Ov (Oy P w) (A.deeper (Ph qual scope s.heap.objs.size f cd)) (leaving (Ph qual scope s.heap.objs.size f cd) e) (λ _ s''=>CX outer H s E e s'') (λ e' s''=>CX outer H s E e' s'') s'
def kY{sc:Scope}(h:sc.names.lookup x=Om .cell):∃c,(OL n sc.names []).lookup x=Om c:=by
 have q:=jH sc.names n [] (.inl h);exact iS.mp q
theorem CJ{K:FG}{A:OD}{s s1:Ot}{vs:List V}
  (S:Tt N ps scope) (hd:A.handled=Oo) (e0:Uz P w K mg base A outer s H) (hl:vs.length=ps.length) (r:Vals vs us)
  (x:Qd s s.heap.objs.size (Qc (Ph qual scope s.heap.objs.size f cd).kindOf (ps.zip us) λ _=>Oo) (OL (s.heap.objs.size+1) scope.names []) (Qb (Ph qual scope s.heap.objs.size f cd).kindOf (ps.zip us) λ _=>Oo) s1) :
  Inv (dP CX P w K mg base N qual scope f cd A outer s H E) [] (Ti N vs) H s1:=by
 have hpl:ps.length<=N.length:=by have:=bA Pi S.pre;rw[aP] at this;lia
 obtain⟨h1,tk,rfl,hk⟩:=x.done;have noA:∀b:Os,b ∉ (dP CX P w K mg base N qual scope f cd A outer s H E).ex:=λ b z=>XU (show b∈([]:List Os) from z) on
 refine⟨⟨e0.mod,S.kind,O,O,ao _,λ y z c h1 h2=>?_,λ y hy=>?_,λ y c _ h=>?_,λ _=>hd,uB e0.frames,.inr ⟨O,O⟩,λ b z=>XU z (noA b),e0.bs,e0.bsz,λ b _ _=>noA b,λ b z=>XU z (noA b),e0.funs,e0.frf⟩,
  rfl,e0.bare,Un.kept hk,⟨_,x.toInCall.ns,λ i y v h1 h2 h3=>?_⟩,λ y c h=>⟨_,x.cell y c h⟩,e0.hok.fresh (ao _),λ y c h=>?_,λ p hp=>XU (show p∈([]:LO) from hp) on,e0.hok.kept hk,?_⟩
 .exact mZ x.apart (dQ h1) (dQ h2)
 .have hy:scope.names.lookup y=Om .cell\/scope.names.lookup y=Om .free:=hy
  rcases hy with hy|hy
  .exact kY hy
  .exact XU rfl (S.nofree _ (dQ hy))
 .exact dN (x.above y c (dQ h))
 .have hi:i<vs.length:=by
   unfold Ti at h2;by_cases hi:i<vs.length
   .exact hi
   .rw[cH (by simpa using hi)] at h2;rw[fH] at h2;split at h2<;>cases h2
  have ha:vs[i]?=Om v:=by
   unfold Ti at h2;rw[cI (by simpa using hi),bh] at h2
   cases e:vs[i]? with
   |none=>rw[e] at h2;cases h2
   |some a=>rw[e] at h2;cases h2;rfl
  obtain⟨u,hu,rv⟩:=r.get ha
  have hp:ps[i]?=Om y:=by
   rw[<- S.pre,nc Z];exact h1
  have ndP:ps.Nodup:=by rw[<- S.pre];exact S.nd.sublist (Rf _ _)
  refine⟨u,rv,?_⟩
  rcases S.par y (aE hp) with k|k
  .exact .inl ⟨k,qi ndP hp hu k⟩
  .obtain⟨c,e⟩:=kY (n:=s.heap.objs.size+1) k;refine .inr ⟨.inl k,c,e,?_⟩;have q:=x.cell y c e;rw[qj ndP hp hu (by show scope.names.lookup y≠_;rw[k];decide)] at q;exact q
 .exact e0.hok.fresh (dN (x.above y c (dQ h)))
 .unfold Ti;show _=N.length;rw[aF,ah,dC];lia
theorem uC{K:FG}{dV kV doc pm cdv ct oc:Value}{an od:OA}
  {osl:AV}{sp:Sp}(lk:K.lookup f=Om ⟨oc,od,.func (W.fnOf name qual params body scope dV kV doc pm an cdv ct),osl⟩) (hcd:W.codeIn K cdv qual=On) (S:Tt N ps scope)
  (len:∀vs H Q E,sp vs H Q E->vs.length=ps.length)
  (hbody:∀(A:OD) (outer:List Env) (s:Ot) (H:Hp) (vs:List V) (Q:VK) (E:XK),Room k (A.deeper (Ph qual scope s.heap.objs.size f cdv))->sp vs H Q E ->
   ∃t,PSs (dP CX P w K mg base N qual scope f cdv A outer s H E) body t/\t { nx:=λ _ H'=>Q .non H',rt:=Q } (Ti N vs) H) :
  FnOk P w K mg base CX (k+1) f (W.fnOf name qual params body scope dV kV doc pm an cdv ct) ps sp:=by
 refine⟨len,λ A outer s H args us vs Q E hr e0 hb r hsp=>?_⟩;have hl:=len _ _ _ _ hsp;have KX:K.In s.heap:=e0.mod.kin.keeps λ b o e=>(e0.bs b o e).1;have lim:s.heap.NoLimit:=e0.mod.nolimit.keeps λ b o e=>(e0.bs b o e).1
 have Tx:∀y∈ps.zip us,scope.names.lookup y.1=Om .local\/(scope.names.lookup y.1=Om .cell/\((OL (s.heap.objs.size+1) scope.names []).lookup y.1).isSome=On):=λ⟨n,v⟩ hy=>by
  rcases S.par n (kX hy).1 with q|q
  .exact .inl q
  .exact .inr ⟨q,jH _ _ _ (.inl q)⟩
 refine uD hr.depth (KX _ _ lk) rfl S.co S.gen rfl (W.codeRec_of KX hcd) (hb _ _ _ _ ?_);refine wpAny_newFunctionEnv_cells S.kind Tx λ env he s1 x=>?_;subst he;refine⟨lim.keeps x.toInCall.keep,codeAny_func ?_⟩;obtain⟨t,ht,hq⟩:=hbody A outer s H vs Q E (hr.deeper _) hsp;have I:Inv (dP CX P w K mg base N qual scope f cdv A outer s H E) [] (Ti N vs) H s1:=CJ S hr.hd e0 hl r x;refine cy (ht [] s1 (Ti N vs) H _ I hq) (λ fl s' hs=>?_) λ e s' hs=>hs
 have fin:∀ {σ':St}{H':Hp}{v:V}{u:Value},Inv (dP CX P w K mg base N qual scope f cdv A outer s H E) [] σ' H' s'->RelV v u->Q v H'->CE outer P w H s Q u s' :=
  λ {σ' H' v u} J rv q=>⟨v,H',J.os,J.bare,J.base,J.hok,rv,q⟩
 cases fl with
 |ret u=>
  obtain⟨v,σ',H',J,rv,q⟩:=hs;exact fin J rv q
 |next=>
  obtain⟨σ',H',J,q⟩:=hs;exact fin (v:=V.non) (u:=OZ) J rfl q
 |brk|cont=>
  obtain⟨_,_,_,q⟩:=hs;exact OY q
section
variable {x:Str}{p pos:Pos}{e:Expr}{es:List Expr}{t:TA}{id T:String}{r:List V->Hp->VK->Prop}
def WU(r:List V->Hp->VK->Prop)(t:TA):TE:=λ σ H Q=>t σ H λ vs H1=>r vs H1 Q
theorem CK(hc:bY X (.builtin id) r)(hg:Gl X x)(hm:X.mg x=Oo)(hv:Pz x=Om (.builtin id))(ha:PA X (e::es) t)(hn:x ≠ "__name__" := by decide)(hdb:autoParam ((x == ("__debug__" : Str))=Op) ca._auto_1)
  (he:autoParam (OI (e::es) X.env=(Op,eval e X.env)::OI es X.env) A8._auto_1) (hpl:autoParam ((Pu pos (OI es X.env)).any (·.1)=Op) A8._auto_1):PE X (.Call (.Name x p) (e::es) [] pos) (WU r t):=by
 intro Tb s σ H Q I h;refine jG (eh I hg hm hv ?_ hn hdb);exact RG (Tl (ha pos Tb s σ H _ I h) λ us s1 ⟨vs,H1,I1,r1,q1⟩=>hc Tb s1 σ H1 vs us Q I1 r1 q1) he hpl
theorem qk(hc:bY X (.type T) r)(hg:Gl X x)(hm:X.mg x=Oo)(hv:Pz x=Om (.type T))(ha:PA X (e::es) t)(hn:x ≠ "__name__" := by decide)(hdb:autoParam ((x == ("__debug__" : Str))=Op) ca._auto_1)
  (he:autoParam (OI (e::es) X.env=(Op,eval e X.env)::OI es X.env) A8._auto_1) (hpl:autoParam ((Pu pos (OI es X.env)).any (·.1)=Op) A8._auto_1):PE X (.Call (.Name x p) (e::es) [] pos) (WU r t):=by
 intro Tb s σ H Q I h;refine jG (eh I hg hm hv ?_ hn hdb);exact fY (Tl (ha pos Tb s σ H _ I h) λ us s1 ⟨vs,H1,I1,r1,q1⟩=>hc Tb s1 σ H1 vs us Q I1 r1 q1) he hpl
end
end _L
namespace _H
open PySem PyProof.Rows
section
open PySem.SeqAt
open PySem.AutoSeq1 (wpAny_loadPart')
open PySem.MeetsSeq PySem.MeetsSeq2 PySem.MeetsSeq3
end
section
variable {prog:Oz}{w:OB}{A:OD}{E:VS}{s:Ot}
theorem cat_tup{vs ws:LV}{Q:VS}(ht:Qp s.heap t vs.toArray)(hb:Qp s.heap b ws.toArray)(hv:vs≠[])
  (h1:ws=[]->Q (.ref t) s) (h2:ws≠[]->Q (.ref s.heap.objs.size) { s with heap:=s.heap.push { cls:=.type "tuple",data:=.seq (vs++ws).toArray } })
  (hsz:vs.length+ws.length<=Ou):Ov (Oy prog w) A (Pa .Add (.ref t) (.ref b)) Q E s:=by
 obtain⟨⟨cls,dd,data,sl⟩,ho,hc,n,hd⟩:=id ht;obtain⟨⟨cls2,dd2,data2,sl2⟩,ho2,hc2,n2,hd2⟩:=id hb;simp only at hc hd hc2 hd2;subst hc hd hc2 hd2;have e:vs.toArray++ws.toArray=(vs++ws).toArray:=on;by_cases hw:ws=[]
 .exact ng ⟨_,ho,O⟩ ⟨_,ho2,O⟩ qm s0s qo qp (qq _ _)
   (tuple_addW1 t b vs.toArray ws.toArray n n2 dd dd2 sl sl2 (by simpa using hv) (by simp[hw])) ⟨ho,ho2,h1 hw⟩
 .refine ng ⟨_,ho,O⟩ ⟨_,ho2,O⟩ qm s0s qo qp (qq _ _)
   (tuple_addW2 t b vs.toArray ws.toArray n n2 dd dd2 sl sl2 (by simpa using hv) (by simpa using hw) (by rw[aY,aY];exact hsz)) ⟨ho,ho2,?_⟩
  rw[e];exact h2 hw
noncomputable def sIx(n d:Nat):Option Int->Nat
 |none=>d
 |some v=>if v<0 then (v+(n:Int)).toNat else min v.toNat n
def CL(n d:Nat)(hd:d<=n)(o:Option Int):sIx n d o<=n:=by
 cases o with
 |none=>exact hd
 |some v=>
  show(if v<0 then (v+(n:Int)).toNat else min v.toNat n)<=n;by_cases hv:v<0
  .rw[XT hv];lia
  .rw[XR hv];exact Nat.min_le_right _ _
def uE(v:Int)(n d:Nat):(if v<0 then max (v+(n:Int)) 0 else min v (n:Int))=((sIx n d (Om v):Nat):Int):=by
 show(if v<0 then max (v+(n:Int)) 0 else min v (n:Int))=(((if v<0 then (v+(n:Int)).toNat else min v.toNat n):Nat):Int);by_cases hv:v<0
 .simp only[XT hv];lia
 .simp only[XR hv];lia
def CN(lo hi:Option Int)(n:Nat):PH lo hi 1 (n:Int)=(((sIx n 0 lo:Nat):Int),((sIx n n hi:Nat):Int)):=by
 have h1:¬((1:Int)<0):=Z;unfold PH;simp only[h1,iT];refine Prod.ext ?_ ?_
 .cases lo with
  |none=>rfl
  |some v=>exact uE v n 0
 .cases hi with
  |none=>rfl
  |some v=>exact uE v n n
def CO(i j:Nat):Po (i:Int) (j:Int) 1=j-i:=by
 unfold Po;have h1:(1:Int) > 0:=Z;simp only[h1,ga,SH];split<;>lia
def uF{Q:Option Int->Ot->Prop}(p:Qa v o)(h:Q o s):Ov (Oy prog w) A (RR v) Q E s:=by
 cases p with
 |none=>exact Sc h
 |int i t=>exact slicePart_int h
theorem uG{lo hi:Option Int}{Q:Int×Int×Nat->Ot->Prop}(hs:s.heap.IsSliceOf sl vl vu .none)(pl:Qa vl lo)(pu:Qa vu hi)
  (h:Q (((sIx n 0 lo:Nat):Int),1,sIx n n hi-sIx n 0 lo) s):Ov (Oy prog w) A (Qs (.ref sl) (OM (n:Int))) Q E s:=by
 obtain⟨os,hos,hcs,hds⟩:=id hs;unfold Qs SD;refine ae (ae (dD hos hds (x:=vl) rfl (ae (dD hos hds (x:=vu) rfl (ae (dD hos hds (x:=.none) rfl (au ?_)))))));refine ae (Sc ?_);show Ov _ _ (if ((1:Int) == 0)=On then _ else _) _ _ s;rw[XR ca];refine ae (uF pl (ae (uF pu (ae (au ?_)))));show Ov _ _ (match PH lo hi 1 (n:Int) with|(lo,hi)=>OM (lo,(1:Int),Po lo hi 1)) _ _ s;rw[CN lo hi n];show Ov _ _ (OM (((sIx n 0 lo:Nat):Int),(1:Int),Po ((sIx n 0 lo:Nat):Int) ((sIx n n hi:Nat):Int) 1)) _ _ s;rw[CO];exact au h
def CP(xs:Array Value)(i k:Nat):((OE k).filterMap λ(m:Nat)=>xs[((i:Int)+(m:Int)*1).toNat]?).toArray=((xs.toList.drop i).take k).toArray:=by
 have e:(λ(m:Nat)=>xs[((i:Int)+(m:Int)*1).toNat]?)=λ m=>xs[i+m]?:=by
  funext m;have:((i:Int)+(m:Int)*1).toNat=i+m:=Z;rw[this]
 rw[e];have:=pick_run xs i k;rw[List.filterMap_map] at this;have e2:((λ x=>xs[x]?) ∘ λ x=>i+x)=λ m=>xs[i+m]?:=rfl;rw[e2] at this;rw[this]
theorem getItem_tuple_cut{lo hi:Option Int}{Q:VS}(ht:Qp s.heap t items)(hs:s.heap.IsSliceOf sl vl vu .none)(pl:Qa vl lo)(pu:Qa vu hi)
  (hw:¬(sIx items.size 0 lo=0/\sIx items.size items.size hi=items.size))
  (h:Q (.ref s.heap.objs.size) { s with heap:=s.heap.push { cls:=.type "tuple",data:=.seq ((items.toList.drop (sIx items.size 0 lo)).take (sIx items.size items.size hi-sIx items.size 0 lo)).toArray } })
  (hsz:items.size<=Ou):Ov (Oy prog w) A (PY (.ref t) (.ref sl)) Q E s:=by
 have htake:sizeOk (.seq ((items.toList.drop (sIx items.size 0 lo)).take (sIx items.size items.size hi-sIx items.size 0 lo)).toArray):=by
  show((items.toList.drop (sIx items.size 0 lo)).take (sIx items.size items.size hi-sIx items.size 0 lo)).toArray.size<=Ou;rw[aY,aP,bL,OU];omega
 have hj:sIx items.size items.size hi<=items.size:=CL _ _ (ao _) hi;obtain⟨os,hos,hcs,hds⟩:=id hs;have hTs:s.TypeIs (.ref sl) "slice" := ⟨os,hos,hcs⟩;unfold PY;try with_reducible refine eO ?_
 first|refine ae (au ?_)|skip
 refine ae (Rl ht.typeIs ca ?_)
 refine ae (iU (name:=ON "__getitem__") ht.typeIs nh
  (fI nh ht.typeIs s0i ?_ (s0t _ _)))
 show Ov _ _ (Qt (.ref t) >>= _) _ _ s;refine ae (SB ht ?_);refine ae (hV hTs ?_);rw[XT ca];refine ae (uG hs pl pu ?_)
 have hno:¬((((sIx items.size 0 lo:Nat):Int) == 0&&(1:Int) == 1&&(sIx items.size items.size hi-sIx items.size 0 lo) == items.size)=On):=by
  intro q;rw[bp,bp] at q;have q1:((sIx items.size 0 lo:Nat):Int)=0:=hW q.1.1;have q2:sIx items.size items.size hi-sIx items.size 0 lo=items.size:=hW q.2;exact hw ⟨by omega,by omega⟩
 show Ov _ _ (if (((sIx items.size 0 lo:Nat):Int) == 0&&(1:Int) == 1&&(sIx items.size items.size hi-sIx items.size 0 lo) == items.size)=On then _ else _) _ _ s;rw[XR hno,CP]
 first
  |exact ae (m:=OS _) (cZ (au ⟨_,rfl,au h⟩) htake)
  |exact ae (m:=OS _) (cZ (ae (au (au ⟨_,rfl,au h⟩))) htake)
  |exact ae (ae (m:=OS _) (cZ (au (au ⟨_,rfl,au h⟩)) htake))
  |exact ae (ae (m:=OS _) (cZ (au ⟨_,rfl,au h⟩) htake))
end
end _H
namespace _L
open PySem PySem.Spec PyProof.Rows
abbrev TO:=St->Hp->(Option Int->Hp->Prop)->Prop
def PO(X:Cx)(e:Option Expr)(t:TO):Prop :=
 ∀(Tb:LO) (s:Ot) (σ:St) (H:Hp) (Q:Option Int->Hp->Prop),Inv X Tb σ H s->t σ H Q ->
  Ov (Oy X.prog X.w) X.A (evalPart e X.env) (λ u s'=>∃o H',Inv X Tb σ H' s'/\Qa u o/\Q o H') X.xe s
def CQ:TO:=λ _ H Q=>Q Oo H
def kZ{ns:LI}:∀ {us:LV},Vals (ns.map V.int) us->Qe us ns:=by
 induction ns with
 |nil=>intro us r;rw[SK] at r;cases r;exact .nil
 |cons n ns ih=>
  intro us r;rw[cJ] at r
  cases r with
  |cons r1 r2=>
   obtain⟨t,e⟩:=r1;subst e;exact .cons n t (ih r2)
variable {X:Cx}
section
variable {e:Expr}{te:TE}{lo hi:Option Expr}{tl th:TO}{pos p2:Pos}
def CS:PO X Oo CQ:=by
 intro Tb s σ H Q I h;rw[Sw];exact au ⟨Oo,H,I,.none,h⟩
def VC(X:Cx)(r:V->Option Int->Option Int->Hp->VK->Prop):Prop :=
 ∀(Tb:LO) (s:Ot) (σ:St) (H:Hp) (x:V) (v vl vu:Value) (lo hi:Option Int) (sl:Os) (Q:VK),Inv X Tb σ H s->RelV x v->s.heap.IsSliceOf sl vl vu .none->Qa vl lo->Qa vu hi->r x lo hi H Q ->
  ∃T id,Ps (.type T) "__getitem__"=OM (Om (.builtin id))/\s.TypeIs v T/\Ov (Oy X.prog X.w) X.A (PY v (.ref sl)) (EP X Tb σ Q) X.xe s
def tSl(r:V->Option Int->Option Int->Hp->VK->Prop)(te:TE)(tl th:TO):TE:=λ σ H Q=>te σ H λ x H1=>tl σ H1 λ l H2=>th σ H2 λ u H3=>r x l u H3 Q
def CT(hr:VC X r)(he:PE X e te)(hl:PO X lo tl)(hu:PO X hi th):PE X (.Subscript e (.Slice lo hi Oo p2) pos) (tSl r te tl th):=by
 intro Tb s σ H Q I h;refine RI (Tl (he Tb s σ H _ I h) λ v s1 ⟨x,H1,I1,r1,q1⟩=>?_);refine wpAny_Slice (Tl (hl Tb s1 σ H1 _ I1 q1) λ vl s2 ⟨l,H2,I2,pl,q2⟩=>Tl (hu Tb s2 σ H2 _ I2 q2) λ vu s3 ⟨u,H3,I3,pu,q3⟩=>?_);rw[Sw];refine au ?_;have I4:Inv X Tb σ H3 { s3 with heap:=s3.heap.push { cls:=.type "slice",data:=.fields #[vl,vu,.none] } }:=I3.kept (t':=s3.toks) λ b ob q=>aM _ q;obtain⟨T,id,hT,ht,hg⟩:=hr Tb { s3 with heap:=s3.heap.push { cls:=.type "slice",data:=.fields #[vl,vu,.none] } } σ H3 x v vl vu l u s3.heap.objs.size Q I4 r1 (Heap.IsSliceOf.new ..) pl pu q3;show Ov (Oy X.prog X.w) X.A (Qx e (.Slice lo hi Oo p2) v (.ref s3.heap.objs.size)) (EP X Tb σ Q) X.xe { s3 with heap:=s3.heap.push { cls:=.type "slice",data:=.fields #[vl,vu,.none] } };exact tail_any (ops:=[.ref s3.heap.objs.size,v]) ht hT hg (by with_unfolding_all rfl)
def gE(xs:List V)(lo hi:Option Int):List V:=(xs.drop (_H.sIx xs.length 0 lo)).take (_H.sIx xs.length xs.length hi-_H.sIx xs.length 0 lo)
def uH(xs:List V)(lo hi:Option Int):(gE xs lo hi).length<=xs.length:=by
 unfold gE;rw[aP,bL];lia
def CU(K:FG):V->Option Int->Option Int->Hp->VK->Prop:=λ x lo hi H Q=>∃a xs,x=.ref a/\SqT K H a xs /\
 ¬(_H.sIx xs.length 0 lo=0/\_H.sIx xs.length xs.length hi=xs.length)/\∀p,H p=Oo->Q (.ref p) (Tf H p (.tup (gE xs lo hi)))
def CV:VC X (CU X.K):=by
 intro Tb s σ H x v vl vu lo hi sl Q I rx hs pl pu h;obtain⟨a,xs,rfl,hx,hw,q⟩:=h;cases rx;obtain⟨its,r,ht,hz⟩:=I.tuple hx;have Tj:its.toArray.size=xs.length:=by rw[aY];exact r.length.symm
 refine⟨"tuple",_,PyProof.Rows.slot_tuple_getitem.lookup,ht.typeIs,?_⟩;refine _H.getItem_tuple_cut ht hs pl pu (by rw[Tj];exact hw) ?_ (by rw[Tj];exact hz);rw[Tj];refine⟨.ref s.heap.objs.size,_,I.laid (t':=s.toks) (o:=.tup (gE xs lo hi)) (λ b ob q=>aM _ q) (ao _) ?_,O,q _ (I.hok.fresh (ao _))⟩;exact⟨cG (uH xs lo hi) hz,_,(r.drop (_H.sIx xs.length 0 lo)).take (_H.sIx xs.length xs.length hi-_H.sIx xs.length 0 lo),TupO.new _ _⟩
def CW(K:FG):R2:=λ x y H Q=>∃a b xs ys,x=.ref a/\y=.ref b/\SqT K H a xs/\SqT K H b ys/\xs≠[]/\xs.length+ys.length<=Ou /\
 (ys=[]->Q (.ref a) H)/\(ys≠[]->∀p,H p=Oo->Q (.ref p) (Tf H p (.tup (xs++ys))))
def Vals.nil_iff(r:Vals xs us):us=[] ↔ xs=[]:=by
 cases r with
 |nil|cons _ _=>simp
def CY:TB X (Pa .Add) (CW X.K):=by
 intro Tb s σ H x y v u Q I rx ry h;obtain⟨a,b,xs,ys,rfl,rfl,ha,hb,hx,hz,q1,q2⟩:=h;cases rx;cases ry;obtain⟨its,r1,p1,_⟩:=I.tuple ha;obtain⟨its2,r2,p2,_⟩:=I.tuple hb;refine _H.cat_tup p1 p2 (λ z=>hx (r1.nil_iff.mp z)) (λ z=>⟨.ref a,H,I,O,q1 (r2.nil_iff.mp z)⟩) (λ z=>?_) (by rw[<- r1.length,<- r2.length];exact hz);refine⟨.ref s.heap.objs.size,_,I.laid (t':=s.toks) (o:=.tup (xs++ys)) (λ b ob q=>aM _ q) (ao _) ?_,O,q2 (λ w=>z (r2.nil_iff.mpr w)) _ (I.hok.fresh (ao _))⟩;exact⟨by rw[aF];exact hz,_,r1.append r2,TupO.new _ _⟩
end
noncomputable def UP(n:Nat)(i:Int):Option Nat:=if 0<=i then (if i<n then Om i.toNat else Oo) else if -(n:Int)<=i then Om (i+n).toNat else Oo
def TQ{α:Type}(xs:List α)(i:Int):Option α:=(UP xs.length i).bind λ j=>xs[j]?
def uI(h:UP n i=Om j):QH i n=Om j/\j<n/\-(n:Int)<=i/\i<n:=by
 unfold UP at h;by_cases h0:0<=i
 .rw[XT h0] at h;by_cases h1:i<n
  .rw[XT h1] at h;have e:i.toNat=j:=bw h;exact⟨by rw[s1m h0 h1,e],Z,Z,h1⟩
  .rw[XR h1] at h;cases h
 .rw[XR h0] at h;by_cases h1:-(n:Int)<=i
  .rw[XT h1] at h;have e:(i+n).toNat=j:=bw h;exact⟨by rw[s1g Z h1,e],Z,h1,Z⟩
  .rw[XR h1] at h;cases h
def qr{α:Type}{xs:List α}{v:α}(h:TQ xs i=Om v):∃j,QH i xs.length=Om j/\xs[j]?=Om v/\j<xs.length/\-(xs.length:Int)<=i/\i<xs.length:=by
 unfold TQ at h
 cases e:UP xs.length i with
 |none=>rw[e] at h;cases h
 |some j=>
  rw[e] at h;obtain⟨h1,h2,h3,h4⟩:=uI e;exact⟨j,h1,h,h2,h3,h4⟩
def jI{α:Type}{xs:List α}{j:Nat}{v:α}(h:xs[j]?=Om v):TQ xs (j:Int)=Om v:=by
 have hj:j<xs.length:=(aX.mp h).1
 have e:UP xs.length (j:Int)=Om j:=by
  unfold UP;rw[XT Z,XT Z];simp
 unfold TQ;rw[e];exact h
def uJ(b:Expr):Prop:=∀o i,QK b Op o i=operate [o,i] (PY o i)
def IxR(X:Cx)(r:R2):Prop :=
 ∀(value slice:Expr) (Tb:LO) (s:Ot) (σ:St) (H:Hp) (x y:V) (v u:Value) (Q:VK),Inv X Tb σ H s->RelV x v->RelV y u->r x y H Q ->
  QK slice Op v u=operate [v,u] (PY v u)->Ov (Oy X.prog X.w) X.A (Qx value slice v u) (EP X Tb σ Q) X.xe s
def VD(X:Cx)(id:String)(r:V->List V->Hp->VK->Prop):Prop :=
 ∀(Tb:LO) (s:Ot) (σ:St) (H:Hp) (x:V) (xs:List V) (v:Value) (us:LV) (Q:VK),Inv X Tb σ H s->RelV x v->Vals xs us->r x xs H Q ->
  Ov (Oy X.prog X.w) X.A (call (.builtin id) (v::us)) (EP X Tb σ Q) X.xe s
section
variable {a b:Expr}{ta tb:TE}{pos:Pos}
def IxR.or(h:IxR X r)(h':IxR X r'):IxR X (λ x y H Q=>r x y H Q\/r' x y H Q):=by
 intro value slice Tb s σ H x y v u Q I rx ry q hs
 rcases q with q|q
 .exact h value slice Tb s σ H x y v u Q I rx ry q hs
 .exact h' value slice Tb s σ H x y v u Q I rx ry q hs
def uK(hr:IxR X r)(ha:PE X a ta)(hb:PE X b tb)(hs:uJ b):PE X (.Subscript a b pos) (Vs r ta tb):=by
 intro Tb s σ H Q I h;exact RI (pY ha hb I h λ v u s2 x y H2 I2 rx ry q=>hr a b Tb s2 σ H2 x y v u Q I2 rx ry q (hs _ _))
def qt(K:FG):R2:=λ x y H Q=>∃p xs i v,x=.ref p/\y=.int i/\SqL K H p xs/\TQ xs i=Om v/\Q v H
def uL(K:FG):R2:=λ x y H Q=>∃p xs i v,x=.ref p/\y=.int i/\SqT K H p xs/\TQ xs i=Om v/\Q v H
def uM:R2:=λ x y H Q=>∃z i c,x=.str z/\y=.int i/\z.length<=Ou/\TQ z.cps.toList i=Om c/\Q (.str ⟨#[c]⟩) H
def ix_list:IxR X (qt X.K):=by
 intro value slice Tb s σ H x y v u Q I rx ry h hs;obtain⟨p,xs,i,z,rfl,rfl,hq,he,q⟩:=h;cases rx;obtain⟨t,rfl⟩:=ry;obtain⟨its,r,pl,hz⟩:=I.list hq;obtain⟨j,h1,h2,h3,h4,h5⟩:=qr he;obtain⟨w,ew,rw'⟩:=r.get h2;have hl:=r.length;have hn:=jE;have fin:EP X Tb σ Q w s:=⟨z,H,I,rw',q⟩;by_cases h0:0<=i
 .have hj:i.toNat=j:=by
   rw[s1m h0 h5] at h1;exact bw h1
  exact item_listR pl.isList h0 Z (by rw[hj];simpa using ew) fin hs
 .have hj:(i+(its.toArray.size:Int)).toNat=j:=by
   rw[s1g Z h4] at h1;rw[aY,<- hl];exact bw h1
  exact uN (x:=w) pl.isList.typeIs slot_list_getitem.lookup
   (wpAny_getItem_list_neg (Q:=λ r s'=>r=w/\EP X Tb σ Q r s') pl.isList Z (by rw[aY]<;>lia) Z (by rw[hj];simpa using ew) ⟨rfl,fin⟩) hs
def ix_tup:IxR X (uL X.K):=by
 intro value slice Tb s σ H x y v u Q I rx ry h hs;obtain⟨p,xs,i,z,rfl,rfl,hq,he,q⟩:=h;cases rx;obtain⟨t,rfl⟩:=ry;obtain⟨its,r,pl,hz⟩:=I.tuple hq;obtain⟨j,h1,h2,h3,h4,h5⟩:=qr he;obtain⟨w,ew,rw'⟩:=r.get h2;have hl:=r.length;have hn:=jE;have fin:EP X Tb σ Q w s:=⟨z,H,I,rw',q⟩
 exact uN (x:=w) pl.typeIs slot_tuple_getitem.lookup
  (Sy (j:=j) (Q:=λ r s'=>r=w/\EP X Tb σ Q r s') pl Z Z (by rw[aY,<- hl];exact h1) (by simpa using ew) ⟨rfl,fin⟩) hs
def CZ:IxR X uM:=by
 intro value slice Tb s σ H x y v u Q I rx ry h hs;obtain⟨z,i,c,rfl,rfl,hz,he,q⟩:=h;obtain⟨t,rfl⟩:=rx;obtain⟨t',rfl⟩:=ry;obtain⟨j,h1,h2,h3,h4,h5⟩:=qr he;have hl:z.cps.toList.length=z.length:=by simp[Str.length]
 rw[hl] at h1 h4 h5;have hn:=jE
 exact tail_any (RO s z t) slot_str_getitem.lookup (getItem_str (c:=c) (by
  have e1:decide (i < -(2 ^ 63:Int))=Op:=bD Z;have e2:decide (i ≥ 2 ^ 63)=Op:=bD Z
  rw[e1,e2,Bool.or_false]) (by rw[h1];simpa using h2) ⟨.str ⟨#[c]⟩,H,I.tok _,⟨_,rfl⟩,q⟩) hs
def rIx(K:FG):R2:=λ x y H Q=>qt K x y H Q\/uL K x y H Q\/uM x y H Q
def qu:IxR X (rIx X.K):=ix_list.or (ix_tup.or CZ)
def Da(its:LV)(n j:Nat)(u:Value):Pe (·.setIfInBounds j u) { cls:=.type "list",data:=.seq its.toArray n }={ cls:=.type "list",data:=.seq (its.set j u).toArray n }:=by
 simp[Pe]
theorem Inv.lst(I:Inv X Tb σ H s)(h:H p=Om (.lst xs)) :
  ∃(its:LV) (n:Nat),Vals xs its/\s.heap.get? p=Om { cls:=.type "list",data:=.seq its.toArray n }/\xs.length<=Ou:=by
 obtain⟨z,its,n,r,e⟩:=I.hok p _ h;exact⟨its,n,r,e,z⟩
theorem Inv.lstUpd{its its':LV}{f:Obj->Obj}(I:Inv X Tb σ H s)(h:H p=Om (.lst xs))
  (ho:s.heap.get? p=Om { cls:=.type "list",data:=.seq its.toArray n }) (hf:f { cls:=.type "list",data:=.seq its.toArray n }={ cls:=.type "list",data:=.seq its'.toArray n' }) (r:Vals ys its') (hz:ys.length<=Ou) (t:Nat) :
  Inv X Tb σ (Tf H p (.lst ys)) { s with heap:=s.heap.update p f,toks:=t }:=by
 have e:(s.heap.update p f).get? p=Om { cls:=.type "list",data:=.seq its'.toArray n' }:=by
  rw[hZ f ho (by rw[hf]<;>rfl),hf]
 refine I.write (x:=p) (e:=p) (by rw[h];trivial) (.inl rfl) (λ b u hb q=>(eQ _ _ (cx hb)).trans q) ⟨_,e⟩ ?_;exact⟨hz,its',n',r,e⟩
def Db:V->V->V->Hp->(Hp->Prop)->Prop:=λ o i v H Q=>∃p xs k j,o=.ref p/\i=.int k/\H p=Om (.lst xs)/\UP xs.length k=Om j/\Q (Tf H p (.lst (xs.set j v)))
def Dc:ue X Db:=by
 intro Tb s σ H o i v ov iv u Q I ro ri rv h;obtain⟨p,xs,k,j,rfl,rfl,hp,hj,q⟩:=h;cases ro;obtain⟨t,rfl⟩:=ri;obtain⟨its,n,r,ho,hz⟩:=I.lst hp;obtain⟨h1,h2,h3,h4⟩:=uI hj;have hl:=r.length;have hn:=jE
 have I':Inv X Tb σ (Tf H p (.lst (xs.set j v))) { s with heap:=s.heap.update p (Pe (·.setIfInBounds j u)) } :=
  I.lstUpd hp ho (Da its n j u) (r.set rv j) (by rw[dE];exact hz) s.toks
 by_cases h0:0<=k
 .have hk:k.toNat=j:=by
   rw[s1m h0 h4] at h1;exact bw h1
  exact W.ki_setAt ho h0 Z (by rw[aY,<- hl];exact h4) (by rw[hk];exact⟨_,I',q⟩)
 .have hk:(k+(its.toArray.size:Int)).toNat=j:=by
   rw[s1g Z h3] at h1;rw[aY,<- hl];exact bw h1
  exact W.ki_setBack ho Z (by rw[aY,<- hl];exact h3) Z (by rw[hk];exact⟨_,I',q⟩)
def Dd(lo hi:Option Int)(n:Nat):(PF lo hi Oo n).1=((_H.sIx n 0 lo:Nat):Int)/\(PF lo hi Oo n).2.1=((_H.sIx n n hi:Nat):Int)/\(PF lo hi Oo n).2.2=1:=by
 refine⟨?_,?_,O⟩
 .cases lo with
  |none=>simp[PF,_H.sIx]
  |some i=>
   simp only[PF,_H.sIx,Rs,show(1:Int) > 0 by decide,ga];by_cases h:i<0
   .simp only[h,ga]<;>lia
   .simp only[h,iT]<;>lia
 .cases hi with
  |none=>simp[PF,_H.sIx]
  |some i=>
   simp only[PF,_H.sIx,Rs,show(1:Int) > 0 by decide,ga];by_cases h:i<0
   .simp only[h,ga]<;>lia
   .simp only[h,iT]<;>lia
def De(its:LV)(lo hi:Option Int):slicePick its.toArray lo hi Oo=((its.drop (_H.sIx its.length 0 lo)).take (_H.sIx its.length its.length hi-_H.sIx its.length 0 lo)).toArray:=by
 obtain⟨h1,h2,h3⟩:=Dd lo hi its.toArray.size;unfold slicePick;rw[h1,h2,h3];simp only[sliceRange_one,pick_run,aY]<;>rfl
def Df(K:FG):V->Option Int->Option Int->Hp->VK->Prop:=λ x lo hi H Q=>∃a xs,x=.ref a/\SqL K H a xs/\∀p,H p=Oo->Q (.ref p) (Tf H p (.lst (gE xs lo hi)))
def Dg:VC X (Df X.K):=by
 intro Tb s σ H x v vl vu lo hi sl Q I rx hs pl pu h;obtain⟨a,xs,rfl,hx,q⟩:=h;cases rx;obtain⟨its,r,ht,hz⟩:=I.list hx;have Tj:=r.length;refine⟨"list",_,slot_list_getitem.lookup,ht.isList.typeIs,?_⟩;refine wpAny_getItem_list_slice ht.isList hs pl pu .none on ?_ (by rw[aY]<;>lia);rw[De,<- Tj];refine⟨.ref s.heap.objs.size,_,I.laid (t':=s.toks) (o:=.lst (gE xs lo hi)) (λ b ob q=>aM _ q) (ao _) ?_,O,q _ (I.hok.fresh (ao _))⟩;exact⟨cG (uH xs lo hi) hz,_,0,(r.drop (_H.sIx xs.length 0 lo)).take (_H.sIx xs.length xs.length hi-_H.sIx xs.length 0 lo),bn _ rfl⟩
noncomputable def gc:V->Bool
 |.non=>On
 |.bl _=>On
 |.int _=>On
 |.str _=>On
 |_=>Op
noncomputable def UY:V->V->Bool
 |.non,.non=>On
 |.bl a,.bl b=>a == b
 |.bl a,.int b=>(if a then 1 else 0) == b
 |.int a,.bl b=>a == (if b then 1 else 0)
 |.int a,.int b=>a == b
 |.str a,.str b=>a == b
 |_,_=>Op
def lg(ry:RelV y u)(rx:RelV x v)(fy:gc y=On)(fx:gc x=On):PU A s u v (UY y x):=by
 cases y with
 |non=>
  cases ry
  cases x with
  |non=>cases rx;exact qv _
  |bl b=>cases rx;exact SeqAt.EqAt.none_bool b
  |int b=>obtain⟨t,rfl⟩:=rx;exact SeqAt.EqAt.none_int b t
  |str b=>obtain⟨t,rfl⟩:=rx;exact SeqAt.EqAt.none_str b t
  |_=>exact XU (show Op=On from fx) bK
 |bl a=>
  cases ry
  cases x with
  |non=>cases rx;exact SeqAt.EqAt.bool_none a
  |bl b=>cases rx;exact SeqAt.EqAt.bool_bool a b
  |int b=>obtain⟨t,rfl⟩:=rx;exact SeqAt.EqAt.bool_int a b t
  |str b=>obtain⟨t,rfl⟩:=rx;exact SeqAt.EqAt.bool_str a b t
  |_=>exact XU (show Op=On from fx) bK
 |int a=>
  obtain⟨t',rfl⟩:=ry
  cases x with
  |non=>cases rx;exact SeqAt.EqAt.int_none a t'
  |bl b=>cases rx;exact SeqAt.EqAt.int_bool a t' b
  |int b=>obtain⟨t,rfl⟩:=rx;exact SeqAt.EqAt.int_int a t' b t
  |str b=>obtain⟨t,rfl⟩:=rx;exact s0n a t' b t
  |_=>exact XU (show Op=On from fx) bK
 |str a=>
  obtain⟨t',rfl⟩:=ry
  cases x with
  |non=>cases rx;exact SeqAt.EqAt.str_none a t'
  |bl b=>cases rx;exact SeqAt.EqAt.str_bool a t' b
  |int b=>obtain⟨t,rfl⟩:=rx;exact s0o a t' b t
  |str b=>obtain⟨t,rfl⟩:=rx;exact SeqAt.EqAt.str_str a t' b t
  |_=>exact XU (show Op=On from fx) bK
 |_=>exact XU (show Op=On from fy) bK
def UA(x:V)(u:Value):Bool:=match u with
 |.none=>UY .non x
 |.bool b=>UY (.bl b) x
 |.int i _=>UY (.int i) x
 |.str z _=>UY (.str z) x
 |_=>Op
def uO(r:RelV y u)(f:gc y=On):UA x u=UY y x:=by
 cases y with
 |non|bl b=>cases r;rfl
 |int i|str z=>obtain⟨t,rfl⟩:=r;rfl
 |_=>exact XU (show Op=On from f) bK
theorem lh:∀ {xs:List V}{us:LV},Vals xs us->xs.all gc=On->us.any (UA x)=xs.any λ y=>UY y x
 |_,_,.nil,_=>rfl
 |y::xs,u::us,.cons r t,f=>by
  rw[cK,bp] at f;rw[lj,lj,uO r f.1,lh t f.2]
theorem lr(rx:RelV x v)(fx:gc x=On):∀ {xs:List V}{us:LV},Vals xs us->xs.all gc=On->∀u∈us,PU A s u v (UA x u)
 |_,_,.nil,_=>λ u hu=>by cases hu
 |y::xs,u::us,.cons r t,f=>λ u' hu=>by
  rw[cK,bp] at f
  rcases aB.mp hu with rfl|hu
  .rw[uO r f.1];exact lg r rx f.1 fx
  .exact lr rx fx t f.2 u' hu
def VW(x:V)(xs:List V):Bool:=xs.any λ y=>UY y x
def WV(K:FG)(neg:Bool):R2:=λ x y H Q=>∃p xs,y=.ref p/\(SqL K H p xs\/SqT K H p xs)/\gc x=On/\xs.all gc=On/\Q (.bl (if neg then !VW x xs else VW x xs)) H
def Dh:TB X (OV .In) (WV X.K Op):=by
 intro Tb s σ H x y v u Q I rx ry h;obtain⟨p,xs,rfl,hq,fx,fs,q⟩:=h;cases ry
 rcases hq with hq|hq
 .obtain⟨its,r,pl,hz⟩:=I.list hq;refine SeqAt.in_listAt (UA x) pl.isList (λ w hw=>lr rx fx r fs w (by simpa using hw)) ⟨.bl _,H,I,O,?_⟩;rw[show its.toArray.any (UA x)=its.any (UA x) by simp,lh r fs];exact q
 .obtain⟨its,r,pl,hz⟩:=I.tuple hq;refine SeqAt.in_tupleAt (UA x) pl (λ w hw=>lr rx fx r fs w (by simpa using hw)) ⟨.bl _,H,I,O,?_⟩;rw[show its.toArray.any (UA x)=its.any (UA x) by simp,lh r fs];exact q
def Di:TB X (OV .NotIn) (WV X.K On):=by
 intro Tb s σ H x y v u Q I rx ry h;obtain⟨p,xs,rfl,hq,fx,fs,q⟩:=h;cases ry
 rcases hq with hq|hq
 .obtain⟨its,r,pl,hz⟩:=I.list hq;refine SeqAt.notIn_listAt (UA x) pl.isList (λ w hw=>lr rx fx r fs w (by simpa using hw)) ⟨.bl _,H,I,O,?_⟩;rw[show its.toArray.any (UA x)=its.any (UA x) by simp,lh r fs];exact q
 .obtain⟨its,r,pl,hz⟩:=I.tuple hq;refine SeqAt.notIn_tupleAt (UA x) pl (λ w hw=>lr rx fx r fs w (by simpa using hw)) ⟨.bl _,H,I,O,?_⟩;rw[show its.toArray.any (UA x)=its.any (UA x) by simp,lh r fs];exact q
def Dj:bY X (.builtin "len") (λ xs H Q=>∃p ys,xs=[.ref p]/\(SqL X.K H p ys\/SqT X.K H p ys)/\Q (.int ys.length) H):=by
 intro Tb s σ H xs us Q I r h;obtain⟨p,ys,rfl,hq,q⟩:=h;obtain⟨u,rfl,rx⟩:=cz r;cases rx;have hn:=jE
 rcases hq with hq|hq
 .obtain⟨its,r',pl,hz⟩:=I.list hq;have Tj:=r'.length;exact Calls.call_len_list pl.isList (by simp only[aY]<;>lia) ⟨.int ys.length,H,I.tok _,⟨s.toks+1,by rw[aY,Tj]⟩,q⟩
 .obtain⟨its,r',pl,hz⟩:=I.tuple hq;have Tj:=r'.length;exact s0u pl (by simp only[aY]<;>lia) ⟨.int ys.length,H,I.tok _,⟨s.toks+1,by rw[aY,Tj]⟩,q⟩
def Dk:bY X (.builtin "len") (λ xs H Q=>∃z,xs=[.str z]/\z.length<=Ou/\Q (.int z.length) H):=by
 intro Tb s σ H xs us Q I r h;obtain⟨z,rfl,hz,q⟩:=h;obtain⟨u,rfl,t,rfl⟩:=cz r;have hn:=jE;exact len_str Z ⟨.int z.length,H,I.tok _,⟨_,O⟩,q⟩
def Dl:bY X (.type "list") (λ xs H Q=>∃p ys,xs=[.ref p]/\(SqL X.K H p ys\/SqT X.K H p ys)/\∀l,H l=Oo->Q (.ref l) (Tf H l (.lst ys))):=by
 intro Tb s σ H xs us Q I r h;obtain⟨p,ys,rfl,hq,q⟩:=h;obtain⟨u,rfl,rx⟩:=cz r;cases rx
 have fin:∀(its:LV),Vals ys its->ys.length<=Ou->∀(h':OH) (c':Nat),(∀b o',s.heap.get? b=Om o'->h'.get? b=Om o') ->
   h'.get? s.heap.objs.size=Om { cls:=.type "list",dict:=Oo,data:=.seq its.toArray c',slots:=#[] }->EP X Tb σ Q (.ref s.heap.objs.size) { s with heap:=h' }:=λ its r' hz h' c' kp e=>
  ⟨.ref s.heap.objs.size,_,I.laid (t':=s.toks) kp (ao _) (show ObjOk X.prog X.w _ h' _ (.lst ys) from ⟨hz,its,c',r',e⟩),rfl,q _ (I.hok.fresh (ao _))⟩
 rcases hq with hq|hq
 .obtain⟨its,r',pl,hz⟩:=I.list hq;have Tj:=r'.length;obtain⟨o,ho,hc,n,hd⟩:=pl.isList;exact Sq p (.inl rfl) ho hc hd (λ h' c' kp e=>fin its r' hz h' c' kp e) (by simp only[aY]<;>lia)
 .obtain⟨its,r',pl,hz⟩:=I.tuple hq;have Tj:=r'.length;obtain⟨o,ho,hc,n,hd⟩:=pl;exact Sq p (.inr rfl) ho hc hd (λ h' c' kp e=>fin its r' hz h' c' kp e) (by simp only[aY]<;>lia)
def Dm:bY X (.type "tuple") (λ xs H Q=>∃p ys,xs=[.ref p]/\((SqL X.K H p ys/\∀l,H l=Oo->Q (.ref l) (Tf H l (.tup ys)))\/(SqT X.K H p ys/\Q (.ref p) H))):=by
 intro Tb s σ H xs us Q I r h;obtain⟨p,ys,rfl,h⟩:=h;obtain⟨u,rfl,rx⟩:=cz r;cases rx
 rcases h with ⟨hq,q⟩|⟨hq,q⟩
 .obtain⟨its,r',pl,hz⟩:=I.list hq;have Tj:=r'.length;refine call_tuple_list pl.isList (λ h' kp=>?_) (by simp only[aY]<;>lia);have I1:Inv X Tb σ H { s with heap:=h' }:=I.kept (t':=s.toks) kp
  have I2:Inv X Tb σ (Tf H h'.objs.size (.tup ys)) { s with heap:=h'.push { cls:=.type "tuple",data:=.seq its.toArray } } :=
   I1.laid (t':=s.toks) (λ b o e=>aM _ e) (ao _) (show ObjOk X.prog X.w _ _ _ (.tup ys) from ⟨hz,its,r',TupO.new _ _⟩)
  exact⟨.ref h'.objs.size,_,I2,O,q _ (I1.hok.fresh (ao _))⟩
 .obtain⟨its,r',pl,hz⟩:=I.tuple hq;exact call_tuple_same pl ⟨.ref p,H,I,O,q⟩
def VX(K:FG)(T:String)(x:V)(H:Hp):Prop:=match x with
 |.str _=>T="str"
 |.int _=>T="int"
 |.ref p=>(T="list" /\ ∃xs,SqL K H p xs)\/(T="tuple" /\ ∃o,K.lookup p=Om o/\o.cls=.type "tuple" /\ o.dict=Oo) \/
   (T="dict" /\ ((∃kvs,H p=Om (.dK kvs))\/∃kvs,H p=Om (.dT kvs)))\/(T="set" /\ ∃S n,H p=Om (.set S n))
 |_=>False
theorem uP(I:Inv X Tb σ H s)(r:RelV x v)(ty:VX X.K T x H) :
  s.TypeIs v T/\∀a,v=.ref a->∃ob,s.heap.get? a=Om ob/\ob.dict=Oo:=by
 cases x with
 |str z=>
  obtain⟨t,rfl⟩:=r;cases (show T="str" from ty);exact⟨RO s z t,λ _ e=>nomatch e⟩
 |int i=>
  obtain⟨t,rfl⟩:=r;cases (show T="int" from ty);exact⟨lx s i t,λ _ e=>nomatch e⟩
 |ref p=>
  cases r
  rcases ty with ⟨rfl,xs,hq⟩|⟨rfl,o,hk,hc,hd⟩|⟨rfl,hk⟩|⟨rfl,S,n,hk⟩
  .obtain⟨its,_,pl,_⟩:=I.list hq;refine⟨pl.isList.typeIs,λ a e=>?_⟩;cases e;obtain⟨o,n,e,c,hd,_⟩:=pl;exact⟨o,e,hd⟩
  .refine⟨⟨o,I.kIn p o hk,hc⟩,λ a e=>?_⟩;cases e;exact⟨o,I.kIn _ o hk,hd⟩
  .have z:∃o,s.heap.get? p=Om o/\o.ExactDict:=by
    rcases hk with ⟨kvs,hk⟩|⟨kvs,hk⟩
    .obtain⟨_,_,_,_,o,_,_,e,ex,_⟩:=I.hok p _ hk;exact⟨o,e,ex⟩
    .obtain⟨_,_,_,_,o,_,_,e,ex,_⟩:=I.hok p _ hk;exact⟨o,e,ex⟩
   obtain⟨o,e,ex⟩:=z;refine⟨⟨o,e,ex.1⟩,λ a e2=>?_⟩;cases e2;exact⟨o,e,ex.2.1⟩
  .obtain⟨o,_,_,_,e,ex,_⟩:=I.hok p _ hk;refine⟨⟨o,e,ex.1⟩,λ a e2=>?_⟩;cases e2;exact⟨o,e,ex.2.1⟩
 |_=>exact OY ty
def Dn(K:FG)(T:String)(r:V->List V->Hp->VK->Prop)(to:TE):TE:=λ σ H Q=>to σ H λ x H1=>VX K T x H1/\r x [] H1 Q
def Wy(K:FG)(T:String)(r:V->List V->Hp->VK->Prop)(to:TE)(t:TA):TE:=λ σ H Q=>to σ H λ x H1=>VX K T x H1/\t σ H1 λ xs H2=>r x xs H2 Q
variable {o e:Expr}{es:List Expr}{to:TE}{t:TA}{name:Str}{apos cpos:Pos}{T id:String}{r:V->List V->Hp->VK->Prop}
theorem Do(pa:PlainAttrs T)(slot:Slot T name id)(hty:typeOf (.builtin id)=OM (.type "method_descriptor"))(hm:VD X id r)(ho:PE X o to)
  (hbase:autoParam (So o name X.env (eval o X.env)=eval o X.env) A8._auto_1) (hline:autoParam ((apos.endLine == cpos.line)=On) A8._auto_1):PE X (.Call (.Attribute o name apos) [] [] cpos) (Dn X.K T r to):=by
 intro Tb s σ H Q I h;refine wpAny_Call_method0_late hbase hline (Tl (ho Tb s σ H _ I h) λ v s1 ⟨x,H1,I1,r1,ty,q1⟩=>?_);obtain⟨h1,h2⟩:=uP I1 r1 ty;exact⟨T,id,pa,slot,hty,h1,h2,uQ rfl (PySem.evalArgs_none (hm Tb s1 σ H1 x [] v [] Q I1 r1 .nil q1))⟩
theorem jJ(pa:PlainAttrs T)(slot:Slot T name id)(hty:typeOf (.builtin id)=OM (.type "method_descriptor"))(hm:VD X id r)(ho:PE X o to)(ha:PA X (e::es) t)
  (hbase:autoParam (So o name X.env (eval o X.env)=eval o X.env) A8._auto_1)
  (hfew:((Pu cpos (OI (e::es) X.env)).all (λ x=>!x.1) && (backToKw cpos (keywordEach [] X.env)).all (λ x=>x.1.isSome)
   && decide ((e::es).length+([]:List QA).length+(if ([]:List QA).isEmpty then 0 else 1)<30))=On:=by rfl)
  (hline:autoParam ((apos.endLine == cpos.line)=On) A8._auto_1) (hs:autoParam (OI (e::es) X.env=(Op,eval e X.env)::OI es X.env) A8._auto_1) (hplain:autoParam ((Pu cpos (OI es X.env)).any (·.1)=Op) A8._auto_1) :
  PE X (.Call (.Attribute o name apos) (e::es) [] cpos) (Wy X.K T r to t):=by
 intro Tb s σ H Q I h;refine wpAny_Call_method_late hbase hfew hline rfl (Tl (ho Tb s σ H _ I h) λ v s1 ⟨x,H1,I1,r1,ty,q1⟩=>?_);obtain⟨h1,h2⟩:=uP I1 r1 ty;refine⟨T,id,pa,slot,hty,h1,h2,?_⟩;have hA:=ha cpos Tb s1 σ H1 _ I1 q1;rw[hs] at hA ⊢;refine uQ (by show(Op || (Pu cpos (OI es X.env)).any (·.1))=Op;rw[hplain]<;>rfl) (Calls.evalArgs_plain ?_);exact Tl hA λ us s2 ⟨vs,H2,I2,r2,q2⟩=>hm Tb s2 σ H2 x vs v us Q I2 r1 r2 q2
end
def Wz(X:Cx)(id:String)(r:V->List V->Hp->VK->Prop):Prop :=
 ∀(Tb:LO) (s:Ot) (σ:St) (H:Hp) (x:V) (xs:List V) (v:Value) (us:LV) (Q:VK),Inv X Tb σ H s->RelV x v->Vals xs us->r x xs H Q ->
  Ov (Oy X.prog X.w) X.A (call (.builtin id) (v::us)) (EP X Tb σ Q) X.xe s
theorem Vals.one:∀ {x:V}{us:LV},Vals [x] us->∃u,us=[u]/\RelV x u
 |_,_,.cons r .nil=>⟨_,rfl,r⟩
theorem Vals.zero:∀ {us:LV},Vals [] us->us=[]
 |_,.nil=>rfl
def Vals.dropLast(h:Vals xs us):Vals xs.dropLast us.dropLast:=by
 induction h with
 |nil=>exact .nil
 |cons r t ih=>
  cases t with
  |nil=>exact .nil
  |cons q t'=>exact .cons r ih
theorem Vals.eraseIdx:∀ {xs:List V}{us:LV}(i:Nat),Vals xs us->Vals (xs.eraseIdx i) (us.eraseIdx i)
 |_,_,_,.nil=>.nil
 |_,_,0,.cons _ t=>t
 |_,_,i+1,.cons r t=>.cons r (Vals.eraseIdx i t)
def Vals.reverse(h:Vals xs us):Vals xs.reverse us.reverse:=by
 induction h with
 |nil=>exact .nil
 |cons r t ih=>rw[jK,jK];exact Vals.append ih (.cons r .nil)
theorem Vals.rep(h:Vals xs us):∀k:Nat,Vals (Ow k xs).flatten (Ow k us).flatten
 |0=>.nil
 |k+1=>by
  rw[eR,eR,gh,gh];exact Vals.append h (Vals.rep h k)
def Dp{α:Type}(l:List α):l.eraseIdx (l.length-1)=l.dropLast:=by
 induction l with
 |nil=>rfl
 |cons a r ih=>
  cases r with
  |nil=>rfl
  |cons b r=>
   have e:(a::b::r).length-1=((b::r).length-1)+1:=by
    have h1:(a::b::r).length=r.length+2:=rfl;have h2:(b::r).length=r.length+1:=rfl;lia
   rw[e,List.eraseIdx_cons_succ,ih];all_goals rfl
theorem uR{α:Type}:∀(l:List α) (i:Nat),(l.eraseIdx i).length<=l.length
 |[],_=>ao _
 |_::_,0=>Nat.le_succ _
 |_::r,i+1=>ly (uR r i)
theorem uS(its:LV):∀(k:Nat) (acc:LV),
  QP (λ x1 x2=>x1++x2) acc.toArray (Ow k its.toArray)=(acc++(Ow k its).flatten).toArray
 |0,acc=>by simp
 |k+1,acc=>by
  have e:acc.toArray++its.toArray=(acc++its).toArray:=on
  have e2:(acc++its)++(Ow k its).flatten=acc++(Ow (k+1) its).flatten:=by
   rw[eR,gh,ig]
  rw[<- e2,<- uS its k (acc++its),<- e,eR,ij]
section
variable {Tb:LO}{σ:St}{H:Hp}{s:Ot}{l b:Os}{xs ys zs:List V}
theorem Inv.lset{its its':LV}{f:Array Value->Array Value}{t':Nat}(I:Inv X Tb σ H s)(hH:H l=Om (.lst xs))
  (e:s.heap.get? l=Om { cls:=.type "list",data:=.seq its.toArray n }) (hf:f its.toArray=its'.toArray) (hv:Vals ys its') (hz:ys.length<=Ou) :
  Inv X Tb σ (Tf H l (.lst ys)) { s with heap:=s.heap.update l (Pe f),toks:=t' }:=by
 have q:=PySem.IsL.update e f;rw[hf] at q;refine I.write (x:=l) (e:=l) (by rw[hH];exact trivial) (.inl rfl) (λ b' u hb hu=>(eQ s.heap (Pe f) (cx hb)).trans hu) ⟨_,q⟩ ?_;exact⟨hz,its',_,hv,q⟩
theorem Inv.lnew{t':Nat}(I:Inv X Tb σ H s)(hv:Vals ys its)(hz:ys.length<=Ou) :
  Inv X Tb σ (Tf H s.heap.objs.size (.lst ys)) { s with heap:=s.heap.push { cls:=.type "list",data:=.seq its.toArray },toks:=t' } :=
 I.laid (λ _ _ q=>aM _ q) (ao _) ⟨hz,its,0,hv,bn _ rfl⟩
def Inv.fresh(I:Inv X Tb σ H s):H s.heap.objs.size=Oo:=I.hok.fresh (ao _)
def Inv.lstM(I:Inv X Tb σ H s)(hH:H l=Om (.lst xs)):xs.length<=Ou/\∃(its:LV) (n:Nat),Vals xs its/\xs.length=its.length/\s.heap.get? l=Om { cls:=.type "list",data:=.seq its.toArray n }:=by
 obtain⟨z,its,n,r,e⟩:=I.hok l _ hH;exact⟨z,its,n,r,r.length,e⟩
def uT{n:Nat}(h:n<=Ou):Pc n=Op:=by
 unfold Pc;exact bD Z
end
def nj:V->List V->Hp->VK->Prop:=λ x vs H Q=>∃l xs y,x=.ref l/\vs=[y]/\H l=Om (.lst xs)/\xs.length<Ou/\Q .non (Tf H l (.lst (xs++[y])))
def uU:Wz X "list.append" nj:=by
 intro Tb s σ H x vs v us Q I rx rv h;obtain⟨l,xs,y,rfl,rfl,hH,hz,q⟩:=h;cases rx;obtain⟨u,rfl,ru⟩:=rv.one;obtain⟨z,its,n,r,hl,e⟩:=I.lstM hH;refine fJ s0v ⟨_,e,O⟩ s0j (uV _ _) (Rh l its.toArray n u (by rw[aY];lia)) ⟨e,?_⟩;refine⟨.non,_,I.lset (its':=its++[u]) hH e on (r.append (.cons ru .nil)) ?_,O,q⟩;rw[aF,gF];lia
def nq:V->List V->Hp->VK->Prop:=λ x vs H Q=>∃l xs y,x=.ref l/\vs=[]/\H l=Om (.lst xs)/\xs[xs.length-1]?=Om y/\Q y (Tf H l (.lst xs.dropLast))
def Dq:Wz X "list.pop" nq:=by
 intro Tb s σ H x vs v us Q I rx rv h;obtain⟨l,xs,y,rfl,rfl,hH,hy,q⟩:=h;cases rx;have hus:=rv.zero;subst hus;obtain⟨z,its,n,r,hl,e⟩:=I.lstM hH;obtain⟨u,hu,ru⟩:=r.get hy
 have hy':its.toArray[its.toArray.size-1]?=Om u:=by
  show its.toArray[its.length-1]?=Om u;rw[<- qw,<- hl];exact hu
 refine fJ F.slot_list_pop ⟨_,e,O⟩ F.entry_list_pop (F.args_list_pop_1 _) (MeetsSeq.list_pop_last l its.toArray n u hy' (by rw[aY];lia)) ⟨e,?_⟩;refine⟨y,_,I.lset (its':=its.dropLast) hH e ?_ r.dropLast ?_,ru,q⟩
 .show its.toArray.eraseIdxIfInBounds (its.toArray.size-1)=its.dropLast.toArray;rw[aY,uW,Dp]
 .rw[List.length_dropLast];lia
def lA:V->List V->Hp->VK->Prop:=λ x vs H Q=>∃l xs i k y,x=.ref l/\vs=[.int i]/\H l=Om (.lst xs)/\-(2 ^ 63)<=i/\i<2 ^ 63/\QH i xs.length=Om k/\xs[k]?=Om y/\Q y (Tf H l (.lst (xs.eraseIdx k)))
def Dr:Wz X "list.pop" lA:=by
 intro Tb s σ H x vs v us Q I rx rv h;obtain⟨l,xs,i,k,y,rfl,rfl,hH,h1,h2,hk,hy,q⟩:=h;cases rx;obtain⟨u,rfl,ru⟩:=rv.one;obtain⟨t,rfl⟩:=ru;obtain⟨z,its,n,r,hl,e⟩:=I.lstM hH;obtain⟨w,hw,rw'⟩:=r.get hy
 refine fJ F.slot_list_pop ⟨_,e,O⟩ F.entry_list_pop (F.args_list_pop_2 _ _)
  (MeetsSeq.list_pop_at l its.toArray n i t k w (s0d h1 h2) (by rw[aY,<- hl];exact hk) (by rw[<- qw];exact hw) (by rw[aY];lia)) ⟨e,?_⟩
 refine⟨y,_,I.lset (its':=its.eraseIdx k) hH e ?_ (r.eraseIdx k) ?_,rw',q⟩
 .show its.toArray.eraseIdxIfInBounds k=(its.eraseIdx k).toArray;rw[uW]
 .have:=uR xs k;lia
def Ds:R2:=λ x y H Q=>∃l k xs,x=.ref l/\y=.int k/\H l=Om (.lst xs)/\-(2 ^ 63)<=k/\k<2 ^ 63/\xs.length*k.toNat<=Ou /\
 ∀p,H p=Oo->Q (.ref p) (Tf H p (.lst (Ow k.toNat xs).flatten))
def uX{α:Type}(xs:List α)(k:Nat):(Ow k xs).flatten.length=k*xs.length:=by
 induction k with
 |zero=>simp
 |succ k ih=>rw[eR,gh,aF,ih,Nat.succ_mul,Nat.add_comm]
def Dt:TB X (Pa .Mult) Ds:=by
 intro Tb s σ H x y v u Q I rx ry h;obtain⟨l,k,xs,rfl,rfl,hH,h1,h2,hz,q⟩:=h;cases rx;obtain⟨t,rfl⟩:=ry;obtain⟨z,its,n,r,hl,e⟩:=I.lstM hH;have Tj:its.toArray.size*k.toNat<=Ou:=by rw[aY,<- hl];exact hz
 have hcap:¬its.toArray.size*k.toNat > (2 ^ 63-1)/8:=by
  have:(Ou:Nat)<=(2 ^ 63-1)/8:=ca;lia
 have hfit:¬(!Pm k)=On:=by
  rw[s0d h1 h2];exact bK
 have hlong:¬Pc (its.toArray.size*k.toNat)=On:=by
  rw[uT Tj];exact bK
 have hnew:QP (λ x1 x2=>x1++x2) #[] (Ow (if its.toArray.isEmpty=On then 0 else k.toNat) its.toArray)=(Ow k.toNat its).flatten.toArray:=by
  have f0:∀m:Nat,QP (λ x1 x2=>x1++x2) #[] (Ow m its.toArray)=(Ow m its).flatten.toArray:=λ m=>by
   have:=uS its m [];rw[nr] at this;exact this
  rw[f0]
  cases its with
  |nil=>simp
  |cons a r'=>rw[XR on]
 refine uY (T := "list") (U := "int") ca ⟨_,e,O⟩ (λ s'=>lx s' k t) noFill_list_mul F.fills_int_mul ny repeat_list F.slot_int_index.lookup
  (fJ ny (lx s k t) F.entry_int_rmul (F.args_int_rmul_2 _ _) (int___rmul___int_list k t l its.toArray n)
   ⟨e,rfl,⟨_,e,rfl⟩,fJ F.slot_list_mul ⟨_,e,rfl⟩ F.entry_list_mul (F.args_list_mul_2 _ _) (AutoListH.list___mul___list_int_3 l its.toArray n k t hfit hcap hlong) ⟨e,?_⟩⟩)
 rw[hnew];exact⟨.ref _,_,I.lnew (t':=s.toks) (r.rep k.toNat) (by rw[uX,s1h];exact hz),O,q _ I.fresh⟩
section
variable {prog:Oz}{w:OB}{A:OD}{E:VS}{s:Ot}
end
end _L
namespace Att
open PySem PySem.W PySem.Calls PyProof.Rows
def Du:∀(ns:LI) (vs:LV),WellAll P h vs (ns.map WData.int)->Qe vs ns:=by
 intro ns
 induction ns with
 |nil=>
  intro vs w;rw[SK] at w;cases w;exact .nil
 |cons n ns ih=>
  intro vs w;rw[cJ] at w
  cases w with
  |cons a b=>
   cases a;exact .cons _ _ (ih _ b)
theorem Dv{l:OpenLaw}(hn:l.most=Om n)
  (hpre:l.row.toRowW.claim.pre args=On) (hwl:WellAll P h vals args) :
  ∃a vs ns,vals=[OP a]/\args=[WData.list (ns.map WData.int)]/\h.get? a=Om { cls:=.type "list",data:=.seq vs.toArray }/\Qe vs ns/\ns.length<=n:=by
 have hsh:WShape.hasAll [] args [.list .int]=On:=(pre_splitW hpre).1;have hc:l.pre.holds [] { args:=args }=On:=(pre_splitW hpre).2;obtain⟨d,r,rfl,h1,h2⟩:=hasAllW_cons hsh;obtain rfl:=hasAllW_nil h2;obtain⟨xs,rfl,h3⟩:=hasW_list h1;obtain⟨ns,rfl⟩:=items_int h3
 have Tj:ns.length<=n:=by
  unfold OpenLaw.pre at hc
  have h4:(WTm.not (.lt (.lit (.int (n:Int))) (.len (.arg 0)))).holds [] { args:=[.list (ns.map .int)] }=On:=by
   have h4:=(holds_andW hc).1;rw[hn] at h4;exact h4
  have h5:=condW_of h4 (w_not (w_lt w_lit (w_len_list (w_arg rfl))));rw[ah] at h5;refine Nat.le_of_not_lt λ q=>?_;have q':(n:Int)<((ns.length:Nat):Int):=Z
  first
   |(rw[cB q'] at h5;exact XU h5 ca)
   |(simp at h5;lia)
 cases hwl with
 |cons w1 w2=>
  cases w2
  cases w1 with
  |list ho hall=>exact⟨_,_,ns,rfl,rfl,ho,Du ns _ hall,Tj⟩
def Dw(l:OpenLaw)(args:List WData):l.row.toRowW.claim.post args (.bool On) args=On :=
 postW_of (r:=l.row.toRowW) (X:=(On == On))
  (show WShape.has [] (.bool On) .bool=On by first|rfl|decide|simp[WShape.has,WShape.arms,WShape.armsAll])
  (show(WTm.eq .res (.lit (.bool On))).value [] { args:=args,res:=Om (.bool On),after:=args }=Om (.bool (On == On)) from w_eq_bool (w_res rfl) w_lit) rfl
theorem attach_call{l:OpenLaw}{YP:OB->OH->Prop}{d:DefRec}
  (hn:l.most=Om n) (hdf:d.params.defaults=[])
  (call:∀(w:OB) (s₀ s₁:Ot) (mg mb:SV) (fa:Os) (o:Obj) (pm cd doc:Value) (a:Os) (vs:LV) (ns:LI),
   Ground q loose [] XP w s₀ mg mb s₁.heap->YP w s₁.heap ->
   s₁.heap.get? fa=Om o->o.data=.func (docDef d.name d.params d.body d.scope pm cd doc)->s₁.heap.CodeRec cd d.name->mg d.name=Om (.ref fa) ->
   s₁.heap.get? a=Om { cls:=.type "list",data:=.seq vs.toArray }->Qe vs ns->ns.length<=n->s₁.gens=#[] ->
   Pt (Oy l.prog w) Ql (.call (.ref fa) ⟨[.ref a],[]⟩) (λ r s'=>r=.ok (.ret (.bool On))/\OldK s₁.heap s'.heap/\s'.os=s₁.os/\PR s'.gens) s₁) :
  WalkO q loose XP YP l.row.toRowW d [] (λ f vs=>RH f vs):=by
 intro w s₀ s₁ mg mb G Y fa o pm cd doc dV kV ho hd hcd hD hmg hg args vals as hpre hlay hrd hwl hlo;obtain rfl:dV=.none:=Dflts.none hD hdf;obtain rfl:kV=.none:=Dflts.noKw hD;obtain⟨a,vs,ns,rfl,rfl,hobj,hints,Tj⟩:=Dv hn hpre hwl;refine enter_call (kW (call w s₀ s₁ mg mb fa o pm cd doc a vs ns G Y ho (fd_plain hd) hcd hmg hobj hints Tj hg) λ r s' hq=>?_);obtain⟨rfl,h2,h3,h4⟩:=hq;exact⟨.inl ⟨.bool On,.bool On,[],O,λ _=>rfl,.bool On,Dw l _,λ _=>⟨List.Pairwise.nil,λ _ hm=>(nomatch hm)⟩⟩,h2,h3,h4⟩
section
variable {prog:Oz}{w:OB}{A:OD}{E:VS}{s:Ot}{K:Frag}
end
end Att
namespace _L
open PySem PySem.Spec PyProof.Rows
theorem qx:∀ {vs:LV}{ns:LI},Qe vs ns->Vals (ns.map V.int) vs
 |_,_,.nil=>.nil
 |_,_,.cons n t h=>.cons ⟨t,rfl⟩ (qx h)
noncomputable def gi(s:OC):Pb:=match s with
 |.FunctionDef _ a _ _ _ _ _ _ _ _=>a
 |_=>{ posonlyargs:=[],args:=[],vararg:=Oo,kwonlyargs:=[],kw_defaults:=[],kwarg:=Oo,defaults:=[] }
noncomputable def aK(s:OC):List OC:=match s with
 |.FunctionDef _ _ b _ _ _ _ _ _ _=>b
 |_=>[]
noncomputable def aD(s:OC):Scope:=match s with
 |.FunctionDef _ _ _ _ _ _ sc _ _ _=>sc
 |_=>{ kind:=.function,names:=[],isGenerator:=Op,isCoroutine:=Op }
noncomputable abbrev Tp:UC:=λ _ _ _ _ _ _=>False
abbrev E0:XK:=λ _ _ _=>False
def qy:mY Tp X E0:=λ _ _ _ _ _ _ _ h=>h.elim
structure Fun (K:FG)(x qual:Str)(st:OC)(f:Os)(fd:OT):Prop where
 ex:∃(oc:Value) (od:OA) (kV doc pm:Value) (an:OA) (cdv ct:Value) (osl:AV),
  fd=W.fnOf x qual (gi st) (aK st) (aD st) .none kV doc pm an cdv ct/\K.lookup f=Om ⟨oc,od,.func fd,osl⟩/\W.codeIn K cdv qual=On
 kp:W.keepIn K (.ref f)=On
section
variable {P:Oz}{w:OB}{K:FG}{mg:SV}{base:OH}
theorem Fun.ok{st:OC}{sp:Sp}(F:Fun K x qual st f fd)(S:Tt N ps (aD st))(len:∀vs H Q E,sp vs H Q E->vs.length=ps.length)
  (hbody:∀(cdv:Value) (A:OD) (outer:List Env) (s:Ot) (H:Hp) (vs:List V) (Q:VK) (E:XK),Room k (A.deeper (Ph qual (aD st) s.heap.objs.size f cdv))->sp vs H Q E ->
   ∃t,PSs (dP Tp P w K mg base N qual (aD st) f cdv A outer s H E).nox (aK st) t/\t { nx:=λ _ H'=>Q .non H',rt:=Q } (Ti N vs) H):FnOk P w K mg base Tp (k+1) f fd ps sp:=by
 obtain⟨oc,od,kV,doc,pm,an,cdv,ct,osl,rfl,lk,hcd⟩:=F.ex;refine uC lk hcd S len λ A outer s H vs Q E hr hsp=>?_;obtain⟨t,h,q⟩:=hbody cdv A outer s H vs Q E hr hsp;exact⟨t,h.nox,q⟩
theorem Fun.binds{st:OC}{ps:List Str}(F:Fun K x qual st f fd)
  (h:∀(kV doc pm:Value) (an:OA) (cdv ct:Value) (us:LV),us.length=ps.length->Pf (W.fnOf x qual (gi st) (aK st) (aD st) .none kV doc pm an cdv ct) ⟨us,[]⟩=OM (ps.zip us)):Binds K fd ps []:=by
 obtain⟨oc,od,kV,doc,pm,an,cdv,ct,osl,rfl,lk,hcd⟩:=F.ex;exact .all (h kV doc pm an cdv ct)
theorem uZ{st:OC}{oc:Value}{od an:OA}{osl:AV}{kV doc pm cdv ct:Value}(l:K.lookup f=Om ⟨oc,od,.func (W.fnOf x qual (gi st) (aK st) (aD st) .none kV doc pm an cdv ct),osl⟩)
  (c:W.codeIn K cdv qual=On) (k:W.keepIn K (.ref f)=On):Fun K x qual st f (W.fnOf x qual (gi st) (aK st) (aD st) .none kV doc pm an cdv ct):=⟨⟨oc,od,kV,doc,pm,an,cdv,ct,osl,rfl,l,c⟩,k⟩
end
def aN{n:Nat}(h:n<=1000):n<Ou:=qz h ca
variable {X:Cx}
end _L
set_option maxHeartbeats 4000000
namespace _L
open PySem PySem.Spec PyProof.Rows
section
variable {prog:Oz}{w:OB}{A:OD}{R:QW->Ot->Prop}{s:Ot}
theorem Dx{elt target iter:Expr}{it acc:Value}(I:Nat->Ot->Prop)
  (turn:∀n s,I n s->Ov (Oy prog w) A (Pn it) (λ r s₁=>match r with
   |none=>R (.ok .next) s₁
   | Om v=>Ov (Oy prog w) A (Pw target it v) (λ _ s₀=>Ov (Oy prog w) A (Qh target env v) (λ _ s₂=>Ov (Oy prog w) A (eval elt env) (λ x s₃ =>
     Ov (Oy prog w) A (call (.builtin "list.append") [acc,x]) (λ _ s₄=>∃m,m<n/\I m s₄) (λ _ _=>False) s₃)
     (λ _ _=>False) s₂) (λ _ _=>False) s₀) (λ _ _=>False) s₁) (λ _ _=>False) s)
  (n:Nat) (h:I n s) :
  Pt (Oy prog w) A (.compLoop (.ListComp elt [⟨target,iter,[],0⟩] scope pos) 0 it acc env) R s:=by
 refine codeAny_loop rfl I (λ n s hI=>?_) n h;show Ov _ _ ((compTurn (.ListComp elt [⟨target,iter,[],0⟩] scope pos) 0 it acc env).onRaise (λ x=>do Sg x env;RN x)) _ _ s;refine wpAny_noted ?_;rw[compTurn_list1];refine ae (kM (ae (cy (turn n s hI) (λ r s₁ h₁=>?_) λ _ _ h'=>h'.elim)))
 cases r with
 |none=>exact au h₁
 |some v=>
  refine ae (cy h₁ (λ _ s₀ h₀=>?_) λ _ _ h'=>h'.elim)
  exact ae (cy h₀ (λ _ s₂ h₂=>ae (ae (cy h₂ (λ x s₃ h₃=>ae (cy h₃
   (λ _ s₄ h₄=>au (au ⟨rfl,h₄⟩)) λ _ _ h'=>h'.elim)) λ _ _ h'=>h'.elim))) λ _ _ h'=>h'.elim)
end
noncomputable def eG(X:Cx)(N:List Str)(scope:Scope)(cl:LA)(C:Os)(ex:List Os)(s:Ot)(H:Hp):Cx where
 prog:=X.prog
 w:=X.w
 K:=X.K
 mg:=X.mg
 base:=X.base
 A:=X.A
 N:=N
 s₀:=s
 H₀:=H
 env:=SM scope cl C X.env
 outer:=X.stack
 stack:=X.stack
 ex:=ex
 fn:=λ _=>Op
 calm:=X.calm
 pn:=X.pn
 xe:=λ _ _=>False
noncomputable def dR(k:Nat)(js:List Nat)(σ:St):St:=Ow k Oo++js.map λ j=>(σ[j]?).join
def jL(wi:TI)(k:Nat)(js:List Nat)(g:TG)(te:TE):TE:=λ σ H Q=>wi σ H λ J H1=>
 ∃W:Nat->Nat->List V->St->Hp->Prop,(∃m,W 0 m [] (dR k js σ) H1)/\∀i m ys σ' H',W i m ys σ' H' ->
  (J.stop i H'/\∀p,H' p=Oo->Q (.ref p) (Tf H' p (.lst ys))) \/
  (J.go i H'/\ys.length < Ou/\∃N:List V->St->Hp->Prop,(∀zs σ2 H2,N zs σ2 H2->∃m',m' < m/\W (i+1) m' zs σ2 H2) /\
   ∀x H2,J.yld i H' x H2->g x σ' H2 λ σ3 H3=>te σ3 H3 λ v H4=>N (ys++[v]) σ3 H4)
structure WW (X:Cx)(scope:Scope)(cl:LA)(x:Str)(j:Nat):Prop where
 at_:X.N[j]?=Om x
 out:X.env.scope.names.lookup x=Om .cell\/X.env.scope.names.lookup x=Om .free
 inn:(PZ scope X.env).names.lookup x=Om .cell\/(PZ scope X.env).names.lookup x=Om .free
def Dy{σ:St}{j:Nat}(h:(σ[j]?).join=Om v):σ[j]?=Om (Om v):=by
 cases e:σ[j]? with
 |none=>rw[e] at h;cases h
 |some o=>
  rw[e] at h
  cases o with
  |none=>cases h
  |some u=>cases h;rfl
def ik(wi:TI)(k:Nat)(js:List Nat)(g:TG)(tc:TT)(te:TE):TE:=λ σ H Q=>wi σ H λ J H1=>
 ∃W:Nat->Nat->List V->St->Hp->Prop,(∃m,W 0 m [] (dR k js σ) H1)/\∀i m ys σ' H',W i m ys σ' H' ->
  (J.stop i H'/\∀p,H' p=Oo->Q (.ref p) (Tf H' p (.lst ys))) \/
  (J.go i H'/\ys.length < Ou/\∃N:List V->St->Hp->Prop,(∀zs σ2 H2,N zs σ2 H2->∃m',m' < m/\W (i+1) m' zs σ2 H2) /\
   ∀x H2,J.yld i H' x H2->g x σ' H2 λ σ3 H3=>tc σ3 H3 λ b H4=>if b=On then te σ3 H4 λ v H5=>N (ys++[v]) σ3 H5 else N ys σ3 H4)
abbrev nz:=Oz->OB->OD->Env->(Bool->Ot->Prop)->Ot->Prop
def lB(ifs:List Expr)(T:nz):Prop:=(∀ {prog:Oz}{w:OB}{A:OD}{R:QW->Ot->Prop}{s:Ot}{elt target iter:Expr}{scope:Scope}{pos:Pos}{it acc:Value}{env:Env}(I:Nat->Ot->Prop),
  (∀n s,I n s->Ov (Oy prog w) A (Pn it) (λ r s₁=>match r with
   |none=>R (.ok .next) s₁
   | Om v=>Ov (Oy prog w) A (Pw target it v) (λ _ s₀=>Ov (Oy prog w) A (Qh target env v) (λ _ s₂=>T prog w A env (λ b s₃ =>
     if b=On then Ov (Oy prog w) A (eval elt env) (λ x s₄ =>
      Ov (Oy prog w) A (call (.builtin "list.append") [acc,x]) (λ _ s₅=>∃m,m<n/\I m s₅) (λ _ _=>False) s₄) (λ _ _=>False) s₃
     else ∃m,m<n/\I m s₃) s₂) (λ _ _=>False) s₀) (λ _ _=>False) s₁) (λ _ _=>False) s)->∀n,I n s ->
  Pt (Oy prog w) A (.compLoop (.ListComp elt [⟨target,iter,ifs,0⟩] scope pos) 0 it acc env) R s) /\
 ∀ {p w A e k k' s},T p w A e k s->(∀b s,k b s->k' b s)->T p w A e k' s
def qA:nz:=λ _ _ _ _ k s=>k On s
def Dz:lB [] qA:=⟨λ I t n h=>Dx I t n h,λ h m=>m _ _ h⟩
def PM(X:Cx)(T:nz)(tc:TT):Prop:=∀(Tb:LO) (s:Ot) (σ:St) (H:Hp) (K:Bool->Hp->Prop),Inv X Tb σ H s->tc σ H K->T X.prog X.w X.A X.env (λ b s'=>∃H',Inv X Tb σ H' s'/\K b H') s
theorem DA{X:Cx}{elt tg iter:Expr}{cl:LA}{own fv:List Str}{js:List Nat}
    (hc:X.calm=On) (hi:PI X tg iter wi) (hclos:Pl scope X.env=OM cl) (hcell:∀y∈scope.names,y.2≠.cell) (Tx:scope.kind=.function)
    (hnames:∀y∈scope.names,y.2=.local->scope.names.lookup y.1=Om .local)
    (hcl:∀x c,cl.lookup x=Om c->X.env.cells.lookup x=Om c)
    (hhas:∀x,((PZ scope X.env).names.lookup x=Om .cell\/(PZ scope X.env).names.lookup x=Om .free)->∃c,cl.lookup x=Om c)
    (Tj:js.length=fv.length) (hcap:∀(i:Nat) x j,fv[i]?=Om x->js[i]?=Om j->WW X scope cl x j)
    (hg:∀(C:Os) (ex:List Os) (s:Ot) (H:Hp),PG (eG X (own++fv) scope cl C ex s H) tg g)
    (he:∀(C:Os) (ex:List Os) (s:Ot) (H:Hp),PE (eG X (own++fv) scope cl C ex s H) elt te)
    (ht:∀(C:Os) (ex:List Os) (s:Ot) (H:Hp),PM (eG X (own++fv) scope cl C ex s H) T0 tc) (lp:lB ifs T0)
    (hs:∀x,Qy iter X.env x=OM x)(I:Inv X Tb σ H s) (h:ik wi own.length js g tc te σ H Q)
    (fin:∀(a C:Os) (s5:Ot) (H5:Hp) (fl:Flow),Inv X Tb σ H5 s5->H5 C=Oo->C≠X.env.locals->X.s₀.heap.objs.size<=C->(∀x c,X.env.cells.lookup x=Om c->c≠C)->(∀p∈X.pn++Tb,p.1≠C)->(∃m,s5.heap.Ns C m)->Q (.ref a) H5->SN (Oy X.prog X.w) X.A X.xe use QQ (.ref a) C (.ok fl) s5) :
    Ov (Oy X.prog X.w) X.A (Su (.ListComp elt [⟨tg,iter,ifs,0⟩] scope pos) scope X.env fpos (Rc []) Op (firstIter [⟨tg,iter,ifs,0⟩] X.env) use) QQ X.xe s:=by
  refine wpAny_comprehension_free (use:=use) rfl hs hclos Tx hnames (Tl (hi Tb s σ H _ I h) λ v s1 h1=>Tl h1 λ itv s2 h2=>?_);obtain⟨it,fp,tn,J,H2,e,I2,T,st2,f2,W,⟨m0,w0⟩,turn⟩:=h2;subst e;refine cZ (wpAny_newFunctionEnv hcell (by intro y hy;simp at hy) (λ h₁ hns₁ hsb₁=>?_) Tx);dsimp only at hns₁ hsb₁ ⊢;generalize hHp:s2.heap.push { cls:=.type "list",dict:=Oo,data:=.seq ([]:LV).toArray }=hL at hns₁ hsb₁ ⊢;have hC:hL.objs.size=s2.heap.objs.size+1:=by rw[<- hHp,iV]
  have hDC:s2.heap.objs.size≠hL.objs.size:=by rw[hC];exact bf (iW _)
  have ltC:∀b,b<s2.heap.objs.size->b≠hL.objs.size:=λ b hb=>by rw[hC];exact bf (eH hb)
  have old:∀b o,s2.heap.get? b=Om o->h₁.get? b=Om o:=λ b o e=>hsb₁.extBut b o (ltC b (aJ e)) (aM _ (hHp ▸ aM _ e));have hacc:h₁.get? s2.heap.objs.size=Om { cls:=.type "list",data:=.seq ([]:LV).toArray 0 }:=hsb₁.extBut _ _ hDC (aM _ (hHp ▸ bn _ rfl));have hfresh:∀a,s2.heap.objs.size<=a->H2 a=Oo:=λ a ha=>I2.hok.fresh ha
  have fpL:∀b∈fp,b<s2.heap.objs.size:=λ b hb=>by
    obtain⟨o,e,_⟩:=T.obj _ _ st2 b hb;exact aJ e
  have cellL:∀x c,cl.lookup x=Om c->c<s2.heap.objs.size:=λ x c e=>by
    obtain⟨v,q⟩:=I2.cell x c (hcl x c e);exact q.lt
  have pinL:∀p∈X.pn++Tb,p.1<s2.heap.objs.size:=λ p hp=>aJ (I2.pin p hp).1;generalize hX:eG X (own++fv) scope cl hL.objs.size fp s2 H2=Y
  have ok:Y.Ok:=by
    subst hX
    refine⟨I2.ok.mod,Tx,I2.ok.glob,I2.ok.blt,by show s2.heap.objs.size≤hL.objs.size;lia,λ x y c h1 h2=>I2.ok.inj x y c (hcl x c h1) (hcl y c h2),λ x hx=>hhas x hx,
      λ x c hf=>XU hf (by show ¬(Op=On);decide),I2.ok.hd,I2.ok.frames,.inl rfl,λ b hb=>⟨ltC b (fpL b hb),λ x c e=>(f2 b hb).2.2.2.2.1 x c (hcl x c e)⟩,I2.bs,cG I2.ok.bsz I2.sz,λ b o e hb=>?_,λ b hb hz=>?_,I2.stack,I2.stkFree⟩
    . rcases(f2 b hb).2.2.2.1 with z|z
      . exact I2.ok.noex b o e z
      . exact XU (bE (aJ e) (cG I2.ok.bsz z)) (dM _)
    . rcases aB.mp (I2.stkSub b hz) with z|z
      . exact(f2 b hb).2.1 z
      . exact(f2 b hb).2.2.1 z
  have hYl:Y.env.locals=hL.objs.size:=by subst hX;rfl
  have hYs:Y.s₀=s2:=by subst hX;rfl
  have hYH:Y.H₀=H2:=by subst hX;rfl
  have hYx:Y.ex=fp:=by subst hX;rfl
  have hYf:Y.fs=Us X.stack:=by subst hX;rfl
  have hYc:Y.env.cells=cl:=by subst hX;rfl
  have hYp:Y.pn=X.pn:=by subst hX;rfl
  have pinOk:∀p∈X.pn++Tb,s2.heap.get? p.1=Om p.2/\H2 p.1=Oo/\p.1≠hL.objs.size/\p.1 ∉ Us X.stack/\∀v,p.2.data≠.cell v:=λ p hp=>by
    obtain⟨e,n,ne,nf,d⟩:=I2.pin p hp;refine⟨e,n,ltC _ (aJ e),λ z=>?_,d⟩
    rcases aB.mp (I2.stkSub _ z) with q|q
    . exact ne q
    . exact nf q
  have stkL:∀b∈Us X.stack,b<s2.heap.objs.size:=λ b hb=>by
    obtain⟨_,o,ho,_⟩:=I2.stack.mem hb;exact aJ ho
  have I3:Inv Y (Tb++[(s2.heap.objs.size,{ cls:=.type "list",data:=.seq ([]:LV).toArray 0 })]) (dR own.length js σ) H2 { s2 with heap:=h₁,toks:=s2.toks+([]:List (Str×Value)).length }:=by
    refine⟨ok,by subst hX;rfl,I2.bare,by rw[hYH,hYs];exact Un.kept old,⟨_,by rw[hYl];exact hns₁,λ i x v e1 e2 e3=>?_⟩,λ x c e=>?_,by rw[hYl];exact hfresh _ Z,λ x c e=>?_,λ p hp=>?_,by subst hX;exact I2.hok.kept old,?_⟩
    . subst hX;have e1:(own++fv)[i]?=Om x:=e1;unfold dR at e2;by_cases hi:i<own.length
      . rw[cI (by simpa using hi),fH] at e2;split at e2<;>cases e2
      . rw[cH (by simpa using hi),dC,bh] at e2;rw[cH Z] at e1
        cases ej:js[i-own.length]? with
        |none=>rw[ej] at e2;cases e2
        |some j=>
          rw[ej] at e2;have cp:=hcap _ x j e1 ej;have e2':σ[j]?=Om (Om v):=Dy (bw e2);obtain⟨m,hn,hl⟩:=I2.loc;obtain⟨u,r,l⟩:=hl j x v cp.at_ e2' (cp.out.elim (λ z=>.inr (.inl z)) λ z=>.inr (.inr z));refine⟨u,r,.inr ⟨cp.inn,?_⟩⟩;obtain⟨c,ec⟩:=hhas x cp.inn
          rcases l with ⟨k,_⟩|⟨_,c',ec',z⟩
          . have k:X.env.scope.names.lookup x=Om .local:=k
            rcases cp.out with q|q<;>rw[q] at k<;>cases k
          . rw[hcl x c ec] at ec';cases ec';obtain⟨o,ho,hd⟩:=z;exact⟨c,ec,o,old _ _ ho,hd⟩
    . rw[hYc] at e;obtain⟨v,o,ho,hd⟩:=I2.cell x c (hcl x c e);exact⟨v,o,old _ _ ho,hd⟩
    . rw[hYc] at e;exact I2.freeC x c (hcl x c e)
    . rw[hYp] at hp;rw[hYl,hYf]
      rcases bX.mp hp with z|z
      . obtain⟨a,b,c,d,f⟩:=pinOk p (fG _ z);exact⟨old _ _ a,b,c,d,f⟩
      . rcases bX.mp z with z|z
        . obtain⟨a,b,c,d,f⟩:=pinOk p (bH _ z);exact⟨old _ _ a,b,c,d,f⟩
        . have e:p=_:=aH.mp z;subst e;exact⟨hacc,hfresh _ (ao _),hDC,λ z=>XU (stkL _ z) (dM _),λ v z=>by cases z⟩
    . subst hX;unfold dR;show _=(own++fv).length;simp[Tj]
  have hYprog:Y.prog=X.prog:=by subst hX;rfl
  have hYw:Y.w=X.w:=by subst hX;rfl
  have hYK:Y.K=X.K:=by subst hX;rfl
  have hYA:Y.A=X.A:=by subst hX;rfl
  have hYcalm:Y.calm=On:=by subst hX;exact hc
  have hYxe:Y.xe=λ _ _=>False:=by subst hX;rfl
  have hYenv:Y.env=SM scope cl hL.objs.size X.env:=by subst hX;rfl
  have hg':=hg hL.objs.size fp s2 H2;have he':=he hL.objs.size fp s2 H2;have ht':=ht hL.objs.size fp s2 H2;rw[hX] at hg' he' ht'
  have fpOk:∀ {H':Hp}{pn:LO},(∀b∈fp,H' b=Oo)->(∀p∈pn,p.1=s2.heap.objs.size\/p∈Tb)->∀b∈fp,hG Y pn H' b:=λ hn hp b hb=>by
    refine⟨hn b hb,by rw[hYl];exact ltC b (fpL b hb),?_,.inl (by rw[hYx];exact hb),λ x c e=>?_,λ p hq=>?_⟩
    . rw[hYf];intro hz
      rcases aB.mp (I2.stkSub b hz) with z|z
      . exact(f2 b hb).2.1 z
      . exact(f2 b hb).2.2.1 z
    . rw[hYc] at e;exact(f2 b hb).2.2.2.2.1 x c (hcl x c e)
    . rw[hYp] at hq
      rcases bX.mp hq with z|z
      . exact(f2 b hb).2.2.2.2.2 p (fG _ z)
      . rcases hp p z with q|q
        . rw[q];exact cx (bf (fpL b hb))
        . exact(f2 b hb).2.2.2.2.2 p (bH _ q)
  have loop:∀s₃:Ot,s₃={ s2 with heap:=h₁,toks:=s2.toks+([]:List (Str×Value)).length } ->
      Pt (Oy X.prog X.w) X.A (.compLoop (.ListComp elt [⟨tg,iter,ifs,0⟩] scope pos) 0 (.ref it) (.ref s2.heap.objs.size) (SM scope cl hL.objs.size X.env))
        (SN (Oy X.prog X.w) X.A X.xe use QQ (.ref s2.heap.objs.size) hL.objs.size) s₃:=by
    rintro s₃ rfl
    refine lp.1 (λ n s'=>∃i ys its k σ' H',Inv Y (Tb++[(s2.heap.objs.size,{ cls:=.type "list",data:=.seq (its:LV).toArray k })]) σ' H' s'/\tn i s'.heap/\(∀b∈fp,H' b=Oo)/\Vals ys its/\ys.length<=Ou/\W i n ys σ' H') ?_ m0
      ⟨0,[],[],0,_,H2,I3,T.keep _ _ _ st2 λ b _ o e=>old b o e,λ b hb=>(f2 b hb).1,.nil,bP _,w0⟩
    rintro n s4 ⟨i,ys,its,k,σ4,H4,I4,st4,fr4,rv,hz,w4⟩
    have pinD:∀p∈(Tb++[(s2.heap.objs.size,({ cls:=.type "list",data:=.seq (its:LV).toArray k }:Obj))]),p.1=s2.heap.objs.size\/p∈Tb:=λ p hp=>by
      rcases bX.mp hp with z|z
      . exact .inr z
      . rw[aH.mp z];exact .inl rfl
    have F4:=fpOk (pn:=Tb++[(s2.heap.objs.size,{ cls:=.type "list",data:=.seq (its:LV).toArray k })]) fr4 pinD
    rcases turn i n ys σ4 H4 w4 with ⟨stop,qn⟩|⟨go,hlt,N,hN,step⟩
    . have d:=T.done Y hYprog hYw hYK hYcalm i _ s4 σ4 H4 (λ _ _=>False) I4 F4 st4 stop;rw[hYA] at d;refine Tl d λ r s5 ⟨hr,I5⟩=>?_;subst hr;obtain⟨m,hn,_⟩:=id I5.loc;rw[hYl] at hn;have hD:=I5.pin (s2.heap.objs.size,{ cls:=.type "list",data:=.seq (its:LV).toArray k }) (bH _ (bH _ (aH.mpr rfl)));have hDn:H4 s2.heap.objs.size=Oo:=hD.2.1;have kp:∀b o,b≠hL.objs.size->s5.heap.get? b=Om o->s5.heap.get? b=Om o:=λ b o _ e=>e;have B:=I5.base;rw[hYH,hYs,hYx,hYf] at B;have s2C:∀b o,s2.heap.get? b=Om o->b≠hL.objs.size:=λ b o e=>ltC b (aJ e);have Ut:∀b u,H4 b=Om u->b≠s2.heap.objs.size:=λ b u e z=>by rw[z,hDn] at e;cases e
      have trC:∀b u,H4 b=Om u->b≠hL.objs.size:=λ b u e z=>by
        have:=I5.free;rw[hYl,<- z,e] at this;cases this
      have hH2:∀b u,H2 b=Om u->b≠s2.heap.objs.size:=λ b u e z=>by rw[z,hfresh _ (ao _)] at e;cases e
      have IX:Inv X Tb σ (Tf H4 s2.heap.objs.size (.lst ys)) s5:=by
       refine I2.call' (ch:=fp) (by show s5.os=s2.os;rw[I5.os,hYs]) ⟨λ b o e n hb hx=>kp b o (s2C b o e) (B.keep b o e n hb hx),λ b o e n hb hx=>?_,λ b o e n hx=>?_,λ b o e hx=>?_,λ b xs e=>?_,λ b o u e=>?_,λ b ps e=>?_⟩ ?_ I5.bare (λ b hb=>⟨(f2 b hb).2.2.2.1,(f2 b hb).2.1,(f2 b hb).2.2.2.2.1,(f2 b hb).2.2.2.2.2⟩)
       . obtain⟨sl,q⟩:=B.slot b o e n hb hx;exact⟨sl,kp b _ (s2C b o e) q⟩
       . rw[aA (bf (aJ e))];exact B.free b o e n hx
       . obtain⟨o',q⟩:=B.there b o e hx;exact⟨o',kp b o' (s2C b o e) q⟩
       . rw[aA (hH2 b _ e)];exact B.tups b xs e
       . rw[aA (hH2 b _ e)];exact B.frzs b o u e
       . obtain⟨more,q⟩:=B.tbls b ps e;exact⟨more,by rw[aA (hH2 b _ e)];exact q⟩
       . intro b u e;by_cases hb:b=s2.heap.objs.size
         . subst hb;rw[bT] at e;cases e;exact⟨hz,its,k,rv,kp _ _ hDC hD.1⟩
         . rw[aA hb] at e;have okb:=I5.hok b u e;rw[hYprog,hYw] at okb;refine okb.stay (λ c v hc q=>kp c v ?_ q) (λ c q=>by rw[aA (Ut c _ q)];exact q) λ c xs q=>by rw[aA (Ut c _ q)];exact q
           rcases hc with z|z
           . rw[z];exact trC b u e
           . exact trC c _ z
      have zC:Tf H4 s2.heap.objs.size (.lst ys) hL.objs.size=Oo:=by
        rw[aA (cx hDC)];have:=I5.free
        rwa [hYl] at this
      exact fin s2.heap.objs.size hL.objs.size s5 _ _ IX zC (cx (ltC _ I2.lt)) (by have:=I2.sz;lia) (λ x c e=>ltC c (by obtain⟨v,q⟩:=I2.cell x c e;exact q.lt)) (λ p hp=>ltC _ (pinL p hp)) ⟨m,hn⟩ (qn _ hDn)
    . have d:=T.item Y hYprog hYw hYK hYcalm i _ s4 σ4 H4 (λ _ _=>False) I4 F4 st4 go;rw[hYA] at d;refine Tl d λ r s5 ⟨u,hr,h5⟩=>?_;subst hr;refine Tl h5 λ _ s6 ⟨x,H6,I6,r6,y6,st6,fr6⟩=>?_;have I6':=I6.pinned (fpOk (pn:=Tb++[(s2.heap.objs.size,{ cls:=.type "list",data:=.seq (its:LV).toArray k })]) fr6 pinD) (T.obj _ _ st6);have d7:=hg' _ s6 σ4 H6 x u _ I6' r6 (step x H6 y6);rw[hYprog,hYw,hYA,hYxe,hYenv] at d7;refine Tl d7 λ _ s7 ⟨σ7,H7,I7,q7⟩=>?_;have dt:=ht' _ s7 σ7 H7 _ I7 q7;rw[hYprog,hYw,hYA,hYenv] at dt;refine lp.2 dt λ bb s7 ⟨H7,I7,q7⟩=>?_
      cases bb with
      |false=>
        obtain⟨m',hm,w8⟩:=hN _ _ _ q7;have tn8:tn (i+1) s7.heap:=T.keep _ _ _ st6 λ b hb o e=>(I7.pin (b,o) (bH _ (bH _ (jD hb e)))).1
        have fr8:∀b∈fp,H7 b=Oo:=λ b hb=>by
          obtain⟨o,e,d⟩:=T.obj _ _ st6 b hb;exact(I7.pin (b,o) (bH _ (bH _ (jD hb e)))).2.1
        exact⟨m',hm,i+1,ys,its,k,σ7,H7,I7.unpinned,tn8,fr8,rv,hz,w8⟩
      |true=>
        have q7:te σ7 H7 _:=q7;show Ov _ _ (eval elt _) _ _ s7;have d8:=he' _ s7 σ7 H7 _ I7 q7;rw[hYprog,hYw,hYA,hYxe,hYenv] at d8;refine Tl d8 λ u8 s8 ⟨v8,H8,I8,r8,n8⟩=>?_;obtain⟨m',hm,w8⟩:=hN _ _ _ n8;have pD:=I8.pin (s2.heap.objs.size,{ cls:=.type "list",data:=.seq (its:LV).toArray k }) (bH _ (fG _ (bH _ (aH.mpr rfl))));have tn8:tn (i+1) s8.heap:=T.keep _ _ _ st6 λ b hb o e=>(I8.pin (b,o) (bH _ (bH _ (jD hb e)))).1
        have fr8:∀b∈fp,H8 b=Oo:=λ b hb=>by
          obtain⟨o,e,d⟩:=T.obj _ _ st6 b hb;exact(I8.pin (b,o) (bH _ (bH _ (jD hb e)))).2.1
        have J8:Inv Y Tb σ7 H8 s8:=I8.unpinned.unpinned;have eD:s8.heap.get? s2.heap.objs.size=Om { cls:=.type "list",data:=.seq its.toArray k }:=pD.1;refine fJ s0v ⟨_,eD,O⟩ s0j (uV _ _) (Rh _ its.toArray k u8 (by rw[aY,<- rv.length];lia)) ⟨eD,?_⟩;have other:∀b o,b≠s2.heap.objs.size->s8.heap.get? b=Om o->(s8.heap.update s2.heap.objs.size (Pe λ xs=>xs.push u8)).get? b=Om o:=λ b o nb e=>(eQ s8.heap _ (cx nb)).trans e
        have J9:=J8.turned (t':=s8.toks) (it:=s2.heap.objs.size) (h':=s8.heap.update s2.heap.objs.size (Pe λ xs=>xs.push u8)) other pD.2.1 (by rw[hYl];exact hDC) (.inr (by rw[hYs];exact ao _))
          (λ x c e=>by rw[hYc] at e;exact bf (cellL x c e)) (λ p hp=>by rw[hYp] at hp;exact bf (pinL p hp))
        have ep:(its.toArray.push u8)=(its++[u8]).toArray:=on
        obtain⟨kk,upD⟩:∃kk,(s8.heap.update s2.heap.objs.size (Pe λ xs=>xs.push u8)).get? s2.heap.objs.size=Om { cls:=.type "list",data:=.seq (its++[u8]).toArray kk }:=by
          have z:=PySem.IsL.update eD (λ xs=>xs.push u8);rw[ep] at z;exact⟨_,z⟩
        refine⟨m',hm,i+1,ys++[v8],its++[u8],kk,σ7,H8,J9.pins_of λ p hp=>?_,T.keep _ _ _ tn8 λ b hb o e=>other b o (bf (fpL b hb)) e,fr8,rv.append (.cons r8 .nil),?_,w8⟩
        . rcases bX.mp hp with z|z
          . exact J9.pin p (bH _ z)
          . rw[aH.mp z];exact⟨upD,pD.2.1,by rw[hYl];exact hDC,by rw[hYf];exact λ z=>XU (stkL _ z) (dM _),λ v z=>by cases z⟩
        . rw[aF,gF];lia
  exact codeAny_compStart_list (loop _ rfl) (T.self _ 0 _ _ _ (T.keep _ _ _ st2 λ b _ o e=>old b o e) (loop _ rfl))
def vc:ik wi k js g (λ σ H K=>K On H) te=jL wi k js g te:=by
 unfold ik jL;simp only[ga]
def pm0:PM X qA (λ σ H K=>K On H):=λ _ _ _ H _ I k=>⟨H,I,k⟩
section
variable {P:Oz}{w:OB}{K:FG}{mg:SV}{base:OH}{N:List Str}{qual:Str}{scope:Scope}{f:Os}{cd:Value}{A:OD}{outer:List Env}{s:Ot}{H:Hp}{E:XK}
end
section
variable {P:Oz}{w:OB}{K:FG}{mg:SV}{base:OH}
end
variable {X:Cx}
section
variable {Tb:LO}{σ:St}{H:Hp}{s:Ot}
theorem Inv.track(I:Inv X Tb σ H s)(hn:H a=Oo)(new:ObjOk X.prog X.w (Tf H a o) s.heap a o)(h1:a≠X.env.locals)(h2:∀x c,X.env.cells.lookup x=Om c->c≠a)(h3:∀p∈X.pn++Tb,p.1≠a)
  (h4:X.s₀.heap.get? a=Oo):Inv X Tb σ (Tf H a o) s:=by
 have ne:∀b u,H b=Om u->b≠a:=λ b u e z=>by rw[z,hn] at e;cases e
 have n0:∀b u,X.s₀.heap.get? b=Om u->b≠a:=λ b u e z=>by rw[z,h4] at e;cases e
 refine⟨I.ok,I.os,I.bare,⟨I.base.keep,I.base.slot,λ b u e n hx=>?_,I.base.there,λ b xs e=>?_,λ b u v e=>?_,λ b ps e=>?_⟩,I.loc,I.cell,?_,λ x c e=>?_,λ p hp=>?_,λ b u e=>?_,I.len⟩
 .rw[aA (n0 b u e)];exact I.base.free b u e n hx
 .have q:=I.base.tups b xs e;rw[aA (ne b _ q)];exact q
 .have q:=I.base.frzs b u v e;rw[aA (ne b _ q)];exact q
 .obtain⟨more,q⟩:=I.base.tbls b ps e;exact⟨more,by rw[aA (ne b _ q)];exact q⟩
 .rw[aA (cx h1)];exact I.free
 .rw[aA (h2 x c e)];exact I.freeC x c e
 .obtain⟨e,n,ne,nf,d⟩:=I.pin p hp;exact⟨e,by rw[aA (h3 p hp)];exact n,ne,nf,d⟩
 .by_cases hb:b=a
  .subst hb;rw[bT] at e;cases e;exact new
  .rw[aA hb] at e;exact(I.hok b u e).stay (λ c v _ q=>q) (λ c q=>by rw[aA (ne c _ q)];exact q) λ c xs q=>by rw[aA (ne c _ q)];exact q
end
noncomputable abbrev Cx.more(X:Cx)(xe:VS)(pn:LO):Cx:={ X with xe:=xe,pn:=pn }
def Cx.Ok.more{X:Cx}(ok:X.Ok)(xe:VS)(pn:LO):(X.more xe pn).Ok :=
 ⟨ok.mod,ok.kind,ok.glob,ok.blt,ok.above,ok.inj,ok.has,ok.cab,ok.hd,ok.frames,ok.stk,ok.exf,ok.bs,ok.bsz,ok.noex,ok.exfs,ok.funs,ok.frf⟩
section
variable {CX:UC}{k:Nat}{f:Os}{fd:OT}{ps:List Str}{sp:Sp}{dvs:List V}{ds:LV}{EE:St->XK}{x:Str}{p pos:Pos}{e:Expr}{es:List Expr}{t:TA}
end
structure Callee (P:Oz)(w:OB)(K:FG)(mg:SV)(base:OH)(CX:UC)(k:Nat)(x:Str)(ps:List Str)(sp:Sp):Prop where
 has:∃(f:Os) (fd:OT),FnOk P w K mg base CX k f fd ps sp/\mg x=Om (.ref f)/\W.keepIn K (.ref f)=On/\Binds K fd ps []
theorem Callee.mk'{K:FG}{mg:SV}{st:OC}(F:Fun K x qual st f fd)(m:mg x=Om (.ref f))(b:Binds K fd ps [])
  (ok:FnOk P w K mg base CX k f fd ps sp):Callee P w K mg base CX k x ps sp:=⟨⟨f,fd,ok,m,F.kp,b⟩⟩
def Callee.mono{K:FG}{j k:Nat}(c:Callee P w K mg base CX j x ps sp)(h:j<=k):Callee P w K mg base CX k x ps sp :=
 let ⟨f,fd,ok,m,kp,b⟩:=c.has;⟨⟨f,fd,ok.mono h,m,kp,b⟩⟩
section
variable {CX:UC}{k:Nat}{ps:List Str}{sp:Sp}{E:XK}{x:Str}{p pos:Pos}{e:Expr}{es:List Expr}{t:TA}
theorem qB(c:Callee X.prog X.w X.K X.mg X.base CX k x ps sp)(hr:Room k X.A)(hg:Gl X x)(hx:mY CX X E)(ha:PA X (e::es) t)(hdb:autoParam ((x == ("__debug__" : Str))=Op) ca._auto_1)
  (he:autoParam (OI (e::es) X.env=(Op,eval e X.env)::OI es X.env) A8._auto_1) (hpl:autoParam ((Pu pos (OI es X.env)).any (·.1)=Op) A8._auto_1):PE X (.Call (.Name x p) (e::es) [] pos) (uy sp [] E t):=by
 obtain⟨f,fd,ok,m,kp,b⟩:=c.has;exact CI ok hr hg m kp b .nil hx ha hdb he hpl
end
def DB(i j:Int):Prop:=j≠0/\-18446744073709551616<j/\j<18446744073709551616
def DC{y:Int}(h0:-18446744073709551616<y)(h1:y<18446744073709551616):y.natAbs.log2<9000:=by
 by_cases z:y.natAbs=0
 .rw[z];decide
 .exact bE ((Nat.log2_lt z).mpr (show y.natAbs<2 ^ 64 by lia)) ca
def DD:TB X (Pa .FloorDiv) (rI DB λ i j=>.int (i.fdiv j)):=Vm λ _ _ _ _ _ _ _ hc q=>floordiv_int hc.1 q (.inl (vd (DC hc.2.1 hc.2.2)))
section
variable {K:FG}
end
def small{n:Nat}(h:n<=1000):n<=Ou:=dN (aN h)
end _L
namespace _L
open PySem PySem.Spec PyProof.Rows PySem.W PySem.Calls
section
variable {prog:Oz}{w:OB}{A:OD}{E:VS}{K:FG}{h:OH}{g:Array Qj}{d:SE}{t:Nat}{os:OsState}{a C:Os}{ox:Obj}
end
variable {X:Cx}
noncomputable def im(t:Os)(i:Int):Obj:={ cls:=.type "reversed",data:=.fields #[.ref t,OO i] }
def IsRv(h:OH)(a t:Os)(i:Int):Prop:=∃o,h.get? a=Om o/\o.cls=.type "reversed" /\ o.data=.fields #[.ref t,OO i]
def IsRv.typeIs{s:Ot}(x:IsRv s.heap a t i):s.TypeIs (.ref a) "reversed" := let ⟨o,ho,hc,_⟩:=x;⟨o,ho,hc⟩
def DE:Ps (.type "tuple") "__reversed__"=OM Oo:=by rw[eU,eV];kernel_rfl
def ve:Ps (.type "tuple") "__getitem__"=OM (Om (.builtin "tuple.__getitem__")):=by rw[eU,eV];kernel_rfl
def DF:isSubtype (.type "tuple") (.type "dict")=OM Op:=by rw[iX];kernel_rfl
def DG:Slot "reversed" "__init__" "object.__init__" :=
 .of (owner := "object") (n := "__init__") (by rw[eU,eV];kernel_rfl) (by decide +kernel) (by decide +kernel) (by decide +kernel) (.inl (by decide +kernel)) (by rw[iX];kernel_rfl)
def rv_next:Slot "reversed" "__next__" "reversed.__next__" :=
 .of (owner := "reversed") (n := "__next__") (by rw[eU,eV];kernel_rfl) (by decide +kernel) (by decide +kernel) (by decide +kernel) (.inl (by decide +kernel)) (by rw[iX];kernel_rfl)
def vf:Slot "reversed" "__iter__" "reversed.__iter__" :=
 .of (owner := "reversed") (n := "__iter__") (by rw[eU,eV];kernel_rfl) (by decide +kernel) (by decide +kernel) (by decide +kernel) (.inl (by decide +kernel)) (by rw[iX];kernel_rfl)
def vg:SQ table "reversed.__next__"=Om Builtin.«reversed.__next__»:=Rw (by kernel_rfl)
def DH:SQ table "reversed.__iter__"=Om Builtin.«dict_keyiterator.__iter__» :=
 entryFor_alias (id' := "dict_keyiterator.__iter__") (by kernel_rfl) (by first|rfl|decide +kernel) (by decide +kernel) (by kernel_rfl)
def vh(a:Value):QD "reversed.__next__" ⟨[a],[]⟩:=by unfold QD;kernel_rfl
def DI(a:Value):QD "reversed.__iter__" ⟨[a],[]⟩:=by unfold QD;kernel_rfl
def DJ:TypeCalled "reversed" "reversed.__new__" "object.__init__" :=
 ⟨by decide +kernel,PySem.F.create_reversed,⟨_,_,PySem.F.mro_reversed⟩,PySem.F.made_reversed,PySem.F.plain_reversed_new,PySem.F.sub_reversed_self,DG⟩
theorem DK(t:Os)(items:Array Value)(hz:(items.size:Int)<2 ^ 63):RE (Builtin.«reversed.__new__» ⟨[.type "reversed",.ref t],[]⟩)
  (λ _ R s=>Qp s.heap t items/\∀tk,R (.ok (.ret (.ref s.heap.objs.size))) { s with heap:=s.heap.push (im t ((items.size:Int)-1)),toks:=tk }) :=
 .of_wp λ prog w A R s h=>by
  obtain⟨ht,h⟩:=h;have hT:s.TypeIs (.ref t) "tuple" := ht.typeIs;unfold Builtin.«reversed.__new__»;refine ae (eW (PySem.newClass_reversed _) ?_);try dsimp only
  refine ae (eW (a:=()) (by first|rfl|kernel_rfl) ?_);refine ae (eW (a:=()) (by first|rfl|kernel_rfl) ?_);try dsimp only
  refine ae (ip hT DE ?_);try dsimp only
  refine ae ?_
  k_delta "hasItemSlot"
  refine ae (lC (T := "tuple") (b:=Op) hT DF ?_);rw[XR bK];refine ae (ip hT ve ?_);dsimp only;rw[XT (by decide +kernel)];refine au ?_;rw[XR ca];refine ae (s0u ht hz ?_);refine ae (eW (a:=Om (items.size:Int)) rfl ?_);dsimp only;refine ae ?_;unfold RS;refine cZ (au ⟨_,O,h _⟩)
section
variable {prog:Oz}{w:OB}{A:OD}{E:VS}{s:Ot}
theorem vj{Q:VS}(ht:Qp s.heap t items)(hz:(items.size:Int)<2 ^ 63)
  (h:∀tk,Q (.ref s.heap.objs.size) { s with heap:=s.heap.push (im t ((items.size:Int)-1)),toks:=tk }):Ov (Oy prog w) A (call (.type "reversed") [.ref t]) Q E s :=
 callType_new DJ ca (PySem.F.typeCall_reversed_1 _) (PySem.F.newCall_reversed_1 _) (λ obj=>nA obj _) PySem.F.entry_reversed_new (DK t items hz)
  ⟨ht,λ tk=>⟨⟨_,bn _ rfl,rfl⟩,h tk⟩⟩
theorem vk{i:Nat}{Q:Option Value->Ot->Prop}(hit:IsRv s.heap it t (i:Int))(ht:Qp s.heap t items)(hx:items[i]?=Om x)(hz:(items.size:Int)<2 ^ 63)
  (hQ:∀h' tk,IsRv h' it t ((i:Int)-1)->Heap.SameBut it s.heap h'->Q (Om x) { s with heap:=h',toks:=tk }):Ov (Oy prog w) A (Pn (.ref it)) Q E s:=by
 obtain⟨o,ho,hc,hd⟩:=id hit;have hT:s.TypeIs (.ref t) "tuple" := ht.typeIs;have hi:i<items.size:=(vm.mp hx).1;unfold Pn;refine ae (lD (iU (name:=ON "__next__") hit.typeIs rv_next (fI rv_next hit.typeIs vg ?_ (vh _))));unfold Builtin.«reversed.__next__»;refine ae (eW (a:=(OP it,[])) rfl ?_);try dsimp only
 refine ae (dD ho hd (x:=.ref t) rfl ?_);refine ae (dD ho hd (x:=OO (i:Int)) rfl ?_);show Ov _ _ (if (i:Int)<0 then _ else _) _ _ s;rw[XR Z];refine ae (ip hT ve ?_);rw[XR ca];refine ae (wpAny_mkInt ?_);refine ae (lD (Sy (k:=(i:Int)) (j:=i) ht Z Z (by simp[QH];lia) hx ?_));dsimp only;refine ae (dD ho hd (x:=OO (i:Int)) rfl ?_);show Ov _ _ (setField (.ref it) 1 (OO ((i:Int)-1)) >>= _) _ _ _;refine ae (lE ho hd on ?_);refine au ⟨x,O,au (hQ _ _ ?_ (qC ..))⟩;exact⟨_,hZ _ ho (qD (jM hd _)),(Rg ..).trans hc,by rw[jM hd];simp⟩
def vo{Q:Option Value->Ot->Prop}(hh:A.handled=Oo)(hit:IsRv s.heap it t (-1))(hQ:∀h' tk,Heap.ExtBut it s.heap h'->Q Oo { s with heap:=h',toks:=tk }):Ov (Oy prog w) A (Pn (.ref it)) Q E s:=by
 obtain⟨o,ho,hc,hd⟩:=id hit;unfold Pn;refine ae (lD (iU (name:=ON "__next__") hit.typeIs rv_next (fI rv_next hit.typeIs vg ?_ (vh _))));unfold Builtin.«reversed.__next__»;refine ae (eW (a:=(OP it,[])) rfl ?_);try dsimp only
 refine ae (dD ho hd (x:=.ref t) rfl ?_);refine ae (dD ho hd (x:=OO (-1)) rfl ?_);show Ov _ _ (if (-1:Int)<0 then _ else _) _ _ s;rw[XT ca];refine ae (lF ?_);refine ae ?_
 k_delta "reversedEnd"
 refine ae (lE ho hd on ?_);refine lE (hZ _ ho (qD (jM hd _))) (jM hd _) on ?_;refine ae ?_
 have other:∀b u,b≠it->s.heap.get? b=Om u->((s.heap.update it (Qv λ x=>x.setIfInBounds 1 (OO (-1)))).update it (Qv λ x=>x.setIfInBounds 0 OZ)).get? b=Om u:=λ b u nb e=>by
  rw[eQ _ _ (cx nb),eQ _ _ (cx nb)];exact e
 generalize ((s.heap.update it (Qv λ x=>x.setIfInBounds 1 (OO (-1)))).update it (Qv λ x=>x.setIfInBounds 0 OZ))=hU at *;show Ov _ _ (SR (.type "StopIteration") [] >>= _) _ _ _;refine ae ?_;simp only[SR,SU];refine ae (cZ ?_ (by size_fits));refine ae (m:=Qm _ _) (eW (a:=OZ) (by first|rfl|(simp only[Qm];rfl)) ?_);refine cZ ?_ (by size_fits);simp only[raiseNew];refine ae (SC ?_);rw[show A.in1.handled=Oo from hh];refine ae (au (wpAny_throw ?_));refine ae (lC (T := "StopIteration") (b:=On) ⟨_,bn _ rfl,O⟩ RY ?_);exact au (hQ _ _ λ b u nb e=>aM _ (aM _ (other b u nb e)))
def qE{Q:VS}(hit:IsRv s.heap it t i)(h:Q (.ref it) s):Ov (Oy prog w) A (RM (.ref it)) Q E s:=by
 refine wpAny_pyIter_slot hit.typeIs vf (fI vf hit.typeIs DH ?_ (DI _));show Ov _ _ (ret (.ref it)) _ _ s;exact au ⟨_,O,"reversed",_,hit.typeIs,rv_next.lookup,h⟩
end
noncomputable def nC(K:FG)(a:Os)(n:Nat):It:=⟨λ i H=>∃xs,SqT K H a xs/\xs.length=n/\i<n,λ i H x H'=>H'=H/\∀xs,SqT K H a xs->xs[n-1-i]?=Om x,λ i H=>∃xs,SqT K H a xs/\xs.length=n/\i=n⟩
def nD:(Ou:Int)<2 ^ 63:=by rw[jF];decide
theorem DM{K:FG}(a it:Os)(n:Nat):Uw P w K tg (nC K a n) [it] it (λ i h=>IsRv h it a ((n:Int)-1-(i:Int))) where
 mem:=on
 obj:=λ i h x b hb=>by
  have e:b=it:=by simpa using hb
  subst e;obtain⟨o,ho,_,hd⟩:=x;exact⟨o,ho,λ v q=>by rw[hd] at q;cases q⟩
 keep:=λ i h h' x k=>let ⟨o,ho,r⟩:=x;⟨o,k it on o ho,r⟩
 item:=by
  intro X hP hw hK hc i Tb s σ H E I hf st hg;subst hP hw hK;obtain⟨xs,hq,hn,hi⟩:=hg;obtain⟨its,rv,p,hz⟩:=I.tuple hq;have hx:xs[n-1-i]?=Om (xs[n-1-i]' Z):=aZ Z;obtain⟨u,hu,ru⟩:=rv.get hx;obtain⟨f0,f1,f2,f3,f4,f5⟩:=hf it on;have e:(n:Int)-1-(i:Int)=((n-1-i:Nat):Int):=Z;rw[e] at st;have hl:=rv.length;have z63:=nD;refine vk st p (x:=u) (by simpa using hu) (by simp;lia) λ h' tk st' sb=>?_;have I1:Inv X Tb σ H { s with heap:=h',toks:=tk }:=I.turned (t':=tk) (λ b o hb e=>(sb.2 b hb).trans e) f0 f1 f3 f4 f5;obtain⟨o,e,c,d⟩:=id st';have e2:((n-1-i:Nat):Int)-1=(n:Int)-1-((i+1:Nat):Int):=Z;rw[e2] at st';exact⟨u,O,kN (s:={ s with heap:=h',toks:=tk }) e c d ca ⟨_,H,I1,ru,⟨O,λ ys hy=>by rw[I.tuple_inj hy hq];exact hx⟩,st',λ b hb=>(hf b hb).1⟩⟩
 done:=by
  intro X hP hw hK hc i Tb s σ H E I hf st hg;subst hP hw hK;obtain⟨xs,hq,hn,hi⟩:=hg;obtain⟨f0,f1,f2,f3,f4,f5⟩:=hf it on;have e:(n:Int)-1-(i:Int)=-1:=Z;rw[e] at st;exact vo (I.ok.hd hc) st λ h' tk eb=>⟨O,I.turned (t':=tk) (λ b o hb e=>eb b o hb e) f0 f1 f3 f4 f5⟩
 self:=λ _ _ _ _ _ st h=>qE st h
section
variable {tg:Expr}
def DN(K:FG)(te:TE):TI:=λ σ H R=>te σ H λ x H1=>∃a xs,x=.ref a/\SqT K H1 a xs/\R (nC K a xs.length) H1
theorem DO{p pos:Pos}(hg:Gl X "reversed")(hm:X.mg "reversed"=Oo)(he:PE X e te)(hs:autoParam (OI [e] X.env=[(Op,eval e X.env)]) A8._auto_1) :
  PI X tg (.Call (.Name "reversed" p) [e] [] pos) (DN X.K te):=by
 intro Tb s σ H R I h;have hA:=(cY he (pa_nil (X:=X)) hs) pos Tb s σ H (λ vs H1=>match vs with|[x]=>∃a xs,x=.ref a/\SqT X.K H1 a xs/\R (nC X.K a xs.length) H1|_=>False) I h;refine QE (eh I hg hm s0w (fY (Tl hA λ us s1 ⟨vs,H1,I1,r1,q1⟩=>?_) hs rfl))
 match vs,q1 with
 |[x],⟨a,xs,e,hq,q⟩=>
  subst e;obtain⟨u,rfl,ru⟩:=cz r1;cases (show u=OP a from ru);obtain⟨its,rv,p,hz⟩:=I1.tuple hq;have hl:=rv.length;have z63:=nD;refine vj p (by simp;omega) λ tk=>?_;have I2:Inv X Tb σ H1 { s1 with heap:=s1.heap.push (im a ((its.toArray.size:Int)-1)),toks:=tk }:=I1.kept (t':=tk) λ b o e=>aM _ e
  have ir:IsRv (s1.heap.push (im a ((its.toArray.size:Int)-1))) s1.heap.objs.size a ((xs.length:Int)-1-((0:Nat):Int)):=by
   refine⟨_,bn _ rfl,O,?_⟩;show Data.fields #[.ref a,OO ((its.toArray.size:Int)-1)]=_;have e:((its.toArray.size:Nat):Int)-1=(xs.length:Int)-1-((0:Nat):Int):=by simp;omega
   rw[e]
  refine qE ir ⟨s1.heap.objs.size,[s1.heap.objs.size],_,_,H1,O,I2,DM a _ xs.length,ir,λ b hb=>?_,q⟩;have e:b=s1.heap.objs.size:=by simpa using hb
  subst e;exact I1.fpOk (ao _) (I1.hok.fresh (ao _))
end
def DP:Ps (.type "list_reverseiterator") "__len__"=OM Oo:=by rw[eU,eV];kernel_rfl
def DQ:Ps (.type "list_reverseiterator") "__length_hint__"=OM (Om (.builtin "list_reverseiterator.__length_hint__")):=by rw[eU,eV];kernel_rfl
section
variable {pg:Oz}{wd:OB}{B:OD}{X0:VS}{s0:Ot}{J:Os}{fs ws:List Os}{Gg:Array Qj->Array Qj->Prop}{m:Nat}{Pr:Nat->Value->Prop}{Sx:Nat->Ot->Prop}
theorem DS{R:LV->Ot->Prop}(wk:QY pg wd B.in1 J fs ws Gg m Pr Sx)(ty:∀j z,Sx j z->z.TypeIs (.ref J) "list_reverseiterator")(z0:Sx 0 s0)(lt:∀b∈fs,b<s0.heap.objs.size)(mJ:J∈fs)(sm:m<=Ou)
  (fin:∀z' ac,RF ws Gg s0 z'->QM Pr ac m->R ac.toList z'):Ov (Oy pg wd) B (RX (.ref J)) R X0 s0:=by
 have out:s0.heap.objs.size ∉ fs:=λ q=>XU (lt _ q) (dM _);have neJ:s0.heap.objs.size≠J:=by rintro rfl;exact out mJ
 let nu:Obj:={ cls:=.type "list",data:=.seq ([]:LV).toArray }
 unfold RX;refine ae (Se (gG vp ?_));rw[gH vq _];show Ov _ B.in1 (Rc [] >>= λ q=>RJ (.builtin "list.__iadd__" ⟨[q,.ref J],[]⟩)) _ _ s0;refine ae (cZ ?_);refine au ⟨fK nE _,gG F.entry_list_iadd ?_⟩;rw[gH nE _];have z1:=wk.frame 0 s0 (s0.heap.push nu) s0.toks z0 (ao _) λ b _ o e=>aM _ e;have at1:(s0.heap.push nu).get? s0.heap.objs.size=Om nu:=bn _ rfl;have dif:Pj (.ref s0.heap.objs.size) (.ref J)=Op:=by simp[Pj,neJ]
 show Ov _ B.in1 (OX (.ref s0.heap.objs.size) (.ref J) (.ref s0.heap.objs.size)) _ _ _;unfold OX;refine ae (hV (ty 0 _ z1) ?_);rw[XR (by rw[dif];decide)];refine ae (wk.self 0 _ _ _ z1 ?_);refine ae (eO ?_);unfold Qq;refine ae (ip (ty 0 _ z1) DP ?_);show Ov _ B.in1 (specialOf (OP J) (ON "__length_hint__") >>= _) _ _ _;refine ae (ip (ty 0 _ z1) DQ ?_)
 (generalize hid:("list_reverseiterator.__length_hint__" : String)=id0;wp_delta;rw[show splitId id0=Om ("list_reverseiterator","__length_hint__") from by subst hid;decide +kernel];subst hid)
 refine ae (lC (b:=On) (ty 0 _ z1) (by rw[iX];kernel_rfl) ?_);refine au ?_;rw[XR ca];refine au ⟨fK qF _,qG wk sm _ out _ m 0 _ _ _ rfl (bP _) z1 at1 (s1n Pr) λ z' ac cc mv at2 its=>?_⟩;show Ov _ B (load s0.heap.objs.size >>= _) _ _ z';exact ae (s1e at2 (au (fin z' ac (s0e (o:=nu) (tk:=s0.toks) mv (ao _)) its)))
theorem DT{R:VS}(wk:QY pg wd B.in1.in1 J fs ws Gg m Pr Sx)(ty:∀j z,Sx j z->z.TypeIs (.ref J) "list_reverseiterator")(z0:Sx 0 s0)(lt:∀b∈fs,b<s0.heap.objs.size)(mJ:J∈fs)(sm:m<=Ou)
  (fin:∀z' ac,RF ws Gg s0 z'->QM Pr ac m->R (.ref z'.heap.objs.size) { z' with heap:=z'.heap.push { cls:=.type "tuple",data:=.seq ac } }) :
  Pt (Oy pg wd) B (.call (.builtin "tuple.__new__") ⟨[.type "tuple",.ref J],[]⟩) (wants R X0) s0:=by
 refine RK ?_;show Ov _ B.in1 (do Rv "tuple.__new__" ⟨[.type "tuple",.ref J],[]⟩;RJ (.builtin "tuple.__new__" ⟨[.type "tuple",.ref J],[]⟩)) _ _ s0;refine ae (eW (F.newCall_tuple_1 _) (au ⟨fK nG _,gG F.entry_tuple_new ?_⟩));rw[gH nG _];have q1:=Sd;have q2:=Ri;have q3:=RZ;have q4:=ty 0 s0 z0;wp_walk using hV q4,DS (sm:=sm) wk ty z0 lt mJ;intro z' ac mv its;show Ov _ _ (OS ac.toList.toArray >>= λ q=>ret q) _ _ _;have e:ac.toList.toArray=ac:=on;rw[e];unfold OS;exact ae (cZ (au (fin z' ac mv its)) (by show ac.size<=Ou;rw[its.1];exact sm))
theorem DU{R:VS}(wk:QY pg wd B.in1.in1.in1 J fs ws Gg m Pr Sx)(ty:∀j z,Sx j z->z.TypeIs (.ref J) "list_reverseiterator")(z0:Sx 0 s0)(lt:∀b∈fs,b<s0.heap.objs.size)(mJ:J∈fs)(sm:m<=Ou)
  (fin:∀z' ac,RF ws Gg s0 z'->QM Pr ac m->R (.ref z'.heap.objs.size) { z' with heap:=z'.heap.push { cls:=.type "tuple",data:=.seq ac } }) :
  Ov (Oy pg wd) B (call (.type "tuple") [.ref J]) R X0 s0 :=
 RV (Q₁:=λ ob z=>z.TypeIs ob "tuple" /\ R ob z) F.called_tuple (s0x _) s0k
  (DT (sm:=sm) wk ty z0 lt mJ λ z' ac mv its=>⟨⟨_,bn _ rfl,rfl⟩,fin z' ac mv its⟩)
  λ ob z q=>⟨q.1,nA ob _,Rj F.called_tuple.init.lookup F.called_tuple.made ca pg wd B.in1 _ z ⟨q.1,rfl,q.2⟩⟩
end
def DV(K:FG)(te:TE):TE:=λ σ H Q=>te σ H λ x H1=>∃a xs,x=.ref a/\SqL K H1 a xs/\∀p,H1 p=Oo->Q (.ref p) (Tf H1 p (.tup xs.reverse))
theorem DW{p1 p2 pos pos':Pos}(hc:X.calm=On)(ht:Gl X "tuple")(hr:Gl X "reversed")(mt:X.mg "tuple"=Oo)(mr:X.mg "reversed"=Oo)(he:PE X e te)(hs:autoParam (OI [e] X.env=[(Op,eval e X.env)]) A8._auto_1) :
  PE X (.Call (.Name "tuple" p1) [.Call (.Name "reversed" p2) [e] [] pos'] [] pos) (DV X.K te):=by
 intro Tb s σ H Q I h;refine QE (eh I ht mt boot_tuple (fY ?_ rfl rfl));refine qg ?_;have hA:=(cY he (pa_nil (X:=X)) hs) pos' Tb s σ H (λ vs H1=>match vs with|[x]=>∃a xs,x=.ref a/\SqL X.K H1 a xs/\∀p,H1 p=Oo->Q (.ref p) (Tf H1 p (.tup xs.reverse))|_=>False) I h;refine QE (eh I hr mr s0w (fY (Tl hA λ us s1 ⟨vs,H1,I1,r1,q1⟩=>?_) hs rfl))
 match vs,q1 with
 |[x],⟨a,xs,e,hq,q⟩=>
  subst e;obtain⟨u,rfl,ru⟩:=cz r1;cases (show u=OP a from ru);obtain⟨its,rv,pl,hz⟩:=I1.list hq;have hl:=rv.length;refine call_reversed_list pl.isList ?_;refine qd ?_;have I2:Inv X Tb σ H1 { s1 with heap:=s1.heap.push (SW a ((its.toArray.size:Int)-1)) }:=I1.kept (t':=s1.toks) λ b o e=>aM _ e;have al:a<s1.heap.objs.size:=by obtain⟨o,ho,_⟩:=pl.isList;exact aJ ho
  have hne:a≠s1.heap.objs.size:=bf al
  have ir:(s1.heap.push (SW a ((its.toArray.size:Int)-1))).IsRevIter s1.heap.objs.size a ((its.toArray.size:Int)-1-((0:Nat):Int)):=by
   refine⟨_,bn _ rfl,O,?_⟩;have e:(its.toArray.size:Int)-1-((0:Nat):Int)=(its.toArray.size:Int)-1:=Z;rw[e];rfl
  have sz:(s1.heap.push (SW a ((its.toArray.size:Int)-1))).objs.size=s1.heap.objs.size+1:=by simp[Heap.push]
  have ff:=I1.fpOk (ao s1.heap.objs.size) (I1.hok.fresh (ao _))
  refine DU (Walks.listRev (A:=X.A.in1.in1.in1) (I.ok.hd hc) s1.heap.objs.size a hne its.toArray).toS (λ j z q=>let ⟨o,ho,hk,_⟩:=q.2.1;⟨o,ho,hk⟩)
   ⟨bP _,ir,pl.isList.at λ o e=>aM _ e⟩ (λ b hb=>?_) (bd ..) (by simp only[aY];lia) λ z' ac mv io=>?_
  .show b<(s1.heap.push (SW a ((its.toArray.size:Int)-1))).objs.size;rw[sz];simp only[aB,bg,be] at hb
   rcases hb with rfl|rfl
   .exact iW _
   .exact eH al
  have I3:Inv X Tb σ H1 z':=by
   obtain⟨zh,zg,zd,zt,zo⟩:=z';have e1:zg=s1.gens:=mv.gens;have e2:zd=s1.drawn:=mv.drawn;have e3:zo=s1.os:=mv.os;subst e1 e2 e3;obtain⟨f0,f1,f2,f3,f4,f5⟩:=ff;exact I1.turned (t':=zt) (λ b o hb e=>mv.heap b o (by simpa using hb) (aM _ e)) f0 f1 f3 f4 f5
  have er:ac=its.reverse.toArray:=by
   have sz2:ac.size=its.length:=by simpa using io.1
   apply SZ
   .simp[sz2]
   .intro j h1 h2;have q:=io.2 j _ (qH h1);simp only[aY,nH] at q;have q2:its.reverse[j]?=Om ac[j]:=by rw[lG Z];exact q
    rw[vt];exact(bw ((aZ (by simpa using h2)).symm.trans q2)).symm
  subst er
  have I4:Inv X Tb σ (Tf H1 z'.heap.objs.size (.tup xs.reverse)) { z' with heap:=z'.heap.push { cls:=.type "tuple",data:=.seq its.reverse.toArray } } :=
   I3.laid (t':=z'.toks) (λ b o e=>aM _ e) (ao _) (show ObjOk X.prog X.w _ _ _ (.tup xs.reverse) from ⟨by simpa using hz,its.reverse,rv.reverse,TupO.new _ _⟩)
  exact⟨.ref z'.heap.objs.size,_,I4,O,q _ (I3.hok.fresh (ao _))⟩
def DX(K:FG):R2:=λ x y H Q=>∃a b xs ys,x=.ref a/\y=.ref b/\SqT K H a xs/\SqT K H b ys/\xs.length+ys.length<=Ou /\
 (xs=[]->Q (.ref b) H)/\(xs≠[]->ys=[]->Q (.ref a) H)/\(xs≠[]->ys≠[]->∀p,H p=Oo->Q (.ref p) (Tf H p (.tup (xs++ys))))
def DY:TB X (Pa .Add) (DX X.K):=by
 intro Tb s σ H x y v u Q I rx ry h;obtain⟨a,b,xs,ys,rfl,rfl,ha,hb,hz,q0,q1,q2⟩:=h;by_cases hx:xs=[]
 .cases rx;cases ry;obtain⟨its,r1,p1,_⟩:=I.tuple ha;obtain⟨its2,r2,p2,_⟩:=I.tuple hb;have e1:its=[]:=r1.nil_iff.mpr hx;obtain⟨⟨c1,d1,z1,l1⟩,g1,hc1,n1,hd1⟩:=id p1;obtain⟨⟨c2,d2,z2,l2⟩,g2,hc2,n2,hd2⟩:=id p2;simp only at hc1 hd1 hc2 hd2;subst hc1 hd1 hc2 hd2
  exact ng ⟨_,g1,O⟩ ⟨_,g2,O⟩ qm s0s qo qp (qq _ _)
   (tuple_addW0 a b its.toArray its2.toArray n1 n2 d1 d2 l1 l2 (by simp[e1])) ⟨g1,g2,.ref b,H,I,rfl,q0 hx⟩
 .exact CY Tb s σ H _ _ v u Q I rx ry ⟨a,b,xs,ys,O,O,ha,hb,hx,hz,q1 hx,q2 hx⟩
section
variable {pg:Oz}{wd:OB}{B:OD}{X0:VS}{s0:Ot}
theorem DZ{R:VS}(p:s0.heap.IsTupleIter j t k)(q:s0.heap.IsTuple t its)(e:its[k]?=Om x)
  (f:∀h',h'.IsTupleIter j t (k+1)->Heap.SameBut j s0.heap h'->R x { s0 with heap:=h' }):Ov (Oy pg wd) B (Pp (.ref j)) R X0 s0:=by
 obtain⟨o,g,c,d⟩:=id p;obtain⟨ot,gt,_,nt,dt⟩:=q;unfold Pp;refine ae (iU (name:=ON "__next__") p.typeIs nI (fI nI p.typeIs vv ?_ (vx _)));show Ov _ _ (Rb (.ref j) 0 >>= _) _ _ s0;refine ae (dD g d (x:=.ref t) rfl ?_);show Ov _ _ (if (OP t == OZ)=On then _ else _) _ _ s0;rw[XR (show ¬((OP t == OZ)=On) from bK)];show Ov _ _ (Rb (.ref j) 1 >>= _) _ _ s0;refine ae (dD g d (x:=.int k 0) rfl ?_);show Ov _ _ (PL (.ref t) >>= _) _ _ s0;refine ae (iY gt dt ?_);simp only[Ox,e];refine ae (lE g d on (au ⟨x,O,au (f _ ?_ (qC ..))⟩));exact⟨_,hZ _ g (qD (jM d _)),(Rg ..).trans c,by rw[jM d];simp[OO]⟩
theorem vy(hh:B.handled=Oo)(p:s0.heap.IsTupleIter j t k)(q:s0.heap.IsTuple t its)(e:its[k]?=Oo)
  (f:∀h' z,Heap.ExtBut j s0.heap h'->(∃o,h'.get? z=Om o/\o.cls=.type "StopIteration")->X0 (.ref z) { s0 with heap:=h' }):Ov (Oy pg wd) B (Pp (.ref j)) R X0 s0:=by
 obtain⟨o,g,c,d⟩:=id p;obtain⟨ot,gt,_,nt,dt⟩:=q;unfold Pp;refine ae (iU (name:=ON "__next__") p.typeIs nI (fI nI p.typeIs vv ?_ (vx _)));show Ov _ _ (Rb (.ref j) 0 >>= _) _ _ s0;refine ae (dD g d (x:=.ref t) rfl ?_);show Ov _ _ (if (OP t == OZ)=On then _ else _) _ _ s0;rw[XR (show ¬((OP t == OZ)=On) from bK)];show Ov _ _ (Rb (.ref j) 1 >>= _) _ _ s0;refine ae (dD g d (x:=.int k 0) rfl ?_);show Ov _ _ (PL (.ref t) >>= _) _ _ s0;refine ae (iY gt dt ?_);simp only[Ox,e];refine ae (lF (ae (lE g d on ?_)));show Ov _ _ (SR (.type "StopIteration") [] >>= _) _ _ _;refine ae ?_;simp only[SR,SU];refine ae (cZ ?_ (by size_fits));refine ae (m:=Qm _ _) (eW (a:=OZ) (by first|rfl|(simp only[Qm];rfl)) ?_);refine cZ ?_ (by size_fits);simp only[raiseNew];refine ae (SC ?_);first|rw[show B.in1.handled=Oo from hh]|rw[hh]
 refine ae (au (wpAny_throw ?_));exact f _ _ (((qC ..).extBut.push _).push _) ⟨_,bn _ rfl,O⟩
def qI{h h':OH}(p:h.IsTupleIter j t k)(f:∀o,h.get? j=Om o->h'.get? j=Om o):h'.IsTupleIter j t k:=let ⟨o,g,r⟩:=p;⟨o,f o g,r⟩
def nJ{h h':OH}(p:h.IsTuple t its)(f:∀o,h.get? t=Om o->h'.get? t=Om o):h'.IsTuple t its:=let ⟨o,g,r⟩:=p;⟨o,f o g,r⟩
end
def Inv.turnedL{h':OH}{t':Nat}{fl:List Os}(I:Inv X Tb σ H s)(kk:∀b o,b ∉ fl->s.heap.get? b=Om o->h'.get? b=Om o)(fo:∀b∈fl,hG X Tb H b):Inv X Tb σ H { s with heap:=h',toks:=t' }:=by
 have out:∀b u,H b=Om u->b ∉ fl:=λ b u e z=>by rw[(fo b z).1] at e;cases e
 refine I.step (g':=s.gens) (d':=s.drawn) (ch:=fl) (λ b hb=>?_) (λ b o _ _ hc e _=>kk b o hc e) (λ b o _ _ hc e _=>⟨o.slots,kk b o hc e⟩) (λ _ _ _ _ q=>q)
  (λ b o hc e=>⟨o,kk b o hc e⟩) (λ _ _ e=>e) (λ _ _ _ e=>e) (λ b ps e=>⟨#[],by rw[e];simp⟩) (λ m hm=>?_) (λ b u e=>?_) I.bare
 .obtain⟨_,f1,_,f3,f4,f5⟩:=fo b hb;exact⟨f3,f1,f4,f5⟩
 .obtain⟨o,es,ep,ho,r⟩:=hm;exact⟨o,es,ep,kk _ o (λ z=>(fo _ z).2.1 rfl) ho,r⟩
 .refine(I.hok b u e).stay (λ c v hc q=>kk c v ?_ q) (λ _ q=>q) λ _ _ q=>q
  rcases hc with z|z
  .rw[z];exact out b u e
  .exact out c _ z
section
variable {es:List Expr}{x1:Nat}{pp:Pos}
end
def Ea(hc:X.calm=On):bY X (.builtin "sum") (λ xs H Q=>∃(a:Os) (ns:LI),xs=[.ref a]/\SqL X.K H a (ns.map V.int)/\Q (.int ns.sum) H):=by
 intro Tb s σ H xs us Q I r h;obtain⟨a,ns,rfl,hq,q⟩:=h;obtain⟨u,rfl,ru⟩:=cz r;cases (show u=OP a from ru);obtain⟨its,rv,pl,hz⟩:=I.list hq;have hi:=kZ rv;have hn:=hi.numsOf;obtain⟨ps,e⟩:=hi.allInts.items;have hl:s.heap.IsList a (intItems ps):=e ▸ pl.isList;refine sum_intListG (I.ok.hd hc) hl λ h' tk t' kk=>?_
 have e2:preSum (numAt ps) ps.size=ns.sum:=by
  rw[preSum_eq,cj on,<- s0y,<- e];exact bA List.sum hn
 rw[e2];exact⟨.int ns.sum,H,I.kept kk,⟨t',O⟩,q⟩
noncomputable def WA(lo st:Int)(n:Nat):It:=⟨λ i _=>i<n,λ i H x H'=>H'=H/\x=.int (lo+i*st),λ i _=>n<=i⟩
theorem Eb{K:QC}(it:Os)(lo st:Int)(n:Nat):Uw P w K tg (WA lo st n) [it] it (λ i h=>QJ h it (lo+(i:Nat)*st) ((n:Int)-(i:Nat)) st) where
 mem:=on
 obj:=λ i h q b hb=>by
  have e:b=it:=by simpa using hb
  subst e
  exact⟨_,q,λ v z=>by
   have z':Data.fields _=Data.cell v:=z
   cases z'⟩
 keep:=λ i h h' q k=>k it on _ q
 item:=by
  intro X hP hw hK hc i Tb s σ H E I hf q hg;subst hP hw hK;obtain⟨f0,f1,f2,f3,f4,f5⟩:=hf it on;have W:=Walks.range (prog:=X.prog) (w:=X.w) (I.ok.hd hc) it lo st n;refine W.item i s _ _ hg q λ v h' tk hv q' kk=>?_;obtain⟨t,rfl⟩:=hv;have I1:Inv X Tb σ H { s with heap:=h',toks:=tk }:=I.turned (λ b o hb e=>kk b o (by simpa using hb) e) f0 f1 f3 f4 f5;exact⟨_,O,kN (s:={ s with heap:=h',toks:=tk }) (n := "range_iterator") q' rfl rfl ca ⟨.int (lo+i*st),H,I1,⟨t,O⟩,⟨O,O⟩,q',λ b hb=>(hf b hb).1⟩⟩
 done:=by
  intro X hP hw hK hc i Tb s σ H E I hf q hg;subst hP hw hK;obtain⟨f0,f1,f2,f3,f4,f5⟩:=hf it on;exact uj (I.ok.hd hc) q (by have:n<=i:=hg;lia) λ h' eb=>⟨O,I.turned (t':=s.toks) (λ b o hb e=>eb b o hb e) f0 f1 f3 f4 f5⟩
 self:=λ _ _ _ _ _ q h=>uk q h
def Ec(ta:TA):TI:=λ σ H R=>ta σ H λ vs H1=>∃i j c:Int,vs=[.int i,.int j,.int c]/\(c≠0/\c.natAbs<1073741824/\Pk i j c=On)/\R (WA i c (OJ i j c).toNat) H1
def Ed(i j c:Int)(hc:c≠0):0<=OJ i j c:=by
 unfold OJ;split
 .split
  .have:=RA (show 0<=j-i-1 by lia) (show 0<=c by lia);lia
  .lia
 .split
  .have:=RA (show 0<=i-j-1 by lia) (show 0<=-c by lia);lia
  .lia
theorem Ee{tg a b c:Expr}{p pos:Pos}(hg:Gl X "range")(hm:X.mg "range"=Oo)(ha:PA X [a,b,c] ta)(hs:autoParam (OI [a,b,c] X.env=[(Op,eval a X.env),(Op,eval b X.env),(Op,eval c X.env)]) A8._auto_1)
  (hs2:autoParam (OI [b,c] X.env=[(Op,eval b X.env),(Op,eval c X.env)]) A8._auto_1):PI X tg (.Call (.Name "range" p) [a,b,c] [] pos) (Ec ta):=by
 intro Tb s σ H R I h;refine QE (eh I hg hm boot_range (fY (Tl (ha pos Tb s σ H _ I h) λ us s1 ⟨vs,H1,I1,r1,q1⟩=>?_) (by rw[hs,hs2]) (by rw[hs2];rfl)));obtain⟨i,j,k,e,⟨c0,c1,c2⟩,q⟩:=q1;subst e
 cases r1 with
 |cons r rr=>
  cases rr with
  |cons r' rr=>
   cases rr with
   |cons r'' rr=>
    cases rr;obtain⟨t,rfl⟩:=r;obtain⟨t',rfl⟩:=r';obtain⟨t'',rfl⟩:=r'';refine call_range_3 c0 ?_ (.inl (PyProof.noPylong_small c1));refine s0p (IsRange.new ..) c2 ?_;have I2:Inv X Tb σ H1 { s1 with heap:=s1.heap.push { cls:=.type "range",data:=.fields #[.int i t,.int j t',.int k t''] },toks:=s1.toks }:=I1.kept λ b o e=>aM _ e;generalize s1.heap.push { cls:=.type "range",data:=.fields #[.int i t,.int j t',.int k t''] }=hr at I2 ⊢;refine⟨hr.objs.size,[hr.objs.size],_,_,H1,O,I2.kept (t':=s1.toks) λ b o e=>aM _ e,Eb _ i k (OJ i j k).toNat,?_,λ b hb=>?_,q⟩
    .have e1:i+((0:Nat):Int)*k=i:=by simp
     have e2:(((OJ i j k).toNat:Nat):Int)-((0:Nat):Int)=OJ i j k:=by have:=Ed i j k c0;lia
     show QJ _ _ (i+((0:Nat):Int)*k) ((((OJ i j k).toNat:Nat):Int)-((0:Nat):Int)) k;rw[e1,e2];exact bn _ rfl
    .have e:b=hr.objs.size:=by simpa using hb
     subst e;exact I2.fpOk (ao _) (I2.hok.fresh (ao _))
open AutoSeq1 (wpAny_loadPart')
def Ef:fillsNumberSlot (.type "tuple") "mul"=OM Op :=
 PySem.fillsNumberSlot_seq (id := "tuple.__mul__") (r:=Om (.builtin "tuple.__rmul__")) F.slot_tuple_mul.lookup (by decide +kernel) (by rw[eU,eV];kernel_rfl) (by decide +kernel)
def Eg:seqRepeat? (.type "tuple")=OM (Om (.builtin "tuple.__mul__")):=by
 have e1:Ps (.type "tuple") "__rmul__"=OM (Om (.builtin "tuple.__rmul__")):=by rw[eU,eV];kernel_rfl
 unfold seqRepeat?;rw[Rt (T := "tuple") (name := "__mul__") (id := "tuple.__mul__") F.slot_tuple_mul.lookup (by decide +kernel),Rt (T := "tuple") (name := "__rmul__") (id := "tuple.__rmul__") e1 (by decide +kernel)];rfl
theorem Eh(k:Int)(t:Tok)(l:Os)(its:Array Value)(n:Nat)(dd:OA)(sl:AV) :
  RE (Builtin.«int.__rmul__» ⟨[.int k t,.ref l],[]⟩) (λ _ R s=>s.heap.get? l=Om { cls:=.type "tuple",dict:=dd,data:=.seq its n,slots:=sl }/\R (.ok (.ret Value.notImplemented)) s) :=
 .of_wp λ prog w A R s h=>by obtain⟨hp,g,d,tk,os⟩:=s;obtain⟨hl,h⟩:=h;wp_walk;exact⟨_,rfl,h⟩
theorem Ei(l:Os)(its:Array Value)(n:Nat)(u:Tok)(dd:OA)(sl:AV) :
  RE (Builtin.«tuple.__mul__» ⟨[.ref l,.int 1 u],[]⟩) (λ _ R s=>s.heap.get? l=Om { cls:=.type "tuple",dict:=dd,data:=.seq its n,slots:=sl }/\R (.ok (.ret (.ref l))) s) :=
 .of_wp λ prog w A R s h=>by
  obtain⟨hp,g,d,tk,os⟩:=s;obtain⟨hl,h⟩:=h;have f1:=qJ;have c1:¬((decide ((1:Int) < -(2 ^ 63)) || decide ((1:Int) ≥ 2 ^ 63))=On):=ca;have c2:(its.isEmpty || (1:Int) == 1)=On:=on;wp_walk using PJ hl;exact⟨_,O,h⟩
theorem Ej(l:Os)(its:Array Value)(n:Nat)(k:Int)(u:Tok)(dd:OA)(sl:AV)(h0:k<=0)(h1:-(2 ^ 63)<=k)(ne:its.isEmpty=Op) :
  RE (Builtin.«tuple.__mul__» ⟨[.ref l,.int k u],[]⟩) (λ _ R s=>s.heap.get? l=Om { cls:=.type "tuple",dict:=dd,data:=.seq its n,slots:=sl }/\R (.ok (.ret (.ref s.heap.objs.size))) { s with heap:=s.heap.push { cls:=.type "tuple",data:=.seq #[] } }) :=
 .of_wp λ prog w A R s h=>by
  obtain⟨hp,g,d,tk,os⟩:=s;obtain⟨hl,h⟩:=h;have f1:=qJ;have c1:¬((decide (k < -(2 ^ 63)) || decide (k ≥ 2 ^ 63))=On):=by simp;lia
  have c2:¬(its.isEmpty || k == 1)=On:=by simp[ne];lia
  have c3:(decide (k<=0) || its.isEmpty)=On:=by simp[h0]
  wp_walk using PJ hl;rw[XR c1];wp_walk using PJ hl;rw[XR c2];dsimp only;rw[XT c3];wp_walk;exact⟨_,O,h⟩
theorem Ek(l:Os)(its:Array Value)(n:Nat)(k:Int)(u:Tok)(dd:OA)(sl:AV)(h0:1<k)(h1:k<2 ^ 63)(ne:its.isEmpty=Op)(hz:its.size*k.toNat<=Ou) :
  RE (Builtin.«tuple.__mul__» ⟨[.ref l,.int k u],[]⟩) (λ _ R s=>s.heap.get? l=Om { cls:=.type "tuple",dict:=dd,data:=.seq its n,slots:=sl }/\R (.ok (.ret (.ref s.heap.objs.size))) { s with heap:=s.heap.push { cls:=.type "tuple",data:=.seq ((Ow k.toNat its).foldl (·++·) #[]) } }) :=
 .of_wp λ prog w A R s h=>by
  obtain⟨hp,g,d,tk,os⟩:=s;obtain⟨hl,h⟩:=h;have f1:=qJ;have ek:(its.size:Int)*k=((its.size*k.toNat:Nat):Int):=by rw[Int.natCast_mul];congr 1;lia
  have sl63:(Ou:Int)<=(2 ^ 63-1)/8:=by rw[jF];decide
  have c1:¬((decide (k < -(2 ^ 63)) || decide (k ≥ 2 ^ 63))=On):=by simp;lia
  have c2:¬(its.isEmpty || k == 1)=On:=by simp[ne];lia
  have c3:¬(decide (k<=0) || its.isEmpty)=On:=by simp[ne];lia
  have c4:¬((its.size:Int)*k > (2 ^ 63-1)/8):=by rw[ek];lia
  have c5:¬(Qu ((its.size:Int)*k)=On):=by
   unfold Qu;rw[ek,da];lia
  have c6:((Ow k.toNat its).foldl (·++·) #[]).size<=Ou:=by
   have e:∀(m:Nat) (a:Array Value),((Ow m its).foldl (·++·) a).size=a.size+m*its.size:=by
    intro m
    induction m with
    |zero=>intro a;simp
    |succ m ih=>intro a;rw[eR,ij,ih];simp[Nat.succ_mul];lia
   rw[e];simp;rw[s1h];exact hz
  wp_walk using PJ hl;rw[XR c1];wp_walk using PJ hl;rw[XR c2];dsimp only;rw[XR c3];rw[XR c4];rw[XR c5];unfold OS;refine ae (cZ (au ?_) c6);exact⟨_,O,h⟩
section
variable {prog:Oz}{w:OB}{A:OD}{R:QW->Ot->Prop}{s:Ot}
theorem El{elt target iter cnd:Expr}{it acc:Value}(I:Nat->Ot->Prop)
  (turn:∀n s,I n s->Ov (Oy prog w) A (Pn it) (λ r s₁=>match r with
   |none=>R (.ok .next) s₁
   | Om v=>Ov (Oy prog w) A (Pw target it v) (λ _ s₀=>Ov (Oy prog w) A (Qh target env v) (λ _ s₂=>Ov (Oy prog w) A (isTrue cnd env (eval cnd env)) (λ b s₃ =>
     if b=On then Ov (Oy prog w) A (eval elt env) (λ x s₄ =>
      Ov (Oy prog w) A (call (.builtin "list.append") [acc,x]) (λ _ s₅=>∃m,m<n/\I m s₅) (λ _ _=>False) s₄) (λ _ _=>False) s₃
     else ∃m,m<n/\I m s₃)
     (λ _ _=>False) s₂) (λ _ _=>False) s₀) (λ _ _=>False) s₁) (λ _ _=>False) s)
  (n:Nat) (h:I n s) :
  Pt (Oy prog w) A (.compLoop (.ListComp elt [⟨target,iter,[cnd],0⟩] scope pos) 0 it acc env) R s:=by
 refine codeAny_loop rfl I (λ n s hI=>?_) n h;show Ov _ _ ((compTurn (.ListComp elt [⟨target,iter,[cnd],0⟩] scope pos) 0 it acc env).onRaise (λ x=>do Sg x env;RN x)) _ _ s;refine wpAny_noted ?_;rw[compTurn_list];refine ae (kM (ae (cy (turn n s hI) (λ r s₁ h₁=>?_) λ _ _ h'=>h'.elim)))
 cases r with
 |none=>exact au h₁
 |some v=>
  refine ae (cy h₁ (λ _ s₀ h₀=>?_) λ _ _ h'=>h'.elim);refine ae (cy h₀ (λ _ s₂ h₂=>?_) λ _ _ h'=>h'.elim);refine ae (cy (wpAny_tests_one h₂) (λ ok s₃ h₃=>?_) λ _ _ h'=>h'.elim)
  cases ok with
  |false=>exact au ⟨rfl,h₃⟩
  |true=>exact ae (ae (cy h₃ (λ x s₄ h₄=>ae (cy h₄ (λ _ s₅ h₅=>au (au ⟨rfl,h₅⟩)) λ _ _ z=>z.elim)) λ _ _ z=>z.elim))
end
def vz(cnd:Expr):nz:=λ p w A env k s=>Ov (Oy p w) A (isTrue cnd env (eval cnd env)) k (λ _ _=>False) s
def vA{cnd:Expr}:lB [cnd] (vz cnd):=⟨λ I t n h=>El I t n h,λ h m=>cy h m λ _ _ z=>z⟩
def WX{X:Cx}(hx:X.xe=λ _ _=>False)(h:PT X cnd tc):PM X (vz cnd) tc:=λ Tb s σ H K I k=>by
 have z:=h Tb s σ H K I k;rw[hx] at z;exact z
theorem Em{B:OD}(hh:B.handled=Oo)(j t:Os)(ne:t≠j)(as:Array Value):Draws pg wd B j [j,t] as.size (λ i v=>as[i]?=Om v) (λ i h=>h.IsTupleIter j t i/\h.IsTuple t as) where
 live:=λ _ _ q=>let ⟨o,g,_⟩:=q.1;⟨o,g⟩
 frame:=λ _ _ _ q k=>⟨qI q.1 λ o g=>k j on o g,nJ q.2 λ o g=>k t on o g⟩
 item:=λ i s R X0 hi q f=>DZ q.1 q.2 (x:=as[i]) (by simp[hi]) λ m p sb=>f _ m s.toks (by simp[hi]) ⟨p,nJ q.2 λ o g=>sb.extBut _ _ ne g⟩ sb
 done:=λ s R X0 q f=>vy hh q.1 q.2 on f
section
variable {pg:Oz}{wd:OB}{B:OD}{X0:VS}{s0:Ot}
theorem Eo{R:Option Value->Ot->Prop}(hh:B.handled=Oo)(hz:SI s0.heap z j n u)(p:s0.heap.IsTupleIter j t i)(q:s0.heap.IsTuple t as)(ex:as[i]?=Oo)
  (f:∀m,Heap.ExtBut j s0.heap m->R Oo { s0 with heap:=m }):Ov (Oy pg wd) B (Pn (.ref z)) R X0 s0:=by
 have ty:s0.TypeIs (.ref z) "enumerate" := ⟨_,hz,rfl⟩;unfold Pn;refine ae (lD (iU (name:=ON "__next__") ty vB (fI vB ty F.entry_enumerate_next ?_ (F.args_enumerate_next_1 _))));show Ov _ _ (Rb (.ref z) 2 >>= _) _ _ _;refine ae (dD hz rfl (x:=.ref j) rfl ?_);refine ae (vy hh p q ex λ m w xb hw=>?_);obtain⟨ow,gw,cw⟩:=hw;exact ae (lC (T := "StopIteration") (b:=On) ⟨ow,gw,cw⟩ RY (au (f _ xb)))
set_option tactic.hygienic true in
theorem Ep(t:Os)(as:Array Value)(n:Nat)(dc:OA)(sl:AV) :
  RE (Builtin.«enumerate.__new__» ⟨[.type "enumerate",.ref t],[]⟩) (λ _ R s=>s.heap.get? t=Om { cls:=.type "tuple",dict:=dc,data:=.seq as n,slots:=sl } /\
   R (.ok (.ret (.ref (s.heap.push { cls:=.type "tuple_iterator",data:=.fields #[.ref t,.int 0 0] }).objs.size))) { s with heap:=(s.heap.push { cls:=.type "tuple_iterator",data:=.fields #[.ref t,.int 0 0] }).push { cls:=.type "enumerate",data:=.fields #[.none,.bool Op,.ref s.heap.objs.size,OO 0,.none,.none] } }) :=
 .of_wp λ pg wd A R s h=>by
  obtain⟨hp,g,d,tk,os⟩:=s;obtain⟨ht,h⟩:=h;have q0:=sub_enumerate;have q1:Heap.IsTuple (Shared.heap ⟨hp,g,d,tk,os⟩) t as:=⟨_,ht,rfl,n,rfl⟩;wp_walk using qK ht;refine wpAny_stack_any λ stk=>au ?_;split
  .rename_i c _ _ _ _ _;cases (c == Pq "enumerate")<;>(wp_walk using qK ht,nK q1)<;>exact⟨_,rfl,h⟩
  .wp_walk using qK ht,nK q1;exact⟨_,O,h⟩
theorem Er{R:VS}(q:s0.heap.IsTuple t as)
  (f:∀m,SI m (s0.heap.objs.size+1) s0.heap.objs.size 0 .none->m.IsTupleIter s0.heap.objs.size t 0->(∀c o,s0.heap.get? c=Om o->m.get? c=Om o)->R (.ref (s0.heap.objs.size+1)) { s0 with heap:=m }) :
  Ov (Oy pg wd) B (call (.type "enumerate") [.ref t]) R X0 s0:=by
 obtain⟨⟨c,dc,dt,sl⟩,ht,hc,n,hd⟩:=q;cases (show c=.type "tuple" from hc);cases (show dt=.seq as n from hd);refine callType_new F.called_enumerate ca (F.typeCall_enumerate_1 _) (F.newCall_enumerate_1 _) (λ ob=>nA ob _) F.entry_enumerate_new (Ep t as n dc sl) ⟨ht,?_⟩;have n1:(s0.heap.push { cls:=.type "tuple_iterator",data:=.fields #[.ref t,.int 0 0] }).objs.size=s0.heap.objs.size+1:=iV ..;show _/\_;have g2:=bn (s0.heap.push { cls:=.type "tuple_iterator",data:=.fields #[.ref t,.int 0 0] }) (o:={ cls:=.type "enumerate",data:=.fields #[.none,.bool Op,.ref s0.heap.objs.size,OO 0,.none,.none] }) rfl;rw[n1] at g2 ⊢;exact⟨⟨_,g2,O⟩,f _ g2 ⟨_,aM _ (bn _ rfl),O,O⟩ λ c o z=>aM _ (aM _ z)⟩
end
def VY(K:FG)(a:Os):It:=⟨λ i H=>∃xs x,SqT K H a xs/\xs[i]?=Om x,
 λ i H v H'=>∃T x,v=.ref T/\H T=Oo/\H'=Tf H T (.tup [.int i,x])/\∀xs,SqT K H a xs->xs[i]?=Om x,λ i H=>∃xs,SqT K H a xs/\xs.length<=i⟩
theorem Es{K:FG}{a z j:Os}(zj:z≠j) :
  Uw P w K (.Tuple es x1 pp) (VY K a) [z,j] z (λ i h=>(∃u,SI h z j i u)/\h.IsTupleIter j a i) where
 mem:=on
 obj:=λ i h q c hc=>by
  obtain⟨⟨u,q1⟩,⟨o4,g4,_,d4⟩⟩:=q;simp only[aB,bg,be] at hc
  rcases hc with rfl|rfl
  .exact⟨_,q1,λ v y=>nomatch y⟩
  .exact⟨_,g4,λ v y=>by rw[d4] at y;cases y⟩
 keep:=λ i h h' q k=>by
  obtain⟨⟨u,q1⟩,q4⟩:=q;exact⟨⟨u,k _ on _ q1⟩,qI q4 λ o g=>k _ on o g⟩
 item:=by
  intro X hP hw hK hc i Tb s σ H E I hf st hg;subst hP hw hK;obtain⟨xs,x,hq,hx⟩:=hg;obtain⟨⟨u,q1⟩,q4⟩:=st;obtain⟨as,ra,pa,za⟩:=I.tuple hq;obtain⟨ux,hux,rux⟩:=ra.get hx;have ta:s.heap.IsTuple a as.toArray:=pa;have az:a≠z:=by rintro rfl;obtain⟨o,g,c,_⟩:=ta;rw[q1] at g;cases g;simp at c
  have aj:a≠j:=by rintro rfl;obtain⟨o,g,c,_⟩:=ta;obtain⟨o4,g4,c4,_⟩:=q4;rw[g4] at g;cases g;rw[c4] at c;simp at c
  have il:i<as.toArray.size:=by simpa using (aX.mp hux).1
  refine vC (Em (B:=X.A.in1) (I.ok.hd hc) j a aj as.toArray) q1 ⟨q4,ta⟩ il zj (by simp only[aB,bg,be,not_or];exact⟨zj,az.symm⟩) λ y m tk hy zo st' np sz bt=>?_;have yu:y=ux:=by simp only[nH] at hy;rw[hux] at hy;exact(bw hy).symm
  subst yu
  have I1:Inv X Tb σ H { s with heap:=m,toks:=tk+1 }:=I.turnedL (t':=tk+1) (fl:=[z,j]) (λ c o hc e=>by
   simp only[aB,bg,be,not_or] at hc
   exact bt c o hc.1 hc.2 e) hf
  obtain⟨f0,f1,f2,f3,f4,f5⟩:=I.fpOk (ao s.heap.objs.size) (I.hok.fresh (ao _))
  have n0:X.s₀.heap.get? s.heap.objs.size=Oo:=by
   cases q:X.s₀.heap.get? s.heap.objs.size with
   |none=>rfl
   |some o=>exact XU (bE (aJ q) I.sz) (dM _)
  have I2:Inv X Tb σ (Tf H s.heap.objs.size (.tup [.int i,x])) { s with heap:=m,toks:=tk+1 }:=I1.track f0 ⟨small on,[.int i tk,y],.cons (show RelV (V.int i) (QX i tk) from ⟨_,rfl⟩) (.cons rux .nil),⟨_,np,⟨rfl,_,rfl⟩,rfl⟩⟩ f1 f4 f5 n0;have lt:∀ {c o},s.heap.get? c=Om o->c≠s.heap.objs.size:=λ e=>bf (aJ e);have zT:z≠s.heap.objs.size:=lt q1;obtain⟨e0,e1,e2,e3,e4,e5⟩:=hf z on;refine⟨_,O,vD zo λ h2 z2 sb=>?_⟩;have I3:Inv X Tb σ (Tf H s.heap.objs.size (.tup [.int i,x])) { s with heap:=h2,toks:=tk+1 }:=Inv.turned (s:={ s with heap:=m,toks:=tk+1 }) (h':=h2) (t':=tk+1) (it:=z) I2 (λ c o hc e=>sb.extBut _ _ hc e) (by rw[aA zT];exact e0) e1 e3 e4 e5;refine⟨.ref s.heap.objs.size,_,I3,O,⟨_,x,O,f0,O,λ xs' k1=>?_⟩,⟨⟨_,by simpa using z2⟩,qI st'.1 λ o g=>sb.extBut _ _ zj.symm g⟩,λ c hc=>?_⟩
  .rw[I.tuple_inj k1 hq];exact hx
  .have cT:c≠s.heap.objs.size:=by
    obtain⟨o4,g4,_⟩:=q4;simp only[aB,bg,be] at hc
    rcases hc with rfl|rfl
    .exact zT
    .exact lt g4
   rw[aA cT];exact(hf c hc).1
 done:=by
  intro X hP hw hK hc i Tb s σ H E I hf st hg;subst hP hw hK;obtain⟨xs,hq,hx⟩:=hg;obtain⟨⟨u,q1⟩,q4⟩:=st;obtain⟨as,ra,pa,za⟩:=I.tuple hq;have la:=ra.length;refine Eo (I.ok.hd hc) q1 q4 (show s.heap.IsTuple a as.toArray from pa) (by simp;lia) λ m bt=>⟨O,?_⟩
  exact I.turnedL (t':=s.toks) (fl:=[z,j]) (λ c o hc e=>by
   simp only[aB,bg,be,not_or] at hc
   exact bt c o hc.2 e) hf
 self:=λ _ _ _ _ _ st h=>let ⟨⟨_,q1⟩,_⟩:=st;nL q1 h
section
variable {es:List Expr}{x1:Nat}{pp:Pos}
def Et(K:FG)(te:TE):TI:=λ σ H R=>te σ H λ v H1=>∃a xs,v=.ref a/\SqT K H1 a xs/\R (VY K a) H1
theorem Eu{p pos:Pos}(hg:Gl X "enumerate")(hm:X.mg "enumerate"=Oo)(he:PE X e te)(hs:autoParam (OI [e] X.env=[(Op,eval e X.env)]) A8._auto_1) :
  PI X (.Tuple es x1 pp) (.Call (.Name "enumerate" p) [e] [] pos) (Et X.K te):=by
 intro Tb s σ H R I h;have hA:=(cY he (pa_nil (X:=X)) hs) pos Tb s σ H (λ vs H1=>match vs with|[x]=>∃a xs,x=.ref a/\SqT X.K H1 a xs/\R (VY X.K a) H1|_=>False) I h;refine QE (eh I hg hm RU (fY (Tl hA λ us s1 ⟨vs,H1,I1,r1,q1⟩=>?_) hs rfl))
 match vs,q1 with
 |[x],⟨a,xs,e,hq,q⟩=>
  subst e;obtain⟨u,rfl,ru⟩:=cz r1;cases (show u=OP a from ru);obtain⟨as,va,pa,za⟩:=I1.tuple hq;refine Er (show s1.heap.IsTuple a as.toArray from pa) λ m w1 w2 kk=>?_;have I2:Inv X Tb σ H1 { s1 with heap:=m }:=I1.kept (t':=s1.toks) kk;refine nL w1 ⟨s1.heap.objs.size+1,[s1.heap.objs.size+1,s1.heap.objs.size],_,_,H1,O,I2,Es (qL _),⟨⟨_,w1⟩,w2⟩,λ c hc=>?_,q⟩
  have ge:s1.heap.objs.size<=c:=by
   simp only[aB,bg,be] at hc
   rcases hc with rfl|rfl<;>lia
  exact I1.fpOk ge (I1.hok.fresh ge)
end
def Ev(i j:Int):Prop:=0<j/\j<1606938044258990275541962092341162602522202993782792835301376
def Ew{y:Int}(h0:0<y)(h1:y<1606938044258990275541962092341162602522202993782792835301376):y.natAbs.log2<9000:=by
 have z:y.natAbs≠0:=by omega
 exact bE ((Nat.log2_lt z).mpr (show y.natAbs<2 ^ 200 by omega)) ca
def Ex:TB X (Pa .FloorDiv) (rI Ev λ i j=>.int (i/j)):=Vm λ i j _ _ _ _ _ hc q=>floordiv_int (by have:=hc.1;lia) (by rw[mV i (by have:=hc.1;lia)];exact q) (.inl (vd (Ew hc.1 hc.2)))
end _L
namespace _H
open PySem PySem.Spec PyProof.Rows _L
theorem whole_tup{s:Ot}{lo hi:Option Int}{R:VS}(ht:Qp s.heap t its)(hs:s.heap.IsSliceOf sl vl vu .none)(pl:Qa vl lo)(pu:Qa vu hi)
  (h0:sIx its.size 0 lo=0) (h1:sIx its.size its.size hi=its.size) (h:R (.ref t) s):Ov (Oy prog w) A (PY (.ref t) (.ref sl)) R E s:=by
 obtain⟨os,hos,hcs,hds⟩:=id hs;have hTs:s.TypeIs (.ref sl) "slice" := ⟨os,hos,hcs⟩;unfold PY;try with_reducible refine eO ?_
 first|refine ae (au ?_)|skip
 refine ae (Rl ht.typeIs ca ?_);refine ae (iU (name:=ON "__getitem__") ht.typeIs nh (fI nh ht.typeIs s0i ?_ (s0t _ _)));show Ov _ _ (Qt (.ref t) >>= _) _ _ s;refine ae (SB ht ?_);refine ae (hV hTs ?_);rw[XT ca];refine ae (uG hs pl pu ?_);show Ov _ _ (if (((sIx its.size 0 lo:Nat):Int) == 0&&(1:Int) == 1&&(sIx its.size its.size hi-sIx its.size 0 lo) == its.size)=On then _ else _) _ _ s;rw[XT (by rw[h0,h1];simp)];unfold Si;exact ae (ae (hV ht.typeIs (au (ae (lF (au ⟨_,O,au h⟩))))))
end _H
namespace _L
open PySem PySem.Spec PyProof.Rows
variable {X:Cx}
def Ey:Ps (.type "reversed") "__len__"=OM Oo:=by rw[eU,eV];kernel_rfl
def Ez:Ps (.type "reversed") "__length_hint__"=OM (Om (.builtin "reversed.__length_hint__")):=by rw[eU,eV];kernel_rfl
theorem EA{B:OD}(hh:B.handled=Oo)(I t:Os)(hne:t≠I)(its:Array Value)(hz:(its.size:Int)<2 ^ 63) :
  Walks pg wd B I [I,t] [I] its.size (λ i v=>its[its.size-1-i]?=Om v) (λ i h=>i<=its.size/\IsRv h I t ((its.size:Int)-1-(i:Int))/\Qp h t its) where
 sub:=λ b hb=>by simp at hb;simp[hb]
 frame:=λ _ _ _ st k=>⟨st.1,let ⟨o,g,r⟩:=st.2.1;⟨o,k I on o g,r⟩,let ⟨o,g,r⟩:=st.2.2;⟨o,k t on o g,r⟩⟩
 item:=λ i s R X0 hi st f=>by
  obtain⟨_,q1,q2⟩:=st;have e:(its.size:Int)-1-(i:Int)=((its.size-1-i:Nat):Int):=Z;rw[e] at q1;have hx:its[its.size-1-i]?=Om (its[its.size-1-i]' Z):=qH Z;refine vk q1 q2 hx hz λ m tk q sb=>f _ m tk hx ⟨hi,?_,?_⟩ λ b o nb g=>sb.extBut b o (by simpa using nb) g
  .have e2:((its.size-1-i:Nat):Int)-1=(its.size:Int)-1-((i+1:Nat):Int):=by lia
   rw[e2] at q;exact q
  .obtain⟨o,g,r⟩:=q2;exact⟨o,sb.extBut _ _ hne g,r⟩
 done:=λ s R X0 st f=>by
  obtain⟨_,q1,q2⟩:=st;have e:(its.size:Int)-1-(its.size:Int)=-1:=Z;rw[e] at q1;exact vo hh q1 λ m tk eb=>f m tk λ b o nb g=>eb b o (by simpa using nb) g
 self:=λ _ _ _ _ st h=>qE st.2.1 h
def EB(v:Value):bindSpecial (.builtin "reversed.__length_hint__") v=OM (.builtin "reversed.__length_hint__",[v]):=by
 unfold bindSpecial;rw[show typeOf (.builtin "reversed.__length_hint__")=OM (.type "method_descriptor") by show builtinType _=_;rw[builtinType_eq_fast];kernel_rfl];rfl
def EC:Slot "reversed" "__length_hint__" "reversed.__length_hint__" := .of (owner := "reversed") (n := "__length_hint__") (by rw[eU,eV];kernel_rfl) (by decide +kernel) (by decide +kernel) (by decide +kernel) (.inr (by decide +kernel)) (by rw[iX];kernel_rfl)
def ED:SQ table "reversed.__length_hint__"=Om Builtin.«reversed.__length_hint__»:=Rw (by kernel_rfl)
def EG(a:Value):QD "reversed.__length_hint__" ⟨[a],[]⟩:=by unfold QD;kernel_rfl
theorem EH{R:VS}{z:Ot}{its:Array Value}(q1:IsRv z.heap J t ((its.size:Int)-1))(q2:Qp z.heap t its)(hz:(its.size:Int)<2 ^ 63)
  (f:∀u tk,z.toks<=tk->R (.int its.size u) { z with toks:=tk }):Ov (Oy pg wd) B (call (.builtin "reversed.__length_hint__") [.ref J]) R X0 z:=by
 obtain⟨o,ho,hc,hd⟩:=id q1;refine fI EC q1.typeIs ED ?_ (EG _);show Ov _ _ (Rb (.ref J) 0 >>= _) _ _ z;refine ae (dD ho hd (x:=.ref t) rfl ?_);show Ov _ _ (if (OP t == OZ)=On then _ else _) _ _ z;rw[XR (show ¬((OP t == OZ)=On) from bK)];show Ov _ _ (call (.builtin "len") [.ref t] >>= _) _ _ z;refine ae (s0u q2 hz ?_);refine ae (m:=asInt? _) (au ?_);show Ov _ _ (Rb (.ref J) 1 >>= _) _ _ _;refine ae (dD ho hd (x:=OO ((its.size:Int)-1)) rfl ?_);show Ov _ _ (if (its.size:Int)<(its.size:Int)-1+1 then _ else retInt ((its.size:Int)-1+1)) _ _ _;rw[XR Z,show(its.size:Int)-1+1=its.size by lia];exact ae (wpAny_mkInt (au ⟨_,O,f _ _ (by show z.toks<=z.toks+1+1+1;lia)⟩))
section
variable {pg:Oz}{wd:OB}{B:OD}{X0:VS}{s0:Ot}{J:Os}{fs ws:List Os}{Gg:Array Qj->Array Qj->Prop}{m:Nat}{Pr:Nat->Value->Prop}{Sx:Nat->Ot->Prop}
theorem EI{R:LV->Ot->Prop}(hint:∀(z:Ot) (R':VS) (E':VS),Sx 0 z->(∀u tk,z.toks<=tk->R' (.int m u) { z with toks:=tk })->Ov (Oy pg wd) B.in1 (call (.builtin "reversed.__length_hint__") [.ref J]) R' E' z)(wk:QY pg wd B.in1 J fs ws Gg m Pr Sx)(ty:∀j z,Sx j z->z.TypeIs (.ref J) "reversed")(z0:Sx 0 s0)(lt:∀b∈fs,b<s0.heap.objs.size)(mJ:J∈fs)(sm:m<=Ou)
  (fin:∀z' ac,RF ws Gg s0 z'->QM Pr ac m->R ac.toList z'):Ov (Oy pg wd) B (RX (.ref J)) R X0 s0:=by
 have out:s0.heap.objs.size ∉ fs:=λ q=>XU (lt _ q) (dM _);have neJ:s0.heap.objs.size≠J:=by rintro rfl;exact out mJ
 let nu:Obj:={ cls:=.type "list",data:=.seq ([]:LV).toArray }
 unfold RX;refine ae (Se (gG vp ?_));rw[gH vq _];show Ov _ B.in1 (Rc [] >>= λ q=>RJ (.builtin "list.__iadd__" ⟨[q,.ref J],[]⟩)) _ _ s0;refine ae (cZ ?_);refine au ⟨fK nE _,gG F.entry_list_iadd ?_⟩;rw[gH nE _];have z1:=wk.frame 0 s0 (s0.heap.push nu) s0.toks z0 (ao _) λ b _ o e=>aM _ e;have at1:(s0.heap.push nu).get? s0.heap.objs.size=Om nu:=bn _ rfl;have dif:Pj (.ref s0.heap.objs.size) (.ref J)=Op:=by simp[Pj,neJ]
 show Ov _ B.in1 (OX (.ref s0.heap.objs.size) (.ref J) (.ref s0.heap.objs.size)) _ _ _;unfold OX;refine ae (hV (ty 0 _ z1) ?_);rw[XR (by rw[dif];decide)];refine ae (wk.self 0 _ _ _ z1 ?_);refine ae (eO ?_);unfold Qq;refine ae (ip (ty 0 _ z1) Ey ?_);show Ov _ B.in1 (specialOf (OP J) (ON "__length_hint__") >>= _) _ _ _;refine ae (ip (ty 0 _ z1) Ez ?_)
 (generalize hid:("reversed.__length_hint__" : String)=id0;wp_delta;rw[show splitId id0=Om ("reversed","__length_hint__") from by subst hid;decide +kernel];subst hid)
 refine ae (lC (b:=On) (ty 0 _ z1) (by rw[iX];kernel_rfl) ?_);rw[XR ca];dsimp only;rw[XR (by decide +kernel)];refine ae (lF ?_);refine ae (eW (EB _) ?_);dsimp only;refine ae (lD (hint _ _ _ z1 λ u tk htk=>?_));have z2:=wk.frame 0 _ _ tk z1 htk λ b _ o e=>e;have l63:=nD;have fi:Pm (m:Int)=On:=by simp[Pm];lia
 have tl:Pc (m:Int).toNat=Op:=by simp[Pc];lia
 generalize hk:(m:Int)=kk at fi tl ⊢;show Ov _ B.in1 (asInt? (.int kk u) >>= _) _ _ _;refine ae (m:=asInt? (.int kk u)) (au ?_);dsimp only;rw[XR (by rw[fi];decide)];try dsimp only
 rw[XR Z];try dsimp only
 rw[XR (by rw[tl];decide)];refine au ?_;by_cases m0:m=0
 .rw[XR (by subst m0;subst hk;decide +kernel)];refine au ⟨fK qF _,qG wk sm _ out _ m 0 _ _ _ rfl (bP _) z2 at1 (s1n Pr) λ z' ac cc mv at2 its=>?_⟩;show Ov _ B (load s0.heap.objs.size >>= _) _ _ z';exact ae (s1e at2 (au (fin z' ac (s0e (o:=nu) (tk:=tk) mv htk) its)))
 .rw[XT (by simp;left;lia)];refine ae (lF ?_);refine ae ?_;show Ov _ B.in1 (PQ s0.heap.objs.size (·.push .none) >>= λ _=>PQ s0.heap.objs.size (·.pop)) _ _ _;refine ae (jN at1 rfl ?_);have a2:=hZ (Pe (·.push OZ)) at1 rfl;refine jN a2 rfl ?_;have a3:=hZ (Pe (·.pop)) a2 rfl
  have oth:∀b o,b≠s0.heap.objs.size->(s0.heap.push nu).get? b=Om o->(((s0.heap.push nu).update s0.heap.objs.size (Pe (·.push OZ))).update s0.heap.objs.size (Pe (·.pop))).get? b=Om o :=
   λ b o hb e=>(eQ _ _ (cx hb)).trans ((eQ _ _ (cx hb)).trans e)
  refine au ⟨fK qF _,qG wk sm _ out _ m 0 _ _ _ rfl (bP _)
   (wk.frame 0 ({ s0 with heap:=s0.heap.push nu,toks:=tk }:Ot) _ tk z2 (ao _) λ b hb o e=>oth b o (λ q=>out (q ▸ hb)) e) a3 (s1n Pr) λ z' ac cc mv at2 its=>?_⟩
  show Ov _ B (load s0.heap.objs.size >>= _) _ _ z';refine ae (s1e at2 ?_);refine au (fin z' ac (s0e (o:=nu) (tk:=tk) (Moved.trans wk.gtrans ((Moved.refl wk.grefl).then_heap (ao _) λ b o hb e=>?_) mv) htk) its);exact oth b o (λ q=>hb (q ▸ bd)) e
theorem EJ{R:VS}(hint:∀(z:Ot) (R':VS) (E':VS),Sx 0 z->(∀u tk,z.toks<=tk->R' (.int m u) { z with toks:=tk })->Ov (Oy pg wd) B.in1.in1 (call (.builtin "reversed.__length_hint__") [.ref J]) R' E' z)(wk:QY pg wd B.in1.in1 J fs ws Gg m Pr Sx)(ty:∀j z,Sx j z->z.TypeIs (.ref J) "reversed")(z0:Sx 0 s0)(lt:∀b∈fs,b<s0.heap.objs.size)(mJ:J∈fs)(sm:m<=Ou)
  (fin:∀z' ac,RF ws Gg s0 z'->QM Pr ac m->R (.ref z'.heap.objs.size) { z' with heap:=z'.heap.push { cls:=.type "tuple",data:=.seq ac } }) :
  Pt (Oy pg wd) B (.call (.builtin "tuple.__new__") ⟨[.type "tuple",.ref J],[]⟩) (wants R X0) s0:=by
 refine RK ?_;show Ov _ B.in1 (do Rv "tuple.__new__" ⟨[.type "tuple",.ref J],[]⟩;RJ (.builtin "tuple.__new__" ⟨[.type "tuple",.ref J],[]⟩)) _ _ s0;refine ae (eW (F.newCall_tuple_1 _) (au ⟨fK nG _,gG F.entry_tuple_new ?_⟩));rw[gH nG _];have q1:=Sd;have q2:=Ri;have q3:=RZ;have q4:=ty 0 s0 z0;wp_walk using hV q4,EI (sm:=sm) hint wk ty z0 lt mJ;intro z' ac mv its;show Ov _ _ (OS ac.toList.toArray >>= λ q=>ret q) _ _ _;have e:ac.toList.toArray=ac:=on;rw[e];unfold OS;exact ae (cZ (au (fin z' ac mv its)) (by show ac.size<=Ou;rw[its.1];exact sm))
theorem EK{R:VS}(hint:∀(z:Ot) (R':VS) (E':VS),Sx 0 z->(∀u tk,z.toks<=tk->R' (.int m u) { z with toks:=tk })->Ov (Oy pg wd) B.in1.in1.in1 (call (.builtin "reversed.__length_hint__") [.ref J]) R' E' z)(wk:QY pg wd B.in1.in1.in1 J fs ws Gg m Pr Sx)(ty:∀j z,Sx j z->z.TypeIs (.ref J) "reversed")(z0:Sx 0 s0)(lt:∀b∈fs,b<s0.heap.objs.size)(mJ:J∈fs)(sm:m<=Ou)
  (fin:∀z' ac,RF ws Gg s0 z'->QM Pr ac m->R (.ref z'.heap.objs.size) { z' with heap:=z'.heap.push { cls:=.type "tuple",data:=.seq ac } }) :
  Ov (Oy pg wd) B (call (.type "tuple") [.ref J]) R X0 s0 :=
 RV (Q₁:=λ ob z=>z.TypeIs ob "tuple" /\ R ob z) F.called_tuple (s0x _) s0k
  (EJ (sm:=sm) hint wk ty z0 lt mJ λ z' ac mv its=>⟨⟨_,bn _ rfl,rfl⟩,fin z' ac mv its⟩)
  λ ob z q=>⟨q.1,nA ob _,Rj F.called_tuple.init.lookup F.called_tuple.made ca pg wd B.in1 _ z ⟨q.1,rfl,q.2⟩⟩
end
def EL(K:FG)(te:TE):TE:=λ σ H Q=>te σ H λ x H1=>∃a xs,x=.ref a/\SqT K H1 a xs/\∀p,H1 p=Oo->Q (.ref p) (Tf H1 p (.tup xs.reverse))
theorem EM{p1 p2 pos pos':Pos}(hc:X.calm=On)(ht:Gl X "tuple")(hr:Gl X "reversed")(mt:X.mg "tuple"=Oo)(mr:X.mg "reversed"=Oo)(he:PE X e te)(hs:autoParam (OI [e] X.env=[(Op,eval e X.env)]) A8._auto_1) :
  PE X (.Call (.Name "tuple" p1) [.Call (.Name "reversed" p2) [e] [] pos'] [] pos) (EL X.K te):=by
 intro Tb s σ H Q I h;refine QE (eh I ht mt boot_tuple (fY ?_ rfl rfl));refine qg ?_;have hA:=(cY he (pa_nil (X:=X)) hs) pos' Tb s σ H (λ vs H1=>match vs with|[x]=>∃a xs,x=.ref a/\SqT X.K H1 a xs/\∀p,H1 p=Oo->Q (.ref p) (Tf H1 p (.tup xs.reverse))|_=>False) I h;refine QE (eh I hr mr s0w (fY (Tl hA λ us s1 ⟨vs,H1,I1,r1,q1⟩=>?_) hs rfl))
 match vs,q1 with
 |[x],⟨a,xs,e,hq,q⟩=>
  subst e;obtain⟨u,rfl,ru⟩:=cz r1;cases (show u=OP a from ru);obtain⟨its,rv,pl,hz⟩:=I1.tuple hq;have hl:=rv.length;have z63:=nD;refine vj pl (by simp;lia) λ tk=>?_;refine qd ?_;have I2:Inv X Tb σ H1 { s1 with heap:=s1.heap.push (im a ((its.toArray.size:Int)-1)),toks:=tk }:=I1.kept (t':=tk) λ b o e=>aM _ e;have al:a<s1.heap.objs.size:=by obtain⟨o,ho,_⟩:=pl;exact aJ ho
  have hne:a≠s1.heap.objs.size:=bf al
  have ir:IsRv (s1.heap.push (im a ((its.toArray.size:Int)-1))) s1.heap.objs.size a ((its.toArray.size:Int)-1-((0:Nat):Int)):=by
   refine⟨_,bn _ rfl,O,?_⟩;have e:(its.toArray.size:Int)-1-((0:Nat):Int)=(its.toArray.size:Int)-1:=Z;rw[e];rfl
  have sz:(s1.heap.push (im a ((its.toArray.size:Int)-1))).objs.size=s1.heap.objs.size+1:=by simp[Heap.push]
  have ff:=I1.fpOk (ao s1.heap.objs.size) (I1.hok.fresh (ao _))
  refine EK (m:=its.toArray.size) (Sx:=_) (λ z R' E' q f=>EH (its:=its.toArray) (by have:=q.2.1;rw[show(its.toArray.size:Int)-1-((0:Nat):Int)=(its.toArray.size:Int)-1 by lia] at this;exact this) q.2.2 (by simp;lia) f) (EA (B:=X.A.in1.in1.in1) (I.ok.hd hc) s1.heap.objs.size a hne its.toArray (by simp;lia)).toS (λ j z q=>let ⟨o,ho,hk,_⟩:=q.2.1;⟨o,ho,hk⟩)
   ⟨bP _,ir,let ⟨o,g,r⟩:=pl;⟨o,aM _ g,r⟩⟩ (λ b hb=>?_) (bd ..) (by simp only[aY];lia) λ z' ac mv io=>?_
  .show b<(s1.heap.push (im a ((its.toArray.size:Int)-1))).objs.size;rw[sz];simp only[aB,bg,be] at hb
   rcases hb with rfl|rfl
   .exact iW _
   .exact eH al
  have I3:Inv X Tb σ H1 z':=by
   obtain⟨zh,zg,zd,zt,zo⟩:=z';have e1:zg=s1.gens:=mv.gens;have e2:zd=s1.drawn:=mv.drawn;have e3:zo=s1.os:=mv.os;subst e1 e2 e3;obtain⟨f0,f1,f2,f3,f4,f5⟩:=ff;exact I1.turned (t':=zt) (λ b o hb e=>mv.heap b o (by simpa using hb) (aM _ e)) f0 f1 f3 f4 f5
  have er:ac=its.reverse.toArray:=by
   have sz2:ac.size=its.length:=by simpa using io.1
   apply SZ
   .simp[sz2]
   .intro j h1 h2;have q:=io.2 j _ (qH h1);simp only[aY,nH] at q;have q2:its.reverse[j]?=Om ac[j]:=by rw[lG Z];exact q
    rw[vt];exact(bw ((aZ (by simpa using h2)).symm.trans q2)).symm
  subst er
  have I4:Inv X Tb σ (Tf H1 z'.heap.objs.size (.tup xs.reverse)) { z' with heap:=z'.heap.push { cls:=.type "tuple",data:=.seq its.reverse.toArray } } :=
   I3.laid (t':=z'.toks) (λ b o e=>aM _ e) (ao _) (show ObjOk X.prog X.w _ _ _ (.tup xs.reverse) from ⟨by simpa using hz,its.reverse,rv.reverse,TupO.new _ _⟩)
  exact⟨.ref z'.heap.objs.size,_,I4,O,q _ (I3.hok.fresh (ao _))⟩
def nM(K:FG)(a:Os):It:=⟨λ i H=>∃xs x,SqL K H a xs/\xs[i]?=Om x,
 λ i H v H'=>∃T x,v=.ref T/\H T=Oo/\H'=Tf H T (.tup [.int i,x])/\∀xs,SqL K H a xs->xs[i]?=Om x,λ i H=>∃xs,SqL K H a xs/\xs.length<=i⟩
theorem EN{K:FG}{a z j:Os}(zj:z≠j) :
  Uw P w K (.Tuple es x1 pp) (nM K a) [z,j] z (λ i h=>(∃u,SI h z j i u)/\h.IsListIter j a i) where
 mem:=on
 obj:=λ i h q c hc=>by
  obtain⟨⟨u,q1⟩,⟨o4,g4,_,d4⟩⟩:=q;simp only[aB,bg,be] at hc
  rcases hc with rfl|rfl
  .exact⟨_,q1,λ v y=>nomatch y⟩
  .exact⟨_,g4,λ v y=>by rw[d4] at y;cases y⟩
 keep:=λ i h h' q k=>by
  obtain⟨⟨u,q1⟩,q4⟩:=q;exact⟨⟨u,k _ on _ q1⟩,q4.at λ o g=>k _ on o g⟩
 item:=by
  intro X hP hw hK hc i Tb s σ H E I hf st hg;subst hP hw hK;obtain⟨xs,x,hq,hx⟩:=hg;obtain⟨⟨u,q1⟩,q4⟩:=st;obtain⟨as,ra,pa,za⟩:=I.list hq;obtain⟨ux,hux,rux⟩:=ra.get hx;have ta:s.heap.IsList a as.toArray:=pa.isList;have az:a≠z:=by rintro rfl;obtain⟨o,g,c,_⟩:=ta;rw[q1] at g;cases g;simp at c
  have aj:a≠j:=by rintro rfl;obtain⟨o,g,c,_⟩:=ta;obtain⟨o4,g4,c4,_⟩:=q4;rw[g4] at g;cases g;rw[c4] at c;simp at c
  have il:i<as.toArray.size:=by simpa using (aX.mp hux).1
  refine vC (Draws.list (A:=X.A.in1) (I.ok.hd hc) j a aj as.toArray) q1 ⟨q4,ta⟩ il zj (by simp only[aB,bg,be,not_or];exact⟨zj,az.symm⟩) λ y m tk hy zo st' np sz bt=>?_;have yu:y=ux:=by simp only[nH] at hy;rw[hux] at hy;exact(bw hy).symm
  subst yu
  have I1:Inv X Tb σ H { s with heap:=m,toks:=tk+1 }:=I.turnedL (t':=tk+1) (fl:=[z,j]) (λ c o hc e=>by
   simp only[aB,bg,be,not_or] at hc
   exact bt c o hc.1 hc.2 e) hf
  obtain⟨f0,f1,f2,f3,f4,f5⟩:=I.fpOk (ao s.heap.objs.size) (I.hok.fresh (ao _))
  have n0:X.s₀.heap.get? s.heap.objs.size=Oo:=by
   cases q:X.s₀.heap.get? s.heap.objs.size with
   |none=>rfl
   |some o=>exact XU (bE (aJ q) I.sz) (dM _)
  have I2:Inv X Tb σ (Tf H s.heap.objs.size (.tup [.int i,x])) { s with heap:=m,toks:=tk+1 }:=I1.track f0 ⟨small on,[.int i tk,y],.cons (show RelV (V.int i) (QX i tk) from ⟨_,rfl⟩) (.cons rux .nil),⟨_,np,⟨rfl,_,rfl⟩,rfl⟩⟩ f1 f4 f5 n0;have lt:∀ {c o},s.heap.get? c=Om o->c≠s.heap.objs.size:=λ e=>bf (aJ e);have zT:z≠s.heap.objs.size:=lt q1;obtain⟨e0,e1,e2,e3,e4,e5⟩:=hf z on;refine⟨_,O,vD zo λ h2 z2 sb=>?_⟩;have I3:Inv X Tb σ (Tf H s.heap.objs.size (.tup [.int i,x])) { s with heap:=h2,toks:=tk+1 }:=Inv.turned (s:={ s with heap:=m,toks:=tk+1 }) (h':=h2) (t':=tk+1) (it:=z) I2 (λ c o hc e=>sb.extBut _ _ hc e) (by rw[aA zT];exact e0) e1 e3 e4 e5;refine⟨.ref s.heap.objs.size,_,I3,O,⟨_,x,O,f0,O,λ xs' k1=>?_⟩,⟨⟨_,by simpa using z2⟩,st'.1.at λ o g=>sb.extBut _ _ zj.symm g⟩,λ c hc=>?_⟩
  .rw[I.list_inj k1 hq];exact hx
  .have cT:c≠s.heap.objs.size:=by
    obtain⟨o4,g4,_⟩:=q4;simp only[aB,bg,be] at hc
    rcases hc with rfl|rfl
    .exact zT
    .exact lt g4
   rw[aA cT];exact(hf c hc).1
 done:=by
  intro X hP hw hK hc i Tb s σ H E I hf st hg;subst hP hw hK;obtain⟨xs,hq,hx⟩:=hg;obtain⟨⟨u,q1⟩,q4⟩:=st;obtain⟨as,ra,pa,za⟩:=I.list hq;have la:=ra.length;refine wpAny_pyNext_enum_end (I.ok.hd hc) (i:=i) (by simpa using q1) q4 pa.isList (by simp;lia) λ m bt=>⟨O,?_⟩
  exact I.turnedL (t':=s.toks) (fl:=[z,j]) (λ c o hc e=>by
   simp only[aB,bg,be,not_or] at hc
   exact bt c o hc.2 e) hf
 self:=λ _ _ _ _ _ st h=>let ⟨⟨_,q1⟩,_⟩:=st;nL q1 h
section
variable {es:List Expr}{x1:Nat}{pp:Pos}
def EO(K:FG)(te:TE):TI:=λ σ H R=>te σ H λ v H1=>∃a xs,v=.ref a/\SqL K H1 a xs/\R (nM K a) H1
theorem EQ{p pos:Pos}(hg:Gl X "enumerate")(hm:X.mg "enumerate"=Oo)(he:PE X e te)(hs:autoParam (OI [e] X.env=[(Op,eval e X.env)]) A8._auto_1) :
  PI X (.Tuple es x1 pp) (.Call (.Name "enumerate" p) [e] [] pos) (EO X.K te):=by
 intro Tb s σ H R I h;have hA:=(cY he (pa_nil (X:=X)) hs) pos Tb s σ H (λ vs H1=>match vs with|[x]=>∃a xs,x=.ref a/\SqL X.K H1 a xs/\R (nM X.K a) H1|_=>False) I h;refine QE (eh I hg hm RU (fY (Tl hA λ us s1 ⟨vs,H1,I1,r1,q1⟩=>?_) hs rfl))
 match vs,q1 with
 |[x],⟨a,xs,e,hq,q⟩=>
  subst e;obtain⟨u,rfl,ru⟩:=cz r1;cases (show u=OP a from ru);obtain⟨as,va,pa,za⟩:=I1.list hq;refine call_enumerate_list pa.isList λ m w1 w2 sz kk=>?_;have I2:Inv X Tb σ H1 { s1 with heap:=m }:=I1.kept (t':=s1.toks) kk;refine nL w1 ⟨s1.heap.objs.size+1,[s1.heap.objs.size+1,s1.heap.objs.size],_,_,H1,O,I2,EN (qL _),⟨⟨_,w1⟩,w2⟩,λ c hc=>?_,q⟩
  have ge:s1.heap.objs.size<=c:=by
   simp only[aB,bg,be] at hc
   rcases hc with rfl|rfl<;>lia
  exact I1.fpOk ge (I1.hok.fresh ge)
end
section
variable {tg:Expr}
end
def ES(K:FG):R2:=λ x y H Q=>∃l b xs zs,x=.ref l/\y=.ref b/\SqL K H l xs/\SqL K H b zs/\xs.length+zs.length<=Ou/\∀p,H p=Oo->Q (.ref p) (Tf H p (.lst (xs++zs)))
def ET:TB X (Pa .Add) (ES X.K):=by
 intro Tb s σ H x y v u Q I rx ry h;obtain⟨l,b,xs,zs,rfl,rfl,hH,hB,hz,q⟩:=h;cases rx;cases ry;obtain⟨its,r,⟨⟨c1,d1,z1,l1⟩,n,e,hc,hd,hs⟩,_⟩:=I.list hH;obtain⟨its2,r2,⟨⟨c2,d2,z2,l2⟩,n2,e2,hc2,hd2,hs2⟩,_⟩:=I.list hB;simp only at hc hd hs hc2 hd2 hs2;subst hc hd hs hc2 hd2 hs2;have a1:=r.length;have a2:=r2.length;have ea:its.toArray++its2.toArray=(its++its2).toArray:=on;refine ng ⟨_,e,O⟩ ⟨_,e2,O⟩ noFill_list_add seq_list_add F.slot_list_add F.entry_list_add (F.args_list_add_2 _ _) (list_addW l b its.toArray its2.toArray n n2 _ _ _ _ (by rw[aY,aY];lia)) ⟨e,e2,?_⟩;rw[ea];exact⟨.ref _,_,I.lnew (t':=s.toks) (r.append r2) (by rw[aF];lia),O,q _ I.fresh⟩
section
variable {pg:Oz}{wd:OB}{B:OD}{X0:VS}{s0:Ot}
end
section
variable {es:List Expr}{x1:Nat}{pp:Pos}
end
end _L
namespace _L
open PySem PySem.Spec PyProof.Rows PySem.W PySem.Calls
def EU(i j:Int):Prop:=QO i j
def EW:TB X (Pa .Mult) (rI EU λ i j=>.int (i*j)):=Vm λ _ _ _ _ _ _ _ hc q=>mul_int q hc
section
variable {prog:Oz}{w:OB}{A:OD}{E:VS}{s:Ot}
theorem vE{l:Os}{T:String}{vs:LV}{Q:VS}(hT:T="list" \/ T="tuple")(ho:s.heap.get? l=Om o)(hc:o.cls=.type T)(hd:o.data=.seq vs.toArray n)(hI:Qe vs ns)(h64:vs.length<64)
  (h:∀(h1 h2:OH) (vs':LV) (ns':LI) (e:Nat),(∀b u,s.heap.get? b=Om u->h1.get? b=Om u)->(∀b u,h1.get? b=Om u->h2.get? b=Om u)->h2.get? h1.objs.size=Om (SX "list" vs'.toArray e)->Qe vs' ns'->ns'.Perm ns->ns'.Pairwise (·<=·)->Q (.ref h1.objs.size) { s with heap:=h2 }) :
  Ov (Oy prog w) A (call (.builtin "sorted") [.ref l]) Q E s:=by
 refine Calls.call_function_entry kind_sorted plain_sorted entry_sorted (args_sorted1 _) ?_;unfold Builtin.«sorted»;refine ae (m:=checkCount "sorted" 1 1 _) (au ?_);refine ae (wpAny_collect_seq l hT ho hc hd (λ h1 k1=>?_) (by simp only[aY];exact dN (aN Z)));rw[show vs.toArray.toList=vs by simp];refine ae (wpAny_newList ?_);have hoL:(h1.push (SX "list" vs.toArray 0)).get? h1.objs.size=Om (SX "list" vs.toArray 0):=bn _ rfl;refine ae (eO (fI slot_list_sort ⟨_,hoL,O⟩ entry_list_sort (list_sort_tree hoL hI h64 λ out ns' a1 a2 a3=>⟨_,O,?_⟩) (args_list_sort _)));refine au ⟨_,O,?_⟩;obtain⟨e,he⟩:=sortedHeap_at (vs:=vs) (out:=out) hoL;refine h h1 _ out.toList ns' e k1 (λ b u q=>?_) (by rw[vF];exact he) a1 a2 a3;have hlt:=aJ q;rw[sortedHeap_old (bf hlt) (by rw[size_push'];exact eH hlt)];exact aM _ q
end
theorem vG:∀ {xs:List V}{us:LV},xs.length=us.length->(∀(i:Nat) u,us[i]?=Om u->∃x,xs[i]?=Om x/\RelV x u)->Vals xs us
 |[],[],_,_=>.nil
 |[],_::_,h,_=>by simp at h
 |_::_,[],h,_=>by simp at h
 |x::xs,u::us,h,f=>by
  obtain⟨y,e,r⟩:=f 0 u rfl;cases (bw e);exact .cons r (vG (by simpa using h) λ i v e=>f (i+1) v e)
variable {X:Cx}
def EX:bY X (.builtin "sorted") (λ xs H Q=>∃p ns,xs=[.ref p]/\(SqL X.K H p (Pd V.int ns)\/SqT X.K H p (Pd V.int ns))/\ns.length<64/\∀ns':LI,ns'.Perm ns->ns'.Pairwise (·<=·)->∀l,H l=Oo->Q (.ref l) (Tf H l (.lst (ns'.map V.int)))):=by
 intro Tb s σ H xs us Q I r h;obtain⟨p,ns,rfl,hq,h64,q⟩:=h;obtain⟨u,rfl,rx⟩:=cz r;cases rx
 have fin:∀(h1 h2:OH) (vs':LV) (ns':LI) (e:Nat),(∀b u,s.heap.get? b=Om u->h1.get? b=Om u)->(∀b u,h1.get? b=Om u->h2.get? b=Om u)->h2.get? h1.objs.size=Om (SX "list" vs'.toArray e)->Qe vs' ns'->ns'.Perm ns->ns'.Pairwise (·<=·)->EP X Tb σ Q (.ref h1.objs.size) { s with heap:=h2 }:=by
  intro h1 h2 vs' ns' e k1 k2 g a1 a2 a3;have I1:Inv X Tb σ H { s with heap:=h1 }:=I.kept (t':=s.toks) k1;have hz:(ns'.map V.int).length<=Ou:=by rw[ah,a2.length_eq];exact dN (aN Z)
  have I2:Inv X Tb σ (Tf H h1.objs.size (.lst (ns'.map V.int))) { s with heap:=h2 }:=I1.laid (t':=s.toks) k2 (ao _) (show ObjOk X.prog X.w _ _ _ (.lst (ns'.map V.int)) from ⟨hz,vs',e,qx a1,g⟩);exact⟨.ref h1.objs.size,_,I2,O,q ns' a2 a3 _ (I1.hok.fresh (ao _))⟩
 rcases hq with hq|hq
 .obtain⟨its,r',pl,hz⟩:=I.list hq;have hi:=kZ r';obtain⟨o,ho,hc,n,hd⟩:=pl.isList;exact vE (.inl rfl) ho hc hd hi (by rw[hi.length];exact h64) fin
 .obtain⟨its,r',pl,hz⟩:=I.tuple hq;have hi:=kZ r';obtain⟨o,ho,hc,n,hd⟩:=pl;exact vE (.inr rfl) ho hc hd hi (by rw[hi.length];exact h64) fin
def EY:bY X (.type "range") (λ xs H Q=>∃j:Int,xs=[.int j]/\∀r,H r=Oo->Q (.ref r) (Tf H r (.rng 0 j))):=by
 intro Tb s σ H xs us Q I r h;obtain⟨j,rfl,q⟩:=h;obtain⟨u,rfl,t,rfl⟩:=cz r;refine call_range_1 ⟨.ref s.heap.objs.size,_,I.laid (λ b o e=>aM _ e) (ao _) ?_,O,q _ (I.hok.fresh (ao _))⟩;exact⟨_,_,_,bn _ rfl⟩
noncomputable def TC(n:Nat):LI:=(OE n).map λ(i:Nat)=>(i:Int)
def EZ(hc:X.calm=On):bY X (.type "list") (λ xs H Q=>∃p n,xs=[.ref p]/\H p=Om (.rng 0 (QF n))/\n<=1000/\∀l,H l=Oo->Q (.ref l) (Tf H l (.lst ((TC n).map V.int)))):=by
 intro Tb s σ H xs us Q I r h;obtain⟨p,n,rfl,hp,hn,q⟩:=h;obtain⟨u,rfl,rx⟩:=cz r;cases rx;obtain⟨t,u,v,e⟩:=I.hok p _ hp
 have hs:Pk 0 (QF n) 1=On:=by
  have z:∀m:Fin 1001,Pk 0 (QF m.val) 1=On:=by decide +kernel
  exact z ⟨n,Z⟩
 have hsz:OJ 0 (QF n) 1=n:=by
  unfold OJ;rw[XT ca];split
  .show(QF n-0-1)/1+1=_;simp; 
  .simp at *;lia
 refine call_list_range (I.ok.hd hc) e hs hsz Z λ h' tk acc' c' k g it=>?_
 have rv:Vals ((TC n).map V.int) acc'.toList:=by
  refine vG (by simp[TC,it.1]) λ i v e=>?_;rw[qw] at e;obtain⟨tt,rfl⟩:=it.2 i v e;have hi:i<n:=by rw[<- it.1];exact(vm.mp e).1
  exact⟨.int i,by simp[TC,hi],tt,on⟩
 exact⟨.ref s.heap.objs.size,_,I.laid k (ao _) (show ObjOk X.prog X.w _ _ _ (.lst _) from ⟨by simp[TC];exact dN (aN hn),acc'.toList,c',rv,by rw[vF];exact g⟩),O,q _ (I.hok.fresh (ao _))⟩
def Fa:VD X "list.pop" lA:=Dr
def Fb:V->Option Int->Option Int->Hp->VK->Prop:=λ x lo hi H Q=>∃z,x=.str z/\z.length<=4000000/\Q (.str (Txt.slice z lo hi)) H
def Fc:VC X Fb:=by
 intro Tb s σ H x v vl vu lo hi sl Q I rx hs pl pu h;obtain⟨z,rfl,hz,q⟩:=h;obtain⟨t,rfl⟩:=rx;have s20:4000000<=Ou:=by rw[jF];decide
 have part:∀ {u:Value}{o:Option Int},Qa u o->∃l,u=partValue l/\o=l.map λ p:Int×Tok=>p.1:=λ p=>by
  cases p with
  |none=>exact⟨Oo,rfl,rfl⟩
  |int i t=>exact⟨Om (i,t),rfl,rfl⟩
 obtain⟨l,rfl,rfl⟩:=part pl;obtain⟨u,rfl,rfl⟩:=part pu;obtain⟨o,ho,hc,hd⟩:=hs;refine⟨"str",_,F.slot_str_getitem.lookup,RO _ _ _,wpAny_getItem_str_slice (l:=l) (u:=u) (st:=Oo) ⟨o,ho,hc,hd⟩ rfl ?_⟩;have le:=Txt.slice_le z (l.map λ p:Int×Tok=>p.1) (u.map λ p:Int×Tok=>p.1);exact post_val_or_str ⟨cG le Z,λ t' k=>⟨.str _,H,I.tok k,⟨t',O⟩,q⟩⟩
theorem vH:∀ {bs:List Bool}{us:LV},Vals (bs.map V.bl) us->us=bs.map PD
 |[],_,.nil=>rfl
 |b::bs,_,.cons r t=>by
  cases (show _=PD b from r);rw[vH t];rfl
def Fd(hc:X.calm=On):bY X (.builtin "any") (λ xs H Q=>∃(a:Os) (bs:List Bool),xs=[.ref a]/\SqL X.K H a (bs.map V.bl)/\Q (.bl (bs.any id)) H):=by
 intro Tb s σ H xs us Q I r h;obtain⟨a,bs,rfl,hq,q⟩:=h;obtain⟨u,rfl,ru⟩:=cz r;cases (show u=OP a from ru);obtain⟨its,rv,pl,hz⟩:=I.list hq;have hl:=pl.isList;have hlt:a<s.heap.objs.size:=by obtain⟨_,e,_⟩:=hl;exact aJ e
 have hb:=vH rv;subst hb;refine call_any_walk (Rk hl ?_)
 refine⟨s.heap.objs.size,[s.heap.objs.size,a],[s.heap.objs.size],(bs.map PD).toArray.size,_,_,λ i=>(bs[i]?).getD Op,O,Walks.list (A:=X.A.in1) (I.ok.hd hc) _ a (bf hlt) (bs.map PD).toArray,
  ⟨⟨_,bn _ rfl,rfl,rfl⟩,hl.push _⟩,λ i v s' Q' E' hP hQ=>?_,λ h' tk hk=>?_⟩
 .have hP:(bs.map PD)[i]?=Om v:=by simpa using hP
  rw[bh] at hP
  cases e:bs[i]? with
  |none=>rw[e] at hP;cases hP
  |some b=>
   rw[e] at hP;cases hP;simp only[e,Option.getD_some] at hQ;exact fW hQ
 .have e:((OE (bs.map PD).toArray.size).any λ i=>(bs[i]?).getD Op)=bs.any id:=by
   rw[aY,ah];exact LSm.range_any bs
  rw[e];exact⟨.bl _,H,I.kept (t':=tk) (LSm.kept_iter hk),O,q⟩
section
variable {κ:Type} [DecidableEq κ]
end
section
variable {P:Oz}{w:OB}{H:Hp}{h:OH}{a:Os}
end
section
variable {Tb:LO}{σ:St}{H:Hp}{s:Ot}{a:Os}{y v:V}{u r:Value}{o:Option V}{A:OD}{E:VS}
end
section
variable {Tb:LO}{σ:St}{H:Hp}{s:Ot}{a:Os}{kvs:List (TU×V)}{k:TU}{u:Value}{A:OD}{E:VS}
end
def vI(i:Expr):Prop:=∀ov iv,QK i Op ov iv=operate [ov,iv] (PY ov iv)
theorem Fe{T id:String}
  (hl:Ps (.type T) "__getitem__"=OM (Om (.builtin id))) (hs:vI slice)
  (h:Ov (Oy prog w) A (eval value env) (λ o s₁=>Ov (Oy prog w) A (eval slice env) (λ i s₂=>s₂.TypeIs o T/\Ov (Oy prog w) A (PY o i) Q E s₂) E s₁) E s) :
  Ov (Oy prog w) A (eval (.Subscript value slice pos) env) Q E s:=by
 refine RI (cy h (λ o s₁ h₁=>cy h₁ (λ i s₂ h₂=>?_) λ _ _ x=>x) λ _ _ x=>x);obtain⟨hT,h₂⟩:=h₂;unfold Qx;refine ae ?_;rw[getitemInPython_of_ne hT.not_modules];refine ae (ip hT hl ?_)
 have fin:Ov (Oy prog w) A (QK slice Op o i) (λ r s₃=>Ov (Oy prog w) A (letTemporaryGo value o r >>= λ _=>OM r) Q E s₃) E s₂:=by
  rw[hs o i];exact wpAny_operating (cy h₂ (λ r s₃ h₃=>ae (wpAny_letTemporaryGo (au h₃))) λ _ _ x=>x)
 first
  |exact au (ae fin)
  |exact ae (au (ae fin))
  |exact ae fin
section
variable {o i e value:Expr}{pos pos' tpos:Pos}{td ty tv:TE}
end
section
variable {pos:Pos}
end
section
variable {Tb:LO}{σ:St}{H:Hp}{s:Ot}{a:Os}{y d:V}{u r:Value}{o:Option V}{A:OD}{E:VS}
end
section
variable {o e f:Expr}{apos cpos:Pos}{td ty tx:TE}
end
section
variable {Tb:LO}{σ:St}{H:Hp}{s:Ot}{a:Os}{kvs:List (TU×V)}{A:OD}{E:VS}
end
section
variable {Tb:LO}{σ:St}{H:Hp}{s:Ot}{a:Os}{y:V}{u:Value}{A:OD}{E:VS}
end
section
variable {κ:Type} [DecidableEq κ]
end
def KTab(P:Oz)(w:OB)(K:FG)(d:Os)(kvs:LA):Prop:=(d == Qz)=Op/\∀h:OH,K.In h->h.DictOf (pP P w) d (kvs.map λ p=>((Pg p.1:TU),OP p.2))
noncomputable def Ff(pm:Params)(l:List (Str×Tok×Os)):List DictEntry:=l.map λ p=>⟨OR pm p.1,.str p.1 p.2.1,.ref p.2.2⟩
theorem KTab.mk{w:OB}{K:FG}{d:Os}(hd:(d == Qz)=Op)(hl:K.lookup d=Om { cls:=.type "dict",data:=.dict es n })(he:es.toList=Ff w.params l)(nd:(l.map (·.1)).Nodup) :
  KTab P w K d (l.map λ p=>(p.1,p.2.2)):=by
 refine⟨hd,λ h KI=>⟨_,es,n,KI d _ hl,⟨O,O,O⟩,O,?_,?_,?_⟩⟩
 .intro e hm;have hm:e∈es.toList:=Array.mem_toList_iff.mpr hm;rw[he] at hm;obtain⟨p,_,rfl⟩:=bq.mp hm;exact⟨Pg p.1,pN p.1 p.2.1,O⟩
 .rw[he];clear he nd hl
  induction l with
  |nil=>exact .nil
  |cons p r ih=>exact .cons (pN p.1 p.2.1) rfl ih
 .rw[bF,bF];have e:((λ x:TU×Value=>x.1) ∘ (λ p:Str×Os=>((Pg p.1:TU),OP p.2))) ∘ (λ p:Str×Tok×Os=>(p.1,p.2.2))=(λ x:Str=>(Pg x:TU)) ∘ λ p=>p.1:=rfl;rw[<- bF] at *
  have z:(l.map λ p=>(Pg p.1:TU)).Nodup:=by
   have:(l.map λ p=>(Pg p.1:TU))=(l.map (·.1)).map (λ x:Str=>(Pg x:TU)):=by rw[bF];rfl
   rw[this];exact List.Pairwise.map _ (λ a b (h:a≠b) z=>h (s1l z)) nd
  simpa [bF,Function.comp_def] using z
def Fg{kvs:LA}:valueAt (kvs.map λ p=>((Pg p.1:TU),OP p.2)) (Pg x)=(kvs.lookup x).map OP:=by
 induction kvs with
 |nil=>rfl
 |cons p r ih=>
  obtain⟨k,a⟩:=p;unfold valueAt at *;rw[cJ,List.find?_cons,dS];by_cases e:x=k
  .subst e;simp
  .have h1:decide ((Pg k:TU)=Pg x)=Op:=bD λ z=>e (s1l z).symm;have h2:(x == k)=Op:=pO.mpr e;rw[h2];simp only[h1];exact ih
def Fh(kvs:LA):V->Hp->VK->Prop:=λ y H Q=>∃x a,y=.str x/\kvs.lookup x=Om a/\Q (.ref a) H
def Fi(kvs:LA)(te:TE):TE:=λ σ H Q=>te σ H λ y H1=>Fh kvs y H1 Q
theorem Fj(hg:Gl X n)(hm:X.mg n=Om (.ref d))(T:KTab X.prog X.w X.K d kvs)(hi:PE X i te)(hs:vI i)(hdb:autoParam ((n == ("__debug__" : Str))=Op) ca._auto_1) :
  PE X (.Subscript (.Name n np) i pos) (Fi kvs te):=by
 intro Tb s σ H Q I h;refine Fe PySem.F.slot_dict_getitem.lookup hs (mN I hg hm (Tl (hi Tb s σ H _ I h) λ iv s2 ⟨y,H2,I2,ry,x,a,ey,l,q⟩=>?_) hdb);subst ey;obtain⟨t,rfl⟩:=ry;have dd:=T.2 s2.heap I2.kIn;refine⟨dd.typeIs,wpAny_getItem_of (pN x t) dd.mapOf (v:=.ref a) (by rw[Fg,l];rfl) ⟨.ref a,H2,I2.tok _,O,q⟩⟩
def KTup(K:FG)(a:Os)(xs:List V):Prop:=∃(o:Obj) (its:Array Value) (n:Nat),K.lookup a=Om o/\o.cls=.type "tuple" /\ o.dict=Oo/\o.data=.seq its n/\its.size<=Ou/\Vals xs its.toList
def KTup.sq{K:FG}(h:KTup K a xs):SqT K H a xs:=.inr h
section
variable {pg:Oz}{wd:OB}{B:OD}{X0:VS}{s0:Ot}
end
section
variable {es:List Expr}{x1:Nat}{pp:Pos}
end
section
variable {P:Oz}{w:OB}{K:FG}{mg:SV}{base:OH}
end
section
variable {CX:UC}{k:Nat}{ps:List Str}{dvs:List V}{sp:Sp}{E:XK}{x:Str}{p pos:Pos}{e:Expr}{es:List Expr}{t:TA}
end
section
open PySem.Builtin PySem.Builtin.Str
end
section
variable {pg:Oz}{wd:OB}{B:OD}{X0:VS}{s0:Ot}{J d:Os}{m:Nat}{Pr:Nat->Value->Prop}{OK:OH->Prop}
end
section
variable {pg:Oz}{wd:OB}{B:OD}{X0:VS}{z0:Ot}
end
def Fk(r:Vals xs us){j:Nat}(h:j<us.toArray.size):∃z,xs[j]?=Om z/\RelV z us.toArray[j]:=by
 have l:=r.length;have k:j<xs.length:=by rw[l];simpa using h
 obtain⟨u,hu,ru⟩:=r.get (aZ k)
 have e:us.toArray[j]=u:=by
  have z:us[j]?=Om (us[j]'(by simpa using h)):=aZ _;rw[z] at hu;simpa using hu
 exact⟨_,aZ k,by rw[e];exact ru⟩
section
variable {Tb:LO}{σ:St}{H:Hp}{s:Ot}
end
def Fl(K:FG)(tl:TE):TI:=λ σ H R=>tl σ H λ x H1=>(∃a,x=.ref a/\(∃xs,SqL K H1 a xs)/\R (Wt K a) H1)\/(∃a,x=.ref a/\(∃xs,SqT K H1 a xs)/\R (Wu K a) H1)
def Fm(hl:PE X l tl):PI X tg l (Fl X.K tl):=by
 intro Tb s σ H R I h;refine Tl (hl Tb s σ H _ I h) λ v s1 ⟨x,H1,I1,r1,q1⟩=>?_
 rcases q1 with ⟨a,e,⟨xs,hq⟩,q⟩|⟨a,e,⟨xs,hq⟩,q⟩
 .subst e;cases r1;obtain⟨its,rv,p,hz⟩:=I1.list hq;refine Rk p.isList ?_;refine⟨s1.heap.objs.size,[s1.heap.objs.size],_,_,H1,O,I1.kept (t':=s1.toks) λ b o e=>aM _ e,BL a _,⟨_,bn _ rfl,O,O⟩,λ b hb=>?_,q⟩;have e:b=s1.heap.objs.size:=by simpa using hb
  subst e;exact I1.fpOk (ao _) (I1.hok.fresh (ao _))
 .subst e;cases r1;obtain⟨its,rv,p,hz⟩:=I1.tuple hq;refine nK (show s1.heap.IsTuple a its.toArray from p) ?_;refine⟨s1.heap.objs.size,[s1.heap.objs.size],_,_,H1,O,I1.kept (t':=s1.toks) λ b o e=>aM _ e,BM a _,⟨_,bn _ rfl,O,O⟩,λ b hb=>?_,q⟩;have e:b=s1.heap.objs.size:=by simpa using hb
  subst e;exact I1.fpOk (ao _) (I1.hok.fresh (ao _))
section
variable {tg:Expr}
end
theorem lH:∀(names:List (Str×OF)) (n:Nat) (acc:LA),OL n names acc=OL n names []++acc
 |[],_,_=>rfl
 |(x,k)::r,n,acc=>by
  unfold OL;split
  .rw[lH r (n+1) ((x,n)::acc),lH r (n+1) [(x,n)],ig];rfl
  .exact lH r n acc
theorem gI{α:Type}:∀ {a b:List (Str×α)}{x:Str},(a++b).lookup x=match a.lookup x with|some c=>Om c|none=>b.lookup x
 |[],_,_=>rfl
 |(y,c)::a,b,x=>by
  rw[nN,dS,dS]
  cases x == y with
  |true=>rfl
  |false=>exact gI
theorem vJ{α:Type}{y:Str}:∀ {cl:List (Str×α)}{q:Str×α},q∈cl->q.1=y->(cl.lookup y).isSome=On
 |a::r,q,hq,e=>by
  rw[dS]
  cases q0:y == a.1 with
  |true=>rfl
  |false=>
   rcases aB.mp hq with z|z
   .rw[<- z,e,jO] at q0;cases q0
   .exact vJ z e
theorem vK{α:Type}:∀ {cl:List (Str×α)}{q:Str×α},(cl.map (·.1)).Nodup->q∈cl->cl.lookup q.1=Om q.2
 |a::r,q,nd,hq=>by
  rw[dS]
  rcases aB.mp hq with z|z
  .rw[<- z,jO]
  .have na:=(fZ.mp nd).1
   have:(q.1 == a.1)=Op:=by
    cases q0:q.1 == a.1 with
    |false=>rfl
    |true=>exact XU (bq.mpr ⟨q,z,hW q0⟩) na
   rw[this];exact vK (fZ.mp nd).2 z
theorem nO{x:Str}:∀ {names:List (Str×OF)}{n:Nat},(∀y∈names,y.2=.cell->y.1≠x)->(OL n names []).lookup x=Oo
 |[],_,_=>rfl
 |(y,k)::r,n,h=>by
  unfold OL;split
  .rename_i hk;rw[lH,gI,nO λ z hz=>h z (aV _ hz)];have hy:y≠x:=h (y,k) bd (hW hk);show Px x [(y,n)]=Oo;rw[dS]
   have:(x == y)=Op:=by
    cases q:x == y with
    |false=>rfl
    |true=>exact XU (hW q).symm hy
   rw[this];rfl
  .exact nO λ z hz=>h z (aV _ hz)
section
variable {M:Model}{A:OD}{E:VS}{s₀ s:Ot}{m cm:SV}{env:Env}{cs:LA}
theorem Fn{v:Value}{Q:Unit->Ot->Prop}(x:Qd s₀ env.locals m cs cm s)(hk:env.scope.kind=.function)(hl:env.kindOf n=Om .local)
  (h:∀s',Qd s₀ env.locals (λ y=>if y=n then Om v else m y) cs cm s'->Q () s'):Ov M A (QI env n v) Q E s:=by
 refine tV hl x.toInCall.ns (λ h' hn' hs'=>h _ ⟨⟨?_,hn',λ b o e=>?_,x.toInCall.fresh⟩,λ k c hc=>?_,x.apart,x.above⟩) (by rw[hk];rfl)
 .obtain⟨h₁,tk,rfl⟩:=x.toInCall.same;exact⟨h',_,O⟩
 .exact hs'.extBut b o (bf (bE (aJ e) x.toInCall.fresh)) (x.toInCall.keep b o e)
 .exact(x.cell k c hc).sameBut hs' (s1f (x.above k c (dQ hc)))
theorem Fo{v:Value}{Q:Unit->Ot->Prop}(x:Qd s₀ env.locals m cs cm s)(hk:env.scope.kind=.function)(hl:env.kindOf n=Om .cell)
  (hc:cs.lookup n=Om c) (he:env.cells.lookup n=Om c)
  (h:∀s',Qd s₀ env.locals m cs (λ y=>if y=n then Om v else cm y) s'->Q () s'):Ov M A (QI env n v) Q E s:=by
 have hLc:=x.above n c (dQ hc);refine tW hk hl he (x.cell n c hc) λ h' hc' hs'=>h _ ⟨⟨?_,x.toInCall.ns.sameBut hs' (bf hLc),λ b o e=>?_,x.toInCall.fresh⟩,λ k c' hk'=>?_,x.apart,x.above⟩
 .obtain⟨h₁,tk,rfl⟩:=x.toInCall.same;exact⟨h',_,O⟩
 .exact hs'.extBut b o (bf (s1i (bE (aJ e) x.toInCall.fresh) hLc)) (x.toInCall.keep b o e)
 .by_cases hkn:k=n
  .subst hkn;rw[hc] at hk';cases hk';simpa using hc'
  .rw[XR hkn];exact(x.cell k c' hk').sameBut hs' λ e=>hkn (mZ x.apart (dQ hk') (e ▸ dQ hc))
theorem qM(f:Str×Value->PUnit->Sem (ForInStep PUnit))(hf:∀n v u,f (n,v) u=(do QI env n v;OM (.yield ⟨⟩)))(hk:env.scope.kind=.function)(hcs:∀n c,cs.lookup n=Om c->env.cells.lookup n=Om c) :
  ∀(binds:List (Str×Value)) (m cm:SV) (s:Ot) (Q:PUnit->Ot->Prop),Qd s₀ env.locals m cs cm s ->
   (∀x∈binds,env.kindOf x.1=Om .local\/(env.kindOf x.1=Om .cell/\(cs.lookup x.1).isSome=On)) ->
   (∀s',Qd s₀ env.locals (Qc env.kindOf binds m) cs (Qb env.kindOf binds cm) s'->Q ⟨⟩ s')->Ov M A (forIn binds ⟨⟩ f) Q E s
 |[],m,cm,s,Q,x,_,h=>by rw[List.forIn_nil];exact au (h s x)
 |(n,v)::r,m,cm,s,Q,x,Tx,h=>by
  rw[lJ,hf];have hr:∀y∈r,env.kindOf y.1=Om .local\/(env.kindOf y.1=Om .cell/\(cs.lookup y.1).isSome=On):=λ y hy=>Tx y (aV _ hy)
  rcases Tx (n,v) bd with hl|⟨hl,hc⟩
  .refine ae (ae (Fn x hk hl λ s' x'=>au (qM f hf hk hcs r _ _ s' Q x' hr λ s'' x''=>h s'' ?_)));unfold Qc Qb;rw[XT hl,XT hl];exact x''
  .obtain⟨c,hc⟩:=iS.mp hc;have hnl:¬env.kindOf n=Om .local:=by rw[hl];decide
   refine ae (ae (Fo x hk hl hc (hcs n c hc) λ s' x'=>au (qM f hf hk hcs r _ _ s' Q x' hr λ s'' x''=>h s'' ?_)));unfold Qc Qb;rw[XR hnl,XR hnl];exact x''
end
section
variable {M:Model}{A:OD}{E:VS}{s:Ot}
theorem vL{scope:Scope}{globals:Os}{cl:LA}{binds:List (Str×Value)}{code:Value}{Q:Env->Ot->Prop}
  (hk:scope.kind=.function)
  (Tx:∀x∈binds,scope.names.lookup x.1=Om .local\/(scope.names.lookup x.1=Om .cell/\((OL (s.heap.objs.size+1) scope.names []).lookup x.1).isSome=On))
  (hQ:∀env,env=newEnv scope s.heap.objs.size globals (OL (s.heap.objs.size+1) scope.names []++cl) qual func code Oo builtins ->
   ∀s',Qd s env.locals (Qc env.kindOf binds λ _=>Oo) (OL (s.heap.objs.size+1) scope.names []) (Qb env.kindOf binds λ _=>Oo) s'->Q env s') :
  Ov M A (Sa scope globals cl binds qual func code Oo builtins) Q E s:=by
 simp only[Sa,Option.isSome_none,lK,iT];refine ae (wpAny_alloc ?_);refine ae (wpAny_layCells _ (λ name kind cells=>by cases hkc:kind == Sm<;>simp[hkc]) _ _ _ _ ?_);have ok:=cellsFrom_ok scope.names (s.heap.push { cls:=.type "frame",data:=.dict #[] }) (s.heap.objs.size+1) [] ⟨λ _ _ hm=>(nomatch hm),List.Pairwise.nil⟩ (by rw[iV];exact ao _);rw[iV] at ok;rw[show({ s with heap:=s.heap.push { cls:=.type "frame",data:=.dict #[] } }:Ot).heap.objs.size=s.heap.objs.size+1 from iV ..];rw[lH scope.names (s.heap.objs.size+1) cl]
 refine ae (qM (s₀:=s) (cs:=OL (s.heap.objs.size+1) scope.names []) (env:=newEnv scope s.heap.objs.size globals (OL (s.heap.objs.size+1) scope.names []++cl) qual func code Oo builtins)
  _ (λ _ _ _=>rfl) hk (λ n c hc=>by show Px n (OL (s.heap.objs.size+1) scope.names []++cl)=Om c;rw[gI,hc]) binds (λ _=>Oo) (λ _=>Oo) _ _
  ⟨⟨⟨_,_,rfl⟩,(Heap.Ns.new s.heap (.type "frame")).keeps (RL _ _),λ b o e=>RL _ _ b o (aM _ e),ao _⟩,
   λ n c hc=>(ok.empty n c (dQ hc)).1,ok.apart,λ n c hm=>(ok.empty n c hm).2⟩
  Tx λ s' x=>au (hQ _ rfl s' x))
end
noncomputable def jP(c:Os)(v:V):HO:=.ext λ h=>∃u,RelV v u/\h.IsCell c (Om u)
noncomputable def cn(c:Os)(qual:Str):HO:=.ext λ h=>h.CodeRec (.ref c) qual
noncomputable def eX(fa c':Os)(qual:Str)(params:Pb)(body:Expr)(scope:Scope)(cl:LA):HO:=.ext λ h=>∃pm ctv,h.get? fa=Om (kla_obj "<lambda>" qual params body scope cl pm c' ctv)
structure CelAt (H:Hp)(cl:LA)(vcs:List V):Prop where
 len:cl.length=vcs.length
 at_:∀(i:Nat) q,cl[i]?=Om q->∃v o,vcs[i]?=Om v/\H q.2=Om (.frz o (jP q.2 v))
 apart:cl.Pairwise λ x y=>x.2≠y.2
def CelAt.mem{cl:LA}(h:CelAt H cl vcs){q:Str×Os}(hq:q∈cl):∃o v,H q.2=Om (.frz o (jP q.2 v)):=by
 obtain⟨i,e⟩:=nP.mp hq;obtain⟨v,o,_,e2⟩:=h.at_ i q e;exact⟨o,v,e2⟩
open Classical in
noncomputable def minC(H:Hp)(cl:LA):Hp:=λ b=>if ∃q∈cl,q.2=b then Oo else H b
open Classical in
noncomputable def TD(H H':Hp)(cl:LA):Hp:=λ b=>if ∃q∈cl,q.2=b then H b else H' b
def jQ{cl:LA}{q:Str×Os}(h:q∈cl):minC H cl q.2=Oo:=XT ⟨q,h,rfl⟩
def bU{cl:LA}{b:Os}(h:∀q∈cl,q.2≠b):minC H cl b=H b:=XR λ⟨q,hq,e⟩=>h q hq e
def Fp{cl:LA}(h:minC H cl b=Om o):H b=Om o/\∀q∈cl,q.2≠b:=by
 by_cases c:∃q∈cl,q.2=b
 .rw[show minC H cl b=Oo from XT c] at h;cases h
 .rw[show minC H cl b=H b from XR c] at h;exact⟨h,λ q hq e=>c ⟨q,hq,e⟩⟩
def gJ{H:Hp}{cl:LA}(h:H b=Oo):minC H cl b=Oo:=by
 by_cases c:∃q∈cl,q.2=b
 .exact XT c
 .rw[show minC H cl b=H b from XR c];exact h
def eY{cl:LA}{q:Str×Os}(h:q∈cl):TD H H' cl q.2=H q.2:=XT ⟨q,h,rfl⟩
def cL{cl:LA}{b:Os}(h:∀q∈cl,q.2≠b):TD H H' cl b=H' b:=XR λ⟨q,hq,e⟩=>h q hq e
def HOk.minC{cl:LA}(x:HOk P w H h)(hc:CelAt H cl vcs):HOk P w (minC H cl) h:=λ b o e=>by
 obtain⟨e1,_⟩:=Fp e
 have nf:∀c u,H c=Om u->(∀ob v,u≠.frz ob v)->_L.minC H cl c=Om u:=λ c u e2 n=>by
  rw[bU λ q hq z=>?_]
  .exact e2
  .obtain⟨ob,v,e3⟩:=hc.mem hq;rw[z,e2] at e3;exact n _ _ (bw e3)
 exact(x b o e1).stay (λ _ _ _ q=>q) (λ c q=>nf c _ q λ _ _ z=>nomatch z) λ c xs q=>nf c _ q λ _ _ z=>nomatch z
structure Tu (N ps fv:List Str)(sc:Scope):Prop where
 kind:sc.kind=.function
 co:sc.isCoroutine=Op
 gen:sc.isGenerator=Op
 nd:N.Nodup
 pre:N.take (ps++fv).length=ps++fv
 par:∀x∈ps,sc.names.lookup x=Om .local\/sc.names.lookup x=Om .cell
 fre:∀x∈fv,sc.names.lookup x=Om .free
 has:∀y∈sc.names,y.2=.free->y.1∈fv
 own:∀x∈fv,∀y∈sc.names,y.2=.cell->y.1≠x
noncomputable def iq(P:Oz)(w:OB)(K:FG)(mg:SV)(base:OH)(N:List Str)(qual:Str)(scope:Scope)(f:Os)(cd:Value)(cl:LA)(A:OD)(outer:List Env)(s:Ot)(H:Hp):Cx where
 prog:=P
 w:=w
 K:=K
 mg:=mg
 base:=base
 A:=A.deeper (envX qual scope s.heap.objs.size f cd (OL (s.heap.objs.size+1) scope.names []++cl))
 N:=N
 s₀:=s
 H₀:=H
 env:=envX qual scope s.heap.objs.size f cd (OL (s.heap.objs.size+1) scope.names []++cl)
 outer:=outer
 stack:=envX qual scope s.heap.objs.size f cd (OL (s.heap.objs.size+1) scope.names []++cl)::outer
 ex:=[]
 calm:=On
 fn:=λ x=>decide (scope.names.lookup x=Om .cell)
 pn:=[]
 xe:=λ _ _=>False
def Fq{vs:List V}{i:Nat}(h:(Ti N vs)[i]?=Om (Om v)):vs[i]?=Om v:=by
 unfold Ti at h
 have hi:i<vs.length:=by
  by_cases hi:i<vs.length
  .exact hi
  .rw[cH (by simpa using hi),fH] at h;split at h<;>cases h
 rw[cI (by simpa using hi),bh] at h
 cases e:vs[i]? with
 |none=>rw[e] at h;cases h
 |some a=>rw[e] at h;cases h;rfl
theorem vM{K:FG}{cl:LA}{A:OD}{s s1:Ot}{vs vcs:List V}
  (S:Tu N ps fv scope) (hd:A.handled=Oo) (e0:Uz P w K mg base A outer s H) (hl:vs.length=ps.length) (r:Vals vs us) (hcl:cl.map (·.1)=fv) (hc:CelAt H cl vcs)
  (x:Qd s s.heap.objs.size (Qc (λ x=>scope.names.lookup x) (ps.zip us) λ _=>Oo) (OL (s.heap.objs.size+1) scope.names []) (Qb (λ x=>scope.names.lookup x) (ps.zip us) λ _=>Oo) s1) :
  Inv (iq P w K mg base N qual scope f cd cl A outer s (minC H cl)) [] (Ti N (vs++vcs)) (minC H cl) s1:=by
 obtain⟨h1,tk,rfl,hk⟩:=x.done;have cll:cl.length=fv.length:=by rw[<- hcl,ah]
 have hpl:(ps++fv).length<=N.length:=by have:=bA Pi S.pre;rw[aP] at this;lia
 have noA:∀b:Os,b ∉ (iq P w K mg base N qual scope f cd cl A outer s (minC H cl)).ex:=λ b z=>XU (show b∈([]:List Os) from z) on
 have old:∀q∈cl,q.2<s.heap.objs.size:=λ q hq=>by
  obtain⟨o,v,e⟩:=hc.mem hq;exact e0.hok.lt e
 have celv:∀(i:Nat) q,cl[i]?=Om q->∃v u,vcs[i]?=Om v/\RelV v u/\h1.IsCell q.2 (Om u):=λ i q e=>by
  obtain⟨v,o,e1,e2⟩:=hc.at_ i q e;obtain⟨_,⟨u,ru,ic⟩,_⟩:=e0.hok _ _ e2;exact⟨v,u,e1,ru,ic.keeps hk⟩
 have lk:∀y c,(OL (s.heap.objs.size+1) scope.names []++cl).lookup y=Om c->(y,c)∈OL (s.heap.objs.size+1) scope.names []\/(y,c)∈cl:=λ y c e=>bX.mp (dQ e);have abv:∀y c,(y,c)∈OL (s.heap.objs.size+1) scope.names []->s.heap.objs.size<=c:=λ y c e=>dN (x.above y c e)
 refine⟨⟨e0.mod,S.kind,O,O,ao _,λ y z c h1 h2=>?_,λ y hy=>?_,λ y c hf h=>?_,λ _=>hd,uB e0.frames,.inr ⟨O,O⟩,λ b z=>XU z (noA b),λ b o e=>⟨(e0.bs b o e).1,gJ (e0.bs b o e).2⟩,e0.bsz,λ b _ _=>noA b,λ b z=>XU z (noA b),e0.funs,λ b hb=>gJ (e0.frf b hb)⟩,
  rfl,e0.bare,Un.kept hk,⟨_,x.toInCall.ns,λ i y v h1 h2 h3=>?_⟩,λ y c h=>?_,(e0.hok.minC hc).fresh (ao _),λ y c h=>?_,λ p hp=>XU (show p∈([]:LO) from hp) on,(e0.hok.minC hc).kept hk,?_⟩
 .rcases lk y c h1 with m1|m1<;>rcases lk z c h2 with m2|m2
  .exact mZ x.apart m1 m2
  .exact XU (abv y c m1) (Nat.not_le_of_lt (old _ m2))
  .exact XU (abv z c m2) (Nat.not_le_of_lt (old _ m1))
  .exact mZ hc.apart m1 m2
 .have hy:scope.names.lookup y=Om .cell\/scope.names.lookup y=Om .free:=hy
  rcases hy with hy|hy
  .obtain⟨c,e⟩:=kY (n:=s.heap.objs.size+1) hy;exact⟨c,by show Px y (OL (s.heap.objs.size+1) scope.names []++cl)=Om c;rw[gI,e]⟩
  .have hm:=S.has _ (dQ hy) rfl;have hm:y∈cl.map (·.1):=by rw[hcl];exact hm
   obtain⟨q,hq,e⟩:=bq.mp hm;have iss:(cl.lookup y).isSome=On:=vJ hq e;obtain⟨c,ec⟩:=iS.mp iss;have e1:(OL (s.heap.objs.size+1) scope.names []).lookup y=Oo:=nO (S.own y (by rw[<- hcl];exact hm));exact⟨c,by show Px y (OL (s.heap.objs.size+1) scope.names []++cl)=Om c;rw[gI,e1];exact ec⟩
 .have hf:scope.names.lookup y=Om .cell:=aC hf;obtain⟨c',e⟩:=kY (n:=s.heap.objs.size+1) hf;have h:Px y (OL (s.heap.objs.size+1) scope.names []++cl)=Om c:=h;rw[gI,e] at h;cases h;exact abv y _ (dQ e)
 .have ha:=Fq h2;have hi:i<(vs++vcs).length:=(aX.mp ha).1;have lv:(vs++vcs).length=(ps++fv).length:=by rw[aF,aF,hl,<- hc.len,cll]
  have hp:(ps++fv)[i]?=Om y:=by
   rw[<- S.pre,nc Z];exact h1
  have ndA:(ps++fv).Nodup:=by rw[<- S.pre];exact S.nd.sublist (Rf _ _)
  have ndP:ps.Nodup:=ndA.sublist (List.sublist_append_left _ _);by_cases hil:i<ps.length
  .rw[cI Z] at ha;rw[cI hil] at hp;obtain⟨u,hu,rv⟩:=r.get ha;refine⟨u,rv,?_⟩
   rcases S.par y (aE hp) with k|k
   .exact .inl ⟨k,qi ndP hp hu k⟩
   .obtain⟨c,e⟩:=kY (n:=s.heap.objs.size+1) k;refine .inr ⟨.inl k,c,by show Px y (OL (s.heap.objs.size+1) scope.names []++cl)=Om c;rw[gI,e],?_⟩;have q:=x.cell y c e;rw[qj ndP hp hu (by rw[k];decide)] at q;exact q
  .rw[cH Z,hl] at ha;rw[cH Z] at hp;have hm:=aE hp;have hqc:(cl.map (·.1))[i-ps.length]?=Om y:=by rw[hcl];exact hp
   rw[bh] at hqc
   obtain⟨q,eq,e1⟩:∃q,cl[i-ps.length]?=Om q/\q.1=y:=by
    cases z:cl[i-ps.length]? with
    |none=>rw[z] at hqc;cases hqc
    |some q=>rw[z] at hqc;exact⟨q,rfl,bw hqc⟩
   obtain⟨v',u,e2,ru,ic⟩:=celv _ q eq;rw[ha] at e2;cases e2;have ndF:(cl.map (·.1)).Nodup:=by rw[hcl];exact ndA.sublist (List.sublist_append_right _ _)
   have lkq:cl.lookup y=Om q.2:=by rw[<- e1];exact vK ndF (aE eq)
   have own0:(OL (s.heap.objs.size+1) scope.names []).lookup y=Oo:=nO (S.own y hm);exact⟨u,ru,.inr ⟨.inr (S.fre y hm),q.2,by show Px y (OL (s.heap.objs.size+1) scope.names []++cl)=Om q.2;rw[gI,own0];exact lkq,ic⟩⟩
 .rcases lk y c h with m|m
  .have h:Px y (OL (s.heap.objs.size+1) scope.names []++cl)=Om c:=h;rw[gI] at h
   cases e:(OL (s.heap.objs.size+1) scope.names []).lookup y with
   |some c2=>rw[e] at h;cases h;exact⟨_,x.cell y _ e⟩
   |none=>
    rw[e] at h;obtain⟨i,ei⟩:=nP.mp (dQ h);obtain⟨v,u,_,_,ic⟩:=celv i _ ei;exact⟨_,ic⟩
  .obtain⟨i,ei⟩:=nP.mp m;obtain⟨v,u,_,_,ic⟩:=celv i _ ei;exact⟨_,ic⟩
 .rcases lk y c h with m|m
  .exact(e0.hok.minC hc).fresh (abv y c m)
  .exact jQ m
 .unfold Ti;show _=N.length;have lv:(vs++vcs).length=(ps++fv).length:=by rw[aF,aF,hl,<- hc.len,cll]
  rw[aF,ah,dC];lia
def lL(P:Oz)(w:OB)(K:FG)(mg:SV)(base:OH)(k:Nat)(fa:Os)(vs:List V)(H:Hp)(Q:VK):Prop :=
 ∀(A:OD) (outer:List Env) (s:Ot) (us:LV),Room k A->Uz P w K mg base A outer s H->Vals vs us->Pt (Oy P w) A (.call (.ref fa) ⟨us,[]⟩) (CR Tp outer P w H s Q λ _ _ _=>False) s
end _L
namespace _L
open PySem PySem.Spec PyProof.Rows PySem.W PySem.Calls
def FnV(H:Hp)(fa:Os):Prop:=∃φ,H fa=Om (.ext φ)/\∀h,φ h->FnAt fa h
def FnV.lam{H:Hp}{cl:LA}(h:H fa=Om (eX fa c' qual params body scope cl)):FnV H fa:=⟨_,h,λ _ ⟨_,_,e⟩=>⟨_,_,_,_,e⟩⟩
def Fs(P:Oz)(w:OB)(K:FG)(mg:SV)(base:OH)(k i:Nat)(t:TA):TE:=λ σ H Q=>∃fa,σ[i]?=Om (Om (.ref fa))/\FnV H fa/\t σ H λ vs H1=>FnV H1 fa/\lL P w K mg base k fa vs H1 Q
variable {X:Cx}
section
variable {k:Nat}{x:Str}{p pos:Pos}{e:Expr}{es:List Expr}{t:TA}
theorem Fu{i:Nat}(hr:Room k X.A)(hN:X.N[i]?=Om x)(hv:VA X.env.scope x)(ha:PA X (e::es) t)(hd:autoParam ((x == ("__debug__" : Str))=Op) ca._auto_1)(hcd:autoParam ((x == ("__classdict__" : Str))=Op) ca._auto_1)
  (he:autoParam (OI (e::es) X.env=(Op,eval e X.env)::OI es X.env) A8._auto_1) (hpl:autoParam ((Pu pos (OI es X.env)).any (·.1)=Op) A8._auto_1) :
  PE X (.Call (.Name x p) (e::es) [] pos) (Fs X.prog X.w X.K X.mg X.base k i t):=by
 intro Tb s σ H Q I h;obtain⟨fa,es',fn,h⟩:=h;refine jG (Tl ((gB (pos:=p) hN hv hd hcd) Tb s σ H (λ v H1=>v=.ref fa/\H1=H) I (by unfold cg;rw[es'];exact⟨O,O⟩)) λ u s1 ⟨v,H1,I1,r1,e1,e2⟩=>?_);subst e1 e2;cases r1;have at1:∀ {H':Hp}{s':Ot},Inv X Tb σ H' s'->FnV H' fa->FnAt fa s'.heap:=λ J ⟨φ,e,k⟩=>k _ (J.hok _ _ e).1;refine callWith_F (at1 I1 fn) (Tl (ha pos Tb s1 σ _ _ I1 h) λ us s2 ⟨vs,H2,I2,r2,fn2,cv⟩=>⟨at1 I2 fn2,?_⟩) he hpl;refine RQ (kW (cv X.A X.stack s2 us hr I2.env0 r2) λ r s' hq=>?_)
 cases r with
 |error e=>exact OY hq
 |ok fl=>
  cases fl with
  |ret u=>exact I2.after hq
  |next|brk|cont=>exact OY hq
end
def OwnCl(ec:LA)(fv:List Str)(cl:LA):Prop:=cl.map (·.1)=fv/\∀q∈cl,ec.lookup q.1=Om q.2
theorem OwnCl.uniq:∀ {fv:List Str}{cl cl':LA},OwnCl ec fv cl->OwnCl ec fv cl'->cl=cl'
 |[],[],[],_,_=>rfl
 |[],_::_,_,h,_=>by cases h.1
 |[],[],_::_,_,h=>by cases h.1
 |_::_,[],_,h,_=>by cases h.1
 |_::_,_::_,[],_,h=>by cases h.1
 |n::fv,(a,c)::cl,(b,d)::cl',h,h'=>by
  have e1:a=n:=(nQ h.1).1;have e2:b=n:=(nQ h'.1).1;subst e1 e2;have l1:=h.2 (b,c) bd;have l2:=h'.2 (b,d) bd;rw[show ec.lookup b=Om c from l1] at l2;cases l2;rw[OwnCl.uniq (fv:=fv) ⟨(nQ h.1).2,λ q hq=>h.2 q (aV _ hq)⟩ ⟨(nQ h'.1).2,λ q hq=>h'.2 q (aV _ hq)⟩]
def TabOk(H:Hp)(T:Os)(pos:Pos)(qual:Str):Prop:=∃ps,H T=Om (.tbl ps)/\Qr ps.toList/\(codeAmong pos ps.toList=Oo\/∃c',codeAmong pos ps.toList=Om (.ref c')/\H c'=Om (cn c' qual))
def vN{c:Value}(l:LV)(h:Qr l):Qr (l++[OO a,OO b,c]):=by
 fun_induction Qr l with
 |case1=>simp[Qr,OO]
 |case2 i t j u v Td ih=>simpa [Qr] using ih h
 |case3=>exact h.elim
structure TL (base:OH)(mg:SV)(c T:Os):Prop where
 hd:CodeHd base c T
 none_:base.get? T=Oo
 blt:∃bm o,mg "__builtins__"=Om (.ref bm)/\bm≠PV/\bm≠OG/\bm≠T/\base.get? bm=Om o/\o.cls=.type "module" /\ o.dict=Om PV/\o.data=.plain
 ne:OG≠T
def Fv(ec:LA)(fv:List Str)(T:Os)(pos:Pos)(qual:Str)(params:Pb)(body:Expr)(scope:Scope):TE:=λ _ H Q=>TabOk H T pos qual /\
 ∀fa c' cl H2,OwnCl ec fv cl->H fa=Oo->H2 fa=Om (eX fa c' qual params body scope cl)->H2 c'=Om (cn c' qual)->TabOk H2 T pos qual->(∀b o,b≠T->H b=Om o->H2 b=Om o)->Q (.ref fa) H2
def nR{h1 h2:OH}(x:h1.CodeRec (.ref c) qual)(k:∀o,h1.get? c=Om o->h2.get? c=Om o):h2.CodeRec (.ref c) qual:=by
 obtain⟨c',o,vs,t,e,ho,r⟩:=x;cases e;exact⟨c,o,vs,t,O,k _ ho,r⟩
section
variable {params:Pb}{body:Expr}{scope:Scope}{pos:Pos}{fv:List Str}{c T:Os}{cl:LA}
theorem Fw{qual:Str}(hq:X.env.qual ++ "<lambda>"=qual)(hcode:X.env.code=.ref c)(TF:TL X.base X.mg c T)(hdef:PX params X.env=([],[]))(hcl:Pl scope X.env=OM cl)(own:OwnCl X.env.cells fv cl) :
  PE X (.Lambda params body scope pos) (Fv X.env.cells fv T pos qual params body scope):=by
 intro Tb s σ H Q I h;obtain⟨⟨ps,hT,ht,hz⟩,h⟩:=h;subst hq;have eT:s.heap.get? T=Om (tabObj ps):=I.hok _ _ hT;have hg:s.heap.Ns OG X.mg:=I.mod.glob.keeps I.bk;obtain⟨bm,ob,b1,b2,b3,b4,b5,b6⟩:=TF.blt;have hb:s.heap.BuiltinsAt X.mg T:=⟨bm,ob,b1,b2,b3,b4,I.bk _ _ b5,b6⟩;have C:CodeHd s.heap c T:=TF.hd.keeps I.bk;refine kla_eval hdef ?_
 rcases hz with hnf|⟨c',hf,hc'⟩
 .refine kla_makeFunction hcl I.ok.glob hg hcode C eT ht hnf TF.ne hb λ c' ctv h' tk hx hge hlt hrec htb=>?_;have hfa:H h'.objs.size=Oo:=I.hok.fresh (dN (qz hge hlt));have hc0:H c'=Oo:=I.hok.fresh hge;have nTc:c'≠T:=λ z=>by rw[z,hT] at hc0;cases hc0
  have nTf:h'.objs.size≠T:=λ z=>by rw[z,hT] at hfa;cases hfa
  have ncf:c'≠h'.objs.size:=bf hlt;have old:∀b o,b≠T->s.heap.get? b=Om o->(h'.push (kla_obj "<lambda>" (X.env.qual ++ "<lambda>") params body scope cl ((X.mg "__name__").getD .none) c' ctv)).get? b=Om o:=λ b o n e=>aM _ (hx b o n e);have eP:(h'.push (kla_obj "<lambda>" (X.env.qual ++ "<lambda>") params body scope cl ((X.mg "__name__").getD .none) c' ctv)).get? T=Om (tabObj (ps++#[OO pos.line,OO pos.col,.ref c'])):=aM _ htb;have eF:(h'.push (kla_obj "<lambda>" (X.env.qual ++ "<lambda>") params body scope cl ((X.mg "__name__").getD .none) c' ctv)).get? h'.objs.size=Om (kla_obj "<lambda>" (X.env.qual ++ "<lambda>") params body scope cl ((X.mg "__name__").getD .none) c' ctv):=bn _ rfl;have eC:(h'.push (kla_obj "<lambda>" (X.env.qual ++ "<lambda>") params body scope cl ((X.mg "__name__").getD .none) c' ctv)).CodeRec (.ref c') (X.env.qual ++ "<lambda>"):=nR hrec λ o e=>aM _ e;generalize h'.push (kla_obj "<lambda>" (X.env.qual ++ "<lambda>") params body scope cl ((X.mg "__name__").getD .none) c' ctv)=h2 at *;generalize h'.objs.size=fa at *;have lowT:∀b o,s.heap.get? b=Om o->b≠c'/\(H b=Oo->b≠T):=λ b o e=>⟨bf (bE (aJ e) hge),λ n z=>by rw[z,hT] at n;cases n⟩;have lowF:∀b o,s.heap.get? b=Om o->b≠fa:=λ b o e=>bf (s1i (bE (aJ e) hge) hlt);have out:∀b,b≠T->b≠c'->b≠fa->Tf (Tf (Tf H T (.tbl (ps++#[OO pos.line,OO pos.col,.ref c']))) c' (cn c' (X.env.qual ++ "<lambda>"))) fa (eX fa c' (X.env.qual ++ "<lambda>") params body scope cl) b=H b:=λ b n1 n2 n3=>by rw[aA n3,aA n2,aA n1]
  have Ut:∀b o,H b=Om o->b≠c'/\b≠fa:=λ b o e=>⟨(λ z=>by rw[z,hc0] at e;cases e),(λ z=>by rw[z,hfa] at e;cases e)⟩;have _H:Tf (Tf (Tf H T (.tbl (ps++#[OO pos.line,OO pos.col,.ref c']))) c' (cn c' (X.env.qual ++ "<lambda>"))) fa (eX fa c' (X.env.qual ++ "<lambda>") params body scope cl) T=Om (.tbl (ps++#[OO pos.line,OO pos.col,.ref c'])):=by rw[aA nTf.symm,aA nTc.symm,bT]
  have HC:Tf (Tf (Tf H T (.tbl (ps++#[OO pos.line,OO pos.col,.ref c']))) c' (cn c' (X.env.qual ++ "<lambda>"))) fa (eX fa c' (X.env.qual ++ "<lambda>") params body scope cl) c'=Om (cn c' (X.env.qual ++ "<lambda>")):=by rw[aA ncf,bT]
  have HF:Tf (Tf (Tf H T (.tbl (ps++#[OO pos.line,OO pos.col,.ref c']))) c' (cn c' (X.env.qual ++ "<lambda>"))) fa (eX fa c' (X.env.qual ++ "<lambda>") params body scope cl) fa=Om (eX fa c' (X.env.qual ++ "<lambda>") params body scope cl):=bT;generalize Tf (Tf (Tf H T (.tbl (ps++#[OO pos.line,OO pos.col,.ref c']))) c' (cn c' (X.env.qual ++ "<lambda>"))) fa (eX fa c' (X.env.qual ++ "<lambda>") params body scope cl)=H2 at *;have same:∀b o,b≠T->H b=Om o->H2 b=Om o:=λ b o n e=>by rw[out b n (Ut b o e).1 (Ut b o e).2];exact e
  have un:Un X.fs [] H H2 s.heap h2:=⟨λ b o e n _ _=>old b o ((lowT b o e).2 n) e,λ b o e n _ _=>⟨o.slots,old b o ((lowT b o e).2 n) e⟩,λ b o e n _=>by rw[out b ((lowT b o e).2 n) (lowT b o e).1 (lowF b o e)];exact n,λ b o e _=>by
   by_cases z:b=T
   .rw[z];exact⟨_,eP⟩
   .exact⟨o,old b o z e⟩,λ b xs e=>same b _ (λ z=>by rw[z,hT] at e;cases e) e,λ b o u e=>same b _ (λ z=>by rw[z,hT] at e;cases e) e,λ b qs e=>by
   by_cases z:b=T
   .subst z;rw[hT] at e;cases e;exact⟨_,_H⟩
   .exact⟨#[],by rw[same b _ z e];simp⟩⟩
  have hok:HOk X.prog X.w H2 h2:=λ b o e=>by
   by_cases zf:b=fa
   .subst zf;rw[HF] at e;cases e;exact⟨⟨_,_,eF⟩,⟨_,eF⟩,λ h1 h3 ⟨pm,cv,e1⟩ k=>⟨pm,cv,k _ e1⟩⟩
   .by_cases zc:b=c'
    .subst zc;rw[HC] at e;cases e;obtain⟨c2,o2,vs2,t2,e2,ho2,r2⟩:=id eC;cases e2;exact⟨eC,⟨_,ho2⟩,λ h1 h3 x k=>nR x k⟩
    .by_cases zT:b=T
     .subst zT;rw[_H] at e;cases e;exact eP
     .rw[out b zT zc zf] at e;refine(I.hok b o e).stay (λ d u hd q=>old d u (λ z=>?_) q) (λ d q=>same d _ (λ z=>by rw[z,hT] at q;cases q) q) λ d xs q=>same d _ (λ z=>by rw[z,hT] at q;cases q) q
      rcases hd with hd|hd
      .exact zT (hd.symm.trans z)
      .rw[z,hT] at hd;cases hd
  exact⟨.ref fa,H2,I.un un hok,O,h fa c' cl H2 own hfa HF HC ⟨_,_H,by simpa using vN ps.toList ht,.inr ⟨c',by simpa using RW ps.toList ht hnf,HC⟩⟩ same⟩
 .refine kla_makeFunctionHit hcl I.ok.glob hg hcode C eT ht hf hb λ ctv h' tk hx hsz=>?_;have hfa:H h'.objs.size=Oo:=I.hok.fresh hsz;have same:∀b o,H b=Om o->Tf H h'.objs.size (eX h'.objs.size c' (X.env.qual ++ "<lambda>") params body scope cl) b=Om o:=λ b o e=>by rw[aA (iO e hfa)];exact e
  refine⟨.ref h'.objs.size,Tf H h'.objs.size (eX h'.objs.size c' (X.env.qual ++ "<lambda>") params body scope cl),I.laid (t':=tk) (λ b u e=>aM _ (hx b u e)) hsz ?_,O,h _ c' cl _ own hfa bT (same _ _ hc') ⟨ps,same _ _ hT,ht,.inr ⟨c',hf,same _ _ hc'⟩⟩ λ b o _ e=>same b o e⟩;exact⟨⟨_,_,bn _ rfl⟩,⟨_,bn _ rfl⟩,λ h1 h3 ⟨pm,cv,e1⟩ k=>⟨pm,cv,k _ e1⟩⟩
end
noncomputable def Um(h:OH)(H:Hp):LA->List V->Hp
 |q::cl,v::vs=>Tf (Um h H cl vs) q.2 (.frz ((h.get? q.2).getD { cls:=.none,data:=.plain }) (jP q.2 v))
 |_,_=>H
theorem vO{b:Os}:∀ {cl:LA}{vs:List V},(∀q∈cl,q.2≠b)->Um h H cl vs b=H b
 |[],_,_=>rfl
 |_::_,[],_=>rfl
 |q::cl,v::vs,n=>by
  show Tf _ _ _ b=_;rw[aA (cx (n q bd))];exact vO λ q' hq=>n q' (aV _ hq)
theorem vP:∀ {cl:LA}{vs:List V},(cl.Pairwise λ x y=>x.2≠y.2)->cl.length=vs.length->∀(i:Nat) q,cl[i]?=Om q->∃v,vs[i]?=Om v/\Um h H cl vs q.2=Om (.frz ((h.get? q.2).getD { cls:=.none,data:=.plain }) (jP q.2 v))
 |[],_,_,_,i,q,e=>by simp at e
 |_::_,[],_,l,_,_,_=>by simp at l
 |a::cl,v::vs,pw,l,0,q,e=>by
  cases (bw e);exact⟨v,O,bT⟩
 |a::cl,v::vs,pw,l,i+1,q,e=>by
  have e:cl[i]?=Om q:=by simpa using e
  obtain⟨u,e1,e2⟩:=vP (lM.mp pw).2 (by simpa using l) i q e;refine⟨u,by simpa using e1,?_⟩;show Tf _ _ _ _=_;rw[aA (cx ((lM.mp pw).1 q (aE e)))];exact e2
def Fx(ec:LA)(fv:List Str)(js:List Nat)(sp:Sp)(t:TA):TE:=λ σ H Q=>t σ H λ vs H1=>∃vcs:List V,js.map (λ j=>σ[j]?)=vcs.map (λ v=>Om (Om v)) /\
 ∀cl H2,OwnCl ec fv cl->(∀q∈cl,H1 q.2=Oo)->CelAt H2 cl vcs->(∀b,(∀q∈cl,q.2≠b)->H2 b=H1 b)->sp vs H2 (λ v H'=>Q v (minC H' cl)) E0
section
variable {k:Nat}{x:Str}{ps:List Str}{sp:Sp}{p pos:Pos}{e:Expr}{es:List Expr}{t:TA}{fv:List Str}{js:List Nat}{cl:LA}
theorem vQ(c:Callee X.prog X.w X.K X.mg X.base Tp k x ps sp)(hr:Room k X.A)(hg:Gl X x)(own:OwnCl X.env.cells fv cl)(hj:js.map (λ j=>X.N[j]?)=fv.map Om)(hk:∀n∈fv,X.env.scope.names.lookup n=Om .cell)(hf:∀n∈fv,X.fn n=On)(nd:fv.Nodup)
  (ha:PA X (e::es) t) (hdb:autoParam ((x == ("__debug__" : Str))=Op) ca._auto_1)
  (he:autoParam (OI (e::es) X.env=(Op,eval e X.env)::OI es X.env) A8._auto_1) (hpl:autoParam ((Pu pos (OI es X.env)).any (·.1)=Op) A8._auto_1) :
  PE X (.Call (.Name x p) (e::es) [] pos) (Fx X.env.cells fv js sp t):=by
 obtain⟨f,fd,F,hm,kp,hb⟩:=c.has;intro Tb s0 σ H0 Q I0 h;refine jG (mN I0 hg hm ?_ hdb);refine W.callWith_K (h₀:=X.base) I0.ok.mod.kin kp (Tl (ha pos Tb s0 σ H0 _ I0 h) λ us s ⟨vs,H,I,r,vcs,hv,q⟩=>⟨I.kIn,?_⟩) he hpl;have mfv:∀q∈cl,q.1∈fv:=λ q hq=>by rw[<- own.1];exact bq.mpr ⟨q,hq,rfl⟩
 have free:∀q∈cl,H q.2=Oo:=λ q hq=>I.freeC q.1 q.2 (own.2 q hq)
 have apart:cl.Pairwise λ x y=>x.2≠y.2:=by
  have nd':(cl.map (·.1)).Nodup:=by rw[own.1];exact nd
  have ec:=own.2;clear own mfv free
  induction cl with
  |nil=>exact .nil
  |cons a r ih=>
   refine lM.mpr ⟨λ y hy z=>?_,ih (fZ.mp nd').2 (λ q hq=>ec q (aV _ hq))⟩;have:=I.ok.inj a.1 y.1 a.2 (ec a bd) (by rw[z];exact ec y (aV _ hy));exact(fZ.mp nd').1 (bq.mpr ⟨y,hy,this.symm⟩)
 have lf:js.length=fv.length:=by have:=bA Pi hj;simpa using this
 have lv:js.length=vcs.length:=by have:=bA Pi hv;simpa using this
 have lc:cl.length=fv.length:=by rw[<- own.1,ah]
 have l:cl.length=vcs.length:=by rw[lc,<- lf,lv]
 have holds:∀(i:Nat) q,cl[i]?=Om q->∃v u,vcs[i]?=Om v/\RelV v u/\s.heap.IsCell q.2 (Om u):=λ i q e=>by
  have il:i<cl.length:=(aX.mp e).1;have ej:=aZ (l:=js) (i:=i) Z;have ev:=aZ (l:=vcs) (i:=i) Z
  have en:X.N[js[i]' Z]?=Om q.1:=by
   have z:=bA (λ l=>l[i]?) hj;simp only[bh,ej,QG] at z;have y:fv[i]?=Om q.1:=by rw[<- own.1,bh,e];rfl
   rw[y] at z;exact bw z
  have eσ:σ[js[i]' Z]?=Om (Om (vcs[i]' Z)):=by
   have z:=bA (λ l=>l[i]?) hv;simp only[bh,ej,ev,QG] at z;exact bw z
  obtain⟨m,_,lo⟩:=I.loc;have kq:=hk q.1 (mfv q (aE e));obtain⟨u,ru,lk⟩:=lo _ _ _ en eσ (.inr (.inl kq));refine⟨_,u,ev,ru,?_⟩
  rcases lk with ⟨k1,_⟩|⟨_,c,ec,ic⟩
  .have k1:X.env.scope.names.lookup q.1=Om .local:=k1;rw[kq] at k1;cases k1
  .rw[own.2 q (aE e)] at ec;cases ec;exact ic
 have hat:=vP (h:=s.heap) (H:=H) apart l;have hC:CelAt (Um s.heap H cl vcs) cl vcs:=⟨l,λ i q e=>let ⟨v,e1,e2⟩:=hat i q e;⟨v,_,e1,e2⟩,apart⟩;have hout:∀b,(∀q∈cl,q.2≠b)->Um s.heap H cl vcs b=H b:=λ b n=>vO n
 have split:∀b,(∃q∈cl,q.2=b)\/∀q∈cl,q.2≠b:=λ b=>by
  by_cases c:∃q∈cl,q.2=b
  .exact .inl c
  .exact .inr λ q hq e=>c ⟨q,hq,e⟩
 have gobj:∀q∈cl,∃o v,Um s.heap H cl vcs q.2=Om (.frz o (jP q.2 v))/\s.heap.get? q.2=Om o/\∃u,RelV v u/\s.heap.IsCell q.2 (Om u):=λ q hq=>by
  obtain⟨i,e⟩:=nP.mp hq;obtain⟨v,e1,e2⟩:=hat i q e;obtain⟨v',u,e3,ru,ic⟩:=holds i q e;rw[e1] at e3;cases e3;obtain⟨o,eo,d⟩:=id ic;rw[eo] at e2;exact⟨o,v,e2,eo,u,ru,ic⟩
 have Ut:∀b o,H b=Om o->Um s.heap H cl vcs b=Om o:=λ b o e=>by
  rw[hout b λ q hq z=>by rw[<- z,free q hq] at e;cases e];exact e
 have hok:HOk X.prog X.w (Um s.heap H cl vcs) s.heap:=λ b o e=>by
  rcases split b with ⟨q,hq,rfl⟩|hn
  .obtain⟨o',v,e1,eo,u,ru,ic⟩:=gobj q hq;rw[e1] at e;cases e;exact⟨eo,⟨u,ru,ic⟩,⟨_,eo⟩,λ h1 h2 ⟨u,ru,o2,e2,d2⟩ k=>⟨u,ru,o2,k _ e2,d2⟩⟩
  .rw[hout b hn] at e;exact(I.hok b o e).stay (λ _ _ _ z=>z) (λ d z=>Ut d _ z) λ d xs z=>Ut d _ z
 have abv:∀q∈cl,X.s₀.heap.objs.size<=q.2:=λ q hq=>I.ok.cab q.1 q.2 (hf q.1 (mfv q hq)) (own.2 q hq)
 have nfr:∀b∈Us X.stack,∀q∈cl,q.2≠b:=λ b hb q hq z=>by
  rcases aB.mp (I.stkSub b hb) with y|y
  .exact I.cne q.1 q.2 (own.2 q hq) (z.trans y)
  .obtain⟨_,o,eo,_⟩:=I.ok.funs.mem y;have:=aJ eo;rw[<- z] at this;exact XU this (Nat.not_lt_of_le (abv q hq))
 have e0:Uz X.prog X.w X.K X.mg X.base X.A X.stack s (Um s.heap H cl vcs):=by
  have b0:=I.env0;refine⟨b0.frames,b0.mod,λ b o e=>⟨(b0.bs b o e).1,?_⟩,b0.bsz,b0.funs,λ b hb=>?_,hok,b0.bare⟩
  .rw[hout b λ q hq z=>?_]
   .exact(b0.bs b o e).2
   .have:=aJ e;rw[<- z] at this;exact XU (bE this I.ok.bsz) (Nat.not_lt_of_le (abv q hq))
  .rw[hout b (nfr b hb)];exact b0.frf b hb
 have hl:us.length=ps.length:=by rw[<- r.length];exact F.len _ _ _ _ (q cl _ own free hC hout)
 have hb':=hb s us I.kIn (by simpa using hl);rw[eE] at hb';refine RQ (kW (F.run X.A X.stack s (Um s.heap H cl vcs) ⟨us,[]⟩ us vs _ E0 hr e0 hb' r (q cl _ own free hC hout)) λ r s' hq=>?_)
 cases r with
 |error e=>exact OY hq
 |ok fl=>
  cases fl with
  |next|brk|cont=>exact OY hq
  |ret u=>
   obtain⟨v,H',os,bare,un,hok',rv,q'⟩:=hq;have hC':CelAt H' cl vcs:=⟨l,λ i q e=>let ⟨v,o,e1,e2⟩:=hC.at_ i q e;⟨v,o,e1,un.frzs _ _ _ e2⟩,apart⟩;obtain⟨hh,gg,dd,tt,os'⟩:=s';obtain rfl:os'=s.os:=os
   have un2:Un (Us X.stack) [] H (minC H' cl) s.heap hh:=by
    refine⟨λ b o e n hb hx=>?_,λ b o e n hb hx=>?_,λ b o e n hx=>?_,un.there,λ b xs e=>?_,λ b o u e=>?_,λ b qs e=>?_⟩
    .rcases split b with ⟨q,hq,rfl⟩|hn
     .obtain⟨o',v',e1,eo,_⟩:=gobj q hq;rw[e] at eo;cases eo;exact(hok' _ _ (un.frzs _ _ _ e1)).1
     .exact un.keep b o e (by rw[hout b hn];exact n) hb hx
    .exact un.slot b o e (by rw[hout b (nfr b hb)];exact n) hb hx
    .rcases split b with ⟨q,hq,rfl⟩|hn
     .exact jQ hq
     .exact gJ (un.free b o e (by rw[hout b hn];exact n) hx)
    .have hn:∀q∈cl,q.2≠b:=λ q hq z=>by rw[<- z,free q hq] at e;cases e
     rw[bU hn];exact un.tups b xs (Ut b _ e)
    .have hn:∀q∈cl,q.2≠b:=λ q hq z=>by rw[<- z,free q hq] at e;cases e
     rw[bU hn];exact un.frzs b o u (Ut b _ e)
    .have hn:∀q∈cl,q.2≠b:=λ q hq z=>by rw[<- z,free q hq] at e;cases e
     rw[bU hn];exact un.tbls b qs (Ut b _ e)
   exact⟨v,minC H' cl,I.call (h':=hh) (g':=gg) (d':=dd) (t':=tt) (ch:=[]) un2 (hok'.minC hC') bare (λ b z=>XU z on),rv,q'⟩
end
theorem Fun.okT{K:FG}{st:OC}{sp:Sp}(F:Fun K x qual st f fd)(hcd:fd.code=.ref c)(S:Tt N ps (aD st))(len:∀vs H Q E,sp vs H Q E->vs.length=ps.length)
  (hbody:∀(A:OD) (outer:List Env) (s:Ot) (H:Hp) (vs:List V) (Q:VK) (E:XK),Room k (A.deeper (Ph qual (aD st) s.heap.objs.size f (.ref c)))->sp vs H Q E ->
   ∃t,PSs (dP Tp P w K mg base N qual (aD st) f (.ref c) A outer s H E).nox (aK st) t/\t { nx:=λ _ H'=>Q .non H',rt:=Q } (Ti N vs) H):FnOk P w K mg base Tp (k+1) f fd ps sp:=by
 obtain⟨oc,od,kV,doc,pm,an,cdv,ct,osl,rfl,lk,hc⟩:=F.ex;obtain rfl:cdv=.ref c:=hcd;refine uC lk hc S len λ A outer s H vs Q E hr hsp=>?_;obtain⟨t,h,q⟩:=hbody A outer s H vs Q E hr hsp;exact⟨t,h.nox,q⟩
theorem Fy{K:FG}{mg mb:SV}{fa a:Os}{x:Str}{s₁:Ot}{vs:LV}(tbs:List (Os×Os))
  (hT:TabsAt tbs s₁.heap) (hK0:noTabs K=On) (hbm:∃bm ob,mg "__builtins__"=Om (.ref bm)/\bm≠PV/\s₁.heap.get? bm=Om ob/\ob.cls=.type "module" /\ ob.dict=Om PV/\ob.data=.plain)
  (KX:K.In s₁.heap) (hns:s₁.heap.Ns OG mg) (hb:s₁.heap.Ns PV mb) (hbb:∀x:Str,x ≠ "__name__" -> mb x=Pz x) (hlim:s₁.heap.NoLimit) (hg:s₁.gens=#[])
  (ha:s₁.heap.get? a=Om { cls:=.type "list",data:=.seq vs.toArray }) (hi:Qe vs ns) (hl:ns.length<=Ou) (hr:Room k Ql)
  (F:∀base:OH,K.In base->base.Ns OG mg->(∀q∈tbs,TL base mg q.1 q.2)->FnOk P w K mg base CX k fa fd [x] sp) (hbind:∀(s:Ot) (u:Value),QL s fd ⟨[u],[]⟩ [(x,u)])
  (hsp:∀H:Hp,(∀q∈tbs,H q.2=Om (.tbl #[]))->SqL K H a (ns.map V.int)->sp [.ref a] H (λ v _=>v=.bl On) λ _ _ _=>False)
  (hCX:∀H e s',CX [] H s₁ (λ _ _ _=>False) e s'->False) :
  Pt (Oy P w) Ql (.call (.ref fa) ⟨[.ref a],[]⟩) (λ r s'=>r=.ok (.ret (.bool On))/\OldK s₁.heap s'.heap/\s'.os=s₁.os/\PR s'.gens) s₁:=by
 have rv:=qx hi;have lenV:=hi.length;have tab:∀q∈tbs,s₁.heap.get? q.2=Om (tabObj #[]):=λ q hq=>(hT q hq).2
 have naT:∀q∈tbs,q.2≠a:=λ q hq z=>by
  have e:=tab q hq;rw[z,ha] at e;cases e
 have kT:∀q∈tbs,K.lookup q.2=Oo:=λ q hq=>by
  cases e:K.lookup q.2 with
  |none=>rfl
  |some o=>
   have e1:=KX _ _ e;rw[tab q hq] at e1;have h2:=gj.mp hK0 (q.2,o) (mem_of_lookupK e);cases e1;exact XU (show Op=On from h2) bK
 have core:∀H:Hp,(∀q∈tbs,H q.2=Om (.tbl #[]))->(∀b,H b=Oo\/(∃o xs,H b=Om (.frz o (.lst xs)))\/∃q∈tbs,q.2=b)->SqL K H a (ns.map V.int)->HOk P w H s₁.heap->(∀b,H b≠Oo->b=a\/∃q∈tbs,q.2=b)->(H a≠Oo->K.lookup a=Oo) ->
   Pt (Oy P w) Ql (.call (.ref fa) ⟨[.ref a],[]⟩) (λ r s'=>r=.ok (.ret (.bool On))/\OldK s₁.heap s'.heap/\s'.os=s₁.os/\PR s'.gens) s₁:=by
  intro H hH hO hS hok hA hK;have base_of:∀ {b:Os}{o:Obj},s₁.heap.get? b=Om o->H b=Oo->(fF s₁.heap H).get? b=Om o:=λ e n=>Bg e n
  have noA:∀ {b:Os}{o:Obj},s₁.heap.get? b=Om o->o≠{ cls:=.type "list",data:=.seq vs.toArray }->o≠tabObj #[]->H b=Oo:=λ {b o} e n1 n2=>by
   cases q:H b with
   |none=>rfl
   |some u=>
    rcases hA b (by rw[q];simp) with z|⟨p,hp,z⟩
    .subst z;rw[ha] at e;cases e;exact XU rfl n1
    .subst z;rw[tab p hp] at e;cases e;exact XU rfl n2
  have nsK:∀ {b:Os}{m:SV},s₁.heap.Ns b m->(fF s₁.heap H).Ns b m:=λ {b m} ⟨o,es,ep,e,d,r⟩=>⟨o,es,ep,base_of e (noA e (λ z=>by rw[z] at d;cases d) (λ z=>by rw[z] at d;cases d)),d,r⟩
  have hKb:K.In (fF s₁.heap H):=λ b o e=>base_of (KX b o e) (by
   cases q:H b with
   |none=>rfl
   |some u=>
    rcases hA b (by rw[q];simp) with z|⟨p,hp,z⟩
    .subst z;rw[hK (by rw[q];simp)] at e;cases e
    .subst z;rw[kT p hp] at e;cases e)
  have hM:Mod K mg (fF s₁.heap H):=⟨hKb,nsK hns,⟨mb,nsK hb,hbb⟩,let ⟨mc,h1,h2⟩:=hlim;⟨mc,nsK h1,h2⟩⟩;have e0:Uz P w K mg (fF s₁.heap H) Ql [] s₁ H:=⟨rfl,hM,λ b o e=>tS e,s1j (Bf _ _),trivial,λ b hb=>XU (show b∈([]:List Os) from hb) on,hok,.of_eq hg⟩
  have tf:∀q∈tbs,TL (fF s₁.heap H) mg q.1 q.2:=λ q hq=>by
   obtain⟨o,vs',file,tf,flags,tg,inF,text,tt,e1,r1,r2⟩:=(hT q hq).1;obtain⟨bm,ob,b1,b2,b3,b4,b5,b6⟩:=hbm;have bmT:bm≠q.2:=λ z=>by rw[z,tab q hq] at b3;cases b3;cases b4
   have bmG:bm≠OG:=λ z=>by
    obtain⟨o,es,ep,e,d,_⟩:=hns;rw[<- z,b3] at e;cases e;rw[b6] at d;cases d
   have gT:OG≠q.2:=λ z=>by
    obtain⟨o,es,ep,e,d,_⟩:=hns;rw[z,tab q hq] at e;cases e;cases d
   refine⟨⟨o,vs',file,tf,flags,tg,inF,text,tt,base_of e1 (noA e1 (λ z=>by rw[z] at r1;exact XU (show Pq "list"=Pq "code" from r1) ca) (λ z=>by rw[z] at r1;cases r1)),r1,r2⟩,?_,⟨bm,ob,b1,b2,bmG,bmT,base_of b3 (noA b3 (λ z=>by rw[z] at b4;exact XU (show Pq "list"=Pq "module" from b4) ca) (λ z=>by rw[z] at b4;cases b4)),b4,b5,b6⟩,gT⟩
   cases e:(fF s₁.heap H).get? q.2 with
   |none=>rfl
   |some o=>have:=(tS e).2;rw[hH q hq] at this;cases this
  refine kW ((F _ hKb (nsK hns) tf).run Ql [] s₁ H ⟨[.ref a],[]⟩ [.ref a] [.ref a] _ _ hr e0 (hbind s₁ (.ref a)) (.cons rfl .nil) (hsp H hH hS)) λ r s' h=>?_
  cases r with
  |error e=>exact(hCX H e s' h).elim
  |ok fl=>
   cases fl with
   |next|brk|cont=>exact OY h
   |ret u=>
    obtain⟨v,H',os,bare,un,hok',r',q⟩:=h;have q':v=.bl On:=q;subst q';obtain rfl:u=PD On:=r';refine⟨O,⟨λ b o e=>?_,λ b o e=>un.there b o e on⟩,os,bare⟩
    rcases hO b with z|⟨ob,xs,z⟩|⟨p,hp,z⟩
    .exact .inl (un.keep b o e z (by intro z;exact XU (show b∈([]:List Os) from z) on) on)
    .have z2:=un.frzs b ob _ z;obtain⟨e1,_⟩:=hok b _ z;obtain⟨e2,_⟩:=hok' b _ z2;rw[e] at e1;cases e1;exact .inl e2
    .subst z;obtain⟨more,z2⟩:=un.tbls p.2 #[] (hH p hp);have e2:s'.heap.get? p.2=Om (tabObj (#[]++more)):=hok' _ _ z2;have e1:=tab p hp;rw[e] at e1;cases e1;obtain⟨o,vs',file,tf,flags,tg,inF,text,tt,c1,c2,c3,c4,_⟩:=(hT p hp).1;exact .inr (.inl ⟨⟨p.1,o,vs',c1,c2,c3,c4⟩,O,#[],more,O,e2⟩)
 have withT:∀H:Hp,(∀b,H b=Oo\/∃o xs,H b=Om (.frz o (.lst xs)))->SqL K H a (ns.map V.int)->HOk P w H s₁.heap->(∀b,H b≠Oo->b=a)->(H a≠Oo->K.lookup a=Oo) ->
   Pt (Oy P w) Ql (.call (.ref fa) ⟨[.ref a],[]⟩) (λ r s'=>r=.ok (.ret (.bool On))/\OldK s₁.heap s'.heap/\s'.os=s₁.os/\PR s'.gens) s₁:=by
  intro H hO hS hok hA hK;have inT:∀q∈tbs,(λ b=>if (tbs.any λ q=>q.2 == b)=On then Om (HO.tbl #[]) else H b) q.2=Om (.tbl #[]):=λ q hq=>XT (nS.mpr ⟨q,hq,on⟩)
  have split:∀b,(∃q∈tbs,q.2=b)\/(λ b=>if (tbs.any λ q=>q.2 == b)=On then Om (HO.tbl #[]) else H b) b=H b:=λ b=>by
   by_cases c:(tbs.any λ q=>q.2 == b)=On
   .obtain⟨q,hq,e⟩:=nS.mp c;exact .inl ⟨q,hq,hW e⟩
   .exact .inr (XR c)
  have aT:(λ b=>if (tbs.any λ q=>q.2 == b)=On then Om (HO.tbl #[]) else H b) a=H a:=by
   rcases split a with ⟨q,hq,z⟩|z
   .exact XU z (naT q hq)
   .exact z
  generalize (λ b=>if (tbs.any λ q=>q.2 == b)=On then Om (HO.tbl #[]) else H b)=G at *
  have noneT:∀q∈tbs,H q.2=Oo:=λ q hq=>by
   cases e:H q.2 with
   |none=>rfl
   |some u=>exact XU (hA q.2 (by rw[e];simp)) (naT q hq)
  refine core G inT (λ b=>?_) ?_ (λ b o e=>?_) (λ b n=>?_) (λ n=>hK (by rw[<- aT];exact n))
  .rcases split b with z|z
   .exact .inr (.inr z)
   .rw[z];rcases hO b with y|y
    .exact .inl y
    .exact .inr (.inl y)
  .rcases hS with (z|⟨o,z⟩)|z
   .exact .inl (.inl (by rw[aT];exact z))
   .exact .inl (.inr ⟨o,by rw[aT];exact z⟩)
   .exact .inr z
  .rcases split b with ⟨q,hq,z⟩|z
   .subst z;rw[inT q hq] at e;cases e;exact tab q hq
   .rw[z] at e
    rcases hO b with y|⟨ob,xs,y⟩
    .rw[y] at e;cases e
    .rw[y] at e;cases e;obtain⟨e1,l,its,n,r,e2⟩:=hok b _ y;exact⟨e1,l,its,n,r,e2⟩
  .rcases split b with z|z
   .exact .inr z
   .rw[z] at n;exact .inl (hA b n)
 cases hk:K.lookup a with
 |some o=>
  have e:=KX a o hk;rw[ha] at e;cases e;refine withT (λ _=>Oo) (λ _=>.inl rfl) (.inr ⟨_,vs.toArray,_,hk,O,O,O,by rw[aY,lenV];exact hl,by simpa using rv⟩) (λ b u z=>by have z':(Oo:Option HO)=Om u:=z;cases z') (λ b z=>XU rfl z) λ z=>XU rfl z
 |none=>
  refine withT (λ b=>if b=a then Om (.frz { cls:=.type "list",data:=.seq vs.toArray } (.lst (ns.map V.int))) else Oo) (λ b=>?_) (.inl (.inr ⟨{ cls:=.type "list",data:=.seq vs.toArray },XT rfl⟩)) (λ b u z=>?_) (λ b z=>?_) λ _=>hk
  .by_cases hb:b=a
   .exact .inr ⟨_,_,XT hb⟩
   .exact .inl (XR hb)
  .by_cases hb:b=a
   .have z':=(XT hb).symm.trans z;cases z';subst hb;exact⟨ha,by rw[ah];exact hl,vs,_,rv,ha⟩
   .have z':=(XR hb).symm.trans z;cases z'
  .by_cases hb:b=a
   .exact hb
   .exact XU (XR hb) z
def FB{K:FG}{oc oc2:Value}{od od2:OA}{fd:OT}{sl sl2:AV}{vs:Array Value}(h1:nsIn K OG x=Om (Om (.ref f)))(h2:K.lookup f=Om ⟨oc,od,.func fd,sl⟩)(h3:fd.code=.ref c)(h4:K.lookup c=Om ⟨oc2,od2,.fields vs,sl2⟩)(h5:vs[11]?=Om (.ref T)):tabIn K x=Om (c,T):=by
 unfold tabIn;simp only[h1,h2,h3,h4,h5]
theorem walk_ofT{l:W.OpenLaw}{YP:OB->OH->Prop}{d:DefRec}{K:Params->FG}{CX:OB->UC}{sp:OB->List Os->Sp}{x:Str}
  (hn:l.most=Om n) (hn2:n<=Ou) (hdf:d.params.defaults=[]) (hr:Room k Ql)
  (hY:∀(w:OB) (h:OH),YP w h->(K w.params).In h) (hK0:∀w:OB,noTabs (K w.params)=On)
  (F:∀(w:OB) (mg:SV) (fa:Os) (h:OH),(K w.params).In h->h.Ns OG mg->mg d.name=Om (.ref fa) ->
   ∃(fd:OT) (tbs:List (Str×Os×Os)),(∀p∈tbs,tabIn (K w.params) p.1=Om p.2/\((recsOf q).find? λ e=>e.name == p.1).isSome=On)/\(∀(s:Ot) (u:Value),QL s fd ⟨[u],[]⟩ [(x,u)]) /\
    ∀base:OH,(K w.params).In base->base.Ns OG mg->(∀p∈tbs,TL base mg p.2.1 p.2.2)->FnOk l.prog w (K w.params) mg base (CX w) k fa fd [x] (sp w (tbs.map λ p=>p.2.2)))
  (hsp:∀(w:OB) (H:Hp) (a:Os) (ns:LI) (ts:List Os),ns.length<=n->(∀T∈ts,H T=Om (.tbl #[]))->SqL (K w.params) H a (ns.map V.int)->sp w ts [.ref a] H (λ v _=>v=.bl On) λ _ _ _=>False)
  (hCX:∀(w:OB) (H:Hp) (s:Ot) (e:Value) (s':Ot),CX w [] H s (λ _ _ _=>False) e s'->False) :
  W.WalkO q loose XP YP l.row.toRowW d [] (λ f vs=>RH f vs):=by
 refine Att.attach_call hn hdf λ w s₀ s₁ mg mb fa o pm cd doc a vs ns G Y ho hd hcd hmg hobj hints Tj hg=>?_;have KX:=hY w _ Y;obtain⟨fd,tbs,ht,hb,hF⟩:=F w mg fa _ KX G.T.g hmg
 have hT:TabsAt (tbs.map (·.2)) s₁.heap:=λ p hp=>by
  obtain⟨t,htm,rfl⟩:=bq.mp hp;obtain⟨h1,h2⟩:=ht t htm;obtain⟨d',hd'⟩:=iS.mp h2;exact tab_of G.T KX hd' (show tabIn (K w.params) t.1=Om (t.2.1,t.2.2) from h1)
 refine Fy (tbs.map (·.2)) hT (hK0 w) G.T.bmain KX G.T.g G.T.b G.T.builtins G.T.nolimit hg hobj hints (cG Tj hn2) hr (λ base kb nb tf=>hF base kb nb λ p hp=>tf p.2 (bq.mpr ⟨p,hp,O⟩)) hb (λ H hH hS=>hsp w H a ns _ Tj (λ T hT=>?_) hS) λ H e s'=>hCX w H s₁ e s';obtain⟨t,htm,rfl⟩:=bq.mp hT;exact hH t.2 (bq.mpr ⟨t,htm,O⟩)
noncomputable def dU(fa c':Os)(name qual:Str)(params:Pb)(body:List OC)(scope:Scope)(cl:LA):HO:=.ext λ h=>∃doc pm ctv,h.get? fa=Om (fnMade name qual params body scope cl doc pm c' ctv)
def FnV.dfn{H:Hp}{cl:LA}(h:H fa=Om (dU fa c' name qual params body scope cl)):FnV H fa:=⟨_,h,λ _ ⟨_,_,_,e⟩=>⟨_,_,_,_,e⟩⟩
section
variable {params:Pb}{scope:Scope}{pos:Pos}{fv:List Str}{c T:Os}{cl:LA}
theorem FC{Q:VK}(I:Inv X Tb σ H s)(hcode:X.env.code=.ref c)(TF:TL X.base X.mg c T)(hcl:Pl scope X.env=OM cl)(own:OwnCl X.env.cells fv cl)
  (h:TabOk H T pos qual/\∀fa c' cl H2,OwnCl X.env.cells fv cl->H fa=Oo->H2 fa=Om (dU fa c' name qual params body scope cl)->H2 c'=Om (cn c' qual)->TabOk H2 T pos qual->(∀b o,b≠T->H b=Om o->H2 b=Om o)->Q (.ref fa) H2) :
  Ov (Oy X.prog X.w) X.A (makeFunction name qual params (.stmts body) scope X.env [] [] [] pos pos.line) (EP X Tb σ Q) X.xe s:=by
 obtain⟨⟨ps,hT,ht,hz⟩,h⟩:=h;have eT:s.heap.get? T=Om (tabObj ps):=I.hok _ _ hT;have hg:s.heap.Ns OG X.mg:=I.mod.glob.keeps I.bk;obtain⟨bm,ob,b1,b2,b3,b4,b5,b6⟩:=TF.blt;have hb:s.heap.BuiltinsAt X.mg T:=⟨bm,ob,b1,b2,b3,b4,I.bk _ _ b5,b6⟩;have C:CodeHd s.heap c T:=TF.hd.keeps I.bk
 rcases hz with hnf|⟨c',hf,hc'⟩
 .refine makeFunction_K hcl I.ok.glob hg hcode C eT ht hnf TF.ne hb λ c' ctv doc h' tk hx hge hlt hrec htb=>?_;have hfa:H h'.objs.size=Oo:=I.hok.fresh (dN (qz hge hlt));have hc0:H c'=Oo:=I.hok.fresh hge;have nTc:c'≠T:=λ z=>by rw[z,hT] at hc0;cases hc0
  have nTf:h'.objs.size≠T:=λ z=>by rw[z,hT] at hfa;cases hfa
  have ncf:c'≠h'.objs.size:=bf hlt;have old:∀b o,b≠T->s.heap.get? b=Om o->(h'.push (fnMade name qual params body scope cl doc ((X.mg "__name__").getD .none) c' ctv)).get? b=Om o:=λ b o n e=>aM _ (hx b o n e);have eP:(h'.push (fnMade name qual params body scope cl doc ((X.mg "__name__").getD .none) c' ctv)).get? T=Om (tabObj (ps++#[OO pos.line,OO pos.col,.ref c'])):=aM _ htb;have eF:(h'.push (fnMade name qual params body scope cl doc ((X.mg "__name__").getD .none) c' ctv)).get? h'.objs.size=Om (fnMade name qual params body scope cl doc ((X.mg "__name__").getD .none) c' ctv):=bn _ rfl;have eC:(h'.push (fnMade name qual params body scope cl doc ((X.mg "__name__").getD .none) c' ctv)).CodeRec (.ref c') qual:=nR hrec λ o e=>aM _ e;generalize h'.push (fnMade name qual params body scope cl doc ((X.mg "__name__").getD .none) c' ctv)=h2 at *;generalize h'.objs.size=fa at *;have lowT:∀b o,s.heap.get? b=Om o->b≠c'/\(H b=Oo->b≠T):=λ b o e=>⟨bf (bE (aJ e) hge),λ n z=>by rw[z,hT] at n;cases n⟩;have lowF:∀b o,s.heap.get? b=Om o->b≠fa:=λ b o e=>bf (s1i (bE (aJ e) hge) hlt);have out:∀b,b≠T->b≠c'->b≠fa->Tf (Tf (Tf H T (.tbl (ps++#[OO pos.line,OO pos.col,.ref c']))) c' (cn c' qual)) fa (dU fa c' name qual params body scope cl) b=H b:=λ b n1 n2 n3=>by rw[aA n3,aA n2,aA n1]
  have Ut:∀b o,H b=Om o->b≠c'/\b≠fa:=λ b o e=>⟨(λ z=>by rw[z,hc0] at e;cases e),(λ z=>by rw[z,hfa] at e;cases e)⟩;have _H:Tf (Tf (Tf H T (.tbl (ps++#[OO pos.line,OO pos.col,.ref c']))) c' (cn c' qual)) fa (dU fa c' name qual params body scope cl) T=Om (.tbl (ps++#[OO pos.line,OO pos.col,.ref c'])):=by rw[aA nTf.symm,aA nTc.symm,bT]
  have HC:Tf (Tf (Tf H T (.tbl (ps++#[OO pos.line,OO pos.col,.ref c']))) c' (cn c' qual)) fa (dU fa c' name qual params body scope cl) c'=Om (cn c' qual):=by rw[aA ncf,bT]
  have HF:Tf (Tf (Tf H T (.tbl (ps++#[OO pos.line,OO pos.col,.ref c']))) c' (cn c' qual)) fa (dU fa c' name qual params body scope cl) fa=Om (dU fa c' name qual params body scope cl):=bT;generalize Tf (Tf (Tf H T (.tbl (ps++#[OO pos.line,OO pos.col,.ref c']))) c' (cn c' qual)) fa (dU fa c' name qual params body scope cl)=H2 at *;have same:∀b o,b≠T->H b=Om o->H2 b=Om o:=λ b o n e=>by rw[out b n (Ut b o e).1 (Ut b o e).2];exact e
  have un:Un X.fs [] H H2 s.heap h2:=⟨λ b o e n _ _=>old b o ((lowT b o e).2 n) e,λ b o e n _ _=>⟨o.slots,old b o ((lowT b o e).2 n) e⟩,λ b o e n _=>by rw[out b ((lowT b o e).2 n) (lowT b o e).1 (lowF b o e)];exact n,λ b o e _=>by
   by_cases z:b=T
   .rw[z];exact⟨_,eP⟩
   .exact⟨o,old b o z e⟩,λ b xs e=>same b _ (λ z=>by rw[z,hT] at e;cases e) e,λ b o u e=>same b _ (λ z=>by rw[z,hT] at e;cases e) e,λ b qs e=>by
   by_cases z:b=T
   .subst z;rw[hT] at e;cases e;exact⟨_,_H⟩
   .exact⟨#[],by rw[same b _ z e];simp⟩⟩
  have hok:HOk X.prog X.w H2 h2:=λ b o e=>by
   by_cases zf:b=fa
   .subst zf;rw[HF] at e;cases e;exact⟨⟨_,_,_,eF⟩,⟨_,eF⟩,λ h1 h3 ⟨dc,pm,cv,e1⟩ k=>⟨dc,pm,cv,k _ e1⟩⟩
   .by_cases zc:b=c'
    .subst zc;rw[HC] at e;cases e;obtain⟨c2,o2,vs2,t2,e2,ho2,r2⟩:=id eC;cases e2;exact⟨eC,⟨_,ho2⟩,λ h1 h3 x k=>nR x k⟩
    .by_cases zT:b=T
     .subst zT;rw[_H] at e;cases e;exact eP
     .rw[out b zT zc zf] at e;refine(I.hok b o e).stay (λ d u hd q=>old d u (λ z=>?_) q) (λ d q=>same d _ (λ z=>by rw[z,hT] at q;cases q) q) λ d xs q=>same d _ (λ z=>by rw[z,hT] at q;cases q) q
      rcases hd with hd|hd
      .exact zT (hd.symm.trans z)
      .rw[z,hT] at hd;cases hd
  exact⟨.ref fa,H2,I.un un hok,O,h fa c' cl H2 own hfa HF HC ⟨_,_H,by simpa using vN ps.toList ht,.inr ⟨c',by simpa using RW ps.toList ht hnf,HC⟩⟩ same⟩
 .refine makeFunction_hit hcl I.ok.glob hg hcode C eT ht hf hb λ ctv doc h' tk hx hsz=>?_;have hfa:H h'.objs.size=Oo:=I.hok.fresh hsz;have same:∀b o,H b=Om o->Tf H h'.objs.size (dU h'.objs.size c' name qual params body scope cl) b=Om o:=λ b o e=>by rw[aA (iO e hfa)];exact e
  refine⟨.ref h'.objs.size,Tf H h'.objs.size (dU h'.objs.size c' name qual params body scope cl),I.laid (t':=tk) (λ b u e=>aM _ (hx b u e)) hsz ?_,O,h _ c' cl _ own hfa bT (same _ _ hc') ⟨ps,same _ _ hT,ht,.inr ⟨c',hf,same _ _ hc'⟩⟩ λ b o _ e=>same b o e⟩;exact⟨⟨_,_,_,bn _ rfl⟩,⟨_,bn _ rfl⟩,λ h1 h3 ⟨dc,pm,cv,e1⟩ k=>⟨dc,pm,cv,k _ e1⟩⟩
def FD(ec:LA)(fv:List Str)(T:Os)(pos:Pos)(i:Nat)(name qual:Str)(params:Pb)(body:List OC)(scope:Scope):TS:=λ D σ H=>TabOk H T pos qual /\
 ∀fa c' cl H2,OwnCl ec fv cl->H fa=Oo->H2 fa=Om (dU fa c' name qual params body scope cl)->H2 c'=Om (cn c' qual)->TabOk H2 T pos qual->(∀b o,b≠T->H b=Om o->H2 b=Om o)->D.nx (σ.set i (Om (.ref fa))) H2
theorem FE{i:Nat}{name qual:Str}(hN:X.N.Nodup)(hi:X.N[i]?=Om name)(hx:UK X.env.scope name)(hq:QS X.env name name=qual)(hcode:X.env.code=.ref c)(TF:TL X.base X.mg c T)(hcl:Pl scope X.env=OM cl)(own:OwnCl X.env.cells fv cl)
  (hd0:params.defaults=[]) (hk0:params.kw_defaults=[]) (ha:Ru params Oo X.env=[]) (hf:X.fn name=On\/X.env.scope.names.lookup name=Om .local:=by first|exact .inl rfl|exact .inr rfl) :
  PS X (.FunctionDef name params body [] Oo [] scope Oo name pos) (FD X.env.cells fv T pos i name qual params body scope):=by
 intro Tb s σ H D I h;refine nestDef_K hd0 hk0 ha ?_;rw[hq];refine Tl (FC (Q:=λ v H2=>∃fa,v=.ref fa/\D.nx (σ.set i (Om (.ref fa))) H2) I hcode TF hcl own ⟨h.1,λ fa c' cl H2 o1 n1 a1 a2 a3 a4=>⟨fa,O,h.2 fa c' cl H2 o1 n1 a1 a2 a3 a4⟩⟩) λ u s1 ⟨v,H2,J,r,fa,e,q⟩=>?_;subst e;exact pR J hN hi hx r (λ s2 J2=>⟨_,H2,J2,q⟩) hf
end
section
variable {prog:Oz}{w:OB}{A:OD}{R:QW->Ot->Prop}{I:Os}{fp wr:List Os}{n:Nat}{P:Nat->Value->Prop}{St:Nat->OH->Prop}
end
def FF(hc:X.calm=On):bY X (.builtin "min") (λ xs H Q=>∃a ns,xs=[.ref a]/\SqL X.K H a (Pd V.int ns)/\0<ns.length/\∀M:Int,M∈ns->(∀z∈ns,M<=z)->Q (.int M) H):=by
 intro Tb s σ H xs us Q I r h;obtain⟨a,ns,rfl,hq,hne,q⟩:=h;obtain⟨u,rfl,ru⟩:=cz r;cases (show u=OP a from ru);obtain⟨its,rv,pl,hz⟩:=I.list hq;have hi:=kZ rv;obtain⟨xs,e⟩:=hi.allInts.items;have hns:ns=xs.toList.map (·.1):=by rw[<- hi.numsOf,<- s0y,<- e]
 have hl:=pl.isList;rw[e] at hl;have hsz:0<xs.size:=by rw[hns,ah,OU] at hne;exact hne
 refine min_intList (I.ok.hd hc) hl hsz λ v h' tk hv kk=>?_;obtain⟨t,rfl⟩:=intItems_at hv;obtain⟨h1,h2⟩:=argBest_lt (numAt xs) (xs.size-1);refine⟨.int _,H,I.kept kk,⟨t,O⟩,q _ ?_ λ z hz=>?_⟩
 .rw[hns,s1p];exact getD_mem (by rw[ah,OU];lia)
 .rw[hns] at hz;obtain⟨j,hj,rfl⟩:=mem_getD hz;rw[ah,OU] at hj;rw[<- s1p];exact h2 j Z
def FH(hc:X.calm=On):bY X (.builtin "max") (λ xs H Q=>∃a ns,xs=[.ref a]/\SqL X.K H a (Pd V.int ns)/\0<ns.length/\∀M:Int,M∈ns->(∀z∈ns,z<=M)->Q (.int M) H):=by
 intro Tb s σ H xs us Q I r h;obtain⟨a,ns,rfl,hq,hne,q⟩:=h;obtain⟨u,rfl,ru⟩:=cz r;cases (show u=OP a from ru);obtain⟨its,rv,pl,hz⟩:=I.list hq;have hi:=kZ rv;obtain⟨xs,e⟩:=hi.allInts.items;have hns:ns=xs.toList.map (·.1):=by rw[<- hi.numsOf,<- s0y,<- e]
 have hl:=pl.isList;rw[e] at hl;have hsz:0<xs.size:=by rw[hns,ah,OU] at hne;exact hne
 refine max_intList (I.ok.hd hc) hl hsz λ v h' tk hv kk=>?_;obtain⟨t,rfl⟩:=intItems_at hv;obtain⟨h1,h2⟩:=argBest_gt (numAt xs) (xs.size-1);refine⟨.int _,H,I.kept kk,⟨t,O⟩,q _ ?_ λ z hz=>?_⟩
 .rw[hns,s1p];exact getD_mem (by rw[ah,OU];lia)
 .rw[hns] at hz;obtain⟨j,hj,rfl⟩:=mem_getD hz;rw[ah,OU] at hj;rw[<- s1p];exact h2 j Z
section
variable {pg:Oz}{wd:OB}{B:OD}{X0:VS}{s0:Ot}
end
section
variable {es:List Expr}{x1:Nat}{pp:Pos}
end
def nT:V->List V->Hp->VK->Prop:=λ x vs H Q=>∃l xs i y,x=.ref l/\vs=[.int i,y]/\H l=Om (.lst xs)/\0<=i/\i<=xs.length/\xs.length<Ou/\Q .non (Tf H l (.lst (xs.take i.toNat++y::xs.drop i.toNat)))
def FJ:VD X "list.insert" nT:=by
 intro Tb s σ H x vs v us Q I rx rv h;obtain⟨l,xs,i,y,rfl,rfl,hH,i0,i1,hz,q⟩:=h;cases rx;obtain⟨u,w,rfl,⟨t,rfl⟩,rw'⟩:=mX rv;obtain⟨z,its,n,r,hl,e⟩:=I.lstM hH;have s63:Ou<=2 ^ 62:=by rw[jF];decide
 have hf:Pm i=On:=s0d Z Z
 refine fJ F.slot_list_insert ⟨_,e,O⟩ F.entry_list_insert (F.args_list_insert_3 _ _ _)
  (AutoSeq1.list_insert_list_int_val_1 l its.toArray n i t w (by simp[hf]) (by rw[aY];lia)) ⟨e,?_⟩
 refine⟨.non,_,I.lset (its':=its.take i.toNat++w::its.drop i.toNat) hH e ?_ ((r.take _).append (.cons rw' (r.drop _))) ?_,O,q⟩
 .show(its.toArray.extract 0 (if i<0 then (i+(its.toArray.size:Int)).toNat else min i.toNat its.toArray.size)).push w++its.toArray.extract (if i<0 then (i+(its.toArray.size:Int)).toNat else min i.toNat its.toArray.size)=_;rw[XR Z,aY,eI Z];apply Array.ext';simp[List.extract_eq_take_drop,cj]
 .rw[aF,OQ,aP,bL];lia
section
variable {pg:Oz}{wd:OB}{B:OD}{X0:VS}{s0:Ot}
end
section
variable {es:List Expr}{x1:Nat}{pp:Pos}
end
section
variable {prog:Oz}{w:OB}{A:OD}{R:QW->Ot->Prop}{I:Os}{fp wr:List Os}{n:Nat}{P:Nat->Value->Prop}{St:Nat->OH->Prop}
def vR(h0:OH)(S:Os)(wr:List Os)(kf:Nat->Int)(P:Nat->Value->Prop):Prop:=∀i v,P i v->∃a its,v=.ref a/\¬a∈wr/\a≠S/\h0.IsTuple a its/\(its.size:Int)<2 ^ 63/\kf i=its.size
def qN(kf:Nat->Int)(m i:Nat):Prop:=∀j,j<m->kf j<=kf i/\(j<i->kf j<kf i)
theorem FK(W:Walks prog w A.in1 I fp wr n P St)(kf:Nat->Int)(S:Os)(hSf:¬S∈fp)(h0:OH)(hk:vR h0 S wr kf P):∀(k j i:Nat) (s:Ot) (vb:Value) (tb:Tok) (c:Nat),n-(j+1)=k->j+1<=n->St (j+1) s.heap->P i vb->i<=j->qN kf (j+1) i->(∀b o,¬b∈wr->b≠S->h0.get? b=Om o->s.heap.get? b=Om o)->s.heap.get? S=Om ⟨.type "list",Oo,.seq #[vb,.int (kf i) tb] c,#[]⟩ ->
  (∀i v h' tk,P i v->i<n->qN kf n i->(∀b o,¬b∈wr->b≠S->h0.get? b=Om o->h'.get? b=Om o)->R (.ok (.ret v)) { s with heap:=h',toks:=tk })->Pt (Oy prog w) A (.builtin "max.loop" ⟨[.ref I,.builtin "len",.ref S],[]⟩) R s:=by
 have hSw:¬S∈wr:=λ h=>hSf (W.sub _ h);have nm:(Qn "max" ++ Qn ".loop" : String)="max.loop" := by decide
 intro k;induction k with
 |zero=>
  intro j i s vb tb c hk' hj hst hPb hij hb kp0 hS hR;have e0:j+1=n:=Z;refine gG qO ?_;rw[gH iZ _];show Ov (Oy prog w) A.in1 (PL (.ref S) >>= _) _ _ s;refine ae (m:=PL (.ref S)) (iY hS rfl ?_);show Ov (Oy prog w) A.in1 (PP (Pn (.ref I)) _ >>= _) _ _ s;refine ae (m:=PP (Pn (.ref I)) _) (jR (W.done s _ _ (e0 ▸ hst) λ h' tk kp=>?_));have hS1:=kp S _ hSw hS;show Ov (Oy prog w) A.in1 (PQ S (λ _=>#[]) >>= _) _ _ _;refine ae (m:=PQ S (λ _=>#[])) (jN hS1 rfl (ae (s0l (au ?_))));exact hR i vb _ tk hPb Z (e0 ▸ hb) λ b o hbw hbS e=>(eQ _ _ (cx hbS)).trans (kp b o hbw (kp0 b o hbw hbS e))
 |succ k ih=>
  intro j i s vb tb c hk' hj hst hPb hij hb kp0 hS hR;have lt0:j+1<n:=Z;refine gG qO ?_;rw[gH iZ _];show Ov (Oy prog w) A.in1 (PL (.ref S) >>= _) _ _ s;refine ae (m:=PL (.ref S)) (iY hS rfl ?_);show Ov (Oy prog w) A.in1 (PP (Pn (.ref I)) _ >>= _) _ _ s;refine ae (m:=PP (Pn (.ref I)) _) (jR (W.item (j+1) s _ _ lt0 hst λ v h' tk hP hst1 kp=>?_));have hS1:=kp S _ hSw hS;have kp1:∀b o,¬b∈wr->b≠S->h0.get? b=Om o->h'.get? b=Om o:=λ b o hbw hbS e=>kp b o hbw (kp0 b o hbw hbS e);obtain⟨a,its,rfl,aw,aS,at0,a63,ek⟩:=hk _ _ hP;show Ov (Oy prog w) A.in1 (PP (PB [.ref a] (call (.builtin "len") [.ref a])) _ >>= _) _ _ _;refine ae (jR (eO (s0u (nJ at0 λ o e=>kp1 a o aw aS e) a63 ?_)));rw[<- ek];show Ov (Oy prog w) A.in1 (PP (PB [.ref a,.int (kf (j+1)) _] (richCompare .Gt (.int (kf (j+1)) _) (.int (kf i) tb) >>= _)) _ >>= _) _ _ _;refine ae (jR (eO (ae (CmpOf.ints_gt (prog:=prog) (w:=w) (A:=A.in1) (P:=λ i v=>∃t,v=.int (kf i) t) kf (λ i v h=>h) (j+1) i _ _ _ _ _ ⟨_,O⟩ ⟨tb,O⟩ ?_))));refine ae (eO (fW ?_));refine ae (s0l (au ?_));by_cases hb':kf (j+1) > kf i
  .simp only[hb',decide_true,ga];refine ae (m:=PQ S _) (jN hS1 rfl (ae (s0l ?_)));rw[nm];refine au (a:=_) ⟨fK iZ _,ih (j+1) (j+1) _ (.ref a) _ _ Z lt0 (W.frame _ _ _ hst1 λ b hbf o e=>(eQ _ _ (λ h:S=b=>hSf (by rw[h];exact hbf))).trans e) hP (ao _) (λ j' hj'=>?_) (λ b o hbw hbS e=>(eQ _ _ (cx hbS)).trans (kp1 b o hbw hbS e)) (hZ _ hS1 rfl) λ i2 v2 h2 tk2 q1 q2 q3 q4=>hR i2 v2 h2 tk2 q1 q2 q3 q4⟩;by_cases e:j'=j+1
   .subst e;exact⟨jS _,λ z=>XU z (dM _)⟩
   .have:=(hb j' Z).1;exact⟨Z,λ _=>by lia⟩
  .simp only[hb',decide_false,lK,iT];refine ae (m:=letGo _) (s0l ?_);rw[nm];refine au (a:=_) ⟨fK iZ _,ih (j+1) i _ vb tb c Z lt0 hst1 hPb Z (λ j' hj'=>?_) kp1 hS1 λ i2 v2 h2 tk2 q1 q2 q3 q4=>hR i2 v2 h2 tk2 q1 q2 q3 q4⟩;by_cases e:j'=j+1
   .subst e;exact⟨Z,λ z=>by lia⟩
   .exact hb j' Z
theorem FL(W:Walks prog w A.in1 I fp wr n P St)(kf:Nat->Int)(S:Os)(hSf:¬S∈fp)(h0:OH)(hk:vR h0 S wr kf P)(hn:0<n){s:Ot}(hst:St 0 s.heap)(kp0:∀b o,¬b∈wr->b≠S->h0.get? b=Om o->s.heap.get? b=Om o)(hS:s.heap.get? S=Om ⟨.type "list",Oo,.seq #[] c,#[]⟩)
  (hR:∀i v h' tk,P i v->i<n->qN kf n i->(∀b o,¬b∈wr->b≠S->h0.get? b=Om o->h'.get? b=Om o)->R (.ok (.ret v)) { s with heap:=h',toks:=tk }):Pt (Oy prog w) A (.builtin "max.loop" ⟨[.ref I,.builtin "len",.ref S],[]⟩) R s:=by
 have hSw:¬S∈wr:=λ h=>hSf (W.sub _ h);have nm:(Qn "max" ++ Qn ".loop" : String)="max.loop" := by decide
 refine gG qO ?_;rw[gH iZ _];show Ov (Oy prog w) A.in1 (PL (.ref S) >>= _) _ _ s;refine ae (m:=PL (.ref S)) (iY hS rfl ?_);show Ov (Oy prog w) A.in1 (PP (Pn (.ref I)) _ >>= _) _ _ s;refine ae (m:=PP (Pn (.ref I)) _) (jR (W.item 0 s _ _ hn hst λ v h' tk hP hst1 kp=>?_));have hS1:=kp S _ hSw hS;have kp1:∀b o,¬b∈wr->b≠S->h0.get? b=Om o->h'.get? b=Om o:=λ b o hbw hbS e=>kp b o hbw (kp0 b o hbw hbS e);obtain⟨a,its,rfl,aw,aS,at0,a63,ek⟩:=hk _ _ hP;show Ov (Oy prog w) A.in1 (PP (PB [.ref a] (call (.builtin "len") [.ref a])) _ >>= _) _ _ _;refine ae (jR (eO (s0u (nJ at0 λ o e=>kp1 a o aw aS e) a63 ?_)));rw[<- ek];show Ov (Oy prog w) A.in1 (PQ S (λ _=>#[.ref a,.int (kf 0) _]) >>= _) _ _ _;refine ae (m:=PQ S _) (jN hS1 rfl ?_);rw[nm];refine au (a:=_) ⟨fK iZ _,FK W kf S hSf h0 hk _ 0 0 _ (.ref a) _ _ rfl hn (W.frame _ _ _ hst1 λ b hbf o e=>(eQ _ _ (λ h:S=b=>hSf (by rw[h];exact hbf))).trans e) hP (ao _) (λ j' hj'=>?_) (λ b o hbw hbS e=>(eQ _ _ (cx hbS)).trans (kp1 b o hbw hbS e)) (hZ _ hS1 rfl) λ i2 v2 h2 tk2 q1 q2 q3 q4=>hR i2 v2 h2 tk2 q1 q2 q3 q4⟩;have z:j'=0:=Z;subst z;exact⟨jS _,λ z=>XU z (dM _)⟩
end
section
variable {st:OC}{Td:List OC}{t u:TS}{e:Expr}{es:List Expr}{te:TE}{ta:TA}{pos:Pos}
end
section
variable {prog:Oz}{w:OB}{A:OD}
def FM(a b v:Value):QD "max" ⟨[a,b],[(ON "key",v)]⟩:=by unfold QD;kernel_rfl
theorem FN{s:Ot}{i1 i2:Array Value}{Q:VS}(hh:A.handled=Oo)(h1:s.heap.IsTuple a1 i1)(h2:s.heap.IsTuple a2 i2)(z1:(i1.size:Int)<2 ^ 63)(z2:(i2.size:Int)<2 ^ 63)
  (hQ:∀v h' tk,(v=.ref a1/\i2.size<=i1.size\/v=.ref a2/\i1.size<i2.size)->(∀b o,s.heap.get? b=Om o->h'.get? b=Om o)->Q v { s with heap:=h',toks:=tk }):Ov (Oy prog w) A (call (.builtin "max") [.ref a1,.ref a2] [(ON "key",.builtin "len")]) Q E s:=by
 have nm:(Qn "max" ++ Qn ".loop" : String)="max.loop" := by decide
 have hT:(s.heap.push { cls:=.type "tuple",data:=.seq #[.ref a1,.ref a2] }).IsTuple s.heap.objs.size #[.ref a1,.ref a2]:=⟨_,bn _ rfl,rfl,0,rfl⟩;have hsz:(s.heap.push { cls:=.type "tuple",data:=.seq #[.ref a1,.ref a2] }).objs.size=s.heap.objs.size+1:=iV ..;refine kmb_tree PySem.F.kind_max PySem.F.plain_max PySem.F.entry_max (FM _ _ _) ?_;show Ov _ A.in1 (Builtin.Builtins.bindParams "max" ["key","default"] 0 ⟨[],[(ON "key",.builtin "len")]⟩ >>= _) _ _ s;refine ae (eW (show Builtin.Builtins.bindParams "max" ["key","default"] 0 ⟨[],[(ON "key",.builtin "len")]⟩=OM [Om (.builtin "len"),Oo] from rfl) ?_);show Ov _ A.in1 (SU [.ref a1,.ref a2] >>= _) _ _ s;refine ae (cZ ?_);refine ae (m:=RM _) (nK hT ?_);refine ae (m:=Rc _) (cZ ?_);rw[nm];have W:=Walks.tuple (prog:=prog) (w:=w) (A:=A.in1) hh (s.heap.push { cls:=.type "tuple",data:=.seq #[.ref a1,.ref a2] }).objs.size s.heap.objs.size (by rw[hsz];exact bf (iW _)) #[.ref a1,.ref a2];have hI:((s.heap.push { cls:=.type "tuple",data:=.seq #[.ref a1,.ref a2] }).push { cls:=.type "tuple_iterator",data:=.fields #[.ref s.heap.objs.size,.int 0 0] }).objs.size=s.heap.objs.size+2:=by rw[iV,hsz]
 have e1:a1<s.heap.objs.size:=by obtain⟨o,g,_⟩:=h1;exact aJ g
 have e2:a2<s.heap.objs.size:=by obtain⟨o,g,_⟩:=h2;exact aJ g
 refine au (a:=_) ⟨fK iZ _,FL W (λ i=>([(i1.size:Int),(i2.size:Int)].getD i 0)) ((s.heap.push { cls:=.type "tuple",data:=.seq #[.ref a1,.ref a2] }).push { cls:=.type "tuple_iterator",data:=.fields #[.ref s.heap.objs.size,.int 0 0] }).objs.size ?_ s.heap (λ i v hv=>?_) (nU _) ?_ (λ b o _ _ e=>aM _ (aM _ (aM _ e))) (bn _ rfl) λ i v h' tk q1 q2 q3 q4=>?_⟩
 .rw[hI,hsz];intro z
  rcases aB.mp z with z|z
  .exact XU z (qL _)
  .exact XU (aH.mp z) (s1f (eH (iW _)))
 .have nw:∀a,a<s.heap.objs.size->¬a∈[(s.heap.push { cls:=.type "tuple",data:=.seq #[.ref a1,.ref a2] }).objs.size]:=λ a h z=>by
   have:=aH.mp z;rw[hsz] at this;exact bf (eH h) this
  match i,hv with
  |0,hv=>cases hv;exact⟨a1,i1,rfl,nw _ e1,by rw[hI];exact bf (eH (eH e1)),h1,z1,rfl⟩
  |1,hv=>cases hv;exact⟨a2,i2,rfl,nw _ e2,by rw[hI];exact bf (eH (eH e2)),h2,z2,rfl⟩
  |i+2,hv=>simp at hv
 .exact W.frame _ _ _ ⟨⟨_,bn _ rfl,O,O⟩,hT.push _⟩ λ b _ o e=>aM _ e
 .have kp:∀b o,s.heap.get? b=Om o->h'.get? b=Om o:=λ b o e=>by
   have bl:=aJ e;exact q4 b o (λ z=>by have:=aH.mp z;rw[hsz] at this;exact bf (eH bl) this) (by rw[hI];exact bf (eH (eH bl))) e
  match i,q1 with
  |0,q1=>
   cases q1;have b:=(q3 1 (iW _)).1;have b:(i2.size:Int)<=(i1.size:Int):=b;exact hQ _ _ _ (.inl ⟨O,Z⟩) kp
  |1,q1=>
   cases q1;have b:=(q3 0 (nU _)).2 (nU _);have b:(i1.size:Int)<(i2.size:Int):=b;exact hQ _ _ _ (.inr ⟨O,Z⟩) kp
  |i+2,q1=>simp at q1
end
def FO(r:V->V->Hp->VK->Prop)(te tf:TE):TE:=λ σ H Q=>te σ H λ x H1=>tf σ H1 λ y H2=>r x y H2 Q
section
variable {M:Model}{A:OD}{E:VS}{s:Ot}{B:OH}{env:Env}{outer:List Env}{L e dx:Os}{cls:Value}
end
end _L
namespace _L
open PySem PySem.Spec PyProof.Rows Builtin Builtin.ObjectAttr
section
variable {prog:Oz}{w:OB}{A:OD}{E:VS}{h:OH}{g:Array Qj}{dr:SE}{tk:Nat}{os:OsState}{C:Os}{bmB:LV}{B nid initId:String}
end
section
variable {prog:Oz}{w:OB}{A:OD}{E:VS}{h:OH}{g:Array Qj}{dr:SE}{tk:Nat}{os:OsState}{C x:Os}{bmB:LV}{B nid initId:String}{K:FG}
end
section
variable {P:Oz}{w:OB}{K:FG}{mg:SV}{base:OH}{N:List Str}{qual:Str}{scope:Scope}{f:Os}{cd:Value}{A:OD}{outer:List Env}{s:Ot}{H:Hp}{E:XK}
end
section
variable {M:Model}{A:OD}{E:VS}{env:Env}{C:Os}{bmB:LV}{nid:String}
end
end _L
namespace _L
open PySem PySem.Spec PyProof.Rows PySem.W
variable {X:Cx}
section
variable {o e value:Expr}{f:Str}{pos pos' tpos:Pos}{ta tv:TE}
end
section
variable {CX:UC}{k:Nat}{f C:Os}{fd:OT}{ps:List Str}{sp:Sp}{dvs:List V}{ds:LV}{E:XK}{EE:St->XK}{x m:Str}{p pos apos:Pos}{e o:Expr}{es:List Expr}{ta:TE}{t:TA}
end
section
open PySem.Builtin PySem.Builtin.Str
end
section
variable {a b e:Expr}{es:List Expr}{ta tb te:TE}{t:TA}{u v:TS}{st:OC}{Td bl:List OC}{pos p pos':Pos}{x:Str}
end
section
variable {k j:Nat}{ps:List Str}{sp:Sp}{E:XK}{x:Str}{p pos:Pos}{e:Expr}{es:List Expr}{t:TA}
end
end _L
namespace _L
open PySem PyProof.Rows
section
variable {a p q:Os}{b:Bool}{i j:Int}{x y:Str}{v:V}{vs:List V}{r:_L.St}{H:Hp}{Q:VK}{K:FG}{o:Option V}{n:Nat}{α β:Type}
end
variable {X:Cx}
section
variable {st:OC}{Td:List OC}{t u:TS}{e a b:Expr}{es:List Expr}{te tb:TE}{ta:TA}{pos:Pos}
end
section
variable {CX:UC}{k:Nat}{f:Os}{fd:OT}{ps:List Str}{sp:Sp}{E:XK}{x:Str}{p pos:Pos}{e:Expr}{es:List Expr}{te:TE}{t:TA}{st:OC}{Td:List OC}{ts u:TS}
end
section
open PySem.W
end
end _L
namespace _L
open PySem PySem.Spec PyProof.Rows PySem.W PySem.Calls
theorem FP{X:Cx}{h₀:QT}{hl:List QT}(hb:∀(xe:VS) (pn:LO),PSs (X.more xe pn) body tb) :
  PS X (.Try body (h₀::hl) [] [] pos) tb:=by
 intro Tb s σ H D I h;refine wpAny_Try_except ?_;generalize (λ e s₁=>Ov (Oy X.prog X.w) X.A (Sg e X.env) (λ _ s₂=>Ov (Oy X.prog X.w) X.A (setFlight e Oo) (λ _ s₃=>Ov (Oy X.prog X.w) X.A (handleBy e X.env (h₀::hl)) (SP X Tb D) X.xe s₃) X.xe s₂) X.xe s₁:VS)=XE;have toY:Inv (X.more XE (X.pn++Tb)) [] σ H s:=⟨I.ok.more _ _,I.os,I.bare,I.base,I.loc,I.cell,I.free,I.freeC,λ p hp=>I.pin p (by simpa using hp),I.hok,I.len⟩;have ofY:∀ {σ':St}{H':Hp}{s':Ot}{pp:LO},Inv (X.more XE (X.pn++Tb)) pp σ' H' s'->Inv X Tb σ' H' s':=λ J=>⟨I.ok,J.os,J.bare,J.base,J.loc,J.cell,J.free,J.freeC,λ p hp=>J.pin p (fG _ hp),J.hok,J.len⟩;refine Tl (hb XE (X.pn++Tb) [] s σ H D toY h) λ fl s' q=>?_
 cases fl with
 |next=>obtain⟨σ',H',J,z⟩:=q;exact mO ⟨σ',H',ofY J,z⟩
 |brk|cont=>obtain⟨σ',H',J,z⟩:=q;exact⟨σ',H',ofY J,z⟩
 |ret u=>obtain⟨v,σ',H',J,r,z⟩:=q;exact⟨v,σ',H',ofY J,r,z⟩
variable {X:Cx}
section
variable {pg:Oz}{wd:OB}{B:OD}{X0:VS}{s0:Ot}{r:Os}{j:Int}{t u v:Tok}{n:Nat}
end
end _L
namespace _H
open PySem PyProof.Rows
section
open PySem.SeqAt
open PySem.AutoSeq1 (wpAny_loadPart')
open PySem.MeetsSeq PySem.MeetsSeq2 PySem.MeetsSeq3
end
section
variable {prog:Oz}{w:OB}{A:OD}{E:VS}{s:Ot}
end
end _H
namespace _L
open PySem PySem.Spec PyProof.Rows
variable {X:Cx}
end _L
namespace _L
set_option backward.match.sparseCases false
open PySem PySem.Spec PyProof.Rows
def nl{a b:Nat}(h:a<b\/b<a):a≠b:=Z
section
variable {pg:Oz}{wd:OB}{B:OD}{X0:VS}{s0:Ot}
end
def VZ(K:FG)(b:Bool)(H:Hp)(a:Os)(vs:List V):Prop:=if b=On then SqT K H a vs else SqL K H a vs
variable {X:Cx}
section
variable {Tb:LO}{σ:St}{H:Hp}{s:Ot}
end
section
variable {es:List Expr}{x1:Nat}{pp:Pos}
end
set_option genInjectivity true in
set_option genSizeOfSpec true in
inductive SO where
 |dct (l:List (Int×Int))|fn (a:Os)|lls (as:List Os) (ll:List (LL))
set_option genInjectivity true in
set_option genSizeOfSpec true in
inductive TV where
 |non|bl (b:Bool)|int (i:Int)|str (x:Str)|tup (l:List TV)|lst (l:List TV)|bor (l:List TV)|own (l:List TV)|obj (o:SO)
open TV renaming int->XV,tup->XW,str->XX
abbrev dcO(l:List (Int×Int)):HO:=.dK (l.map λ q=>((Qk q.1:TU),V.int q.2))
abbrev Fz:=Os->Prop
def Ls(K:FG)(F:Fz)(H:Hp)(a:Os)(vs:List V):Prop:=(F a/\SqL K H a vs) \/
 ∃(o:Obj) (its:Array Value) (n:Nat),K.lookup a=Om o/\o.cls=.type "list" /\ o.dict=Oo/\o.data=.seq its n/\its.size<=Ou/\Vals vs its.toList
def Ls.sq{K:FG}{vs:List V}(h:Ls K F H a vs):SqL K H a vs:=h.elim (λ h=>h.2) λ h=>.inr h
def Ls.imp{K:FG}{F F':Fz}{vs:List V}(h:Ls K F H a vs)(i:F a->SqL K H a vs->F' a/\SqL K H' a vs):Ls K F' H' a vs:=h.elim (λ h=>.inl (i h.1 h.2)) .inr
mutual
def Rp(K:FG)(F:Fz)(H:Hp):TV->V->Prop
 |.non,v=>v=.non
 |.bl b,v=>v=.bl b
 |.int i,v=>v=.int i
 |.str x,v=>v=.str x
 |.tup l,v=>∃a vs,v=.ref a/\SqT K H a vs/\RpL K F H l vs
 |.lst l,v=>∃a vs,v=.ref a/\Ls K F H a vs/\RpL K F H l vs
 |.bor _,_=>False
 |.own _,_=>False
 |.obj _,_=>False
def RpL(K:FG)(F:Fz)(H:Hp):List TV->List V->Prop
 |[],vs=>vs=[]
 |t::ts,vs=>∃v r,vs=v::r/\Rp K F H t v/\RpL K F H ts r
end
structure Wd (J:Hp->Prop)(F:Fz)(H:Hp):Prop where
 j:J H
 d:∀a,F a->H a≠Oo
structure Grow (J:Hp->Prop)(F:Fz)(H:Hp)(F':Fz)(H':Hp):Prop where
 sm:∀a o,(∀ps,o≠.tbl ps)->H a=Om o->H' a=Om o
 dm:∀a,H a≠Oo->H' a≠Oo
 up:∀a,F a->F' a
 nw:∀a,F' a->F a\/H a=Oo
 w:Wd J F' H'
section
variable {K:FG}{J:Hp->Prop}{F F' F1 F2:Fz}{H H' H1 H2:Hp}
def Grow.refl(w:Wd J F H):Grow J F H F H:=⟨λ _ _ _ e=>e,λ _ e=>e,λ _ e=>e,λ _ e=>.inl e,w⟩
def Grow.trans(g:Grow J F H F1 H1)(k:Grow J F1 H1 F2 H2):Grow J F H F2 H2 :=
 ⟨λ a o n e=>k.sm a o n (g.sm a o n e),λ a e=>k.dm a (g.dm a e),λ a e=>k.up a (g.up a e),λ a e=>by
  rcases k.nw a e with q|q
  .exact g.nw a q
  .by_cases z:H a=Oo
   .exact .inr z
   .exact XU q (g.dm a z),k.w⟩
def Rd.sm{a:Os}{u:HO}(s:∀a o,(∀ps,o≠.tbl ps)->H a=Om o->H' a=Om o)(n:∀ps,u≠.tbl ps)(h:Rd H a u):Rd H' a u:=by
 rcases h with h|⟨o,h⟩
 .exact .inl (s _ _ n h)
 .exact .inr ⟨o,s _ _ (λ ps z=>by cases z) h⟩
def SqT.sm{a:Os}{vs:List V}(s:∀a o,(∀ps,o≠.tbl ps)->H a=Om o->H' a=Om o)(h:SqT K H a vs):SqT K H' a vs:=by
 rcases h with h|h
 .exact .inl (h.sm s λ ps z=>by cases z)
 .exact .inr h
def SqL.sm{a:Os}{vs:List V}(s:∀a o,(∀ps,o≠.tbl ps)->H a=Om o->H' a=Om o)(h:SqL K H a vs):SqL K H' a vs:=by
 rcases h with h|h
 .exact .inl (h.sm s λ ps z=>by cases z)
 .exact .inr h
structure Ke (K:FG)(F:Fz)(H:Hp)(F':Fz)(H':Hp):Prop where
 t:∀a vs,SqT K H a vs->SqT K H' a vs
 l:∀a vs,Ls K F H a vs->Ls K F' H' a vs
mutual
theorem Rp.ke(k:Ke K F H F' H'):∀ {t:TV}{v:V},Rp K F H t v->Rp K F' H' t v
 |.non,_,h=>h
 |.bl _,_,h=>h
 |.int _,_,h=>h
 |.str _,_,h=>h
 |.tup _,_,⟨a,vs,e,q,r⟩=>⟨a,vs,e,k.t _ _ q,RpL.ke k r⟩
 |.lst _,_,⟨a,vs,e,f,r⟩=>⟨a,vs,e,k.l _ _ f,RpL.ke k r⟩
 |.bor _,_,h=>h.elim
 |.own _,_,h=>h.elim
 |.obj _,_,h=>h.elim
theorem RpL.ke(k:Ke K F H F' H'):∀ {ts:List TV}{vs:List V},RpL K F H ts vs->RpL K F' H' ts vs
 |[],_,h=>h
 |_::_,_,⟨v,r,e,h1,h2⟩=>⟨v,r,e,Rp.ke k h1,RpL.ke k h2⟩
end
def Grow.ke(g:Grow J F H F' H'):Ke K F H F' H':=⟨λ _ _ h=>h.sm g.sm,λ a _ h=>h.imp λ f h=>⟨g.up a f,h.sm g.sm⟩⟩
def Ke.up(h:∀a,F a->F' a):Ke K F H F' H:=⟨λ _ _ h=>h,λ a _ q=>q.imp λ f q=>⟨h a f,q⟩⟩
def Rr(K:FG)(H:Hp)(F':Fz)(H':Hp):TV->V->Prop
 |.own l,v=>∃a vs,v=.ref a/\H a=Oo/\¬F' a/\H' a=Om (.lst vs)/\RpL K F' H' l vs
 |.bor l,v=>∃a vs,v=.ref a/\¬F' a/\H' a=Om (.lst vs)/\RpL K F' H' l vs
 |t,v=>Rp K F' H' t v
def Rr.of(h:Rp K F' H' t v):Rr K H F' H' t v:=by
 cases t<;>first|exact h|exact h.elim
def Rr.grow(g:Grow J F1 H1 F2 H2)(h:Rr K H F1 H1 t v):Rr K H F2 H2 t v:=by
 have nf:∀ {a vs},¬F1 a->H1 a=Om (.lst vs)->¬F2 a:=λ n e z=>by
  rcases g.nw _ z with q|q
  .exact n q
  .rw[q] at e;cases e
 cases t with
 |own l=>obtain⟨a,vs,e,n,f,q,r⟩:=h;exact⟨a,vs,e,n,nf f q,g.sm _ _ (λ ps z=>by cases z) q,r.ke g.ke⟩
 |bor l=>obtain⟨a,vs,e,f,q,r⟩:=h;exact⟨a,vs,e,nf f q,g.sm _ _ (λ ps z=>by cases z) q,r.ke g.ke⟩
 |_=>exact Rp.ke g.ke h
def Rr.late(g:Grow J F H F1 H1)(h:Rr K H1 F2 H2 t v):Rr K H F2 H2 t v:=by
 cases t with
 |own l=>
  obtain⟨a,vs,e,n,f,q,r⟩:=h;refine⟨a,vs,e,?_,f,q,r⟩;by_cases z:H a=Oo
  .exact z
  .exact XU n (g.dm a z)
 |_=>exact h
abbrev RrL(K:FG)(H:Hp)(F':Fz)(H':Hp):List TV->List V->Prop:=Py (Rr K H F' H')
def RrL.grow{vs:List V}(g:Grow J F1 H1 F2 H2)(h:RrL K H F1 H1 ts vs):RrL K H F2 H2 ts vs:=Paired.mapP h λ _ _ r=>r.grow g
theorem RpL.length:∀ {ts:List TV}{vs:List V},RpL K F H ts vs->ts.length=vs.length
 |[],_,h=>by cases h;rfl
 |_::_,_,⟨_,_,e,_,h⟩=>by rw[e,OQ,OQ,RpL.length h]
theorem RpL.get:∀ {ts:List TV}{vs:List V}{i:Nat}{t:TV},RpL K F H ts vs->ts[i]?=Om t->∃v,vs[i]?=Om v/\Rp K F H t v
 |[],_,_,_,_,e=>by simp at e
 |_::_,_,0,_,⟨v,r,e,h1,_⟩,q=>by cases q;exact⟨v,by rw[e];rfl,h1⟩
 |_::_,_,i+1,_,⟨v,r,e,_,h2⟩,q=>by
  obtain⟨w,e1,h⟩:=RpL.get (i:=i) h2 q;exact⟨w,by rw[e];exact e1,h⟩
theorem RpL.append:∀ {ts us:List TV}{vs ws:List V},RpL K F H ts vs->RpL K F H us ws->RpL K F H (ts++us) (vs++ws)
 |[],_,_,_,h,g=>by cases h;exact g
 |_::_,_,_,_,⟨v,r,e,h1,h2⟩,g=>by subst e;exact⟨v,_,rfl,h1,RpL.append h2 g⟩
theorem RpL.take:∀ {ts:List TV}{vs:List V}(n:Nat),RpL K F H ts vs->RpL K F H (ts.take n) (vs.take n)
 |_,_,0,_=>rfl
 |[],_,_+1,h=>by cases h;rfl
 |_::_,_,n+1,⟨v,r,e,h1,h2⟩=>by subst e;exact⟨v,_,rfl,h1,RpL.take n h2⟩
theorem RpL.drop:∀ {ts:List TV}{vs:List V}(n:Nat),RpL K F H ts vs->RpL K F H (ts.drop n) (vs.drop n)
 |_,_,0,h=>h
 |[],_,_+1,h=>by cases h;rfl
 |_::_,_,n+1,⟨v,r,e,h1,h2⟩=>by subst e;exact RpL.drop n h2
theorem RpL.set(h:Rp K F H t v):∀ {ts:List TV}{vs:List V}(i:Nat),RpL K F H ts vs->RpL K F H (ts.set i t) (vs.set i v)
 |[],_,_,q=>by cases q;rfl
 |_::_,_,0,⟨w,r,e,_,h2⟩=>by subst e;exact⟨v,r,rfl,h,h2⟩
 |_::_,_,i+1,⟨w,r,e,h1,h2⟩=>by subst e;exact⟨w,_,rfl,h1,RpL.set h i h2⟩
def RpL.reverse{vs:List V}(h:RpL K F H ts vs):RpL K F H ts.reverse vs.reverse:=by
 induction ts generalizing vs with
 |nil=>cases h;rfl
 |cons t r ih=>
  obtain⟨v,q,e,h1,h2⟩:=h;subst e;rw[jK,jK];exact(ih h2).append ⟨v,[],O,h1,O⟩
theorem RpL.ints:∀ {ns:LI}{vs:List V},RpL K F H (ns.map XV) vs->vs=ns.map V.int
 |[],_,h=>h
 |_::_,_,⟨v,r,e,h1,h2⟩=>by rw[e,RpL.ints h2,show v=_ from h1];rfl
theorem RpL.ofInts:∀(ns:LI),RpL K F H (ns.map XV) (ns.map V.int)
 |[]=>rfl
 |_::r=>⟨_,_,rfl,rfl,RpL.ofInts r⟩
theorem RpL.bls:∀ {ns:List Bool}{vs:List V},RpL K F H (ns.map TV.bl) vs->vs=ns.map V.bl
 |[],_,h=>h
 |_::_,_,⟨v,r,e,h1,h2⟩=>by rw[e,RpL.bls h2,show v=_ from h1];rfl
noncomputable def TV.items:TV->Option (Bool×List TV)
 |.tup l=>Om (On,l)
 |.lst l=>Om (Op,l)
 |.bor l=>Om (Op,l)
 |.own l=>Om (Op,l)
 |_=>Oo
def Rr.sq{b:Bool}{l:List TV}(h:Rr K H F' H' t v)(e:t.items=Om (b,l)):∃a vs,v=.ref a/\RpL K F' H' l vs/\((b=On/\SqT K H' a vs)\/(b=Op/\SqL K H' a vs)):=by
 cases t<;>cases e
 .obtain⟨a,vs,e,q,r⟩:=h;exact⟨a,vs,e,r,.inl ⟨rfl,q⟩⟩
 .obtain⟨a,vs,e,q,r⟩:=h;exact⟨a,vs,e,r,.inr ⟨rfl,q.sq⟩⟩
 .obtain⟨a,vs,e,_,q,r⟩:=h;exact⟨a,vs,e,r,.inr ⟨rfl,.of q⟩⟩
 .obtain⟨a,vs,e,_,_,q,r⟩:=h;exact⟨a,vs,e,r,.inr ⟨rfl,.of q⟩⟩
structure JS (J:Hp->Prop):Prop where
 nw:∀(H:Hp) (p:Os) (o:HO),H p=Oo->J H->J (Tf H p o)
 mu:∀(H:Hp) (p:Os) (vs ws:List V),H p=Om (.lst vs)->J H->J (Tf H p (.lst ws))
def Grow.new(hJ:JS J)(w:Wd J F H)(o:HO)(h:H p=Oo):Grow J F H F (Tf H p o):=by
 have k:∀a x,H a=Om x->Tf H p o a=Om x:=λ a x e=>by rw[aA (λ z=>by rw[z,h] at e;cases e)];exact e
 have d:∀a,H a≠Oo->Tf H p o a≠Oo:=λ a e z=>by
  cases q:H a with
  |none=>exact e q
  |some x=>rw[k a x q] at z;cases z
 exact⟨λ a x _ e=>k a x e,d,λ _ e=>e,λ _ e=>.inl e,hJ.nw H p o h w.j,λ a f=>d a (w.d a f)⟩
def Grow.frz(g:Grow J F H F1 H1)(n:H a=Oo)(e:H1 a≠Oo):Grow J F H (λ b=>F1 b\/b=a) H1 :=
 ⟨g.sm,g.dm,λ b f=>.inl (g.up b f),λ b f=>by
  rcases f with f|rfl
  .exact g.nw b f
  .exact .inr n,g.w.j,λ b f=>by
  rcases f with f|rfl
  .exact g.w.d b f
  .exact e⟩
noncomputable def TV.fz:TV->TV
 |.own l=>.lst l
 |.bor l=>.lst l
 |t=>t
noncomputable def TV.nb:TV->Bool
 |.bor _=>Op
 |_=>On
def Rr.frz(g:Grow J F H F1 H1)(h:Rr K H F1 H1 t v)(n:t.nb=On):∃F2,Grow J F H F2 H1/\(∀a,F1 a->F2 a)/\(∀a,F2 a->F1 a\/v=.ref a)/\Rp K F2 H1 t.fz v:=by
 cases t with
 |own l=>
  obtain⟨a,vs,e,n,f,q,r⟩:=h;refine⟨λ b=>F1 b\/b=a,g.frz n (by rw[q];simp),λ _ f=>.inl f,λ b f=>?_,a,vs,e,.inl ⟨.inr rfl,.of q⟩,r.ke (.up λ _ f=>.inl f)⟩
  rcases f with f|rfl
  .exact .inl f
  .exact .inr e
 |bor l=>cases n
 |_=>exact⟨F1,g,λ _ f=>f,λ _ f=>.inl f,h⟩
end
mutual
def eqT:TV->TV->Bool
 |.non,.non=>On
 |.bl a,.bl b=>a == b
 |.bl a,.int b=>(if a then 1 else 0) == b
 |.int a,.bl b=>a == (if b then 1 else 0)
 |.int a,.int b=>decide (a=b)
 |.str a,.str b=>decide (a=b)
 |.tup l,.tup m=>eqTL l m
 |.lst l,.lst m=>eqTL l m
 |_,_=>Op
def eqTL:List TV->List TV->Bool
 |[],[]=>On
 |x::xs,y::ys=>eqT x y&&eqTL xs ys
 |_,_=>Op
end
def nV(l m:List TV):eqT (.lst l) (.lst m)=eqTL l m:=rfl
def vS(l m:List TV):eqT (.tup l) (.tup m)=eqTL l m:=rfl
def eqTL_c(x y:TV)(xs ys:List TV):eqTL (x::xs) (y::ys)=(eqT x y&&eqTL xs ys):=rfl
def dp:Nat->TV->Prop
 |_,.non=>True|_,.bl _=>True|_,.int _=>True|_,.str _=>True
 |n+1,.tup l=>∀x∈l,dp n x
 |n+1,.lst l=>∀x∈l,dp n x
 |_,_=>False
theorem jT:∀ {l m:List TV},l.length≠m.length->eqTL l m=Op
 |[],[],h=>XU rfl h
 |[],_::_,_=>rfl
 |_::_,[],_=>rfl
 |x::xs,y::ys,h=>by rw[eqTL_c,jT (l:=xs) (m:=ys) (λ z=>h (by rw[OQ,OQ,z])),lN]
theorem jU:∀ {l m:List TV},l.length=m.length->(OE l.length).all (λ j=>eqT (l.getD j .non) (m.getD j .non))=eqTL l m
 |[],[],_=>rfl
 |x::xs,y::ys,h=>by
  rw[OQ,vT,cK,SJ];show(eqT x y&&(OE xs.length).all λ j=>eqT (xs.getD j .non) (ys.getD j .non))=eqTL (x::xs) (y::ys);rw[jU (l:=xs) (m:=ys) (by simpa using h),eqTL_c]
mutual
theorem qP:∀ {t:TV}{n:Nat},dp n t->eqT t t=On
 |.non,_,_=>rfl
 |.bl b,_,_=>jO b
 |.int _,_,_=>cB rfl
 |.str _,_,_=>cB rfl
 |.tup l,0,h=>h.elim
 |.tup l,n+1,h=>eqTL_self (l:=l) (n:=n) h
 |.lst l,0,h=>h.elim
 |.lst l,n+1,h=>eqTL_self (l:=l) (n:=n) h
 |.bor _,0,h=>h.elim
 |.bor _,_+1,h=>h.elim
 |.own _,0,h=>h.elim
 |.own _,_+1,h=>h.elim
 |.obj _,0,h=>h.elim
 |.obj _,_+1,h=>h.elim
theorem eqTL_self:∀ {l:List TV}{n:Nat},(∀x∈l,dp n x)->eqTL l l=On
 |[],_,_=>rfl
 |x::xs,n,h=>by rw[eqTL_c,qP (h x on),eqTL_self λ y hy=>h y (by simp[hy])];rfl
end
def RelV.uniq(h:RelV x u)(g:RelV y u):x=y:=by
 cases x<;>cases y<;>first
  |(cases h;cases g;rfl)
  |(obtain⟨_,rfl⟩:=h;obtain⟨_,e⟩:=g;cases e;rfl)
  |(cases h;cases g;done)
  |(cases h;obtain⟨_,e⟩:=g;cases e;done)
  |(obtain⟨_,rfl⟩:=h;cases g;done)
  |(obtain⟨_,rfl⟩:=h;obtain⟨_,e⟩:=g;cases e;done)
theorem Vals.uniq:∀ {xs ys:List V}{us:LV},Vals xs us->Vals ys us->xs=ys
 |_,_,_,.nil,.nil=>rfl
 |_,_,_,.cons r t,.cons r' t'=>by rw[r.uniq r',Vals.uniq t t']
section
variable {Tb:LO}{σ:St}{H:Hp}{s:Ot}{F:Fz}
def Inv.tup_uniq(I:Inv X Tb σ H s)(h:SqT X.K H a xs)(g:SqT X.K H a ys):xs=ys:=by
 obtain⟨us,r1,p1,_⟩:=I.tuple h;obtain⟨ws,r2,p2,_⟩:=I.tuple g;obtain⟨o,e,_,n,d⟩:=p1;obtain⟨o',e',_,n',d'⟩:=p2;rw[e] at e';cases e';rw[d] at d';have:us.toArray=ws.toArray:=by injection d'
 have:us=ws:=by simpa using bA QB this
 subst this;exact r1.uniq r2
def Inv.lst_uniq(I:Inv X Tb σ H s)(h:SqL X.K H a xs)(g:SqL X.K H a ys):xs=ys:=by
 obtain⟨us,r1,p1,_⟩:=I.list h;obtain⟨ws,r2,p2,_⟩:=I.list g;obtain⟨o,n,e,_,_,d⟩:=p1;obtain⟨o',n',e',_,_,d'⟩:=p2;rw[e] at e';cases e';rw[d] at d';have:us.toArray=ws.toArray:=by injection d'
 have:us=ws:=by simpa using bA QB this
 subst this;exact r1.uniq r2
def Inv.tl(I:Inv X Tb σ H s)(h:SqT X.K H a xs)(g:SqL X.K H a ys):False:=by
 obtain⟨us,r1,p1,_⟩:=I.tuple h;obtain⟨ws,r2,p2,_⟩:=I.list g;obtain⟨o,e,c,_⟩:=p1;obtain⟨o',n',e',c',_⟩:=p2;rw[e] at e';cases e';rw[c] at c';simp at c'
mutual
theorem Inv.rp_uniq(I:Inv X Tb σ H s):∀ {t u:TV}{v:V},Rp X.K F H t v->Rp X.K F H u v->t=u
 |.non,u,v,h,g=>by cases h;cases u<;>first|rfl|(cases g;done)|(obtain⟨_,_,e,_⟩:=g;cases e)|exact g.elim
 |.bl _,u,v,h,g=>by cases h;cases u<;>first|(cases g;rfl)|(cases g;done)|(obtain⟨_,_,e,_⟩:=g;cases e)|exact g.elim
 |.int _,u,v,h,g=>by cases h;cases u<;>first|(cases g;rfl)|(cases g;done)|(obtain⟨_,_,e,_⟩:=g;cases e)|exact g.elim
 |.str _,u,v,h,g=>by cases h;cases u<;>first|(cases g;rfl)|(cases g;done)|(obtain⟨_,_,e,_⟩:=g;cases e)|exact g.elim
 |.tup l,u,v,⟨a,vs,e,q,r⟩,g=>by
  subst e
  cases u with
  |tup m=>
   obtain⟨b,ws,e,q',r'⟩:=g;cases e;have:=I.tup_uniq q q';subst this;rw[Inv.rpl_uniq I r r']
  |lst m=>obtain⟨b,ws,e,q',r'⟩:=g;cases e;exact(I.tl q q'.sq).elim
  |_=>first|exact g.elim|cases g
 |.lst l,u,v,⟨a,vs,e,q,r⟩,g=>by
  subst e
  cases u with
  |lst m=>
   obtain⟨b,ws,e,q',r'⟩:=g;cases e;have:=I.lst_uniq q.sq q'.sq;subst this;rw[Inv.rpl_uniq I r r']
  |tup m=>obtain⟨b,ws,e,q',r'⟩:=g;cases e;exact(I.tl q' q.sq).elim
  |_=>first|exact g.elim|cases g
 |.bor _,_,_,h,_=>h.elim
 |.own _,_,_,h,_=>h.elim
 |.obj _,_,_,h,_=>h.elim
theorem Inv.rpl_uniq(I:Inv X Tb σ H s):∀ {ts us:List TV}{vs:List V},RpL X.K F H ts vs->RpL X.K F H us vs->ts=us
 |[],us,_,h,g=>by
  cases h
  cases us with
  |nil=>rfl
  |cons t r=>obtain⟨_,_,e,_⟩:=g;cases e
 |t::ts,us,_,⟨v,r,e,h1,h2⟩,g=>by
  subst e
  cases us with
  |nil=>cases g
  |cons u us=>obtain⟨_,_,e,g1,g2⟩:=g;cases e;rw[Inv.rp_uniq I h1 g1,Inv.rpl_uniq I h2 g2]
end
def iu{K:FG}{vs:List V}(r:RpL K F H l vs)(q:Vals vs us){j:Nat}(h:j<us.toArray.size):∃z,Rp K F H (l.getD j .non) z/\RelV z us.toArray[j]/\l.getD j .non∈l:=by
 obtain⟨z,e,rz⟩:=Fk q h;have k:j<l.length:=by rw[r.length,q.length];simpa using h
 obtain⟨v,e',rv⟩:=r.get (aZ k);rw[e] at e';cases e';have ee:l.getD j .non=l[j]:=by simp[aO,aZ k]
 rw[ee];exact⟨z,rv,rz,jV k⟩
def vU(I:Inv X Tb σ H s){n:Nat}(ih:∀m,n=m+1->∀(A:OD) (t u:TV) (x y:V) (v w:Value),A.units+m<Pv->dp m t->Rp X.K F H t x->Rp X.K F H u y->RelV x v->RelV y w->PU A s v w (eqT t u))(A:OD)(t u:TV)(x y:V)(v w:Value)(hu:A.units+n<Pv)(d:dp n t)(h:Rp X.K F H t x)(g:Rp X.K F H u y)(rx:RelV x v)(ry:RelV y w):PU A s v w (eqT t u):=by
 have hu0:A.units<Pv:=Z;have tupI:∀ {a vs},SqT X.K H a vs->∃us:LV,Vals vs us/\s.heap.IsTuple a us.toArray:=λ q=>by obtain⟨us,r,p,_⟩:=I.tuple q;exact⟨us,r,p⟩
 have lstI:∀ {a vs},SqL X.K H a vs->∃us:LV,Vals vs us/\s.heap.IsList a us.toArray:=λ q=>by obtain⟨us,r,p,_⟩:=I.list q;exact⟨us,r,p.isList⟩
 cases t with
 |bor l|own l|obj l=>exact h.elim
 |tup l=>
  obtain⟨a,vs,rfl,q,r⟩:=h;cases rx;obtain⟨us,r1,p1⟩:=tupI q
  cases u with
  |bor l|own l|obj l=>exact g.elim
  |non=>cases g;cases ry;exact SeqAt.EqAt.tuple_none p1 hu0
  |bl b=>cases g;cases ry;exact SeqAt.EqAt.tuple_bool b p1 hu0
  |int b=>cases g;obtain⟨tk,rfl⟩:=ry;exact SeqAt.EqAt.tuple_int b tk p1 hu0
  |str b=>cases g;obtain⟨tk,rfl⟩:=ry;exact SeqAt.EqAt.tuple_str b tk p1 hu0
  |lst m=>
   obtain⟨b,ws,rfl,q',r'⟩:=g;cases ry;obtain⟨us2,r2,p2⟩:=lstI q'.sq;exact SeqAt.EqAt.tuple_list p1 p2 hu0
  |tup m=>
   obtain⟨b,ws,rfl,q',r'⟩:=g;cases ry;obtain⟨us2,r2,p2⟩:=tupI q'
   cases n with
   |zero=>exact OY d
   |succ n=>
    have d':∀x∈l,dp n x:=d;by_cases ab:a=b
    .subst ab;have:=I.tup_uniq q q';subst this;have:=I.rpl_uniq r r';subst this;rw[vS,eqTL_self d'];exact qv _
    .refine s0z ab ?_
     have z:=SeqAt.RcAt.tuples (A:=A) p1 p2 (e:=λ j=>eqT (l.getD j .non) (m.getD j .non)) hu0 (λ j k1 k2=>by
      obtain⟨z1,h1,r1',m1⟩:=iu r r1 k1;obtain⟨z2,h2,r2',_⟩:=iu r' r2 k2
      exact ih n rfl A.in1 _ _ z1 z2 _ _ (by show A.units+1+n<Pv;lia) (d' _ m1) h1 h2 r1' r2')
     have e1:us.toArray.size=l.length:=by simp[r.length,r1.length]
     have e2:us2.toArray.size=m.length:=by simp[r'.length,r2.length]
     rw[e1,e2] at z;rw[vS];by_cases c:l.length=m.length
     .rw[<- c,Nat.min_self,jU c] at z;simpa using z
     .rw[jT c];have c':(l.length == m.length)=Op:=by simpa using c
      rw[c',lN] at z;exact z
 |lst l=>
  obtain⟨a,vs,rfl,q,r⟩:=h;cases rx;obtain⟨us,r1,p1⟩:=lstI q.sq
  cases u with
  |bor l|own l|obj l=>exact g.elim
  |non=>cases g;cases ry;exact SeqAt.EqAt.list_none p1 hu0
  |bl b=>cases g;cases ry;exact SeqAt.EqAt.list_bool b p1 hu0
  |int b=>cases g;obtain⟨tk,rfl⟩:=ry;exact SeqAt.EqAt.list_int b tk p1 hu0
  |str b=>cases g;obtain⟨tk,rfl⟩:=ry;exact SeqAt.EqAt.list_str b tk p1 hu0
  |tup m=>
   obtain⟨b,ws,rfl,q',r'⟩:=g;cases ry;obtain⟨us2,r2,p2⟩:=tupI q';exact SeqAt.EqAt.list_tuple p1 p2 hu0
  |lst m=>
   obtain⟨b,ws,rfl,q',r'⟩:=g;cases ry;obtain⟨us2,r2,p2⟩:=lstI q'.sq
   cases n with
   |zero=>exact OY d
   |succ n=>
    have d':∀x∈l,dp n x:=d;have e1:us.toArray.size=l.length:=by simp[r.length,r1.length]
    have e2:us2.toArray.size=m.length:=by simp[r'.length,r2.length]
    by_cases ab:a=b
    .subst ab;have:=I.lst_uniq q.sq q'.sq;subst this;have:=I.rpl_uniq r r';subst this;rw[nV,eqTL_self d'];exact qv _
    .refine s0z ab ?_;rw[nV];by_cases c:l.length=m.length
     .have z:=SeqAt.RcAt.lists (A:=A) p1 p2 (e:=λ j=>eqT (l.getD j .non) (m.getD j .non)) (by rw[e1,e2,c]) hu0 (λ j k1 k2=>by
       obtain⟨z1,h1,r1',m1⟩:=iu r r1 k1;obtain⟨z2,h2,r2',_⟩:=iu r' r2 k2
       exact ih n rfl A.in1 _ _ z1 z2 _ _ (by show A.units+1+n<Pv;lia) (d' _ m1) h1 h2 r1' r2')
      rwa [e1,jU c] at z
     .rw[jT c];exact SeqAt.RcAt.lists_lengths p1 p2 (by rw[e1,e2];simpa using c) hu0
 |non=>
  cases h
  cases u with
  |bor l|own l|obj l=>exact g.elim
  |tup m=>obtain⟨b,ws,rfl,q',_⟩:=g;cases ry;obtain⟨us2,r2,p2⟩:=tupI q';cases rx;exact SeqAt.EqAt.none_tuple p2 hu0
  |lst m=>obtain⟨b,ws,rfl,q',_⟩:=g;cases ry;obtain⟨us2,r2,p2⟩:=lstI q'.sq;cases rx;exact SeqAt.EqAt.none_list p2 hu0
  |_=>cases g;exact lg rx ry rfl rfl
 |bl k=>
  cases h
  cases u with
  |bor l|own l|obj l=>exact g.elim
  |tup m=>obtain⟨b,ws,rfl,q',_⟩:=g;cases ry;obtain⟨us2,r2,p2⟩:=tupI q';cases rx;exact SeqAt.EqAt.bool_tuple k p2 hu0
  |lst m=>obtain⟨b,ws,rfl,q',_⟩:=g;cases ry;obtain⟨us2,r2,p2⟩:=lstI q'.sq;cases rx;exact SeqAt.EqAt.bool_list k p2 hu0
  |_=>cases g;exact lg rx ry rfl rfl
 |int k=>
  cases h
  cases u with
  |bor l|own l|obj l=>exact g.elim
  |tup m=>obtain⟨b,ws,rfl,q',_⟩:=g;cases ry;obtain⟨us2,r2,p2⟩:=tupI q';obtain⟨tk,rfl⟩:=rx;exact SeqAt.EqAt.int_tuple k tk p2 hu0
  |lst m=>obtain⟨b,ws,rfl,q',_⟩:=g;cases ry;obtain⟨us2,r2,p2⟩:=lstI q'.sq;obtain⟨tk,rfl⟩:=rx;exact SeqAt.EqAt.int_list k tk p2 hu0
  |_=>cases g;exact lg rx ry rfl rfl
 |str k=>
  cases h
  cases u with
  |bor l|own l|obj l=>exact g.elim
  |tup m=>obtain⟨b,ws,rfl,q',_⟩:=g;cases ry;obtain⟨us2,r2,p2⟩:=tupI q';obtain⟨tk,rfl⟩:=rx;exact SeqAt.EqAt.str_tuple k tk p2 hu0
  |lst m=>obtain⟨b,ws,rfl,q',_⟩:=g;cases ry;obtain⟨us2,r2,p2⟩:=lstI q'.sq;obtain⟨tk,rfl⟩:=rx;exact SeqAt.EqAt.str_list k tk p2 hu0
  |_=>cases g;exact lg rx ry rfl rfl
def vV(I:Inv X Tb σ H s)(n:Nat):∀(A:OD) (t u:TV) (x y:V) (v w:Value),A.units+n<Pv->dp n t->Rp X.K F H t x->Rp X.K F H u y->RelV x v->RelV y w->PU A s v w (eqT t u):=by
 induction n with
 |zero=>exact vU I λ m e=>nomatch e
 |succ n ih=>exact vU I λ m e=>by cases e;exact ih
end
inductive BI where
 |len|tuple|list|sum|max|min|abs|int|str|sorted|any|all|isI|isB|isT|isL|isS|maxlen|trev (b:Bool)|lrange (k:Bool)
inductive IK where
 |seq|rng|rng2|rng3|zip (a b:Bool)|zip3|enum (a:Bool)|rev (a:Bool)|str
inductive Cd where
 |v (i:Nat)|c (t:TV)|g (k:Nat)
 |bin (o:QR) (a b:Cd)|neg (a:Cd)|not (a:Cd)|cmp (o:Qo) (a b:Cd)|cm2 (o o':Qo) (a b c:Cd)
 |and (a b:Cd)|or (a b:Cd)|ite (c a b:Cd)
 |nil|cons (a r:Cd)|tup (l:Cd)|lst (l:Cd)|ix (a b:Cd)|sl (a lo hi:Cd)
 |call (f:Nat) (l:Cd)|bi (f:BI) (l:Cd)|mxl (a b:Cd)|trev (k:Bool) (a:Cd)|lrng (k:Bool) (a:Cd)|dk (k:Nat) (a:Cd)|ap (i f:Nat) (l:Cd)|cf (i f:Nat) (x:Str) (a:Cd)
 |comp (own:List Str) (fv:List Str) (js:List Nat) (tg:List Nat) (k:IK) (it:Cd) (e:Cd)|compI (own:List Str) (fv:List Str) (js:List Nat) (tg:List Nat) (k:IK) (it:Cd) (c e:Cd)
abbrev Tc:=List TV->(TV->Prop)->Prop
abbrev En:=List (Option TV)
def i2(t u:TV)(P:Int->Int->Prop):Prop:=match t,u with|.int i,.int j=>P i j|_,_=>False
def i1(t:TV)(P:Int->Prop):Prop:=match t with|.int i=>P i|_=>False
def b1(t:TV)(P:Bool->Prop):Prop:=match t with|.bl i=>P i|_=>False
def l1(t:TV)(P:List TV->Prop):Prop:=match t with|.lst l=>P l|.bor l=>P l|.own l=>P l|_=>False
def s1(t:TV)(P:List TV->Prop):Prop:=match t with|.lst l=>P l|.bor l=>P l|.own l=>P l|.tup l=>P l|_=>False
noncomputable def aQ(i j:Int):Int:=if 0<j then i%j else i.fmod j
noncomputable def bc(i j:Int):Int:=if 0<j then i/j else i.fdiv j
def qQ(t u:TV)(K:TV->Prop):Prop:=match t,u with
 |.int i,.int j=>K (.int (i+j))
 |.tup l,.tup m=>l.length+m.length<=Ou/\K (.tup (l++m))
 |t,u=>l1 t λ l=>l1 u λ m=>l.length+m.length<=Ou/\K (.own (l++m))
def qR(t u:TV)(K:TV->Prop):Prop:=match t,u with
 |.int i,.int j=>QO i j/\K (.int (i*j))
 |.tup l,.int k=>l≠[]/\(0<=k/\k<2 ^ 63)/\l.length*k.toNat<=Ou/\K (.tup (Ow k.toNat l).flatten)
 |t,.int k=>(match t with|.own l=>(0<=k/\k<2 ^ 63)/\l.length*k.toNat<=Ou/\K (.own (Ow k.toNat l).flatten)|_=>False)
 |_,_=>False
def Wa:QR->TV->TV->(TV->Prop)->Prop
 |.Add,t,u,K=>qQ t u K
 |.Sub,t,u,K=>i2 t u λ i j=>K (.int (i-j))
 |.Mult,t,u,K=>qR t u K
 |.FloorDiv,t,u,K=>i2 t u λ i j=>(j≠0/\-18446744073709551616<j/\j<1606938044258990275541962092341162602522202993782792835301376)/\K (.int (bc i j))
 |.Mod,t,u,K=>i2 t u λ i j=>j≠0/\K (.int (aQ i j))
 |.Pow,t,u,K=>i2 t u λ i j=>kQ i j/\K (.int (i ^ j.toNat))
 |.RShift,t,u,K=>i2 t u λ i j=>0<=j/\K (.int (i/2 ^ j.toNat))
 |.BitAnd,t,u,K=>i2 t u λ i j=>K (.int (Builtin.bitAnd i j))
 |.BitOr,t,u,K=>i2 t u λ i j=>K (.int (Builtin.bitOr i j))
 |.BitXor,t,u,K=>i2 t u λ i j=>K (.int (Builtin.bitXor i j))
 |_,_,_,_=>False
def WY(t u:TV):Prop:=match t,u with
 |.tup l,.tup _=>dp 99 (.tup l)
 |.lst l,.lst _=>dp 99 (.lst l)
 |.int _,.int _=>True|.str _,.str _=>True|.bl _,.bl _=>True|.non,.non=>True
 |.non,.int _=>True|.int _,.non=>True|.non,.str _=>True|.str _,.non=>True|.int _,.str _=>True|.str _,.int _=>True
 |.non,.bl _=>True|.bl _,.non=>True
 |_,_=>False
noncomputable def Uo:TV->Bool
 |.non=>On|.bl _=>On|.int _=>On|.str _=>On|_=>Op
noncomputable def inT(x:TV)(l:List TV):Bool:=l.any λ y=>eqT y x
def WB(t u:TV)(K:TV->Prop):Prop:=match t,u with
 |t,u=>i2 t u λ i j=>K (.bl (decide (j<i)))
def iw:Qo->TV->TV->(TV->Prop)->Prop
 |.Eq,t,u,K=>WY t.fz u.fz/\K (.bl (eqT t.fz u.fz))
 |.NotEq,t,u,K=>WY t.fz u.fz/\K (.bl (!eqT t.fz u.fz))
 |.Lt,t,u,K=>i2 t u λ i j=>K (.bl (decide (i<j)))
 |.LtE,t,u,K=>i2 t u λ i j=>K (.bl (decide (i<=j)))
 |.Gt,t,u,K=>WB t u K
 |.GtE,t,u,K=>i2 t u λ i j=>K (.bl (decide (j<=i)))
 |.In,t,u,K=>s1 u λ l=>Uo t=On/\(∀x∈l,Uo x=On)/\K (.bl (inT t l))
 |.NotIn,t,u,K=>s1 u λ l=>Uo t=On/\(∀x∈l,Uo x=On)/\K (.bl (!inT t l))
 |.Is,t,u,K=>u=.non/\K (.bl (match t with|.non=>On|_=>Op))
 |.IsNot,t,u,K=>u=.non/\K (.bl (match t with|.non=>Op|_=>On))
def ag(l:List TV)(lo hi:Option Int):List TV:=(l.drop (_H.sIx l.length 0 lo)).take (_H.sIx l.length l.length hi-_H.sIx l.length 0 lo)
def oI(t:TV)(P:Option Int->Prop):Prop:=match t with|.non=>P Oo|.int i=>P (Om i)|_=>False
def Wb(t:TV)(a b:Option Int)(K:TV->Prop):Prop:=match t with
 |.tup l=>K (.tup (ag l a b))
 |.str x=>x.length<=4000000/\K (.str (Txt.slice x a b))
 |t=>l1 t λ l=>K (.own (ag l a b))
def Wc(t u:TV)(K:TV->Prop):Prop:=match t with
 |.str x=>i1 u λ i=>x.length<=Ou/\∃c,TQ x.cps.toList i=Om c/\K (.str ⟨#[c]⟩)
 |t=>s1 t λ l=>i1 u λ i=>∃x,TQ l i=Om x/\K x
def LF:TV->Prop
 |.tup l=>∀x∈l,LF x
 |.lst _=>False|.bor _=>False|.own _=>False|.obj _=>False
 |_=>True
def k1(b:Bool)(t:TV)(P:List TV->Prop):Prop:=if b=On then (match t with|.tup l=>P l|_=>False) else l1 t P
def UH:BI->List TV->(TV->Prop)->Prop
 |.len,[t],K=>(match t with|.str x=>x.length<=Ou/\K (.int x.length)|t=>s1 t λ l=>K (.int l.length))
 |.tuple,[t],K=>s1 t λ l=>K (.tup l)
 |.list,[t],K=>s1 t λ l=>K (.own l)
 |.sum,[t],K=>l1 t λ l=>∃ns:LI,l=ns.map .int/\K (.int ns.sum)
 |.max,[t,u],K=>i2 t u λ i j=>K (.int (if j > i then j else i))
 |.max,[t],K=>l1 t λ l=>∃ns:LI,l=ns.map .int/\0<ns.length/\∀M:Int,M∈ns->(∀z∈ns,z<=M)->K (.int M)
 |.min,[t],K=>l1 t λ l=>∃ns:LI,l=ns.map .int/\0<ns.length/\∀M:Int,M∈ns->(∀z∈ns,M<=z)->K (.int M)
 |.min,[t,u],K=>i2 t u λ i j=>K (.int (if j<i then j else i))
 |.abs,[t],K=>i1 t λ i=>K (.int (if i<0 then -i else i))
 |.int,[t],K=>(match t with|.int i=>K (.int i)|.bl k=>K (.int (if k then 1 else 0))|_=>False)
 |.str,[t],K=>i1 t λ i=>i.natAbs.log2<1920/\K (.str (ON (Qn i)))
 |.sorted,[t],K=>s1 t λ l=>∃ns:LI,l=ns.map .int/\ns.length<64/\∀ns':LI,ns'.Perm ns->ns'.Pairwise (·<=·)->K (.own (ns'.map .int))
 |.any,[t],K=>l1 t λ l=>∃bs:List Bool,l=bs.map .bl/\K (.bl (bs.any id))
 |.all,[t],K=>l1 t λ l=>∃bs:List Bool,l=bs.map .bl/\K (.bl (bs.all id))
 |.isI,[t],K=>(match t with|.int _=>K (.bl On)|.bl _=>K (.bl On)|.str _=>K (.bl Op)|.non=>K (.bl Op)|.tup _=>K (.bl Op)|_=>False)
 |.isB,[t],K=>(match t with|.bl _=>K (.bl On)|.int _=>K (.bl Op)|.str _=>K (.bl Op)|.non=>K (.bl Op)|.tup _=>K (.bl Op)|_=>False)
 |.isT,[t],K=>(match t with|.tup _=>K (.bl On)|.int _=>K (.bl Op)|.str _=>K (.bl Op)|.non=>K (.bl Op)|.bl _=>K (.bl Op)|_=>False)
 |.isL,[t],K=>(match t with|.tup _=>K (.bl Op)|.int _=>K (.bl Op)|.str _=>K (.bl Op)|.non=>K (.bl Op)|.bl _=>K (.bl Op)|.lst _=>K (.bl On)|.bor _=>K (.bl On)|.own _=>K (.bl On)|.obj _=>False)
 |.isS,[t],K=>(match t with|.tup _=>K (.bl Op)|.int _=>K (.bl Op)|.str _=>K (.bl On)|.non=>K (.bl Op)|.bl _=>K (.bl Op)|_=>False)
 |.trev b,[t],K=>k1 b t λ l=>K (.tup l.reverse)
 |.maxlen,[t,u],K=>(match t,u with|.tup l,.tup m=>K (.tup (if l.length<m.length then m else l))|_,_=>False)
 |.lrange k,[t],K=>i1 t λ j=>(0<=j/\j<=1000)/\K (if k=On then .tup ((OE j.toNat).map λ i=>.int (i:Nat)) else .own ((OE j.toNat).map λ i=>.int (i:Nat)))
 |_,_,_=>False
noncomputable def z3(l m n:List TV):List TV:=SL (λ x (p:TV×TV)=>.tup [x,p.1,p.2]) l (m.zip n)
def Vb:IK->List TV->(List TV->Prop)->Prop
 |.seq,[t],K=>s1 t K
 |.rng,[t],K=>i1 t λ j=>(-(2 ^ 62)<=j/\j<2 ^ 62)/\K ((OE j.toNat).map λ i=>.int (i:Nat))
 |.rng2,[t,u],K=>i2 t u λ i j=>(-(2 ^ 62)<=i/\i<2 ^ 62/\-(2 ^ 62)<=j/\j<2 ^ 62)/\K ((OE (j-i).toNat).map λ k=>.int (i+(k:Nat)))
 |.rng3,[t,u,w],K=>i2 t u λ i j=>i1 w λ c=>(c≠0/\c.natAbs<1073741824/\Pk i j c=On)/\K ((OE (OJ i j c).toNat).map λ k=>.int (i+(k:Nat)*c))
 |.zip a b,[t,u],K=>k1 a t λ l=>k1 b u λ m=>K (SL (λ x y=>.tup [x,y]) l m)
 |.zip3,[t,u,w],K=>k1 On t λ l=>k1 On u λ m=>k1 On w λ n=>(m.length=l.length/\n.length=l.length)/\K (z3 l m n)
 |.enum a,[t],K=>k1 a t λ l=>K (l.mapIdx λ i x=>.tup [.int (i:Nat),x])
 |.rev a,[t],K=>k1 a t λ l=>K l.reverse
 |.str,[t],K=>(match t with|.str x=>K (x.cps.toList.map λ c=>.str ⟨#[c]⟩)|_=>False)
 |_,_,_=>False
def Vt(s:Option TV)(K:TV->Prop):Prop:=match s with|some (.bor _)=>False|some t=>K t|none=>False
def VE(s:Option TV)(P:List TV->Prop):Prop:=match s with|some (.bor l)=>P l|_=>False
def t1(t:TV)(P:Str->Prop):Prop:=match t with|.str x=>P x|_=>False
noncomputable def VF:List TV->Str->Option TV
 |.tup [.str k,t]::r,x=>if decide (k=x)=On then Om t else VF r x
 |_,_=>Oo
noncomputable abbrev kT(k:LI):TV:=.tup (k.map .int)
def Vn(s:Option (Option TV))(P:Os->Prop):Prop:=match s with|some (Om (.obj (.fn a)))=>P a|_=>False
def VG:Option (Option TV)->(TV->Prop)->Prop
 |some (Om (.obj _)),_=>False
 |some (Om t),K=>K (match t with|.own l=>.bor l|t=>t)
 |_,_=>False
def Ug(ρ:En)(is:List Nat)(t:TV)(K:En->Prop):Prop:=match is with
 |[i]=>K (ρ.set i (Om t))
 |[i,j]=>(match t with|.tup [x,y]=>K ((ρ.set i (Om x)).set j (Om y))|_=>False)
 |[i,j,k]=>(match t with|.tup [x,y,z]=>K (((ρ.set i (Om x)).set j (Om y)).set k (Om z))|_=>False)
 |[i,j,k,m]=>(match t with|.tup [x,y,z,w]=>K ((((ρ.set i (Om x)).set j (Om y)).set k (Om z)).set m (Om w))|_=>False)
 |_=>False
def UD(b:TV->(List TV->Prop)->Prop):List TV->(List TV->Prop)->Prop
 |[],K=>K []
 |t::r,K=>b t λ y=>UD b r λ ys=>K (y++ys)
section
variable (FT:List Tc)(GT:List TV)
mutual
def wE:Cd->En->(TV->Prop)->Prop
 |.v i,ρ,K=>VG ρ[i]? K
 |.c t,_,K=>K t
 |.g k,_,K=>Vt GT[k]? K
 |.bin o a b,ρ,K=>wE a ρ λ x=>wE b ρ λ y=>Wa o x y K
 |.neg a,ρ,K=>wE a ρ λ x=>i1 x λ i=>K (.int (-i))
 |.not a,ρ,K=>wE a ρ λ x=>b1 x λ i=>K (.bl (!i))
 |.cmp o a b,ρ,K=>wE a ρ λ x=>wE b ρ λ y=>iw o x y K
 |.cm2 o o' a b c,ρ,K=>wE a ρ λ x=>wE b ρ λ y=>iw o x y λ z=>b1 z λ k=>if k=On then wE c ρ λ w=>iw o' y w K else K (.bl Op)
 |.and a b,ρ,K=>wE a ρ λ x=>b1 x λ k=>if k=On then wE b ρ K else K (.bl Op)
 |.or a b,ρ,K=>wE a ρ λ x=>b1 x λ k=>if k=On then K (.bl On) else wE b ρ K
 |.ite c a b,ρ,K=>wE c ρ λ x=>b1 x λ k=>if k=On then wE a ρ K else wE b ρ K
 |.tup l,ρ,K=>wL l ρ λ ts=>ts.all TV.nb=On/\ts.length<=Ou/\K (.tup (ts.map .fz))
 |.lst l,ρ,K=>wL l ρ λ ts=>ts.all TV.nb=On/\ts.length<=Ou/\K (.own (ts.map .fz))
 |.ix a b,ρ,K=>wE a ρ λ x=>wE b ρ λ y=>Wc x y K
 |.sl a lo hi,ρ,K=>wE a ρ λ x=>wE lo ρ λ y=>oI y λ p=>wE hi ρ λ z=>oI z λ q=>Wb x p q K
 |.call f l,ρ,K=>wL l ρ λ ts=>∃P,(∃S,FT[f]?=Om S/\S (ts.map .fz) P)/\∀t,P t->(ts.all TV.nb=Op->LF t)/\K t
 |.bi f l,ρ,K=>wL l ρ λ ts=>UH f ts K
 |.mxl a b,ρ,K=>wE a ρ λ t=>wE b ρ λ u=>UH .maxlen [t,u] K
 |.trev k a,ρ,K=>wE a ρ λ t=>UH (.trev k) [t] K
 |.lrng k a,ρ,K=>wE a ρ λ t=>UH (.lrange k) [t] K
 |.dk k a,ρ,K=>VE GT[k]? λ kvs=>wE a ρ λ y=>t1 y λ x=>∃t,VF kvs x=Om t/\K t
 |.ap i f l,ρ,K=>(FT[f]?).isSome=On/\Vn ρ[i]? λ a=>wL l ρ λ ts=>ts.all TV.nb=On/\∃P,(∃S,FT[f]?=Om S/\S (.str "" :: .obj (.fn a)::ts.map .fz) P)/\∀t,P t->K t
 |.cf i f x c,ρ,K=>(∃S,FT[f]?=Om S/\S [.str x] λ _=>True)/\Vn ρ[i]? λ a=>wE c ρ λ u=>u.nb=On/\∃P,(∃S,FT[f]?=Om S/\S [.str x,.obj (.fn a),u.fz] P)/\∀t,P t->K t
 |.comp own _ js tg k it e,ρ,K=>wL it ρ λ ts=>Vb k ts λ its=>its.length<Ou /\
   UD (λ t K'=>Ug (Ow own.length Oo++js.map λ j=>(ρ[j]?).join) tg t λ ρ'=>wE e ρ' λ y=>(y.nb=On/\K' [y.fz])) its λ ys=>K (.own ys)
 |.compI own _ js tg k it c e,ρ,K=>wL it ρ λ ts=>Vb k ts λ its=>its.length<Ou /\
   UD (λ t K'=>Ug (Ow own.length Oo++js.map λ j=>(ρ[j]?).join) tg t λ ρ'=>wE c ρ' λ x=>b1 x λ q=>if q=On then wE e ρ' λ y=>(y.nb=On/\K' [y.fz]) else K' []) its λ ys=>K (.own ys)
 |_,_,_=>False
def wL:Cd->En->(List TV->Prop)->Prop
 |.nil,_,K=>K []
 |.cons a r,ρ,K=>wE a ρ λ t=>wL r ρ λ ts=>K (t::ts)
 |_,_,_=>False
end
end
section
variable {K K':TV->Prop}{t u w:TV}
def jW{P P':Int->Int->Prop}(h:∀i j,P i j->P' i j)(q:i2 t u P):i2 t u P':=by
 cases t<;>cases u<;>first|exact h _ _ q|exact q.elim
def gk{P P':Int->Prop}(h:∀i,P i->P' i)(q:i1 t P):i1 t P':=by
 cases t<;>first|exact h _ q|exact q.elim
def cP{P P':Bool->Prop}(h:∀i,P i->P' i)(q:b1 t P):b1 t P':=by
 cases t<;>first|exact h _ q|exact q.elim
def qS{P P':List TV->Prop}(h:∀i,P i->P' i)(q:l1 t P):l1 t P':=by
 cases t<;>first|exact h _ q|exact q.elim
def nW{P P':List TV->Prop}(h:∀i,P i->P' i)(q:s1 t P):s1 t P':=by
 cases t<;>first|exact h _ q|exact q.elim
def iy{P P':List TV->Prop}(h:∀i,P i->P' i)(q:k1 b t P):k1 b t P':=by
 cases b
 .exact qS h q
 .cases t<;>first|exact h _ q|exact q.elim
def nX{P P':Option Int->Prop}(h:∀i,P i->P' i)(q:oI t P):oI t P':=by
 cases t<;>first|exact h _ q|exact q.elim
def FQ(h:∀t,K t->K' t)(q:qQ t u K):qQ t u K':=by
 cases t<;>cases u<;>first|exact h _ q|exact gK q.1 (h _ q.2)|exact q.elim
def FR(h:∀t,K t->K' t)(q:qR t u K):qR t u K':=by
 cases t<;>cases u<;>first|exact q.elim|exact gK q.1 (h _ q.2)|exact gK q.1 (gK q.2.1 (gK q.2.2.1 (h _ q.2.2.2)))|exact gK q.1 (gK q.2.1 (h _ q.2.2))
def FS(h:∀t,K t->K' t)(q:Wa o t u K):Wa o t u K':=by
 cases o<;>first
  |exact q.elim
  |exact FQ h q
  |exact FR h q
  |exact jW (λ _ _ q=>h _ q) q
  |exact jW (λ _ _ q=>⟨q.1,h _ q.2⟩) q
def FU(h:∀t,K t->K' t)(q:WB t u K):WB t u K':=by
 cases t<;>cases u<;>first|exact q.elim|exact h _ q|(obtain⟨ns,ms,a,b,q⟩:=q;exact⟨ns,ms,a,b,h _ q⟩)
def gM(h:∀t,K t->K' t)(q:iw o t u K):iw o t u K':=by
 cases o<;>first
  |exact⟨q.1,h _ q.2⟩
  |exact jW (λ _ _ q=>h _ q) q
  |exact FU h q
  |exact nW (λ _ q=>⟨q.1,q.2.1,h _ q.2.2⟩) q
def FV(h:∀t,K t->K' t)(q:Wb t a b K):Wb t a b K':=by
 cases t<;>first|exact h _ q|exact gK q.1 (h _ q.2)|exact q.elim
def FW(h:∀t,K t->K' t)(q:Wc t u K):Wc t u K':=by
 have a:∀l,(i1 u λ i=>∃x,TQ l i=Om x/\K x)->i1 u λ i=>∃x,TQ l i=Om x/\K' x:=λ l q=>gk (λ i ⟨c,e,q⟩=>⟨c,e,h _ q⟩) q;have b:∀x:Str,(i1 u λ i=>x.length<=Ou/\∃c,TQ x.cps.toList i=Om c/\K (.str ⟨#[c]⟩))->i1 u λ i=>x.length<=Ou/\∃c,TQ x.cps.toList i=Om c/\K' (.str ⟨#[c]⟩):=λ l q=>gk (λ i ⟨z,c,e,q⟩=>⟨z,c,e,h _ q⟩) q
 cases t with
 |str x=>exact b x q
 |tup l|lst l|bor l|own l=>exact a l q
 |_=>exact q.elim
def qT(h:∀t,K t->K' t)(q:UH f ts K):UH f ts K':=by
 have sl:∀ {t:TV}{g:List TV->TV},(s1 t λ l=>K (g l))->s1 t λ l=>K' (g l):=λ q=>nW (λ _ q=>h _ q) q;have il:∀ {t:TV}{g:Int->TV},(i1 t λ l=>K (g l))->i1 t λ l=>K' (g l):=λ q=>gk (λ _ q=>h _ q) q;have i2l:∀ {t u:TV}{g:Int->Int->TV},(i2 t u λ i j=>K (g i j))->i2 t u λ i j=>K' (g i j):=λ q=>jW (λ _ _ q=>h _ q) q
 rcases ts with _|⟨t,_|⟨u,_|⟨w,r⟩⟩⟩
 .cases f<;>exact q.elim
 .cases f with
  |len=>cases t<;>first|exact h _ q|exact q.elim|exact gK q.1 (h _ q.2)
  |tuple|list=>exact sl q
  |trev b=>exact iy (λ _ q=>h _ q) q
  |sum|any|all=>exact qS (λ _ ⟨ns,e,q⟩=>⟨ns,e,h _ q⟩) q
  |max|min=>exact qS (λ _ ⟨ns,e,l,q⟩=>⟨ns,e,l,λ M m z=>h _ (q M m z)⟩) q
  |abs=>exact il q
  |int|isI|isB|isT|isL|isS=>cases t<;>first|exact h _ q|exact q.elim
  |str|lrange k=>exact gk (λ _ ⟨a,q⟩=>⟨a,h _ q⟩) q
  |sorted=>exact nW (λ _ ⟨ns,e,l,q⟩=>⟨ns,e,l,λ M m z=>h _ (q M m z)⟩) q
  |maxlen=>exact q.elim
 .cases f with
  |max|min=>exact i2l q
  |maxlen=>cases t<;>cases u<;>first|exact h _ q|exact q.elim
  |_=>exact q.elim
 .cases f<;>exact q.elim
def iz{K K':List TV->Prop}(h:∀t,K t->K' t)(q:Vb k ts K):Vb k ts K':=by
 rcases ts with _|⟨t,_|⟨u,_|⟨w,_|⟨y,r⟩⟩⟩⟩
 .cases k<;>exact q.elim
 .cases k with
  |seq=>exact nW h q
  |rng=>exact gk (λ _ ⟨a,q⟩=>⟨a,h _ q⟩) q
  |enum a|rev a=>exact iy (λ _ q=>h _ q) q
  |str=>cases t<;>first|exact h _ q|exact q.elim
  |_=>exact q.elim
 .cases k with
  |rng2=>exact jW (λ _ _ ⟨a,q⟩=>⟨a,h _ q⟩) q
  |zip a b=>exact iy (λ _ q=>iy (λ _ q=>h _ q) q) q
  |_=>exact q.elim
 .cases k with
  |rng3=>exact jW (λ _ _ q=>gk (λ _ ⟨a,q⟩=>⟨a,h _ q⟩) q) q
  |zip3=>exact iy (λ _ q=>iy (λ _ q=>iy (λ _ ⟨a,q⟩=>⟨a,h _ q⟩) q) q) q
  |_=>exact q.elim
 .cases k<;>exact q.elim
def FX(h:∀t,K t->K' t)(q:Vt s K):Vt s K':=by
 cases s with
 |none=>exact q
 |some t=>cases t<;>first|exact h _ q|exact q.elim
def vW(q:VE s P):∃l,s=Om (.bor l)/\P l:=by
 cases s with
 |none=>exact q.elim
 |some t=>cases t<;>first|exact⟨_,rfl,q⟩|exact q.elim
def qU(q:Vn s P):∃a,s=Om (Om (.obj (.fn a)))/\P a:=by
 rcases s with _|_|t
 .exact q.elim
 .exact q.elim
 .cases t with
  |obj o=>cases o<;>first|exact⟨_,rfl,q⟩|exact q.elim
  |_=>exact q.elim
def vX{P P':Os->Prop}(h:∀a,P a->P' a)(q:Vn s P):Vn s P':=by
 obtain⟨a,e,p⟩:=qU q;subst e;exact h a p
def FY{P P':List TV->Prop}(h:∀l,P l->P' l)(q:VE s P):VE s P':=by
 obtain⟨l,e,p⟩:=vW q;subst e;exact h l p
def vY(q:t1 t P):∃x,t=.str x/\P x:=by cases t<;>first|exact⟨_,rfl,q⟩|exact q.elim
def FZ{P P':Str->Prop}(h:∀x,P x->P' x)(q:t1 t P):t1 t P':=by
 obtain⟨x,e,p⟩:=vY q;subst e;exact h x p
def Ga(h:∀t,K t->K' t)(q:VG s K):VG s K':=by
 rcases s with _|_|t
 .exact q
 .exact q
 .cases t<;>first|exact h _ q|exact q.elim
def gN{K K':En->Prop}(h:∀t,K t->K' t)(q:Ug ρ is t K):Ug ρ is t K':=by
 rcases is with _|⟨i,_|⟨j,_|⟨k,_|⟨l,_|⟨l',r⟩⟩⟩⟩⟩
 .exact q.elim
 .exact h _ q
 .cases t with
  |tup l=>rcases l with _|⟨x,_|⟨y,_|⟨z,r⟩⟩⟩<;>first|exact h _ q|exact q.elim
  |_=>exact q.elim
 .cases t with
  |tup l=>rcases l with _|⟨x,_|⟨y,_|⟨z,_|⟨w,r⟩⟩⟩⟩<;>first|exact h _ q|exact q.elim
  |_=>exact q.elim
 .cases t with
  |tup l=>rcases l with _|⟨x,_|⟨y,_|⟨z,_|⟨w,_|⟨w',r⟩⟩⟩⟩⟩<;>first|exact h _ q|exact q.elim
  |_=>exact q.elim
 .exact q.elim
theorem nY{b b':TV->(List TV->Prop)->Prop}(hb:∀t K K',(∀y,K y->K' y)->b t K->b' t K'):∀ {l:List TV}{K K':List TV->Prop},(∀y,K y->K' y)->UD b l K->UD b' l K'
 |[],_,_,h,q=>h _ q
 |_::_,_,_,h,q=>hb _ _ _ (λ y q=>nY hb (λ ys q=>h _ q) q) q
variable {FT:List Tc}{GT:List TV}
structure Mo (FT:List Tc)(GT:List TV)(c:Cd):Prop where
 e:∀ {ρ:En}{K K':TV->Prop},(∀t,K t->K' t)->wE FT GT c ρ K->wE FT GT c ρ K'
 l:∀ {ρ:En}{K K':List TV->Prop},(∀t,K t->K' t)->wL FT GT c ρ K->wL FT GT c ρ K'
def jX{k:Bool}{A A' B B':Prop}(ha:A->A')(hb:B->B')(q:if k=On then A else B):if k=On then A' else B':=by
 cases k
 .exact hb q
 .exact ha q
def mo(FT:List Tc)(GT:List TV):∀c,Mo FT GT c:=λ c=>by
 induction c with
 |v i=>exact⟨λ h q=>Ga h q,λ _ q=>q.elim⟩
 |c t=>exact⟨λ h q=>h _ q,λ _ q=>q.elim⟩
 |g k=>exact⟨λ h q=>FX h q,λ _ q=>q.elim⟩
 |bin o a b ia ib=>exact⟨λ h q=>ia.e (λ x q=>ib.e (λ y q=>FS h q) q) q,λ _ q=>q.elim⟩
 |neg a ia=>exact⟨λ h q=>ia.e (λ x q=>gk (λ _ q=>h _ q) q) q,λ _ q=>q.elim⟩
 |not a ia=>exact⟨λ h q=>ia.e (λ x q=>cP (λ _ q=>h _ q) q) q,λ _ q=>q.elim⟩
 |cmp o a b ia ib=>exact⟨λ h q=>ia.e (λ x q=>ib.e (λ y q=>gM h q) q) q,λ _ q=>q.elim⟩
 |cm2 o o' a b c ia ib ic=>exact⟨λ h q=>ia.e (λ x q=>ib.e (λ y q=>gM (λ z q=>cP (λ k q=>jX (λ q=>ic.e (λ w q=>gM h q) q) (λ q=>h _ q) q) q) q) q) q,λ _ q=>q.elim⟩
 |and a b ia ib=>exact⟨λ h q=>ia.e (λ x q=>cP (λ k q=>jX (λ q=>ib.e h q) (λ q=>h _ q) q) q) q,λ _ q=>q.elim⟩
 |or a b ia ib=>exact⟨λ h q=>ia.e (λ x q=>cP (λ k q=>jX (λ q=>h _ q) (λ q=>ib.e h q) q) q) q,λ _ q=>q.elim⟩
 |ite c a b ic ia ib=>exact⟨λ h q=>ic.e (λ x q=>cP (λ k q=>jX (λ q=>ia.e h q) (λ q=>ib.e h q) q) q) q,λ _ q=>q.elim⟩
 |nil=>exact⟨λ _ q=>q.elim,λ h q=>h _ q⟩
 |cons a r ia ir=>exact⟨λ _ q=>q.elim,λ h q=>ia.e (λ t q=>ir.l (λ ts q=>h _ q) q) q⟩
 |tup l il|lst l il=>exact⟨λ h q=>il.l (λ ts ⟨a,b,q⟩=>⟨a,b,h _ q⟩) q,λ _ q=>q.elim⟩
 |ix a b ia ib=>exact⟨λ h q=>ia.e (λ x q=>ib.e (λ y q=>FW h q) q) q,λ _ q=>q.elim⟩
 |sl a lo hi ia il ih=>exact⟨λ h q=>ia.e (λ x q=>il.e (λ y q=>nX (λ p q=>ih.e (λ z q=>nX (λ r q=>FV h q) q) q) q) q) q,λ _ q=>q.elim⟩
 |call f l il=>exact⟨λ h q=>il.l (λ ts q=>let ⟨P,s,q⟩:=q;⟨P,s,λ t p=>⟨(q t p).1,h _ (q t p).2⟩⟩) q,λ _ q=>q.elim⟩
 |bi f l il=>exact⟨λ h q=>il.l (λ ts q=>qT h q) q,λ _ q=>q.elim⟩
 |mxl a b ia ib=>exact⟨λ h q=>ia.e (λ t q=>ib.e (λ u q=>qT h q) q) q,λ _ q=>q.elim⟩
 |trev k a ia|lrng k a ia=>exact⟨λ h q=>ia.e (λ t q=>qT h q) q,λ _ q=>q.elim⟩
 |dk k a ia=>exact⟨λ h q=>FY (λ kvs q=>ia.e (λ y q=>FZ (λ x ⟨t,e,q⟩=>⟨t,e,h _ q⟩) q) q) q,λ _ q=>q.elim⟩
 |ap i f l il=>exact⟨λ h q=>⟨q.1,vX (λ a q=>il.l (λ ts q=>⟨q.1,let ⟨P,s,q⟩:=q.2;⟨P,s,λ t p=>h _ (q t p)⟩⟩) q) q.2⟩,λ _ q=>q.elim⟩
 |cf i f x c ic=>exact⟨λ h q=>⟨q.1,vX (λ a q=>ic.e (λ u q=>⟨q.1,let ⟨P,s,q⟩:=q.2;⟨P,s,λ t p=>h _ (q t p)⟩⟩) q) q.2⟩,λ _ q=>q.elim⟩
 |comp own fv js tg k it e ii ie=>exact⟨λ h q=>ii.l (λ ts q=>iz (λ its q=>⟨q.1,nY (λ t K K' h q=>gN (λ ρ' q=>ie.e (λ y q=>⟨q.1,h _ q.2⟩) q) q) (λ ys q=>h _ q) q.2⟩) q) q,λ _ q=>q.elim⟩
 |compI own fv js tg k it c e ii ic ie=>exact⟨λ h q=>ii.l (λ ts q=>iz (λ its q=>⟨q.1,nY (λ t K K' h q=>gN (λ ρ' q=>ic.e (λ x q=>cP (λ z q=>jX (λ q=>ie.e (λ y q=>⟨q.1,h _ q.2⟩) q) (λ q=>h _ q) q) q) q) q) (λ ys q=>h _ q) q.2⟩) q) q,λ _ q=>q.elim⟩
def ax(c:Cd){K K':TV->Prop}(h:∀t,K t->K' t)(q:wE FT GT c ρ K):wE FT GT c ρ K':=(mo FT GT c).e h q
def bI(c:Cd){K K':List TV->Prop}(h:∀t,K t->K' t)(q:wL FT GT c ρ K):wL FT GT c ρ K':=(mo FT GT c).l h q
end
example (FT:List Tc) (GT:List TV) (K:TV->Prop):wE FT GT (.neg (.v 0)) [Om (.int 3)] K=K (.int (-3)):=rfl
section
variable {J:Hp->Prop}
def r2(X:Cx)(J:Hp->Prop)(p:TV->TV->(TV->Prop)->Prop):R2:=λ x y H1 Q=>∃F H F1 t u,Grow J F H F1 H1/\Rr X.K H F1 H1 t x/\Rr X.K H F1 H1 u y/\p t u λ r=>∀F' H' v,Grow J F H F' H'->Rr X.K H F' H' r v->Q v H'
def dW(h:i2 t u P):∃i j,t=.int i/\u=.int j/\P i j:=by
 cases t<;>cases u<;>first|exact⟨_,_,rfl,rfl,h⟩|exact h.elim
def gm(h:i1 t P):∃i,t=.int i/\P i:=by
 cases t<;>first|exact⟨_,rfl,h⟩|exact h.elim
def iA(h:b1 t P):∃i,t=.bl i/\P i:=by
 cases t<;>first|exact⟨_,rfl,h⟩|exact h.elim
def ja(h:l1 t P):∃l,t.items=Om (Op,l)/\P l:=by
 cases t<;>first|exact⟨_,rfl,h⟩|exact h.elim
def jY(h:s1 t P):∃b l,t.items=Om (b,l)/\P l:=by
 cases t<;>first|exact⟨_,_,rfl,h⟩|exact h.elim
def Rr.lq{K:FG}{l:List TV}(h:Rr K H F' H' t v)(e:t.items=Om (Op,l)):∃a vs,v=.ref a/\RpL K F' H' l vs/\SqL K H' a vs:=by
 obtain⟨a,vs,e,r,q⟩:=h.sq e
 rcases q with ⟨z,_⟩|⟨_,q⟩
 .cases z
 .exact⟨a,vs,e,r,q⟩
def jb(hJ:JS J){K:FG}{Q:VK}{vs:List V}(g:Grow J F H F1 H1)(r:RpL K F1 H1 l vs)(q:∀F' H' v,Grow J F H F' H'->Rr K H F' H' (.tup l) v->Q v H')(p:Os)(hp:H1 p=Oo):Q (.ref p) (Tf H1 p (.tup vs)) :=
 q F1 _ _ (g.trans (.new hJ g.w _ hp)) ⟨p,vs,rfl,.of bT,r.ke (Grow.new hJ g.w _ hp).ke⟩
def Grow.none(g:Grow J F H F1 H1)(h:H1 a=Oo):H a=Oo:=by
 by_cases z:H a=Option.none
 .exact z
 .exact XU h (g.dm a z)
def iB(hJ:JS J){K:FG}{Q:VK}{vs:List V}(g:Grow J F H F1 H1)(r:RpL K F1 H1 l vs)(q:∀F' H' v,Grow J F H F' H'->Rr K H F' H' (.own l) v->Q v H')(p:Os)(hp:H1 p=Oo):Q (.ref p) (Tf H1 p (.lst vs)) :=
 q F1 _ _ (g.trans (.new hJ g.w _ hp)) ⟨p,vs,rfl,g.none hp,λ z=>g.w.d p z hp,bT,r.ke (Grow.new hJ g.w _ hp).ke⟩
def Gb(X:Cx):R2:=λ x y H Q=>∃a k xs,x=.ref a/\y=.int k/\SqT X.K H a xs/\xs≠[]/\(0<=k/\k<2 ^ 63)/\xs.length*k.toNat<=Ou/\(k=1->Q (.ref a) H)/\(k≠1->∀p,H p=Oo->Q (.ref p) (Tf H p (.tup (Ow k.toNat xs).flatten)))
def Gc:TB X (Pa .Mult) (Gb X):=by
 intro Tb s σ H x y v u Q I rx ry h;obtain⟨a,k,xs,rfl,rfl,hH,hx,⟨h1,h2⟩,hz,q1,q2⟩:=h;cases rx;obtain⟨t,rfl⟩:=ry;obtain⟨its,r,pl,_⟩:=I.tuple hH;obtain⟨⟨c,dd,dt,sl⟩,g,hc,n,hd⟩:=id pl;simp only at hc hd;subst hc hd;have hl:=r.length
 have ne:its.toArray.isEmpty=Op:=by
  cases its with
  |nil=>exact XU (r.nil_iff.mp rfl) hx
  |cons _ _=>rfl
 have hz':its.toArray.size*k.toNat<=Ou:=by rw[aY,<- hl];exact hz
 refine uY (T := "tuple") (U := "int") ca ⟨_,g,O⟩ (λ s'=>lx s' k t) Ef F.fills_int_mul ny Eg F.slot_int_index.lookup
  (fJ ny (lx s k t) F.entry_int_rmul (F.args_int_rmul_2 _ _) (Eh k t a its.toArray n dd sl) ⟨g,rfl,⟨_,g,rfl⟩,?_⟩)
 by_cases e1:k=1
 .subst e1;exact fJ qV ⟨_,g,O⟩ qW (qX _ _) (Ei a its.toArray n t dd sl) ⟨g,.ref a,H,I,O,q1 rfl⟩
 have fl:∀(m:Nat) (b:LV),(Ow m its.toArray).foldl (·++·) b.toArray=(b++(Ow m its).flatten).toArray:=by
  intro m
  induction m with
  |zero=>intro b;simp
  |succ m ih=>
   intro b;rw[eR,ij,List.append_toArray,ih,eR,gh,ig]
 have fin:∀bs:LV,bs=(Ow k.toNat its).flatten->EP X Tb σ Q (.ref s.heap.objs.size) { s with heap:=s.heap.push { cls:=.type "tuple",data:=.seq bs.toArray } }:=by
  rintro bs rfl;refine⟨.ref s.heap.objs.size,_,I.laid (t':=s.toks) (o:=.tup (Ow k.toNat xs).flatten) (λ b ob q=>aM _ q) (ao _) ?_,O,q2 e1 _ (I.hok.fresh (ao _))⟩;exact⟨by rw[uX,s1h];exact hz,_,r.rep k.toNat,TupO.new _ _⟩
 by_cases e0:k=0
 .subst e0;exact fJ qV ⟨_,g,O⟩ qW (qX _ _) (Ej a its.toArray n 0 t dd sl Z Z ne) ⟨g,fin [] rfl⟩
 .refine fJ qV ⟨_,g,O⟩ qW (qX _ _) (Ek a its.toArray n k t dd sl Z h2 ne hz') ⟨g,?_⟩;have e:=fl k.toNat [];rw[nr] at e;show EP X Tb σ Q (.ref s.heap.objs.size) { s with heap:=s.heap.push { cls:=.type "tuple",data:=.seq ((Ow k.toNat its.toArray).foldl (·++·) ([]:LV).toArray) } };rw[e];exact fin _ rfl
def Gd(hJ:JS J)(o:QR):TB X (Pa o) (r2 X J (Wa o)):=by
 intro Tb s σ H1 x y v u Q I rx ry h;obtain⟨F,H,F1,t,w,g,rt,rw',p⟩:=h
 cases o with
 |Add=>
  cases t with
  |int i=>
   cases rt
   cases w with
   |int j=>cases rw';exact BZ Tb s σ H1 _ _ v u Q I rx ry (p F1 H1 _ g rfl)
   |_=>exact p.elim
  |tup l=>
   cases w with
   |tup m=>
    obtain⟨a,vs,rfl,q1,r1⟩:=rt;obtain⟨b,ws,rfl,q2,r2⟩:=rw';obtain⟨lz,p⟩:=p;have rr:=r1.append r2;refine DY Tb s σ H1 _ _ v u Q I rx ry ⟨a,b,vs,ws,O,O,q1,q2,by rw[<- r1.length,<- r2.length];exact lz,λ e=>?_,λ _ e=>?_,λ _ _=>jb hJ g rr p⟩
    .subst e;exact p F1 H1 _ g ⟨b,_,rfl,q2,rr⟩
    .subst e;rw[eE] at rr;exact p F1 H1 _ g ⟨a,_,rfl,q1,rr⟩
   |_=>exact p.elim
  |lst l|bor l|own l=>
   obtain⟨m,em,lz,p⟩:=ja p;obtain⟨a,vs,rfl,r1,q1⟩:=rt.lq rfl;obtain⟨b,ws,rfl,r2,q2⟩:=rw'.lq em;exact ET Tb s σ H1 _ _ v u Q I rx ry ⟨a,b,vs,ws,O,O,q1,q2,by rw[<- r1.length,<- r2.length];exact lz,iB hJ g (r1.append r2) p⟩
  |_=>exact p.elim
 |Sub=>
  obtain⟨i,j,rfl,rfl,p⟩:=dW p;cases rt;cases rw';exact Ca Tb s σ H1 _ _ v u Q I rx ry (p F1 H1 _ g rfl)
 |Mult=>
  cases t with
  |int i=>
   cases rt
   cases w with
   |int j=>cases rw';exact EW Tb s σ H1 _ _ v u Q I rx ry ⟨p.1,p.2 F1 H1 _ g rfl⟩
   |_=>exact p.elim
  |own l=>
   cases w with
   |int k=>
    cases rw';obtain⟨a,vs,rfl,n,f,q,r⟩:=rt;obtain⟨k0,lz,p⟩:=p
    have rr:RpL X.K F1 H1 (Ow k.toNat l).flatten (Ow k.toNat vs).flatten:=by
     generalize k.toNat=m
     induction m with
     |zero=>rfl
     |succ m ih=>rw[eR,eR,gh,gh];exact r.append ih
    exact Dt Tb s σ H1 _ _ v u Q I rx ry ⟨a,k,vs,O,O,q,Z,k0.2,by rw[<- r.length];exact lz,iB hJ g rr p⟩
   |_=>exact p.elim
  |tup l=>
   cases w with
   |int k=>
    cases rw';obtain⟨a,vs,rfl,q,r⟩:=rt;obtain⟨l0,k0,lz,p⟩:=p
    have rr:RpL X.K F1 H1 (Ow k.toNat l).flatten (Ow k.toNat vs).flatten:=by
     generalize k.toNat=m
     induction m with
     |zero=>rfl
     |succ m ih=>rw[eR,eR,gh,gh];exact r.append ih
    have vn:vs≠[]:=λ z=>l0 (lO (by rw[r.length,z];rfl))
    exact Gc Tb s σ H1 _ _ v u Q I rx ry ⟨a,k,vs,O,O,q,vn,k0,by rw[← r.length];exact lz,λ e=>by
     subst e;rw[show((1:Int).toNat)=1 from rfl,List.replicate_one,gh,List.flatten_nil,eE] at p
     exact p F1 H1 _ g ⟨a,vs,O,q,r⟩,λ _=>jb hJ g rr p⟩
   |_=>exact p.elim
  |_=>cases w<;>exact p.elim
 |FloorDiv=>
  obtain⟨i,j,rfl,rfl,⟨c1,c2,c3⟩,p⟩:=dW p;cases rt;cases rw';by_cases c:0<j
  .rw[show bc i j=i/j by unfold bc;rw[XT c]] at p;exact Ex Tb s σ H1 _ _ v u Q I rx ry ⟨⟨c,c3⟩,p F1 H1 _ g rfl⟩
  .rw[show bc i j=i.fdiv j by unfold bc;rw[XR c]] at p;exact DD Tb s σ H1 _ _ v u Q I rx ry ⟨⟨c1,c2,Z⟩,p F1 H1 _ g rfl⟩
 |Mod=>
  obtain⟨i,j,rfl,rfl,c1,p⟩:=dW p;cases rt;cases rw';by_cases c:0<j
  .rw[show aQ i j=i%j by unfold aQ;rw[XT c]] at p;exact Cb Tb s σ H1 _ _ v u Q I rx ry ⟨c,p F1 H1 _ g rfl⟩
  .rw[show aQ i j=i.fmod j by unfold aQ;rw[XR c]] at p;exact Cc Tb s σ H1 _ _ v u Q I rx ry ⟨c1,p F1 H1 _ g rfl⟩
 |Pow=>
  obtain⟨i,j,rfl,rfl,c1,p⟩:=dW p;cases rt;cases rw';exact Ce Tb s σ H1 _ _ v u Q I rx ry ⟨c1,p F1 H1 _ g rfl⟩
 |RShift=>
  obtain⟨i,j,rfl,rfl,c1,p⟩:=dW p;cases rt;cases rw';exact Cf Tb s σ H1 _ _ v u Q I rx ry ⟨c1,p F1 H1 _ g rfl⟩
 |BitAnd=>
  obtain⟨i,j,rfl,rfl,p⟩:=dW p;cases rt;cases rw';exact Cg Tb s σ H1 _ _ v u Q I rx ry (p F1 H1 _ g rfl)
 |BitOr=>
  obtain⟨i,j,rfl,rfl,p⟩:=dW p;cases rt;cases rw';exact Ch Tb s σ H1 _ _ v u Q I rx ry (p F1 H1 _ g rfl)
 |BitXor=>
  obtain⟨i,j,rfl,rfl,p⟩:=dW p;cases rt;cases rw';exact Ci Tb s σ H1 _ _ v u Q I rx ry (p F1 H1 _ g rfl)
 |_=>exact p.elim
end
section
variable {J:Hp->Prop}{Tb:LO}{σ:St}{H H1:Hp}{s:Ot}{F F1:Fz}
def FA:Fz:=λ _=>True
def Rr.top{K:FG}(h:Rr K H F1 H1 t v):Rp K FA H1 t.fz v:=by
 have k:Ke K F1 H1 FA H1:=.up λ _ _=>trivial
 cases t with
 |own l=>obtain⟨a,vs,e,_,_,q,r⟩:=h;exact⟨a,vs,e,.inl ⟨trivial,.of q⟩,r.ke k⟩
 |bor l=>obtain⟨a,vs,e,_,q,r⟩:=h;exact⟨a,vs,e,.inl ⟨trivial,.of q⟩,r.ke k⟩
 |_=>exact Rp.ke k h
def qY{K:FG}(h:Rp K F H t v)(f:Uo t=On):gc v=On:=by
 cases t<;>first|(cases h;rfl)|(cases f)
def Ge{K:FG}(h:Rp K F H t v)(g:Rp K F H u w)(f:Uo t=On)(f':Uo u=On):UY v w=eqT t u:=by
 cases t<;>cases u<;>first|(cases h;cases g;rfl)|(cases f;done)|(cases f';done)
theorem qZ{K:FG}:∀ {l:List TV}{vs:List V},RpL K F H l vs->(∀x∈l,Uo x=On)->vs.all gc=On
 |[],_,h,_=>by cases h;rfl
 |t::ts,_,⟨v,r,e,h1,h2⟩,f=>by subst e;rw[cK,qY h1 (f t on),qZ h2 λ x hx=>f x (by simp[hx])];rfl
theorem rb{K:FG}(ht:Rp K F H t v)(f:Uo t=On):∀ {l:List TV}{vs:List V},RpL K F H l vs->(∀x∈l,Uo x=On)->VW v vs=inT t l
 |[],_,h,_=>by cases h;rfl
 |u::ts,_,⟨w,r,e,h1,h2⟩,g=>by
  subst e;have ih:=rb ht f h2 λ x hx=>g x (by simp[hx]);unfold VW inT at *;rw[lj,lj,ih,Ge h1 ht (g u on) f]
theorem vZ(I:Inv X Tb σ H s){A:OD}{vs ws:List V}(hu:A.units+99<Pv)(d:dp 99 (.tup l))(q:SqT X.K H a vs)(r:RpL X.K F H l vs)(q':SqT X.K H b ws)(r':RpL X.K F H m ws) :
  ∃(us us2:LV),s.heap.IsTuple a us.toArray/\s.heap.IsTuple b us2.toArray/\(∀j (h1:j<us.toArray.size) (h2:j<us2.toArray.size),PU A.in1 s us.toArray[j] us2.toArray[j] (eqT (l.getD j .non) (m.getD j .non))) /\
   ((OE (min us.toArray.size us2.toArray.size)).all (λ j=>eqT (l.getD j .non) (m.getD j .non))&&us.toArray.size == us2.toArray.size)=eqTL l m:=by
 obtain⟨us,r1,p1,_⟩:=I.tuple q;obtain⟨us2,r2,p2,_⟩:=I.tuple q';have d':∀x∈l,dp 98 x:=d;refine⟨us,us2,p1,p2,λ j k1 k2=>?_,?_⟩
 .obtain⟨z1,h1,r1',m1⟩:=iu r r1 k1;obtain⟨z2,h2,r2',_⟩:=iu r' r2 k2;exact vV I 98 A.in1 _ _ z1 z2 _ _ (by show A.units+1+98<Pv;lia) (d' _ m1) h1 h2 r1' r2'
 .have e1:us.toArray.size=l.length:=by simp[r.length,r1.length]
  have e2:us2.toArray.size=m.length:=by simp[r'.length,r2.length]
  rw[e1,e2];by_cases c:l.length=m.length
  .rw[<- c,Nat.min_self,jU c];simp
  .rw[jT c];have c':(l.length == m.length)=Op:=by simpa using c
   rw[c',lN]
theorem wa(I:Inv X Tb σ H s){A:OD}{vs ws:List V}(hu:A.units+99<Pv)(d:dp 99 (.lst l))(q:SqL X.K H a vs)(r:RpL X.K F H l vs)(q':SqL X.K H b ws)(r':RpL X.K F H m ws) :
  ∃(us us2:LV),s.heap.IsList a us.toArray/\s.heap.IsList b us2.toArray/\(∀j (h1:j<us.toArray.size) (h2:j<us2.toArray.size),PU A.in1 s us.toArray[j] us2.toArray[j] (eqT (l.getD j .non) (m.getD j .non)))/\us.toArray.size=l.length/\us2.toArray.size=m.length:=by
 obtain⟨us,r1,p1,_⟩:=I.list q;obtain⟨us2,r2,p2,_⟩:=I.list q';have d':∀x∈l,dp 98 x:=d;refine⟨us,us2,p1.isList,p2.isList,λ j k1 k2=>?_,by simp[r.length,r1.length],by simp[r'.length,r2.length]⟩;obtain⟨z1,h1,r1',m1⟩:=iu r r1 k1;obtain⟨z2,h2,r2',_⟩:=iu r' r2 k2;exact vV I 98 A.in1 _ _ z1 z2 _ _ (by show A.units+1+98<Pv;lia) (d' _ m1) h1 h2 r1' r2'
def WC(X:Cx)(J:Hp->Prop)(p:TV->TV->(TV->Prop)->Prop):R2:=λ x y H1 Q=>∃F H F1 t u,Grow J F H F1 H1/\Rr X.K H F1 H1 t x/\Rr X.K H F1 H1 u y/\p t u λ r=>∀v,Rr X.K H F1 H1 r v->Q v H1
def Gh(hu:X.A.units+120<Pv):TB X (OV .Eq) (WC X J (iw .Eq)):=by
 intro Tb s σ H1 x y v u Q I rx ry h;obtain⟨F,H,F1,t,w,g,rt,rw',c,p⟩:=h;replace p:=p _ rfl;have ht:=rt.top;have hw:=rw'.top;generalize t.fz=t at *;generalize w.fz=w at *;clear rt rw';have fin:EP X Tb σ Q (.bool (eqT t w)) s:=⟨.bl _,H1,I,rfl,p⟩
 cases t with
 |tup l=>
  cases w with
  |tup m=>
   obtain⟨a,vs,rfl,q,r⟩:=ht;obtain⟨b,ws,rfl,q',r'⟩:=hw;cases rx;cases ry;obtain⟨us,us2,p1,p2,e,z⟩:=vZ I (A:=X.A) Z c q r q' r';exact SeqAt.eq_tupleAt p1 p2 Z e (by rw[z];exact fin)
  |_=>exact c.elim
 |lst l=>
  cases w with
  |lst m=>
   obtain⟨a,vs,rfl,q,r⟩:=ht;obtain⟨b,ws,rfl,q',r'⟩:=hw;cases rx;cases ry;obtain⟨us,us2,p1,p2,e,e1,e2⟩:=wa I (A:=X.A) Z c q.sq r q'.sq r';by_cases k:l.length=m.length
   .exact SeqAt.eq_listAt p1 p2 (by rw[e1,e2,k]) Z e (by rw[e1,jU k];exact fin)
   .refine SeqAt.eq_list_lengthsAt p1 p2 (by rw[e1,e2];simpa using k) Z ?_;rw[nV,jT k] at fin;exact fin
  |_=>exact c.elim
 |int i=>
  cases w with
  |int j=>cases ht;cases hw;exact iQ Tb s σ H1 _ _ v u Q I rx ry p
  |non|str j=>cases ht;cases hw;exact iQ Tb s σ H1 _ _ v u Q I rx ry (show du _ _=On/\_ from ⟨rfl,p⟩)
  |_=>exact c.elim
 |str i=>
  cases w with
  |str j=>cases ht;cases hw;exact iQ Tb s σ H1 _ _ v u Q I rx ry p
  |non|int j=>cases ht;cases hw;exact iQ Tb s σ H1 _ _ v u Q I rx ry (show du _ _=On/\_ from ⟨rfl,p⟩)
  |_=>exact c.elim
 |bl i=>
  cases w with
  |bl j=>cases ht;cases hw;refine iQ Tb s σ H1 _ _ v u Q I rx ry (show du _ _=On/\_ from ⟨rfl,?_⟩);cases i<;>cases j<;>exact p
  |non=>cases ht;cases hw;exact iQ Tb s σ H1 _ _ v u Q I rx ry (show du _ _=On/\_ from ⟨rfl,p⟩)
  |_=>exact c.elim
 |non=>
  cases w with
  |non|int j|str j|bl j=>cases ht;cases hw;exact iQ Tb s σ H1 _ _ v u Q I rx ry (show du _ _=On/\_ from ⟨rfl,p⟩)
  |_=>exact c.elim
 |_=>exact ht.elim
def Gi(hu:X.A.units+120<Pv):TB X (OV .NotEq) (WC X J (iw .NotEq)):=by
 intro Tb s σ H1 x y v u Q I rx ry h;obtain⟨F,H,F1,t,w,g,rt,rw',c,p⟩:=h;replace p:=p _ rfl;have ht:=rt.top;have hw:=rw'.top;generalize t.fz=t at *;generalize w.fz=w at *;clear rt rw';have fin:EP X Tb σ Q (.bool (!eqT t w)) s:=⟨.bl _,H1,I,rfl,p⟩
 cases t with
 |tup l=>
  cases w with
  |tup m=>
   obtain⟨a,vs,rfl,q,r⟩:=ht;obtain⟨b,ws,rfl,q',r'⟩:=hw;cases rx;cases ry;obtain⟨us,us2,p1,p2,e,z⟩:=vZ I (A:=X.A) Z c q r q' r';exact SeqAt.RcNeAt.tuples p1 p2 Z e _ _ _ _ (by rw[z];exact fin)
  |_=>exact c.elim
 |lst l=>
  cases w with
  |lst m=>
   obtain⟨a,vs,rfl,q,r⟩:=ht;obtain⟨b,ws,rfl,q',r'⟩:=hw;cases rx;cases ry;obtain⟨us,us2,p1,p2,e,e1,e2⟩:=wa I (A:=X.A) Z c q.sq r q'.sq r';by_cases k:l.length=m.length
   .exact SeqAt.RcNeAt.lists p1 p2 (by rw[e1,e2,k]) Z e _ _ _ _ (by rw[e1,jU k];exact fin)
   .refine SeqAt.RcNeAt.lists_lengths p1 p2 (by rw[e1,e2];simpa using k) Z _ _ _ _ ?_;rw[nV,jT k] at fin;exact fin
  |_=>exact c.elim
 |int i=>
  cases w with
  |int j=>cases ht;cases hw;exact iR Tb s σ H1 _ _ v u Q I rx ry p
  |non|str j=>cases ht;cases hw;exact iR Tb s σ H1 _ _ v u Q I rx ry (show du _ _=On/\_ from ⟨rfl,p⟩)
  |_=>exact c.elim
 |str i=>
  cases w with
  |str j=>cases ht;cases hw;exact iR Tb s σ H1 _ _ v u Q I rx ry p
  |non|int j=>cases ht;cases hw;exact iR Tb s σ H1 _ _ v u Q I rx ry (show du _ _=On/\_ from ⟨rfl,p⟩)
  |_=>exact c.elim
 |bl i=>
  cases w with
  |bl j=>cases ht;cases hw;refine iR Tb s σ H1 _ _ v u Q I rx ry (show du _ _=On/\_ from ⟨rfl,?_⟩);cases i<;>cases j<;>exact p
  |non=>cases ht;cases hw;exact iR Tb s σ H1 _ _ v u Q I rx ry (show du _ _=On/\_ from ⟨rfl,p⟩)
  |_=>exact c.elim
 |non=>
  cases w with
  |non|int j|str j|bl j=>cases ht;cases hw;exact iR Tb s σ H1 _ _ v u Q I rx ry (show du _ _=On/\_ from ⟨rfl,p⟩)
  |_=>exact c.elim
 |_=>exact ht.elim
def jZ(hu:X.A.units+120<Pv)(o:Qo):TB X (OV o) (WC X J (iw o)):=by
 cases o with
 |Eq=>exact Gh hu
 |NotEq=>exact Gi hu
 |In=>
  intro Tb s σ H1 x y v u Q I rx ry h;obtain⟨F,H,F1,t,w,g,rt,rw',p⟩:=h;obtain⟨b,l,e,f1,f2,p⟩:=jY p;obtain⟨a,vs,rfl,r,q⟩:=rw'.sq e
  have ht:Rp X.K F1 H1 t x:=by cases t<;>first|exact rt|cases f1
  refine Dh Tb s σ H1 _ _ v u Q I rx ry ⟨a,vs,O,?_,qY ht f1,qZ r f2,?_⟩
  .rcases q with ⟨_,q⟩|⟨_,q⟩
   .exact .inr q
   .exact .inl q
  .rw[XR ca,rb ht f1 r f2];exact p _ rfl
 |NotIn=>
  intro Tb s σ H1 x y v u Q I rx ry h;obtain⟨F,H,F1,t,w,g,rt,rw',p⟩:=h;obtain⟨b,l,e,f1,f2,p⟩:=jY p;obtain⟨a,vs,rfl,r,q⟩:=rw'.sq e
  have ht:Rp X.K F1 H1 t x:=by cases t<;>first|exact rt|cases f1
  refine Di Tb s σ H1 _ _ v u Q I rx ry ⟨a,vs,O,?_,qY ht f1,qZ r f2,?_⟩
  .rcases q with ⟨_,q⟩|⟨_,q⟩
   .exact .inr q
   .exact .inl q
  .rw[XT rfl,rb ht f1 r f2];exact p _ rfl
 |Is=>
  intro Tb s σ H1 x y v u Q I rx ry h;obtain⟨F,H,F1,t,w,g,rt,rw',rfl,p⟩:=h;cases rw';have hx:=rt.top;refine Cs Tb s σ H1 _ _ v u Q I rx ry ⟨O,?_⟩;replace p:=p _ rfl
  cases t<;>first|exact OY hx|(cases hx;exact p)|(obtain⟨a,vs,rfl,_⟩:=hx;exact p)
 |IsNot=>
  intro Tb s σ H1 x y v u Q I rx ry h;obtain⟨F,H,F1,t,w,g,rt,rw',rfl,p⟩:=h;cases rw';have hx:=rt.top;refine Cu Tb s σ H1 _ _ v u Q I rx ry ⟨O,?_⟩;replace p:=p _ rfl
  cases t<;>first|exact OY hx|(cases hx;exact p)|(obtain⟨a,vs,rfl,_⟩:=hx;exact p)
 |Lt=>intro Tb s σ H1 x y v u Q I rx ry h;obtain⟨F,H,F1,t,w,g,rt,rw',p⟩:=h;obtain⟨i,j,rfl,rfl,p⟩:=dW p;cases rt;cases rw';exact Cn Tb s σ H1 _ _ v u Q I rx ry (p _ rfl)
 |LtE=>intro Tb s σ H1 x y v u Q I rx ry h;obtain⟨F,H,F1,t,w,g,rt,rw',p⟩:=h;obtain⟨i,j,rfl,rfl,p⟩:=dW p;cases rt;cases rw';exact Co Tb s σ H1 _ _ v u Q I rx ry (p _ rfl)
 |Gt=>
  intro Tb s σ H1 x y v u Q I rx ry h;obtain⟨F,H,F1,t,w,g,rt,rw',p⟩:=h;cases t<;>cases w<;>try exact p.elim
  .cases rt;cases rw';exact Cp Tb s σ H1 _ _ v u Q I rx ry (p _ rfl)
 |GtE=>intro Tb s σ H1 x y v u Q I rx ry h;obtain⟨F,H,F1,t,w,g,rt,rw',p⟩:=h;obtain⟨i,j,rfl,rfl,p⟩:=dW p;cases rt;cases rw';exact Cq Tb s σ H1 _ _ v u Q I rx ry (p _ rfl)
def Gj{K:FG}{vs:List V}(r:RpL K F H l vs)(e:TQ l i=Om t):∃v,TQ vs i=Om v/\Rp K F H t v:=by
 unfold TQ at *;rw[<- r.length]
 cases q:UP l.length i with
 |none=>rw[q] at e;cases e
 |some j=>rw[q] at e;exact r.get e
def Gk:IxR X (r2 X J Wc):=by
 intro value slice Tb s σ H1 x y v u Q I rx ry h hs;obtain⟨F,H,F1,t,w,g,rt,rw',p⟩:=h
 have key:∀b l,t.items=Om (b,l)->(i1 w λ i=>∃x,TQ l i=Om x/\∀F' H' v,Grow J F H F' H'->Rr X.K H F' H' x v->Q v H')->Ov (Oy X.prog X.w) X.A (Qx value slice v u) (EP X Tb σ Q) X.xe s:=λ b l e p=>by
  obtain⟨i,rfl,z,ez,p⟩:=gm p;cases rw';obtain⟨a,vs,rfl,r,q⟩:=rt.sq e;obtain⟨zv,e1,rz⟩:=Gj r ez;have fin:=p F1 H1 _ g (Rr.of rz)
  rcases q with ⟨_,q⟩|⟨_,q⟩
  .exact qu value slice Tb s σ H1 _ _ v u Q I rx ry (.inr (.inl ⟨a,vs,i,zv,O,O,q,e1,fin⟩)) hs
  .exact qu value slice Tb s σ H1 _ _ v u Q I rx ry (.inl ⟨a,vs,i,zv,O,O,q,e1,fin⟩) hs
 cases t with
 |str x=>
  obtain⟨i,rfl,lz,c,ec,p⟩:=gm p;cases rw';cases rt;exact qu value slice Tb s σ H1 _ _ v u Q I rx ry (.inr (.inr ⟨x,i,c,O,O,lz,ec,p F1 H1 _ g rfl⟩)) hs
 |tup l|lst l|bor l|own l=>exact key _ _ rfl p
 |_=>exact p.elim
def rsl(X:Cx)(J:Hp->Prop):V->Option Int->Option Int->Hp->VK->Prop:=λ x lo hi H1 Q=>∃F H F1 t,Grow J F H F1 H1/\Rr X.K H F1 H1 t x /\
 Wb t lo hi λ r=>∀F' H' v,Grow J F H F' H'->Rr X.K H F' H' r v->Q v H'
def re{K:FG}{vs:List V}(r:RpL K F H l vs)(lo hi:Option Int):RpL K F H (ag l lo hi) (gE vs lo hi):=by
 unfold ag gE;rw[<- r.length];exact(r.drop _).take _
def Gm(hJ:JS J):VC X (rsl X J):=by
 intro Tb s σ H1 x v vl vu lo hi sl Q I rx hs pl pu h;obtain⟨F,H,F1,t,g,rt,p⟩:=h
 have key:∀l,t.items=Om (Op,l)->(∀F' H' v,Grow J F H F' H'->Rr X.K H F' H' (.own (ag l lo hi)) v->Q v H')->∃T id,Ps (.type T) "__getitem__"=OM (Om (.builtin id))/\s.TypeIs v T/\Ov (Oy X.prog X.w) X.A (PY v (.ref sl)) (EP X Tb σ Q) X.xe s:=λ l e p=>by
  obtain⟨a,vs,rfl,r,q⟩:=rt.lq e;exact Dg Tb s σ H1 _ v vl vu lo hi sl Q I rx hs pl pu ⟨a,vs,O,q,iB hJ g (re r lo hi) p⟩
 cases t with
 |tup l=>
  obtain⟨a,xs,rfl,ha,r⟩:=rt;by_cases c:_H.sIx xs.length 0 lo=0/\_H.sIx xs.length xs.length hi=xs.length
  .cases rx;obtain⟨its,rr,ht,hz⟩:=I.tuple ha;have Tj:its.toArray.size=xs.length:=by rw[aY];exact rr.length.symm
   refine⟨"tuple",_,PyProof.Rows.slot_tuple_getitem.lookup,ht.typeIs,_H.whole_tup ht hs pl pu (by rw[Tj];exact c.1) (by rw[Tj];exact c.2) ⟨.ref a,H1,I,O,p F1 H1 _ g ⟨a,xs,O,ha,?_⟩⟩⟩;have z:=re r lo hi;unfold gE at z
   rwa [c.1,c.2,RT,Nat.sub_zero,bQ] at z
  .exact CV Tb s σ H1 _ v vl vu lo hi sl Q I rx hs pl pu ⟨a,xs,O,ha,c,jb hJ g (re r lo hi) p⟩
 |str z=>cases rt;exact Fc Tb s σ H1 _ v vl vu lo hi sl Q I rx hs pl pu ⟨z,rfl,p.1,p.2 F1 H1 _ g rfl⟩
 |lst l|bor l|own l=>exact key l rfl p
 |_=>exact p.elim
end
section
variable {J:Hp->Prop}
def wb(X:Cx):V->V->Hp->VK->Prop:=λ x y H Q=>∃(a b:Os) (xs ys:List V),x=.ref a/\y=.ref b/\SqT X.K H a xs/\SqT X.K H b ys/\(ys.length<=xs.length->Q (.ref a) H)/\(xs.length<ys.length->Q (.ref b) H)
def Gn{p kp pos p2:Pos}(hc:X.calm=On)(hg:Gl X "max")(hm:X.mg "max"=Oo)(hg2:Gl X "len")(hm2:X.mg "len"=Oo)(he:PE X e te)(hf:PE X f tf)(hs:autoParam (OI [e,f] X.env=(Op,eval e X.env)::OI [f] X.env) A8._auto_1)(hs2:autoParam (OI [f] X.env=[(Op,eval f X.env)]) A8._auto_1):PE X (.Call (.Name "max" p) [e,f] [⟨Om (ON "key"),.Name "len" p2,kp⟩] pos) (FO (wb X) te tf):=by
 intro Tb s σ H Q I h;refine jG (eh I hg hm boot_max ?_);have hA:=(cY he (cY hf (pa_nil (X:=X)) hs2) hs) pos Tb s σ H (λ vs H1=>match vs with|[x,y]=>wb X x y H1 Q|_=>False) I h;refine callWith_kw (Tl hA λ us s1 ⟨vs,H1,I1,r1,q1⟩=>?_) (by rw[hs,hs2];rfl) (by rw[hs,hs2];rfl)
 match vs,q1 with
 |[x0,y0],q1=>
  obtain⟨u,v,rfl,ru,rv⟩:=mX r1;refine kws_cons (eh I1 hg2 hm2 boot_len (kws_nil ?_));obtain⟨a,b,xs,ys,rfl,rfl,ha,hb,qa,qb⟩:=q1;cases (show u=OP a from ru);cases (show v=OP b from rv);obtain⟨i1,t1,p1,y1⟩:=I1.tuple ha;obtain⟨i2,t2,p2',y2⟩:=I1.tuple hb;have l1:=t1.length;have l2:=t2.length;have hsz:Ou=16777216:=jF;refine FN (I1.ok.hd hc) p1 p2' (by rw[aY];omega) (by rw[aY];omega) λ v h' tk hv kk=>?_;simp only[aY] at hv
  rcases hv with ⟨rfl,hl⟩|⟨rfl,hl⟩
  .exact⟨.ref a,H1,I1.kept kk,O,qa (by omega)⟩
  .exact⟨.ref b,H1,I1.kept kk,O,qb (by omega)⟩
def rL(X:Cx)(J:Hp->Prop)(p:List TV->(TV->Prop)->Prop):List V->Hp->VK->Prop:=λ xs H1 Q=>∃F H F1 ts,Grow J F H F1 H1/\RrL X.K H F1 H1 ts xs/\p ts λ r=>∀F' H' v,Grow J F H F' H'->Rr X.K H F' H' r v->Q v H'
noncomputable def WZ:BI->Value
 |.len=>.builtin "len" |.tuple=>.type "tuple" |.list=>.type "list" |.sum=>.builtin "sum" |.max=>.builtin "max" |.min=>.builtin "min" |.abs=>.builtin "abs" |.int=>.type "int" |.str=>.type "str"
 |.sorted=>.builtin "sorted" |.any=>.builtin "any" |.all=>.builtin "all" |_=>.none
def ka{K:FG}{t:TV}(h:RrL K H F1 H1 [t] xs):∃x,xs=[x]/\Rr K H F1 H1 t x:=by
 cases h with
 |cons r q=>cases q;exact⟨_,rfl,r⟩
def rf{K:FG}{t u:TV}(h:RrL K H F1 H1 [t,u] xs):∃x y,xs=[x,y]/\Rr K H F1 H1 t x/\Rr K H F1 H1 u y:=by
 cases h with
 |cons r q=>obtain⟨y,rfl,r'⟩:=ka q;exact⟨_,y,rfl,r,r'⟩
def Go(h:rL X J p xs H1 Q)(n:∀ts K,p ts K->ts.length=1):∃F H F1 t x,xs=[x]/\Grow J F H F1 H1/\Rr X.K H F1 H1 t x/\p [t] λ r=>∀F' H' v,Grow J F H F' H'->Rr X.K H F' H' r v->Q v H':=by
 obtain⟨F,H,F1,ts,g,r,q⟩:=h
 match ts,n _ _ q with
 |[t],_=>obtain⟨x,rfl,rx⟩:=ka r;exact⟨F,H,F1,t,x,rfl,g,rx,q⟩
def rg{K:FG}{b:Bool}{vs:List V}(q:(b=On/\SqT K H' a vs)\/(b=Op/\SqL K H' a vs)):SqL K H' a vs\/SqT K H' a vs:=q.elim (λ z=>.inr z.2) λ z=>.inl z.2
def bi1{f:BI}(h:f=.len\/f=.tuple\/f=.list\/f=.sum\/f=.abs\/f=.int\/f=.sorted\/f=.any):∀ts K,UH f ts K->ts.length=1:=by
 intro ts K q
 rcases ts with _|⟨t,_|⟨u,_|⟨w,r⟩⟩⟩
 .rcases h with rfl|rfl|rfl|rfl|rfl|rfl|rfl|rfl<;>exact q.elim
 .rfl
 .rcases h with rfl|rfl|rfl|rfl|rfl|rfl|rfl|rfl<;>exact q.elim
 .rcases h with rfl|rfl|rfl|rfl|rfl|rfl|rfl|rfl<;>exact q.elim
def iC(hJ:JS J)(hc:X.calm=On)(f:BI)(h:f=.len\/f=.tuple\/f=.list\/f=.sum\/f=.abs\/f=.int\/f=.sorted\/f=.any):bY X (WZ f) (rL X J (UH f)):=by
 intro Tb s σ H1 xs us Q I rs hh;obtain⟨F,H,F1,t,x,rfl,g,rt,p⟩:=Go hh (bi1 h)
 rcases h with rfl|rfl|rfl|rfl|rfl|rfl|rfl|rfl
 .have key:∀b l,t.items=Om (b,l)->(∀F' H' v,Grow J F H F' H'->Rr X.K H F' H' (.int l.length) v->Q v H')->Ov (Oy X.prog X.w) X.A (call (WZ .len) us) (EP X Tb σ Q) X.xe s:=λ b l e p=>by
   obtain⟨a,vs,rfl,r,q⟩:=rt.sq e;exact Dj Tb s σ H1 _ us Q I rs ⟨a,vs,O,rg q,by rw[<- r.length];exact p F1 H1 _ g rfl⟩
  cases t with
  |str z=>cases rt;exact Dk Tb s σ H1 _ us Q I rs ⟨z,rfl,p.1,p.2 F1 H1 _ g rfl⟩
  |tup l|lst l|bor l|own l=>exact key _ _ rfl p
  |_=>exact p.elim
 .obtain⟨b,l,e,p⟩:=jY p;obtain⟨a,vs,rfl,r,q⟩:=rt.sq e;refine Dm Tb s σ H1 _ us Q I rs ⟨a,vs,O,?_⟩
  rcases q with ⟨_,q⟩|⟨_,q⟩
  .exact .inr ⟨q,p F1 H1 _ g ⟨a,vs,O,q,r⟩⟩
  .exact .inl ⟨q,jb hJ g r p⟩
 .obtain⟨b,l,e,p⟩:=jY p;obtain⟨a,vs,rfl,r,q⟩:=rt.sq e;exact Dl Tb s σ H1 _ us Q I rs ⟨a,vs,O,rg q,iB hJ g r p⟩
 .obtain⟨l,e,ns,rfl,p⟩:=ja p;obtain⟨a,vs,rfl,r,q⟩:=rt.lq e;cases r.ints;exact Ea hc Tb s σ H1 _ us Q I rs ⟨a,ns,O,q,p F1 H1 _ g rfl⟩
 .obtain⟨i,rfl,p⟩:=gm p;cases rt;exact CA Tb s σ H1 _ us Q I rs ⟨i,O,p F1 H1 _ g rfl⟩
 .cases t with
  |int i=>cases rt;exact uw Tb s σ H1 _ us Q I rs (.inl ⟨i,rfl,p F1 H1 _ g rfl⟩)
  |bl i=>cases rt;exact uw Tb s σ H1 _ us Q I rs (.inr ⟨i,rfl,p F1 H1 _ g rfl⟩)
  |_=>exact p.elim
 .obtain⟨b,l,e,ns,rfl,n64,p⟩:=jY p;obtain⟨a,vs,rfl,r,q⟩:=rt.sq e;cases r.ints;exact EX Tb s σ H1 _ us Q I rs ⟨a,ns,O,rg q,n64,λ ns' p1 p2=>iB hJ g (RpL.ofInts ns') (p ns' p1 p2)⟩
 .obtain⟨l,e,ns,rfl,p⟩:=ja p;obtain⟨a,vs,rfl,r,q⟩:=rt.lq e;cases r.bls;exact Fd hc Tb s σ H1 _ us Q I rs ⟨a,ns,O,q,p F1 H1 _ g rfl⟩
def Gp(hc:X.calm=On):bY X (.builtin "max") (rL X J (UH .max)):=by
 intro Tb s σ H1 xs us Q I rs h;obtain⟨F,H,F1,ts,g,r,p⟩:=h
 rcases ts with _|⟨t,_|⟨u,_|⟨w,r⟩⟩⟩
 .exact p.elim
 .obtain⟨x,rfl,rt⟩:=ka r;obtain⟨l,e,ns,rfl,l0,p⟩:=ja p;obtain⟨a,vs,rfl,r,q⟩:=rt.lq e;cases r.ints;exact FH hc Tb s σ H1 _ us Q I rs ⟨a,ns,O,q,l0,λ M m z=>p M m z F1 H1 _ g rfl⟩
 .obtain⟨x,y,rfl,rt,ru⟩:=rf r;obtain⟨i,j,rfl,rfl,p⟩:=dW p;cases rt;cases ru;exact CB hc Tb s σ H1 _ us Q I rs ⟨i,j,O,p F1 H1 _ g rfl⟩
 .exact p.elim
def Gq(hc:X.calm=On):bY X (.builtin "min") (rL X J (UH .min)):=by
 intro Tb s σ H1 xs us Q I rs h;obtain⟨F,H,F1,ts,g,r,p⟩:=h
 rcases ts with _|⟨t,_|⟨u,_|⟨w,r⟩⟩⟩
 .exact p.elim
 .obtain⟨x,rfl,rt⟩:=ka r;obtain⟨l,e,ns,rfl,l0,p⟩:=ja p;obtain⟨a,vs,rfl,r,q⟩:=rt.lq e;cases r.ints;exact FF hc Tb s σ H1 _ us Q I rs ⟨a,ns,O,q,l0,λ M m z=>p M m z F1 H1 _ g rfl⟩
 .obtain⟨x,y,rfl,rt,ru⟩:=rf r;obtain⟨i,j,rfl,rfl,p⟩:=dW p;cases rt;cases ru;exact CC hc Tb s σ H1 _ us Q I rs ⟨i,j,O,p F1 H1 _ g rfl⟩
 .exact p.elim
end
section
variable {K:FG}{J:Hp->Prop}
def Vw(K:FG)(F:Fz)(H:Hp)(t:TV)(x:V):Prop:=match t.items with
 |some (On,l)=>∃a vs,x=.ref a/\SqT K H a vs/\RpL K F H l vs
 |some (Op,l)=>∃a vs,x=.ref a/\SqL K H a vs/\RpL K F H l vs
 |none=>Rp K F H t x
def Vw.l{t:TV}{l:List TV}(h:Vw K F H t x)(e:t.items=Om (Op,l)):∃a vs,x=.ref a/\SqL K H a vs/\RpL K F H l vs:=by
 unfold Vw at h;rw[e] at h;exact h
def Vw.t{t:TV}{l:List TV}(h:Vw K F H t x)(e:t.items=Om (On,l)):∃a vs,x=.ref a/\SqT K H a vs/\RpL K F H l vs:=by
 unfold Vw at h;rw[e] at h;exact h
def Rr.vw{H F1 H1}(h:Rr K H F1 H1 t x):Vw K F1 H1 t x:=by
 unfold Vw
 cases e:t.items with
 |none=>cases t<;>first|exact h|cases e
 |some p=>
  obtain⟨b,l⟩:=p;obtain⟨a,vs,rfl,r,q⟩:=h.sq e;cases b
  .rcases q with ⟨z,_⟩|⟨_,q⟩
   .cases z
   .exact⟨a,vs,O,q,r⟩
  .rcases q with ⟨_,q⟩|⟨z,_⟩
   .exact⟨a,vs,O,q,r⟩
   .cases z
def Rp.vw{F1 H1}{t:TV}(h:Rp K F1 H1 t.fz x):Vw K F1 H1 t x:=by
 cases t with
 |bor l|own l|lst l=>obtain⟨a,vs,e,q,r⟩:=h;exact⟨a,vs,e,q.sq,r⟩
 |_=>exact h
structure TN (K:FG)(J:Hp->Prop)(Jt:It)(its ts:List TV)(xs:List V):Prop where
 go:∀F H i,Wd J F H->Py (Vw K F H) ts xs->i<its.length->Jt.go i H
 stop:∀F H,Wd J F H->Py (Vw K F H) ts xs->Jt.stop its.length H
 yld:∀F H i x H',Wd J F H->Py (Vw K F H) ts xs->i<its.length->Jt.yld i H x H'->∃t,its[i]?=Om t/\Grow J F H F H'/\Rp K F H' t x
def dF{t:TV}{x:V}(h:Py (Vw K F H) [t] [x]):Vw K F H t x:=by cases h with|cons r _=>exact r
def fN{α:Type}{l:List α}{i:Nat}(h:i<l.length):∃x,l[i]?=Om x:=⟨_,aZ h⟩
theorem Gr{t:TV}{l:List TV}(e:t.items=Om (Op,l)):TN K J (Wt K a) l [t] [.ref a] where
 go F H i w h hi:=by
  obtain⟨b,vs,eb,q,r⟩:=(dF h).l e;cases eb;obtain⟨x,ex⟩:=fN (l:=vs) (by rw[<- r.length];exact hi);exact⟨vs,x,q,ex⟩
 stop F H w h:=by
  obtain⟨b,vs,eb,q,r⟩:=(dF h).l e;cases eb;exact⟨vs,q,by rw[r.length];exact ao _⟩
 yld F H i x H' w h hi y:=by
  obtain⟨b,vs,eb,q,r⟩:=(dF h).l e;cases eb;obtain⟨rfl,y⟩:=y;obtain⟨t,et⟩:=fN hi;obtain⟨v,ev,rv⟩:=r.get et;have:=y vs q;rw[ev] at this;cases this;exact⟨t,et,.refl w,rv⟩
theorem Gs{t:TV}{l:List TV}(e:t.items=Om (On,l)):TN K J (Wu K a) l [t] [.ref a] where
 go F H i w h hi:=by
  obtain⟨b,vs,eb,q,r⟩:=(dF h).t e;cases eb;obtain⟨x,ex⟩:=fN (l:=vs) (by rw[<- r.length];exact hi);exact⟨vs,x,q,ex⟩
 stop F H w h:=by
  obtain⟨b,vs,eb,q,r⟩:=(dF h).t e;cases eb;exact⟨vs,q,by rw[r.length];exact ao _⟩
 yld F H i x H' w h hi y:=by
  obtain⟨b,vs,eb,q,r⟩:=(dF h).t e;cases eb;obtain⟨rfl,y⟩:=y;obtain⟨t,et⟩:=fN hi;obtain⟨v,ev,rv⟩:=r.get et;have:=y vs q;rw[ev] at this;cases this;exact⟨t,et,.refl w,rv⟩
theorem Gu(lo:Int)(n:Nat):TN K J (VU lo n) ((OE n).map λ k=>.int (lo+(k:Nat))) ts xs where
 go F H i w h hi:=by show i<n;simpa using hi
 stop F H w h:=by show n<=_;simp
 yld F H i x H' w h hi y:=by
  obtain⟨rfl,rfl⟩:=y;have hi':i<n:=by simpa using hi
  exact⟨.int (lo+(i:Nat)),by rw[bh,nZ hi'];rfl,.refl w,O⟩
theorem Gv(lo st:Int)(n:Nat):TN K J (WA lo st n) ((OE n).map λ k=>.int (lo+(k:Nat)*st)) ts xs where
 go F H i w h hi:=by show i<n;simpa using hi
 stop F H w h:=by show n<=_;simp
 yld F H i x H' w h hi y:=by
  obtain⟨rfl,rfl⟩:=y;have hi':i<n:=by simpa using hi
  exact⟨.int (lo+(i:Nat)*st),by rw[bh,nZ hi'];rfl,.refl w,O⟩
def Gw{α:Type}{l:List α}{i:Nat}(h:i<l.length):l.reverse[i]?=l[l.length-1-i]?:=lG h
theorem Gy{t:TV}{l:List TV}{n:Nat}(e:t.items=Om (On,l))(hn:n=l.length):TN K J (nC K a n) l.reverse [t] [.ref a] where
 go F H i w h hi:=by
  obtain⟨b,vs,eb,q,r⟩:=(dF h).t e;cases eb;exact⟨vs,q,by rw[<- r.length,hn],by rw[jc] at hi;lia⟩
 stop F H w h:=by
  obtain⟨b,vs,eb,q,r⟩:=(dF h).t e;cases eb;exact⟨vs,q,by rw[<- r.length,hn],by rw[jc,hn]⟩
 yld F H i x H' w h hi y:=by
  obtain⟨b,vs,eb,q,r⟩:=(dF h).t e;cases eb;obtain⟨rfl,y⟩:=y;rw[jc] at hi;obtain⟨t,et⟩:=fN (l:=l) (i:=l.length-1-i) Z;obtain⟨v,ev,rv⟩:=r.get et;have:=y vs q;rw[hn,ev] at this;cases this;exact⟨t,by rw[Gw hi];exact et,.refl w,rv⟩
theorem Gz(hJ:JS J){t:TV}{l:List TV}(e:t.items=Om (On,l)):TN K J (VY K a) (l.mapIdx λ i x=>.tup [.int (i:Nat),x]) [t] [.ref a] where
 go F H i w h hi:=by
  obtain⟨b,vs,eb,q,r⟩:=(dF h).t e;cases eb;obtain⟨x,ex⟩:=fN (l:=vs) (by rw[<- r.length];simpa using hi);exact⟨vs,x,q,ex⟩
 stop F H w h:=by
  obtain⟨b,vs,eb,q,r⟩:=(dF h).t e;cases eb;exact⟨vs,q,by rw[<- r.length];simp⟩
 yld F H i x H' w h hi y:=by
  obtain⟨b,vs,eb,q,r⟩:=(dF h).t e;cases eb;obtain⟨T,z,rfl,hT,rfl,y⟩:=y;obtain⟨t,et⟩:=fN (l:=l) (i:=i) (by simpa using hi);obtain⟨v,ev,rv⟩:=r.get et;have:=y vs q;rw[ev] at this;cases this;have g:Grow J F H F (Tf H T (.tup [.int i,z])):=.new hJ w _ hT;exact⟨.tup [.int (i:Nat),t],by rw[oa,et];rfl,g,T,_,O,.of bT,_,_,O,O,_,_,O,rv.ke g.ke,O⟩
theorem GA(hJ:JS J){t:TV}{l:List TV}(e:t.items=Om (Op,l)):TN K J (nM K a) (l.mapIdx λ i x=>.tup [.int (i:Nat),x]) [t] [.ref a] where
 go F H i w h hi:=by
  obtain⟨b,vs,eb,q,r⟩:=(dF h).l e;cases eb;obtain⟨x,ex⟩:=fN (l:=vs) (by rw[<- r.length];simpa using hi);exact⟨vs,x,q,ex⟩
 stop F H w h:=by
  obtain⟨b,vs,eb,q,r⟩:=(dF h).l e;cases eb;exact⟨vs,q,by rw[<- r.length];simp⟩
 yld F H i x H' w h hi y:=by
  obtain⟨b,vs,eb,q,r⟩:=(dF h).l e;cases eb;obtain⟨T,z,rfl,hT,rfl,y⟩:=y;obtain⟨t,et⟩:=fN (l:=l) (i:=i) (by simpa using hi);obtain⟨v,ev,rv⟩:=r.get et;have:=y vs q;rw[ev] at this;cases this;have g:Grow J F H F (Tf H T (.tup [.int i,z])):=.new hJ w _ hT;exact⟨.tup [.int (i:Nat),t],by rw[oa,et];rfl,g,T,_,O,.of bT,_,_,O,O,_,_,O,rv.ke g.ke,O⟩
theorem Vw.b{t:TV}{b:Bool}{l:List TV}(h:Vw K F H t x)(e:t.items=Om (b,l)):∃a vs,x=.ref a/\VZ K b H a vs/\RpL K F H l vs:=by
 cases b
 .exact h.l e
 .exact h.t e
end
noncomputable def gl(nm:List (Str×OF))(x:Str):Bool:=decide (nm.lookup x=Om .globalImplicit)
noncomputable def vs(nm:List (Str×OF))(x:Str):Bool:=decide (nm.lookup x=Om .local) || decide (nm.lookup x=Om .cell) || decide (nm.lookup x=Om .free)
noncomputable def cf(nm:List (Str×OF))(x:Str):Bool:=decide (nm.lookup x=Om .cell) || decide (nm.lookup x=Om .free)
noncomputable def Ue(x:Str):Bool:=!decide (x=("__debug__" : Str)) && !decide (x=("__classdict__" : Str)) && !decide (x=("__name__" : Str))
noncomputable def Xa:TV->Const->Bool
 |.int i,.int j=>decide (i=j)
 |.str x,.str y=>decide (x=y)
 |.bl x,.bool y=>decide (x=y)
 |.non,.none=>On
 |_,_=>Op
noncomputable def wc:Cd->Bool
 |.nil=>On|_=>Op
noncomputable def kg:Cd->Bool
 |.c .non=>On|_=>Op
noncomputable def aW:Expr->Bool
 |.Starred ..=>Op|_=>On
noncomputable def dX:Expr->Bool
 |.Set ..=>Op|_=>On
noncomputable def jd:Expr->Bool
 |.Name ..=>On|.Constant (.int _) _ _=>On|.BinOp ..=>On|.Subscript ..=>On|.Call ..=>On|.UnaryOp ..=>On|_=>Op
noncomputable def Xb:BI->Option Str
 |.len=>Om "len" |.tuple=>Om "tuple" |.list=>Om "list" |.sum=>Om "sum" |.max=>Om "max" |.min=>Om "min" |.abs=>Om "abs" |.int=>Om "int"
 |.sorted=>Om "sorted" |.any=>Om "any" |_=>Oo
noncomputable def bJ(e:Expr)(k:Str->Pos->Bool):Bool:=match e with|.Name x p=>k x p|_=>Op
@[elab_as_elim] theorem bz{motive:Expr->Prop}{e:Expr}{k:Str->Pos->Bool}(h:bJ e k=On)(f:∀x p,k x p=On->motive (.Name x p)):motive e:=by cases e<;>first|exact f _ _ h|exact Oq h
def GC(h:bJ e k=On):∃x p,e=.Name x p/\k x p=On:=by cases e<;>first|exact⟨_,_,rfl,h⟩|exact Oq h
noncomputable def we(e:Expr)(k:Const->Nat->Pos->Bool):Bool:=match e with|.Constant x p q=>k x p q|_=>Op
@[elab_as_elim] theorem GD{motive:Expr->Prop}{e:Expr}{k:Const->Nat->Pos->Bool}(h:we e k=On)(f:∀x p q,k x p q=On->motive (.Constant x p q)):motive e:=by cases e<;>first|exact f _ _ _ h|exact Oq h
noncomputable def wg(e:Expr)(k:Expr->QR->Expr->Pos->Bool):Bool:=match e with|.BinOp x p q r=>k x p q r|_=>Op
@[elab_as_elim] theorem GE{motive:Expr->Prop}{e:Expr}{k:Expr->QR->Expr->Pos->Bool}(h:wg e k=On)(f:∀x p q r,k x p q r=On->motive (.BinOp x p q r)):motive e:=by cases e<;>first|exact f _ _ _ _ h|exact Oq h
noncomputable def WD(e:Expr)(k:UnaryOp->Expr->Pos->Bool):Bool:=match e with|.UnaryOp x p q=>k x p q|_=>Op
@[elab_as_elim] theorem wj{motive:Expr->Prop}{e:Expr}{k:UnaryOp->Expr->Pos->Bool}(h:WD e k=On)(f:∀x p q,k x p q=On->motive (.UnaryOp x p q)):motive e:=by cases e<;>first|exact f _ _ _ h|exact Oq h
noncomputable def rh(e:Expr)(k:Expr->List Qo->List Expr->Pos->Bool):Bool:=match e with|.Compare x p q r=>k x p q r|_=>Op
@[elab_as_elim] theorem wl{motive:Expr->Prop}{e:Expr}{k:Expr->List Qo->List Expr->Pos->Bool}(h:rh e k=On)(f:∀x p q r,k x p q r=On->motive (.Compare x p q r)):motive e:=by cases e<;>first|exact f _ _ _ _ h|exact Oq h
noncomputable def We(e:Expr)(k:Rz->List Expr->Pos->Bool):Bool:=match e with|.BoolOp x p q=>k x p q|_=>Op
@[elab_as_elim] theorem wn{motive:Expr->Prop}{e:Expr}{k:Rz->List Expr->Pos->Bool}(h:We e k=On)(f:∀x p q,k x p q=On->motive (.BoolOp x p q)):motive e:=by cases e<;>first|exact f _ _ _ h|exact Oq h
def wo(h:We e k=On):∃x p q,e=.BoolOp x p q/\k x p q=On:=by cases e<;>first|exact⟨_,_,_,rfl,h⟩|exact Oq h
noncomputable def Xc(e:Expr)(k:Expr->Expr->Expr->Pos->Bool):Bool:=match e with|.IfExp x p q r=>k x p q r|_=>Op
@[elab_as_elim] theorem GF{motive:Expr->Prop}{e:Expr}{k:Expr->Expr->Expr->Pos->Bool}(h:Xc e k=On)(f:∀x p q r,k x p q r=On->motive (.IfExp x p q r)):motive e:=by cases e<;>first|exact f _ _ _ _ h|exact Oq h
noncomputable def lP(e:Expr)(k:List Expr->Nat->Pos->Bool):Bool:=match e with|.Tuple x p q=>k x p q|_=>Op
@[elab_as_elim] theorem oe{motive:Expr->Prop}{e:Expr}{k:List Expr->Nat->Pos->Bool}(h:lP e k=On)(f:∀x p q,k x p q=On->motive (.Tuple x p q)):motive e:=by cases e<;>first|exact f _ _ _ h|exact Oq h
noncomputable def wp(e:Expr)(k:List Expr->Pos->Bool):Bool:=match e with|.List x p=>k x p|_=>Op
@[elab_as_elim] theorem wq{motive:Expr->Prop}{e:Expr}{k:List Expr->Pos->Bool}(h:wp e k=On)(f:∀x p,k x p=On->motive (.List x p)):motive e:=by cases e<;>first|exact f _ _ h|exact Oq h
noncomputable def kh(e:Expr)(k:Expr->Expr->Pos->Bool):Bool:=match e with|.Subscript x p q=>k x p q|_=>Op
@[elab_as_elim] theorem lQ{motive:Expr->Prop}{e:Expr}{k:Expr->Expr->Pos->Bool}(h:kh e k=On)(f:∀x p q,k x p q=On->motive (.Subscript x p q)):motive e:=by cases e<;>first|exact f _ _ _ h|exact Oq h
noncomputable def wu(e:Expr)(k:Option Expr->Option Expr->Option Expr->Pos->Bool):Bool:=match e with|.Slice x p q r=>k x p q r|_=>Op
@[elab_as_elim] theorem GG{motive:Expr->Prop}{e:Expr}{k:Option Expr->Option Expr->Option Expr->Pos->Bool}(h:wu e k=On)(f:∀x p q r,k x p q r=On->motive (.Slice x p q r)):motive e:=by cases e<;>first|exact f _ _ _ _ h|exact Oq h
noncomputable def dw(e:Expr)(k:Expr->List Expr->List QA->Pos->Bool):Bool:=match e with|.Call x p q r=>k x p q r|_=>Op
@[elab_as_elim] theorem dG{motive:Expr->Prop}{e:Expr}{k:Expr->List Expr->List QA->Pos->Bool}(h:dw e k=On)(f:∀x p q r,k x p q r=On->motive (.Call x p q r)):motive e:=by cases e<;>first|exact f _ _ _ _ h|exact Oq h
noncomputable def og(e:Expr)(k:Expr->Str->Pos->Bool):Bool:=match e with|.Attribute x p q=>k x p q|_=>Op
@[elab_as_elim] theorem rj{motive:Expr->Prop}{e:Expr}{k:Expr->Str->Pos->Bool}(h:og e k=On)(f:∀x p q,k x p q=On->motive (.Attribute x p q)):motive e:=by cases e<;>first|exact f _ _ _ h|exact Oq h
noncomputable def WE(e:Expr)(k:Expr->List Comprehension->Scope->Pos->Bool):Bool:=match e with|.ListComp x p q r=>k x p q r|_=>Op
def lT(h:WE e k=On):∃x p q r,e=.ListComp x p q r/\k x p q r=On:=by cases e<;>first|exact⟨_,_,_,_,rfl,h⟩|exact Oq h
noncomputable def c1{α:Type}(l:List α)(k:α->Bool):Bool:=match l with|[x]=>k x|_=>Op
noncomputable def c2{α:Type}(l:List α)(k:α->α->Bool):Bool:=match l with|[x,y]=>k x y|_=>Op
noncomputable def c4{α:Type}(l:List α)(k:α->α->α->α->Bool):Bool:=match l with|[x,y,z,w]=>k x y z w|_=>Op
noncomputable def c3{α:Type}(l:List α)(k:α->α->α->Bool):Bool:=match l with|[x,y,z]=>k x y z|_=>Op
noncomputable def cC{α:Type}(l:List α)(k:α->List α->Bool):Bool:=match l with|x::r=>k x r|_=>Op
section
variable {α:Type}{l:List α}{a b c d e f g h i:Bool}
@[elab_as_elim] theorem eZ{motive:List α->Prop}{k:α->Bool}(h:c1 l k=On)(f:∀x,k x=On->motive ([x])):motive l:=by rcases l with _|⟨x,_|⟨_,_⟩⟩<;>first|exact f _ h|exact Oq h
def iD{k:α->Bool}(h:c1 l k=On):∃x,l=[x]/\k x=On:=by rcases l with _|⟨x,_|⟨_,_⟩⟩<;>first|exact⟨_,rfl,h⟩|exact Oq h
@[elab_as_elim] theorem lU{motive:List α->Prop}{k:α->α->Bool}(h:c2 l k=On)(f:∀x y,k x y=On->motive ([x,y])):motive l:=by rcases l with _|⟨x,_|⟨y,_|⟨_,_⟩⟩⟩<;>first|exact f _ _ h|exact Oq h
@[elab_as_elim] theorem GH{motive:List α->Prop}{k:α->α->α->α->Bool}(h:c4 l k=On)(f:∀x y z w,k x y z w=On->motive ([x,y,z,w])):motive l:=by
 match l,h with
 |[x,y,z,w],h=>exact f x y z w h
@[elab_as_elim] theorem GI{motive:List α->Prop}{k:α->α->α->Bool}(h:c3 l k=On)(f:∀x y z,k x y z=On->motive ([x,y,z])):motive l:=by rcases l with _|⟨x,_|⟨y,_|⟨z,_|⟨_,_⟩⟩⟩⟩<;>first|exact f _ _ _ h|exact Oq h
@[elab_as_elim] theorem oh{motive:List α->Prop}{k:α->List α->Bool}(h:cC l k=On)(f:∀x r,k x r=On->motive (x::r)):motive l:=by rcases l with _|⟨x,r⟩<;>first|exact f _ _ h|exact Oq h
@[elab_as_elim] theorem dg{motive:List α->Prop}(h:l.isEmpty=On)(f:motive []):motive l:=by cases l<;>first|exact f|exact Oq h
def an{a b:Bool}(h:(a&&b)=On):a=On/\b=On:=lV.mp h
def a3(z:(a&&b&&c)=On):a=On/\b=On/\c=On:=let ⟨x,y⟩:=an z;⟨(an x).1,(an x).2,y⟩
def a4(z:(a&&b&&c&&d)=On):a=On/\b=On/\c=On/\d=On:=let ⟨x,y⟩:=an z;let ⟨p,q,r⟩:=a3 x;⟨p,q,r,y⟩
def a5(z:(a&&b&&c&&d&&e)=On):a=On/\b=On/\c=On/\d=On/\e=On:=let ⟨x,y⟩:=an z;let ⟨p,q,r,s⟩:=a4 x;⟨p,q,r,s,y⟩
def a6(z:(a&&b&&c&&d&&e&&f)=On):a=On/\b=On/\c=On/\d=On/\e=On/\f=On:=let ⟨x,y⟩:=an z;let ⟨p,q,r,s,t⟩:=a5 x;⟨p,q,r,s,t,y⟩
def a7(z:(a&&b&&c&&d&&e&&f&&g)=On):a=On/\b=On/\c=On/\d=On/\e=On/\f=On/\g=On:=let ⟨x,y⟩:=an z;let ⟨p,q,r,s,t,u⟩:=a6 x;⟨p,q,r,s,t,u,y⟩
def a8(z:(a&&b&&c&&d&&e&&f&&g&&h)=On):a=On/\b=On/\c=On/\d=On/\e=On/\f=On/\g=On/\h=On:=let ⟨x,y⟩:=an z;let ⟨p,q,r,s,t,u,v⟩:=a7 x;⟨p,q,r,s,t,u,v,y⟩
def a9(z:(a&&b&&c&&d&&e&&f&&g&&h&&i)=On):a=On/\b=On/\c=On/\d=On/\e=On/\f=On/\g=On/\h=On/\i=On:=let ⟨x,y⟩:=an z;let ⟨p,q,r,s,t,u,v,w⟩:=a8 x;⟨p,q,r,s,t,u,v,w,y⟩
end
def Vc(cells:Bool)(N:List Str)(nm:List (Str×OF))(is:List Nat)(tg:Expr):Bool :=
 let one (i:Nat) (e:Expr):Bool:=bJ e λ x _=>decide (N[i]?=Om x)&&(decide (nm.lookup x=Om .local) || (cells&&decide (nm.lookup x=Om .cell)))
 match is with
 |[i]=>one i tg
 |[i,j]=>lP tg λ es _ _=>c2 es λ a b=>one i a&&one j b
 |[i,j,k]=>lP tg λ es _ _=>c3 es λ a b c=>one i a&&one j b&&one k c
 |[i,j,k,m]=>lP tg λ es _ _=>c4 es λ a b c d=>one i a&&one j b&&one k c&&one m d
 |_=>Op
noncomputable def WF:Expr->Bool
 |.BoolOp ..=>Op|.UnaryOp .Not ..=>Op|.Compare ..=>Op|.IfExp ..=>Op|.NamedExpr ..=>Op|.Constant ..=>Op|_=>On
def tB':Cd->Expr->Bool
 |.and ..,_=>On|.or ..,_=>On|.not ..,_=>On|.cmp ..,_=>On|.cm2 ..,_=>On
 |_,e=>WF e
noncomputable def kj:Expr->Bool
 |.Tuple ..=>On|_=>Op
noncomputable def Vo:IK->Option (Str×Nat)
 |.rng=>Om ("range",0)|.rng3=>Om ("range",2)|.enum _=>Om ("enumerate",0)|.rev On=>Om ("reversed",0)|_=>Oo
noncomputable def Wf:IK->Bool
 |.zip _ _=>On|.zip3=>On|.enum _=>On|_=>Op
noncomputable def cQ(nm names:List (Str×OF)):List (Str×OF):=names.map λ(x,k)=>if (k == .free&&nm.lookup x == Om .cell) then (x,.cell) else (x,k)
def Vu(N:List Str)(nm:List (Str×OF))(sc:Scope)(own fv:List Str)(js:List Nat):Bool :=
 decide (sc.kind=.function)&&sc.names.all (λ y=>!decide (y.2=.cell))&&sc.names.all (λ y=>!decide (y.2=.local) || decide (sc.names.lookup y.1=Om .local))&&sc.names.all (λ y=>!decide (y.2=.free) || cf nm y.1)
  && decide (js.length=fv.length)&&(fv.zip js).all (λ p=>decide (N[p.2]?=Om p.1)&&cf nm p.1&&cf (cQ nm sc.names) p.1)&&decide (own++fv).Nodup
section
variable (fs gs:List Str)
mutual
def ck:Cd->List Str->List (Str×OF)->Expr->Bool
 |.v i,N,nm,e=>bJ e λ x _=>decide (N[i]?=Om x)&&vs nm x&&Ue x
 |.c t,_,_,e=>we e λ k _ _=>Xa t k
 |.g k,_,nm,e=>bJ e λ x _=>decide (gs[k]?=Om x)&&gl nm x&&Ue x
 |.bin o a b,N,nm,e=>wg e λ l op r _=>decide (op=o)&&ck a N nm l&&ck b N nm r
 |.neg a,N,nm,e=>WD e λ op x _=>decide (op=.USub)&&ck a N nm x
 |.not a,N,nm,e=>WD e λ op x _=>decide (op=.Not)&&tB' a x&&ck a N nm x
 |.cmp o a b,N,nm,e=>rh e λ l os rs _=>c1 os λ op=>c1 rs λ r=>decide (op=o)&&ck a N nm l&&ck b N nm r&&dX r
 |.cm2 o o' a b c,N,nm,e=>rh e λ l os rs _=>c2 os λ op op'=>c2 rs λ r w=>decide (op=o)&&decide (op'=o')&&ck a N nm l&&ck b N nm r&&ck c N nm w&&dX w
 | .and a b,N,nm,e=>We e λ op es p=>decide (op=.And) && (match es with
   |[x,y]=>tB' a x&&tB' b y&&ck a N nm x&&ck b N nm y
   |x::y::z::r=>tB' a x&&ck a N nm x&&ck b N nm (.BoolOp .And (y::z::r) p)
   |_=>Op)
 | .or a b,N,nm,e=>We e λ op es p=>decide (op=.Or) && (match es with
   |[x,y]=>tB' a x&&tB' b y&&ck a N nm x&&ck b N nm y
   |x::y::z::r=>tB' a x&&ck a N nm x&&ck b N nm (.BoolOp .Or (y::z::r) p)
   |_=>Op)
 |.ite c a b,N,nm,e=>Xc e λ x y z _=>tB' c x&&ck c N nm x&&ck a N nm y&&ck b N nm z
 |.tup l,N,nm,e=>lP e λ es _ _=>ckL l N nm es
 |.lst l,N,nm,e=>wp e λ es _=>ckL l N nm es
 |.ix a b,N,nm,e=>kh e λ x y _=>jd y&&ck a N nm x&&ck b N nm y
 |.sl a lo hi,N,nm,e=>kh e λ x y _=>wu y λ l h s _=>s.isNone&&ck a N nm x&&(match l with|none=>kg lo|some l=>ck lo N nm l && !kg lo)&&(match h with|none=>kg hi|some h=>ck hi N nm h && !kg hi)
 |.call f l,N,nm,e=>dw e λ g as w _=>bJ g λ x _=>cC as λ a es=>w.isEmpty&&decide (fs[f]?=Om x)&&gl nm x&&Ue x&&ckL l N nm (a::es)
 |.bi f l,N,nm,e=>dw e λ g as w _=>bJ g λ x _=>cC as λ a es=>w.isEmpty&&decide (Xb f=Om x)&&gl nm x&&ckL l N nm (a::es)
 |.mxl a b,N,nm,e=>dw e λ g as w _=>bJ g λ x _=>c2 as λ y z=>c1 w λ k=>bJ k.value λ u _=>decide (x="max")&&gl nm x&&decide (k.arg=Om (ON "key"))&&decide (u="len")&&gl nm u&&aW y&&aW z&&ck a N nm y&&ck b N nm z
 |.trev _ a,N,nm,e=>dw e λ g as w _=>bJ g λ x _=>c1 as λ u=>dw u λ g' as' w' _=>bJ g' λ y _=>c1 as' λ z=>w.isEmpty&&w'.isEmpty&&decide (x="tuple")&&gl nm x&&decide (y="reversed")&&gl nm y&&aW z&&ck a N nm z
 |.lrng k a,N,nm,e=>dw e λ g as w _=>bJ g λ x _=>c1 as λ u=>dw u λ g' as' w' _=>bJ g' λ y _=>c1 as' λ z=>(w.isEmpty && !k)&&w'.isEmpty&&decide (x=if k=On then "tuple" else "list")&&gl nm x&&decide (y="range")&&gl nm y&&aW z&&ck a N nm z
 |.ap i f l,N,nm,e=>dw e λ g as w _=>bJ g λ x _=>cC as λ a es=>w.isEmpty&&decide (f=fs.length)&&decide (N[i]?=Om x)&&vs nm x&&Ue x&&ckL l N nm (a::es)
 |.cf i f x c,N,nm,e=>dw e λ g as w _=>bJ g λ y _=>c2 as λ u v=>bJ v λ z _=>(w.isEmpty&&decide (f=fs.length)&&decide (y=x)&&gl nm y&&Ue y)&&decide (N[i]?=Om z)&&vs nm z&&Ue z&&aW u&&ck c N nm u
 |.dk k a,N,nm,e=>kh e λ o y _=>bJ o λ x _=>decide (gs[k]?=Om x)&&gl nm x&&Ue x&&jd y&&ck a N nm y
 |.comp own fv js tg k it e,N,nm,x=>WE x λ elt gn sc _=>c1 gn λ g=>g.ifs.isEmpty&&decide (g.is_async=0)&&Vu N nm sc own fv js&&ckI it k g.target N nm g.iter&&Vc Op (own++fv) (cQ nm sc.names) tg g.target&&tg.all (λ i=>decide (i<own.length))&&ck e (own++fv) (cQ nm sc.names) elt
 |.compI own fv js tg k it c e,N,nm,x=>WE x λ elt gn sc _=>c1 gn λ g=>c1 g.ifs λ cnd=>decide (g.is_async=0)&&Vu N nm sc own fv js&&ckI it k g.target N nm g.iter&&Vc Op (own++fv) (cQ nm sc.names) tg g.target&&tg.all (λ i=>decide (i<own.length))&&tB' c cnd&&ck c (own++fv) (cQ nm sc.names) cnd&&ck e (own++fv) (cQ nm sc.names) elt
 |_,_,_,_=>Op
def ckL:Cd->List Str->List (Str×OF)->List Expr->Bool
 |.nil,_,_,es=>(match es with|[]=>On|_=>Op)
 |.cons a r,N,nm,es=>(match es with|e::es=>aW e&&ck a N nm e&&ckL r N nm es|[]=>Op)
 |_,_,_,_=>Op
def ckI:Cd->IK->Expr->List Str->List (Str×OF)->Expr->Bool
 | .cons a r,k,tg,N,nm,it=>(match k with
   |.seq=>dX it&&wc r&&ck a N nm it
   |.str=>Op
   |k=>dw it λ g as w _=>bJ g λ x _=>cC as λ e es=>w.isEmpty&&decide (Vo k=Om (x,es.length))&&gl nm x&&(!Wf k || kj tg)&&aW e&&ck a N nm e&&ckL r N nm es)
 |_,_,_,_,_,_=>Op
end
end
section
variable {K:FG}{J:Hp->Prop}
def Sr(K:FG)(F:Fz)(H:Hp)(t:TV)(v:V):Prop:=match t with
 |.own l=>Rr K H F H (.bor l) v
 |.obj (.dct l)=>∃a,v=.ref a/\H a=Om (dcO l)
 |.obj (.fn a)=>v=.ref a/\FnV H a
 |.obj (.lls as ll)=>∃a0,v=.ref a0/\Ls K F H a0 (as.map V.ref)/\as.Nodup/\as.length=ll.length/\∀(j:Nat) a ks,as[j]?=Om a->ll[j]?=Om ks->¬F a/\∃us,H a=Om (.lst us)/\RpL K F H (ks.map kT) us
 |t=>Rp K F H t v
structure EV (K:FG)(J:Hp->Prop)(F:Fz)(H:Hp)(σ:St)(ρ:En):Prop where
 w:Wd J F H
 sl:∀(i:Nat) t,ρ[i]?=Om (Om t)->∃v,σ[i]?=Om (Om v)/\Sr K F H t v
def Sr.grow(g:Grow J F H F' H')(h:Sr K F H t v):Sr K F' H' t v:=by
 cases t with
 |own l=>exact Rr.grow (t:=.bor l) (H:=H') g h
 |obj o=>
  cases o with
  |dct l=>obtain⟨a,e,q⟩:=h;exact⟨a,e,g.sm _ _ (λ ps z=>by cases z) q⟩
  |fn a=>obtain⟨e,φ,q,k⟩:=h;exact⟨e,φ,g.sm _ _ (λ ps z=>by cases z) q,k⟩
  |lls as ll=>
   obtain⟨a0,e,l0,nd,hl,h⟩:=h;refine⟨a0,e,g.ke.l _ _ l0,nd,hl,λ j a ks e1 e2=>?_⟩;obtain⟨nf,us,q,r⟩:=h j a ks e1 e2;refine⟨λ z=>?_,us,g.sm _ _ (λ ps z=>by cases z) q,r.ke g.ke⟩
   rcases g.nw _ z with y|y
   .exact nf y
   .rw[q] at y;cases y
 |_=>exact Rp.ke g.ke h
def EV.grow(e:EV K J F H σ ρ)(g:Grow J F H F' H'):EV K J F' H' σ ρ :=
 ⟨g.w,λ i t h=>let ⟨v,q,r⟩:=e.sl i t h;⟨v,q,r.grow g⟩⟩
def Up(K:FG)(J:Hp->Prop)(S:Tc):Sp:=λ vs H Q _=>∃F ts P,Wd J F H/\RpL K F H ts vs/\S ts P/\∀t,P t->∀F' H' v,Grow J F H F' H'->Rp K F' H' t v->Q v H'
theorem gp(g:Grow J F H F1 H1):∀ {ts:List TV}{vs:List V},RrL K H F1 H1 ts vs->ts.all TV.nb=On->∃F2,Grow J F H F2 H1/\(∀a,F1 a->F2 a)/\RpL K F2 H1 (ts.map TV.fz) vs
 |[],_,h,_=>by cases h;exact⟨F1,g,λ _ f=>f,rfl⟩
 |t::ts,_,h,n=>by
  cases h with
  |cons r q=>
   rw[cK,bp] at n;obtain⟨F2,g2,u2,r2⟩:=gp g q n.2
   cases t with
   |own l=>
    obtain⟨a,vs,e,na,f,qa,ra⟩:=r;refine⟨λ b=>F2 b\/b=a,g2.frz na (by rw[qa];simp),λ b f=>.inl (u2 b f),_,_,O,⟨a,vs,e,.inl ⟨.inr rfl,.of qa⟩,ra.ke (.up λ b f=>.inl (u2 b f))⟩,r2.ke (.up λ b f=>.inl f)⟩
   |bor l=>cases n.1
   |_=>exact⟨F2,g2,u2,_,_,rfl,Rp.ke (.up u2) r,r2⟩
mutual
theorem LF.rp:∀ {t:TV}{v:V},LF t->Rp K F H t v->Rp K F' H t v
 |.non,_,_,h=>h
 |.bl _,_,_,h=>h
 |.int _,_,_,h=>h
 |.str _,_,_,h=>h
 |.tup l,_,f,⟨a,vs,e,q,r⟩=>⟨a,vs,e,q,LF.rpl (λ x hx=>by simp only[LF] at f;exact f x hx) r⟩
 |.lst _,_,f,_=>by simp[LF] at f
 |.bor _,_,f,_=>by simp[LF] at f
 |.own _,_,f,_=>by simp[LF] at f
 |.obj _,_,f,_=>by simp[LF] at f
theorem LF.rpl:∀ {ts:List TV}{vs:List V},(∀x∈ts,LF x)->RpL K F H ts vs->RpL K F' H ts vs
 |[],_,_,h=>h
 |t::ts,_,f,⟨v,r,e,h1,h2⟩=>⟨v,r,e,LF.rp (f t on) h1,LF.rpl (λ x hx=>f x (by simp[hx])) h2⟩
end
end
noncomputable def BN:List Str:=["len","tuple","list","sum","max","min","abs","int","str","sorted","any","all","isinstance","bool","range","zip","enumerate","reversed","set","dict"]
def Xd(P:Oz)(w:OB)(K:FG)(mg:SV)(x:Str)(l:List TV):Prop:=∃d kvs,mg x=Om (.ref d)/\KTab P w K d kvs/\∀y t,VF l y=Om t->∃a,kvs.lookup y=Om a/\∀F H,Rp K F H t (.ref a)
def GJ(K:FG)(J:Hp->Prop)(S:Tc):Sp:=λ vs H Q _=>∃F a ts vs' P,vs=vs'++[.ref a]/\Wd J F H/\FnV H a/\RpL K F H ts vs'/\S (.obj (.fn a)::ts) P/\∀t,P t->∀F' H' v,Grow J F H F' H'->Rp K F' H' t v->Q v H'
structure WG (P:Oz)(w:OB)(K:FG)(mg:SV)(base:OH)(A:OD)(J:Hp->Prop)(S:Tc):Prop where
 ap:∃k,Room k A/\∀a ts vs P' F H Q,Wd J F H->FnV H a->RpL K F H ts vs->S (.str "" :: .obj (.fn a)::ts) P'->(∀t,P' t->∀F' H' v,Grow J F H F' H'->Rp K F' H' t v->Q v H')->lL P w K mg base k a vs H Q
 cf:∀x,S [.str x] (λ _=>True)->∃k ps,Room k A/\Callee P w K mg base Tp k x ps (GJ K J λ l=>S (.str x::l))
structure Tq (X:Cx)(J:Hp->Prop)(FT:List Tc)(GT:List TV)(fs gs:List Str):Prop where
 calm:X.calm=On
 units:X.A.units+120<Pv
 hJ:JS J
 fns:∀(f:Nat) x S,fs[f]?=Om x->FT[f]?=Om S->∃k ps,Room k X.A/\Callee X.prog X.w X.K X.mg X.base Tp k x ps (Up X.K J S)
 glb:∀(g:Nat) x t,gs[g]?=Om x->GT[g]?=Om t->t.nb=On->∃v u,X.mg x=Om u/\RelV v u/\∀F H,Rp X.K F H t v
 dic:∀(g:Nat) x l,gs[g]?=Om x->GT[g]?=Om (.bor l)->Xd X.prog X.w X.K X.mg x l
 blt:∀x∈BN,X.mg x=Oo
 len:fs.length<=FT.length
 hof:∀S,FT[fs.length]?=Om S->WG X.prog X.w X.K X.mg X.base X.A J S
def ww{K:FG}{FT:List Tc}{fs:List Str}(h:fs.length=FT.length):∀S,FT[fs.length]?=Om S->WG P w K mg base A J S:=λ S e=>by rw[h,jf (ao _)] at e;cases e
structure XS (X:Cx)(N:List Str)(nm:List (Str×OF)):Prop where
 N:X.N=N
 nm:X.env.scope.names=nm
section
variable {J:Hp->Prop}{FT:List Tc}{GT:List TV}{fs gs:List Str}
def rE(K:FG)(J:Hp->Prop)(FT:List Tc)(GT:List TV)(c:Cd):TE:=λ σ H Q=>∃F ρ,EV K J F H σ ρ/\wE FT GT c ρ λ t=>∀F' H' v,Grow J F H F' H'->Rr K H F' H' t v->Q v H'
def rT(K:FG)(J:Hp->Prop)(FT:List Tc)(GT:List TV)(c:Cd):TT:=λ σ H Q=>∃F ρ,EV K J F H σ ρ/\wE FT GT c ρ λ t=>b1 t λ b=>∀F' H',Grow J F H F' H'->Q b H'
def rA(K:FG)(J:Hp->Prop)(FT:List Tc)(GT:List TV)(c:Cd):TA:=λ σ H Q=>∃F ρ,EV K J F H σ ρ/\wL FT GT c ρ λ ts=>∀F' H' vs,Grow J F H F' H'->RrL K H F' H' ts vs->Q vs H'
def PE.imp{t t':TE}(h:PE X e t)(i:∀σ H Q,t' σ H Q->t σ H Q):PE X e t':=λ Tb s σ H Q I q=>h Tb s σ H Q I (i σ H Q q)
def PT.imp{t t':TT}(h:PT X e t)(i:∀σ H Q,t' σ H Q->t σ H Q):PT X e t':=λ Tb s σ H Q I q=>h Tb s σ H Q I (i σ H Q q)
def PA.imp{t t':TA}(h:PA X e t)(i:∀σ H Q,t' σ H Q->t σ H Q):PA X e t':=λ pos Tb s σ H Q I q=>h pos Tb s σ H Q I (i σ H Q q)
def bj{es:List Expr}(h:aW e=On):OI (e::es) env=(Op,eval e env)::OI es env:=by cases e<;>first|rfl|cases h
theorem rk:∀ {es:List Expr}{env:Env},es.all aW=On->(OI es env).any (·.1)=Op
 |[],_,_=>rfl
 |e::es,env,h=>by
  rw[cK,bp] at h;rw[bj h.1,lj,rk h.2];rfl
def fO{es:List Expr}(h:es.all aW=On):(Pu pos (OI es env)).any (·.1)=Op:=by
 unfold Pu;rw[List.any_map];exact rk h
def UI(xs:XS X N nm)(h:gl nm x=On):Gl X x:=by
 show X.env.scope.names.lookup x=_;rw[xs.nm];exact aC h
def gO(xs:XS X N nm)(h:vs nm x=On):VA X.env.scope x:=by
 unfold vs at h;rw[iE,iE] at h;unfold VA;rw[xs.nm]
 rcases h with (h|h)|h
 .exact .inl (aC h)
 .exact .inr (.inl (aC h))
 .exact .inr (.inr (aC h))
def dY(h:Ue x=On):(x == ("__debug__" : Str))=Op/\(x == ("__classdict__" : Str))=Op/\x ≠ "__name__" := by
 simp only[Ue,bp,oi,wx] at h;exact⟨by simpa using h.1.1,by simpa using h.1.2,h.2⟩
end
theorem rn{env:Env}:∀(l:List (Str×OF)) (cs:LA),(∀x,(x,OW)∈l->∃c,env.cells.lookup x=Om c) ->
  ∃cl,(forIn l cs (λ(x:Str × OF) (r:LA)=>(match x with
   |(name,kind)=>if (kind == OW)=On then (do let y <- QZ env name;OM (Qg ((name,y)::r))) else OM (Qg r):Sem (ForInStep (LA)))):Sem (LA))=OM cl /\
   (∀x c,cl.lookup x=Om c->cs.lookup x=Om c\/env.cells.lookup x=Om c)/\(∀x,(x,OW)∈l\/(∃c,cs.lookup x=Om c)->∃c,cl.lookup x=Om c)
 | [],cs,_=>⟨cs,rfl,λ _ _ h=>.inl h,λ x h=>by
  rcases h with h|h
  .cases h
  .exact h⟩
 |(n,k)::l,cs,h=>by
  by_cases hk:k=.free
  .subst hk;obtain⟨c,hc⟩:=h n on;obtain⟨cl,e,q1,q2⟩:=rn l ((n,c)::cs) λ x hx=>h x (by simp[hx]);refine⟨cl,?_,λ x d hx=>?_,λ x hx=>?_⟩
   .rw[lJ];have:QZ env n=OM c:=by unfold QZ;rw[hc]
    simp only[this,jO,ga,s1o];exact e
   .rcases q1 x d hx with z|z
    .rw[dS] at z;split at z
     .rename_i en;have:x=n:=by simpa using en
      subst this;cases z;exact .inr hc
     .exact .inl z
    .exact .inr z
   .refine q2 x ?_
    rcases hx with hx|⟨d,hd⟩
    .rcases aB.mp hx with z|z
     .cases z;exact .inr ⟨c,by simp[dS]⟩
     .exact .inl z
    .by_cases en:x=n
     .subst en;exact .inr ⟨c,by simp[dS]⟩
     .have:(x == n)=Op:=by simpa using en
      exact .inr ⟨d,by rw[dS,this];exact hd⟩
  .obtain⟨cl,e,q1,q2⟩:=rn l cs λ x hx=>h x (by simp[hx]);refine⟨cl,?_,q1,λ x hx=>q2 x ?_⟩
   .rw[lJ];have:(k == OW)=Op:=by simpa using hk
    simp only[this,lK,iT,s1o];exact e
   .rcases hx with hx|hx
    .rcases aB.mp hx with z|z
     .cases z;exact XU rfl hk
     .exact .inl z
    .exact .inr hx
theorem GK{scope:Scope}{env:Env}(h:∀x,(x,OW)∈scope.names->∃c,env.cells.lookup x=Om c) :
  ∃cl,Pl scope env=OM cl/\(∀x c,cl.lookup x=Om c->env.cells.lookup x=Om c)/\∀x,(x,OW)∈scope.names->∃c,cl.lookup x=Om c:=by
 obtain⟨cl,e,q1,q2⟩:=rn (env:=env) scope.names [] h;refine⟨cl,?_,λ x c hx=>?_,λ x hx=>q2 x (.inl hx)⟩
 .unfold Pl;simp only[bind_pure];exact e
 .rcases q1 x c hx with z|z
  .cases z
  .exact z
section
variable {N:List Str}{nm:List (Str×OF)}{sc:Scope}{own fv:List Str}{js:List Nat}
def GL{α β:Type} [BEq α] [LawfulBEq α] {l:List (α×β)}{x:α}{y:β}(h:l.lookup x=Om y):(x,y)∈l:=by
 induction l with
 |nil=>cases h
 |cons p r ih=>
  obtain⟨a,b⟩:=p;rw[dS] at h;split at h
  .rename_i e;have:x=a:=by simpa using e
   subst this;cases h;simp
  .exact aV _ (ih h)
structure Xe (X:Cx)(N:List Str)(nm:List (Str×OF))(sc:Scope)(own fv:List Str)(js:List Nat)(cl:LA):Prop where
 clos:Pl sc X.env=OM cl
 cell:∀y∈sc.names,y.2≠.cell
 kind:sc.kind=.function
 names:∀y∈sc.names,y.2=.local->sc.names.lookup y.1=Om .local
 sub:∀x c,cl.lookup x=Om c->X.env.cells.lookup x=Om c
 has:∀x,((PZ sc X.env).names.lookup x=Om .cell\/(PZ sc X.env).names.lookup x=Om .free)->∃c,cl.lookup x=Om c
 len:js.length=fv.length
 cap:∀(i:Nat) x j,fv[i]?=Om x->js[i]?=Om j->WW X sc cl x j
 nd:(own++fv).Nodup
 rel:(PZ sc X.env).names=cQ nm sc.names
def rB(h:cf nm x=On):nm.lookup x=Om .cell\/nm.lookup x=Om .free:=by
 unfold cf at h;rw[iE] at h;exact h.imp aC aC
def kn(ok:X.Ok)(xs:XS X N nm)(h:Vu N nm sc own fv js=On):∃cl,Xe X N nm sc own fv js cl:=by
 unfold Vu at h;simp only[bp] at h;obtain⟨⟨⟨⟨⟨⟨h1,h2⟩,h3⟩,h4⟩,h5⟩,h6⟩,h7⟩:=h
 have hfree:∀x,(x,OW)∈sc.names->nm.lookup x=Om .cell\/nm.lookup x=Om .free:=λ x hx=>by
  have:=gj.mp h4 _ hx;simp only[decide_true,Bool.not_true,jg] at this;exact rB this
 obtain⟨cl,e,s1,s2⟩:=GK (scope:=sc) (env:=X.env) λ x hx=>ok.has x (by
  have:=hfree x hx;rw[<- xs.nm] at this
  exact this)
 have hcell:∀y∈sc.names,y.2≠.cell:=λ y hy=>by simpa using gj.mp h2 y hy
 have hrel:(PZ sc X.env).names=cQ nm sc.names:=by
  unfold PZ cQ;rw[<- xs.nm];apply rC;intro y hy;obtain⟨n,k⟩:=y;have:(X.env.scope.kind == ScopeKind.function)=On:=by rw[ok.kind];rfl
  simp only[this,Bool.and_true];rfl
 refine⟨cl,e,hcell,aC h1,λ y hy e=>?_,s1,λ x hx=>s2 x ?_,aC h5,λ i x j e1 e2=>?_,aC h7,hrel⟩
 .have:=gj.mp h3 y hy;simpa [e] using this
 .have:∀k,(PZ sc X.env).names.lookup x=Om k->k=.cell\/k=.free->(x,OW)∈sc.names:=λ k hk hz=>by
   have m:=GL hk;obtain⟨⟨n,k0⟩,hm,he⟩:=bq.mp m;have he:(if (k0 == OW&&X.env.scope.kind == .function&&X.env.kindOf n == Om .cell)=On then (n,Sm) else (n,k0))=(x,k):=he;split at he
   .rename_i c;cases he;simp only[bp] at c;have:k0=.free:=by simpa using c.1.1
    subst this;exact hm
   .cases he
    rcases hz with rfl|rfl
    .exact XU rfl (hcell _ hm)
    .exact hm
  rcases hx with hx|hx
  .exact this _ hx (.inl rfl)
  .exact this _ hx (.inr rfl)
 .have m:(x,j)∈fv.zip js:=by
   refine aE (i:=i) ?_;rw[wy];exact⟨e1,e2⟩
  have:=gj.mp h6 _ m;simp only[bp] at this;refine⟨by rw[xs.N];exact aC this.1.1,?_,?_⟩
  .rw[xs.nm];exact rB this.1.2
  .rw[hrel];exact rB this.2
end
section
variable {K:FG}{J:Hp->Prop}{F:Fz}{H:Hp}{σ:St}{ρ:En}
def wz(h:Rp K F H t v):Sr K F H t v:=by cases t<;>first|exact h|exact h.elim
def EV.set{i:Nat}(e:EV K J F H σ ρ)(h:Rp K F H t v)(hi:i<σ.length):EV K J F H (σ.set i (Om v)) (ρ.set i (Om t)) :=
 ⟨e.w,λ j u hj=>by
  rw[cR] at hj;split at hj
  .rename_i c;subst c;split at hj
   .cases hj;exact⟨v,by rw[cR];simp[hi],wz h⟩
   .cases hj
  .rename_i c;obtain⟨w,e1,r⟩:=e.sl j u hj
   exact⟨w,by rw[cR,XR c];exact e1,r⟩⟩
def EV.any{i:Nat}(e:EV K J F H σ ρ)(h:∀t,ρ[i]?≠Om (Om t)):EV K J F H (σ.set i v) ρ :=
 ⟨e.w,λ j u hj=>by
  obtain⟨w,e1,r⟩:=e.sl j u hj;refine⟨w,?_,r⟩;rw[cR,XR (λ z=>by subst z;exact h u hj)]
  exact e1⟩
def Ux(K:FG):List Nat->TG
 |[i]=>cX i
 |[i,j]=>mR K 2 (fX (cX i) (fX (cX j) mQ))
 |[i,j,k]=>mR K 3 (fX (cX i) (fX (cX j) (fX (cX k) mQ)))
 |[i,j,k,m]=>mR K 4 (fX (cX i) (fX (cX j) (fX (cX k) (fX (cX m) mQ))))
 |_=>λ _ _ _ _=>False
theorem wA{Q:St->Hp->Prop}(h:Ug ρ is t P)(e:EV K J F H σ ρ)(rt:Rp K F H t v)(hl:∀i∈is,i<σ.length)
  (fin:∀σ' ρ',P ρ'->EV K J F H σ' ρ'->σ'.length=σ.length->(∀ρ0,EV K J F H σ ρ0->(∀i∈is,∀u,ρ0[i]?≠Om (Om u))->EV K J F H σ' ρ0)->Q σ' H):Ux K is v σ H Q:=by
 match is,h with
 |[i],h=>exact fin _ _ h (e.set rt (hl i on)) on λ ρ0 e0 n=>e0.any (n i on)
 |[i,j],h=>
  cases t with
  |tup l=>
   match l,h with
   |[x,y],h=>
    obtain⟨a,ws,rfl,q,v1,r1,rfl,h1,v2,r2,rfl,h2,rfl⟩:=rt;exact⟨a,_,O,q,O,v1,_,O,v2,_,O,O,fin _ _ h ((e.set h1 (hl i on)).set h2 (by simpa using hl j on)) on λ ρ0 e0 n=>(e0.any (n i on)).any (n j on)⟩
   |[],h=>exact h.elim
   |[_],h=>exact h.elim
   |_::_::_::_,h=>exact h.elim
  |_=>exact h.elim
 |[i,j,k],h=>
  cases t with
  |tup l=>
   match l,h with
   |[x,y,z],h=>
    obtain⟨a,ws,rfl,q,v1,r1,rfl,h1,v2,r2,rfl,h2,v3,r3,rfl,h3,rfl⟩:=rt;exact⟨a,_,O,q,O,v1,_,O,v2,_,O,v3,_,O,O,fin _ _ h (((e.set h1 (hl i on)).set h2 (by simpa using hl j on)).set h3 (by simpa using hl k on)) on λ ρ0 e0 n=>((e0.any (n i on)).any (n j on)).any (n k on)⟩
   |[],h=>exact h.elim
   |[_],h=>exact h.elim
   |[_,_],h=>exact h.elim
   |_::_::_::_::_,h=>exact h.elim
  |_=>exact h.elim
 |[i,j,k,m],h=>
  cases t with
  |tup l=>
   match l,h with
   |[x,y,z,w],h=>
    obtain⟨a,ws,rfl,q,v1,r1,rfl,h1,v2,r2,rfl,h2,v3,r3,rfl,h3,v4,r4,rfl,h4,rfl⟩:=rt;exact⟨a,_,O,q,O,v1,_,O,v2,_,O,v3,_,O,v4,_,O,O,fin _ _ h ((((e.set h1 (hl i on)).set h2 (by simpa using hl j on)).set h3 (by simpa using hl k on)).set h4 (by simpa using hl m on)) on λ ρ0 e0 n=>(((e0.any (n i on)).any (n j on)).any (n k on)).any (n m on)⟩
   |[],h=>exact h.elim
   |[_],h=>exact h.elim
   |[_,_],h=>exact h.elim
   |[_,_,_],h=>exact h.elim
   |_::_::_::_::_::_,h=>exact h.elim
  |_=>exact h.elim
 |[],h=>exact h.elim
 |_::_::_::_::_::_,h=>exact h.elim
end
section
variable {N:List Str}{nm:List (Str×OF)}
def rD{cells:Bool}(hN:X.N.Nodup)(hc:X.calm=On)(xs:XS X N nm)(hf:cells=On->∀x,X.env.scope.names.lookup x=Om .cell->X.fn x=On)(h:Vc cells N nm is tg=On):PG X tg (Ux X.K is)/\∀i∈is,i<N.length:=by
 have one:∀(i:Nat) (x:Str) (p:Pos),(decide (N[i]?=Om x)&&(decide (nm.lookup x=Om .local) || (cells&&decide (nm.lookup x=Om .cell))))=On->PG X (.Name x p) (cX i)/\i<N.length:=λ i x p h=>by
  rw[bp,iE,bp] at h;obtain⟨h1,h2⟩:=h;have e:=aC h1;refine⟨?_,(aX.mp e).1⟩
  rcases h2 with h2|⟨h2,h3⟩
  .have k:X.env.scope.names.lookup x=Om .local:=by rw[xs.nm];exact aC h2
   exact uf hN (by rw[xs.N];exact e) (.inl k) (.inr k)
  .have k:X.env.scope.names.lookup x=Om .cell:=by rw[xs.nm];exact aC h3
   exact uf hN (by rw[xs.N];exact e) (.inr k) (.inl (hf h2 x k))
 match is,h with
 |[i],h=>
  refine bz h λ x p g=>?_;obtain⟨a,b⟩:=one _ _ p g;exact⟨a,λ i hi=>by rw[aH.mp hi];exact b⟩
 |[i,j],h=>
  refine oe h λ es _ _ g=>?_;refine lU g λ e1 e2 g=>?_;refine bz (an g).1 λ x p g1=>?_;refine bz (an g).2 λ y q g2=>?_;obtain⟨a1,b1⟩:=one _ _ p g1;obtain⟨a2,b2⟩:=one _ _ q g2;refine⟨pX hc (gC a1 (gC a2 pW)),λ i hi=>?_⟩;simp only[aB,bg,be] at hi
  rcases hi with rfl|rfl<;>assumption
 |[i,j,k],h=>
  refine oe h λ es _ _ g=>?_;refine GI g λ e1 e2 e3 g=>?_;obtain⟨g1,g2,g3⟩:=a3 g;refine bz g1 λ x p g1=>?_;refine bz g2 λ y q g2=>?_;refine bz g3 λ z r g3=>?_;obtain⟨a1,b1⟩:=one _ _ p g1;obtain⟨a2,b2⟩:=one _ _ q g2;obtain⟨a3,b3⟩:=one _ _ r g3;refine⟨pX hc (gC a1 (gC a2 (gC a3 pW))),λ i hi=>?_⟩;simp only[aB,bg,be] at hi
  rcases hi with rfl|rfl|rfl<;>assumption
 |[i,j,k,m],h=>
  refine oe h λ es _ _ g=>?_;refine GH g λ e1 e2 e3 e4 g=>?_;obtain⟨g1,g2,g3,g4⟩:=a4 g;refine bz g1 λ x p g1=>?_;refine bz g2 λ y q g2=>?_;refine bz g3 λ z r g3=>?_;refine bz g4 λ w t g4=>?_;obtain⟨a1,b1⟩:=one _ _ p g1;obtain⟨a2,b2⟩:=one _ _ q g2;obtain⟨a3,b3⟩:=one _ _ r g3;obtain⟨a4,b4⟩:=one _ _ t g4;refine⟨pX hc (gC a1 (gC a2 (gC a3 (gC a4 pW)))),λ i hi=>?_⟩;simp only[aB,bg,be] at hi
  rcases hi with rfl|rfl|rfl|rfl<;>assumption
 |[],h=>exact Oq h
 |_::_::_::_::_::_,h=>exact Oq h
end
section
variable {J:Hp->Prop}{FT:List Tc}{GT:List TV}{fs gs:List Str}{N:List Str}{nm:List (Str×OF)}
def rW(K:FG)(J:Hp->Prop)(FT:List Tc)(GT:List TV)(k:IK)(c:Cd):TI:=λ σ H R=>∃F ρ,EV K J F H σ ρ/\wL FT GT c ρ λ ts=>Vb k ts λ its=>∀F' H' xs Jt,Grow J F H F' H'->RrL K H F' H' ts xs->TN K J Jt its ts xs->R Jt H'
def PI.imp{t t':TI}(h:PI X tg e t)(i:∀σ H Q,t' σ H Q->t σ H Q):PI X tg e t':=λ Tb s σ H Q I q=>h Tb s σ H Q I (i σ H Q q)
def rF(h:dX e=On):Qw op e=Op:=by cases e<;>first|rfl|cases h
def wB{o o':Qo}{r w:Expr}(h:dX w=On):Sf [o,o'] [r,w]=Op:=by
 show Qw o' w=Op;exact rF h
def wC(h:dX e=On):Qy e env x=OM x:=by cases e<;>first|rfl|cases h
def rG(h:jd e=On):uJ e:=by
 intro o i
 cases e<;>first|rfl|(cases h;done)
def s_v(xs:XS X N nm)(h:ck fs gs (.v i) N nm e=On):PE X e (rE X.K J FT GT (.v i)):=by
 refine bz h λ x p h0=>?_;have h':=lV.mp h0;obtain⟨h1,h2⟩:=lV.mp h'.1;obtain⟨d1,d2,_⟩:=dY h'.2;refine(gB (by rw[xs.N];exact aC h1) (gO xs h2) d1 d2).imp λ σ H Q q=>?_;obtain⟨F,ρ,ev,w⟩:=q;have w:VG ρ[i]? _:=w
 rcases hs:ρ[i]? with _|_|t
 .rw[hs] at w;exact w.elim
 .rw[hs] at w;exact w.elim
 .rw[hs] at w;obtain⟨v,e,r⟩:=ev.sl i t hs;unfold cg;rw[e]
  cases t with
  |bor l=>exact r.elim
  |obj l=>exact w.elim
  |_=>exact w F H v (.refl ev.w) r
def s_c(h:ck fs gs (.c t) N nm e=On):PE X e (rE X.K J FT GT (.c t)):=by
 refine GD h λ k _ _ h0=>?_;replace h:Xa t k=On:=h0
 cases t<;>cases k<;>first
  |exact Oq h
  |(cases aC h;exact pe_int.imp λ σ H Q ⟨F,ρ,ev,w⟩=>w F H _ (.refl ev.w) rfl)
  |(cases aC h;exact pe_str.imp λ σ H Q ⟨F,ρ,ev,w⟩=>w F H _ (.refl ev.w) rfl)
  |(cases aC h;exact pe_bl.imp λ σ H Q ⟨F,ρ,ev,w⟩=>w F H _ (.refl ev.w) rfl)
  |exact pe_non.imp λ σ H Q ⟨F,ρ,ev,w⟩=>w F H _ (.refl ev.w) rfl
def s_g(xo:Tq X J FT GT fs gs)(xs:XS X N nm)(h:ck fs gs (.g k) N nm e=On):PE X e (rE X.K J FT GT (.g k)):=by
 refine bz h λ x p h0=>?_;have h':=lV.mp h0;obtain⟨h1,h2⟩:=lV.mp h'.1;obtain⟨d1,_,_⟩:=dY h'.2
 cases et:GT[k]? with
 |none=>exact λ Tb s σ H Q I ⟨F,ρ,ev,w⟩=>by have w:Vt GT[k]? _:=w;rw[et] at w;exact w.elim
 |some t=>
  cases nb:t.nb with
  |false=>
   intro Tb s σ H Q I ⟨F,ρ,ev,w⟩;have w:Vt GT[k]? _:=w;rw[et] at w
   cases t<;>first|exact w.elim|exact Oq nb
  |true=>
   obtain⟨v,u,m,r,p⟩:=xo.glb k _ t (aC h1) et nb;refine(Bl (UI xs h2) m r d1).imp λ σ H Q ⟨F,ρ,ev,w⟩=>?_;have w:Vt GT[k]? _:=w;rw[et] at w
   cases t with
   |bor l=>cases nb
   |_=>exact w F H v (.refl ev.w) (Rr.of (p F H))
def GM{k:Nat}(xo:Tq X J FT GT fs gs)(xs:XS X N nm)(h1:gs[k]?=Om x)(h2:gl nm x=On)(h3:Ue x=On)(h4:jd y=On)(ha:PE X y (rE X.K J FT GT a)):PE X (.Subscript (.Name x p1) y p2) (rE X.K J FT GT (.dk k a)):=by
 intro Tb s σ H Q I ⟨F,ρ,ev,w⟩;obtain⟨l,et,w⟩:=vW (show VE GT[k]? _ from w);obtain⟨d,kvs,hm,T,look⟩:=xo.dic k x l h1 et;refine Fj (UI xs h2) hm T ha (rG h4) (dY h3).1 Tb s σ H Q I ⟨F,ρ,ev,ax a (λ t w F1 H1 v g r=>?_) w⟩;obtain⟨z,rfl,t,el,w⟩:=vY w;cases r;obtain⟨b,eb,rp⟩:=look z t el;exact⟨z,b,O,eb,w F1 H1 _ g (Rr.of (rp F1 H1))⟩
def GN(xo:Tq X J FT GT fs gs)(ha:PE X l (rE X.K J FT GT a))(hb:PE X r (rE X.K J FT GT b)):PE X (.BinOp l o r p) (rE X.K J FT GT (.bin o a b)) :=
 (BW (Gd xo.hJ o) ha hb).imp λ σ H Q ⟨F,ρ,ev,w⟩=>⟨F,ρ,ev,ax a (λ x w F1 H1 v g1 r1=>⟨F1,ρ,ev.grow g1,ax b (λ y w F2 H2 v2 g2 r2=>⟨F,H,F2,x,y,g1.trans g2,r1.grow g2,r2.late g1,w⟩) w⟩) w⟩
def GO{o:Qo}(xo:Tq X J FT GT fs gs)(ha:PE X l (rE X.K J FT GT a))(hb:PE X r (rE X.K J FT GT b))(hs:dX r=On):PE X (.Compare l [o] [r] p) (rE X.K J FT GT (.cmp o a b)) :=
 (Cv (jZ xo.units o) ha hb (rF hs)).imp λ σ H Q ⟨F,ρ,ev,w⟩=>⟨F,ρ,ev,ax a (λ x w F1 H1 v g1 r1=>⟨F1,ρ,ev.grow g1,ax b (λ y w F2 H2 v2 g2 r2=>⟨F,H,F2,x,y,g1.trans g2,r1.grow g2,r2.late g1,gM (λ z w v r=>w F2 H2 v (g1.trans g2) r) w⟩) w⟩) w⟩
def GP(ha:PE X l (rE X.K J FT GT a))(hb:PE X r (rE X.K J FT GT b))(hs:jd r=On):PE X (.Subscript l r p) (rE X.K J FT GT (.ix a b)) :=
 (uK Gk ha hb (rG hs)).imp λ σ H Q ⟨F,ρ,ev,w⟩=>⟨F,ρ,ev,ax a (λ x w F1 H1 v g1 r1=>⟨F1,ρ,ev.grow g1,ax b (λ y w F2 H2 v2 g2 r2=>⟨F,H,F2,x,y,g1.trans g2,r1.grow g2,r2.late g1,w⟩) w⟩) w⟩
def GQ(ha:PE X l (rE X.K J FT GT a)):PE X (.UnaryOp .USub l p) (rE X.K J FT GT (.neg a)) :=
 (BX Cj ha).imp λ σ H Q ⟨F,ρ,ev,w⟩=>⟨F,ρ,ev,ax a (λ x w F1 H1 v g1 r1=>by
  obtain⟨i,rfl,w⟩:=gm w;cases r1
  exact w F1 H1 _ g1 rfl) w⟩
def GR(ha:PE X l (rE X.K J FT GT a)):PE X (.UnaryOp .Not l p) (rE X.K J FT GT (.not a)) :=
 (BA ha).imp λ σ H Q ⟨F,ρ,ev,w⟩=>⟨F,ρ,ev,ax a (λ x w F1 H1 v g1 r1=>by
  obtain⟨i,rfl,w⟩:=iA w;cases r1
  exact⟨i,O,w F1 H1 _ g1 rfl⟩) w⟩
def oj{Q:VK}(g:Grow J F H F1 H1)(w:∀F' H' v,Grow J F H F' H'->Rr X.K H F' H' t v->Q v H'):∀F' H' v,Grow J F1 H1 F' H'->Rr X.K H1 F' H' t v->Q v H':=λ F' H' v g' r=>w F' H' v (g.trans g') (r.late g)
def GS{o o':Qo}(xo:Tq X J FT GT fs gs)(ha:PE X l (rE X.K J FT GT a))(hb:PE X r (rE X.K J FT GT b))(hc:PE X w' (rE X.K J FT GT c))(hs:dX w'=On):PE X (.Compare l [o,o'] [r,w'] p) (rE X.K J FT GT (.cm2 o o' a b c)) :=
 (Cy (jZ xo.units o) (jZ xo.units o') ha hb hc (wB hs)).imp λ σ H Q ⟨F,ρ,ev,w⟩=>⟨F,ρ,ev,ax a (λ x w F1 H1 v g1 r1=>⟨F1,ρ,ev.grow g1,ax b (λ y w F2 H2 v2 g2 r2=>⟨F,H,F2,x,y,g1.trans g2,r1.grow g2,r2.late g1,gM (λ z w v3 r3=>by
  obtain⟨k,ek,w2⟩:=iA w;subst ek;cases r3;refine⟨k,O,?_⟩;split at w2
  .rw[XT (by assumption)];exact⟨F2,ρ,(ev.grow g1).grow g2,ax c (λ z w F4 H4 v4 g4 r4=>⟨F,H,F4,y,z,(g1.trans g2).trans g4,(r2.late g1).grow g4,r4.late (g1.trans g2),gM (λ u w v r=>w F4 H4 v ((g1.trans g2).trans g4) r) w⟩) w2⟩
  .rw[XR (by assumption)];exact w2 F2 H2 _ (g1.trans g2) rfl) w⟩) w⟩) w⟩
def wD{l r:Expr}{Td:List Expr}(ha:PE X l (rE X.K J FT GT a))(hb:PE X (.BoolOp .And (r::Td) p) (rE X.K J FT GT b)):PE X (.BoolOp .And (l::r::Td) p) (rE X.K J FT GT (.and a b)) :=
 (By ha hb).imp λ σ H Q ⟨F,ρ,ev,w⟩=>⟨F,ρ,ev,ax a (λ x w F1 H1 v g1 r1=>by
  obtain⟨k,ek,w2⟩:=iA w;subst ek;cases r1;show if k=On then _ else _;split at w2
  .rw[XT (by assumption)];exact⟨F1,ρ,ev.grow g1,ax b (λ y w=>oj g1 w) w2⟩
  .rw[XR (by assumption)];exact w2 F1 H1 _ g1 rfl) w⟩
def wF{l r:Expr}{Td:List Expr}(ha:PE X l (rE X.K J FT GT a))(hb:PE X (.BoolOp .Or (r::Td) p) (rE X.K J FT GT b)):PE X (.BoolOp .Or (l::r::Td) p) (rE X.K J FT GT (.or a b)) :=
 (Bz ha hb).imp λ σ H Q ⟨F,ρ,ev,w⟩=>⟨F,ρ,ev,ax a (λ x w F1 H1 v g1 r1=>by
  obtain⟨k,ek,w2⟩:=iA w;subst ek;cases r1;show if k=On then _ else _;split at w2
  .rw[XT (by assumption)];exact w2 F1 H1 _ g1 rfl
  .rw[XR (by assumption)];exact⟨F1,ρ,ev.grow g1,ax b (λ y w=>oj g1 w) w2⟩) w⟩
def GU(hc:PT X x (rT X.K J FT GT c))(ha:PE X y (rE X.K J FT GT a))(hb:PE X z (rE X.K J FT GT b)):PE X (.IfExp x y z p) (rE X.K J FT GT (.ite c a b)) :=
 (BB hc ha hb).imp λ σ H Q ⟨F,ρ,ev,w⟩=>⟨F,ρ,ev,ax c (λ x w=>cP (λ k w2 F1 H1 g1=>by
  split at w2
  .rw[XT (by assumption)];exact⟨F1,ρ,ev.grow g1,ax a (λ y w=>oj g1 w) w2⟩
  .rw[XR (by assumption)];exact⟨F1,ρ,ev.grow g1,ax b (λ y w=>oj g1 w) w2⟩) w) w⟩
def wG(ha:PE X e (rE X.K J FT GT a))(hr:PA X es (rA X.K J FT GT r))(hs:aW e=On):PA X (e::es) (rA X.K J FT GT (.cons a r)) :=
 (cY ha hr (bj hs)).imp λ σ H Q ⟨F,ρ,ev,w⟩=>⟨F,ρ,ev,ax a (λ x w F1 H1 v g1 r1=>⟨F1,ρ,ev.grow g1,bI r (λ ts w F2 H2 vs g2 r2=>w F2 H2 _ (g1.trans g2) (.cons (r1.grow g2) (Paired.mapP r2 λ _ _ z=>z.late g1))) w⟩) w⟩
def GV:PA X [] (rA X.K J FT GT .nil):=pa_nil.imp λ σ H Q ⟨F,ρ,ev,w⟩=>w F H _ (.refl ev.w) .nil
def GW(xo:Tq X J FT GT fs gs)(h:PA X es (rA X.K J FT GT l)):PE X (.Tuple es k p) (rE X.K J FT GT (.tup l)) :=
 (CG h).imp λ σ H Q ⟨F,ρ,ev,w⟩=>⟨F,ρ,ev,bI l (λ ts ⟨n,z,w⟩ F1 H1 vs g1 r1=>by
  obtain⟨F2,g2,_,r2⟩:=gp g1 r1 n
  exact⟨by rw[<- r2.length,ah];exact z,jb xo.hJ g2 r2 w⟩) w⟩
def GX(xo:Tq X J FT GT fs gs)(h:PA X es (rA X.K J FT GT l)):PE X (.List es p) (rE X.K J FT GT (.lst l)) :=
 (qh h).imp λ σ H Q ⟨F,ρ,ev,w⟩=>⟨F,ρ,ev,bI l (λ ts ⟨n,z,w⟩ F1 H1 vs g1 r1=>by
  obtain⟨F2,g2,_,r2⟩:=gp g1 r1 n
  exact⟨by rw[<- r2.length,ah];exact z,iB xo.hJ g2 r2 w⟩) w⟩
theorem GY{a lo hi:Cd}(xo:Tq X J FT GT fs gs)(ha:PE X e (rE X.K J FT GT a))(hl:PO X l (λ σ H Q=>∃F ρ,EV X.K J F H σ ρ/\wE FT GT lo ρ λ t=>oI t λ o=>∀F' H',Grow J F H F' H'->Q o H'))(hh:PO X h (λ σ H Q=>∃F ρ,EV X.K J F H σ ρ/\wE FT GT hi ρ λ t=>oI t λ o=>∀F' H',Grow J F H F' H'->Q o H')) :
  PE X (.Subscript e (.Slice l h Oo p2) p) (rE X.K J FT GT (.sl a lo hi)) :=
 (CT (Gm xo.hJ) ha hl hh).imp λ σ H Q ⟨F,ρ,ev,w⟩=>⟨F,ρ,ev,ax a (λ x w F1 H1 v g1 r1=>⟨F1,ρ,ev.grow g1,ax lo (λ y w=>nX (λ a w F2 H2 g2=>⟨F2,ρ,(ev.grow g1).grow g2,ax hi (λ z w=>nX (λ b w F3 H3 g3=>⟨F,H,F3,x,(g1.trans g2).trans g3,(r1.grow g2).grow g3,w⟩) w) w⟩) w) w⟩) w⟩
end
section
variable {J:Hp->Prop}{FT:List Tc}{GT:List TV}{fs gs:List Str}{N:List Str}{nm:List (Str×OF)}
set_option tactic.hygienic true in
def wH{K:FG}{vs:List V}(w:Wd J F1 H1)(h:RrL K H F1 H1 ts vs):∃F2,Wd J F2 H1/\RpL K F2 H1 (ts.map TV.fz) vs:=by
 refine⟨λ b=>H1 b≠Oo,⟨w.j,λ a f=>f⟩,?_⟩;have up:∀a,F1 a->H1 a≠Oo:=w.d
 induction h with
 |nil=>rfl
 |cons r q ih=>
  refine⟨_,_,O,?_,ih⟩;rename_i t v _ _
  cases t with
  |own l=>obtain⟨a,vs,e,_,_,qa,ra⟩:=r;exact⟨a,vs,e,(.inl ⟨(λ z=>by rw[qa] at z;cases z),.of qa⟩),ra.ke (.up up)⟩
  |bor l=>obtain⟨a,vs,e,_,qa,ra⟩:=r;exact⟨a,vs,e,(.inl ⟨(λ z=>by rw[qa] at z;cases z),.of qa⟩),ra.ke (.up up)⟩
  |_=>exact Rp.ke (.up up) r
theorem GZ{f:Nat}{a:Expr}{es:List Expr}(xo:Tq X J FT GT fs gs)(hf:fs[f]?=Om x)(hg:Gl X x)(hd:(x == ("__debug__" : Str))=Op)(ha:PA X (a::es) (rA X.K J FT GT l))(hs:aW a=On)(hss:es.all aW=On) :
  PE X (.Call (.Name x p) (a::es) [] pos) (rE X.K J FT GT (.call f l)):=by
 obtain⟨S,eS⟩:∃S,FT[f]?=Om S:=fN (bE (aX.mp hf).1 xo.len);obtain⟨k,ps,hr,c⟩:=xo.fns f x S hf eS;refine(qB c hr hg qy ha hd (bj hs) (fO hss)).imp λ σ H Q ⟨F,ρ,ev,w⟩=>⟨F,ρ,ev,bI l (λ ts w F1 H1 vs g1 r1=>?_) w⟩;obtain⟨P,⟨S',e',sp⟩,w⟩:=w;rw[eS] at e';cases e';rw[eE]
 cases n:ts.all TV.nb with
 |true=>
  obtain⟨F2,g2,_,r2⟩:=gp g1 r1 n;exact⟨F2,_,P,g2.w,r2,sp,λ t pt F' H' v g' r'=>(w t pt).2 F' H' v (g2.trans g') (Rr.of r')⟩
 |false=>
  obtain⟨F2,w2,r2⟩:=wH g1.w r1;refine⟨F2,_,P,w2,r2,sp,λ t pt F' H' v g' r'=>?_⟩;obtain⟨lf,w⟩:=w t pt;have gg:Grow J F1 H1 F1 H':=⟨g'.sm,g'.dm,λ _ h=>h,λ _ h=>.inl h,g'.w.j,λ b f=>g'.dm b (g1.w.d b f)⟩;exact w F1 H' v (g1.trans gg) (Rr.of ((lf n).rp r'))
theorem ji{a:Expr}{es:List Expr}{id:String}(hc:bY X (.builtin id) (rL X J (UH f)))(hg:Gl X x)(hm:X.mg x=Oo)(hv:Pz x=Om (.builtin id))(hn:x ≠ "__name__")(hd:(x == ("__debug__" : Str))=Op)(ha:PA X (a::es) (rA X.K J FT GT l))(hs:aW a=On)(hss:es.all aW=On) :
  PE X (.Call (.Name x p) (a::es) [] pos) (rE X.K J FT GT (.bi f l)) :=
 (CK hc hg hm hv ha hn hd (bj hs) (fO hss)).imp λ σ H Q ⟨F,ρ,ev,w⟩=>⟨F,ρ,ev,bI l (λ ts w F1 H1 vs g1 r1=>⟨F,H,F1,ts,g1,r1,w⟩) w⟩
theorem rH{a:Expr}{es:List Expr}{id:String}(hc:bY X (.type id) (rL X J (UH f)))(hg:Gl X x)(hm:X.mg x=Oo)(hv:Pz x=Om (.type id))(hn:x ≠ "__name__")(hd:(x == ("__debug__" : Str))=Op)(ha:PA X (a::es) (rA X.K J FT GT l))(hs:aW a=On)(hss:es.all aW=On) :
  PE X (.Call (.Name x p) (a::es) [] pos) (rE X.K J FT GT (.bi f l)) :=
 (qk hc hg hm hv ha hn hd (bj hs) (fO hss)).imp λ σ H Q ⟨F,ρ,ev,w⟩=>⟨F,ρ,ev,bI l (λ ts w F1 H1 vs g1 r1=>⟨F,H,F1,ts,g1,r1,w⟩) w⟩
theorem Ha{a:Expr}{es:List Expr}(xo:Tq X J FT GT fs gs)(hx:Xb f=Om x)(hg:Gl X x)(ha:PA X (a::es) (rA X.K J FT GT l))(hs:aW a=On)(hss:es.all aW=On) :
  PE X (.Call (.Name x p) (a::es) [] pos) (rE X.K J FT GT (.bi f l)):=by
 have bm:∀y,y∈BN->X.mg y=Oo:=xo.blt
 cases f with
 |len=>cases hx;exact ji (iC xo.hJ xo.calm .len on) hg (bm _ ca) (by decide +kernel) ca ca ha hs hss
 |tuple=>cases hx;exact rH (iC xo.hJ xo.calm .tuple on) hg (bm _ ca) (by decide +kernel) ca ca ha hs hss
 |list=>cases hx;exact rH (iC xo.hJ xo.calm .list on) hg (bm _ ca) (by decide +kernel) ca ca ha hs hss
 |sum=>cases hx;exact ji (iC xo.hJ xo.calm .sum on) hg (bm _ ca) (by decide +kernel) ca ca ha hs hss
 |max=>cases hx;exact ji (Gp xo.calm) hg (bm _ ca) (by decide +kernel) ca ca ha hs hss
 |min=>cases hx;exact ji (Gq xo.calm) hg (bm _ ca) (by decide +kernel) ca ca ha hs hss
 |abs=>cases hx;exact ji (iC xo.hJ xo.calm .abs on) hg (bm _ ca) (by decide +kernel) ca ca ha hs hss
 |int=>cases hx;exact rH (iC xo.hJ xo.calm .int on) hg (bm _ ca) (by decide +kernel) ca ca ha hs hss
 |sorted=>cases hx;exact ji (iC xo.hJ xo.calm .sorted on) hg (bm _ ca) (by decide +kernel) ca ca ha hs hss
 |any=>cases hx;exact ji (iC xo.hJ xo.calm .any on) hg (bm _ ca) (by decide +kernel) ca ca ha hs hss
 |_=>cases hx
theorem Hb{p pos kp p2:Pos}(xo:Tq X J FT GT fs gs)(hg:Gl X "max")(hg2:Gl X "len")(hs:aW y=On)(hs2:aW z=On)(hy:PE X y (rE X.K J FT GT a))(hz:PE X z (rE X.K J FT GT b)) :
  PE X (.Call (.Name "max" p) [y,z] [⟨Om (ON "key"),.Name "len" p2,kp⟩] pos) (rE X.K J FT GT (.mxl a b)):=by
 refine(Gn xo.calm hg (xo.blt _ ca) hg2 (xo.blt _ ca) hy hz (bj hs) (bj hs2)).imp λ σ H Q ⟨F,ρ,ev,w⟩=>⟨F,ρ,ev,ax a (λ t w F1 H1 v g1 r1=>⟨F1,ρ,ev.grow g1,ax b (λ u w F2 H2 v2 g2 r2=>?_) w⟩) w⟩;have w:UH .maxlen [t,u] λ t=>∀F' H' v,Grow J F H F' H'->Rr X.K H F' H' t v->Q v H':=w
 cases t with
 |tup l=>
  cases u with
  |tup m=>
   obtain⟨A,xs,rfl,q1,s1⟩:=r1.grow g2;obtain⟨B,ys,rfl,q2,s2⟩:=r2;refine⟨A,B,xs,ys,O,O,q1,q2,λ z=>?_,λ z=>?_⟩
   .have w:∀F' H' v,Grow J F H F' H'->Rr X.K H F' H' (.tup (if l.length<m.length then m else l)) v->Q v H':=w;rw[XR (by rw[s1.length,s2.length];lia)] at w;exact w F2 H2 _ (g1.trans g2) ⟨A,xs,O,q1,s1⟩
   .have w:∀F' H' v,Grow J F H F' H'->Rr X.K H F' H' (.tup (if l.length<m.length then m else l)) v->Q v H':=w;rw[XT (by rw[s1.length,s2.length];lia)] at w;exact w F2 H2 _ (g1.trans g2) ⟨B,ys,O,q2,s2⟩
  |_=>exact w.elim
 |_=>cases u<;>exact w.elim
theorem Hc{p pos p2 pos2:Pos}(xo:Tq X J FT GT fs gs)(hg:Gl X "tuple")(hg2:Gl X "reversed")(hs:aW y=On)(hy:PE X y (rE X.K J FT GT a)) :
  PE X (.Call (.Name "tuple" p) [.Call (.Name "reversed" p2) [y] [] pos2] [] pos) (rE X.K J FT GT (.trev k a)):=by
 cases k with
 |false=>
  refine(DW xo.calm hg hg2 (xo.blt _ ca) (xo.blt _ ca) hy (bj hs)).imp λ σ H Q ⟨F,ρ,ev,w⟩=>⟨F,ρ,ev,ax a (λ t w F1 H1 v g1 r1=>?_) w⟩;obtain⟨l,e,w⟩:=ja (show l1 t λ l=>∀F' H' v,Grow J F H F' H'->Rr X.K H F' H' (.tup l.reverse) v->Q v H' from w);obtain⟨b,vs,rfl,r,q⟩:=r1.lq e;exact⟨b,vs,O,q,jb xo.hJ g1 r.reverse w⟩
 |true=>
  refine(EM xo.calm hg hg2 (xo.blt _ ca) (xo.blt _ ca) hy (bj hs)).imp λ σ H Q ⟨F,ρ,ev,w⟩=>⟨F,ρ,ev,ax a (λ t w F1 H1 v g1 r1=>?_) w⟩;have w:k1 On t λ l=>∀F' H' v,Grow J F H F' H'->Rr X.K H F' H' (.tup l.reverse) v->Q v H':=w
  cases t with
  |tup l=>obtain⟨b,vs,rfl,q,r⟩:=r1;exact⟨b,vs,rfl,q,jb xo.hJ g1 r.reverse w⟩
  |_=>exact w.elim
theorem Hd{k:Bool}{p pos p2 pos2:Pos}(hk:(!k)=On)(xo:Tq X J FT GT fs gs)(hg:Gl X (ON (if k=On then "tuple" else "list")))(hg2:Gl X "range")(hs:aW y=On)(hy:PE X y (rE X.K J FT GT a)) :
  PE X (.Call (.Name (ON (if k=On then "tuple" else "list")) p) [.Call (.Name "range" p2) [y] [] pos2] [] pos) (rE X.K J FT GT (.lrng k a)):=by
 have hr:=qk (p:=p2) (pos:=pos2) EY hg2 (xo.blt _ ca) (by decide +kernel) (cY hy pa_nil (bj hs)) ca ca (bj hs) rfl;have e:∀j:Int,(TC j.toNat).map XV=(OE j.toNat).map λ i=>XV (i:Nat):=λ j=>by unfold TC;rw[bF];rfl
 cases k with
 |false=>
  refine(qk (EZ xo.calm) hg (xo.blt _ ca) (by decide +kernel) (cY hr pa_nil rfl) ca ca rfl rfl).imp λ σ H Q ⟨F,ρ,ev,w⟩=>⟨F,ρ,ev,ax a (λ t w F1 H1 v g1 r1=>?_) w⟩;obtain⟨j,rfl,⟨c0,c1⟩,w⟩:=gm (show i1 t λ j=>(0<=j/\j<=1000)/\∀F' H' v,Grow J F H F' H'->Rr X.K H F' H' (.own ((OE j.toNat).map λ i=>.int (i:Nat))) v->Q v H' from w);cases r1;refine⟨j,O,λ r hr=>?_⟩;have g2:Grow J F1 H1 F1 (Tf H1 r (.rng 0 j)):=.new xo.hJ g1.w _ hr;refine⟨r,j.toNat,O,by rw[bT];congr 2;exact(lW c0).symm,Z,λ l hl=>?_⟩;rw[<- e] at w;exact iB xo.hJ (g1.trans g2) (RpL.ofInts _) w l hl
 |true=>exact Oq hk
end
section
variable {J:Hp->Prop}{FT:List Tc}{GT:List TV}{fs gs:List Str}{N:List Str}{nm:List (Str×OF)}{tg:Expr}
def He(hy:PE X y (rE X.K J FT GT a)):PI X tg y (rW X.K J FT GT .seq (.cons a .nil)) :=
 (Fm hy).imp λ σ H R ⟨F,ρ,ev,w⟩=>⟨F,ρ,ev,ax a (λ t w F1 H1 v g r=>by
  obtain⟨b,l,e,w⟩:=jY (show s1 t λ its=>∀F' H' xs Jt,Grow J F H F' H'->RrL X.K H F' H' [t] xs->TN X.K J Jt its [t] xs->R Jt H' from w);obtain⟨p,vs,rfl,_,q⟩:=r.sq e
  rcases q with ⟨rfl,q⟩|⟨rfl,q⟩
  .exact .inr ⟨p,O,⟨vs,q⟩,w F1 H1 _ _ g (.cons r .nil) (Gs e)⟩
  .exact .inl ⟨p,O,⟨vs,q⟩,w F1 H1 _ _ g (.cons r .nil) (Gr e)⟩) w⟩
def Hf(n:Nat):((OE n).map λ k=>XV (0+(k:Nat)))=(OE n).map λ k=>XV (k:Nat):=on
def Hg{p pos:Pos}(xo:Tq X J FT GT fs gs)(hg:Gl X "range")(hs:aW e=On)(he:PE X e (rE X.K J FT GT a)):PI X tg (.Call (.Name "range" p) [e] [] pos) (rW X.K J FT GT .rng (.cons a .nil)) :=
 (BR hg (xo.blt _ ca) (cY he pa_nil (bj hs)) (bj hs)).imp λ σ H R ⟨F,ρ,ev,w⟩=>⟨F,ρ,ev,ax a (λ t w F1 H1 v g r=>by
  obtain⟨j,rfl,c,w⟩:=gm (show i1 t λ j=>(-(2 ^ 62)<=j/\j<2 ^ 62)/\∀F' H' xs Jt,Grow J F H F' H'->RrL X.K H F' H' [t] xs->TN X.K J Jt ((OE j.toNat).map λ i=>.int (i:Nat)) [t] xs->R Jt H' from w);cases r
  exact⟨j,O,c.1,c.2,w F1 H1 _ _ g (.cons rfl .nil) (by rw[<- Hf];exact Gu 0 _)⟩) w⟩
def Hh{K:FG}{t u z:TV}(h:RrL K H F1 H1 [t,u,z] xs):∃x y w,xs=[x,y,w]/\Rr K H F1 H1 t x/\Rr K H F1 H1 u y/\Rr K H F1 H1 z w:=by
 cases h with
 |cons r q=>obtain⟨y,w,rfl,r',r''⟩:=rf q;exact⟨_,y,w,rfl,r,r',r''⟩
def Hi{p pos:Pos}(xo:Tq X J FT GT fs gs)(hg:Gl X "range")(hs:aW e=On)(hs2:aW e2=On)(hs3:aW e3=On)(hp:PA X [e,e2,e3] (rA X.K J FT GT l)):PI X tg (.Call (.Name "range" p) [e,e2,e3] [] pos) (rW X.K J FT GT .rng3 l) :=
 (Ee hg (xo.blt _ ca) hp (by rw[bj hs,bj hs2,bj hs3];rfl) (by rw[bj hs2,bj hs3];rfl)).imp λ σ H R ⟨F,ρ,ev,w⟩=>⟨F,ρ,ev,bI l (λ ts w F1 H1 vs g r=>by
  rcases ts with _|⟨t,_|⟨u,_|⟨z,_|⟨_,ts⟩⟩⟩⟩
  .exact w.elim
  .exact w.elim
  .exact w.elim
  .obtain⟨i,j,rfl,rfl,w⟩:=dW w;obtain⟨c,rfl,cc,w⟩:=gm w;have w:=w F1 H1 vs _ g r (Gv i c _);obtain⟨x,y,v,rfl,r1,r2,r3⟩:=Hh r;cases r1;cases r2;cases r3;exact⟨i,j,c,O,cc,w⟩
  .exact w.elim) w⟩
def oo(h:k1 b t P):∃l,t.items=Om (b,l)/\P l:=by
 cases b with
 |true=>cases t<;>first|exact⟨_,rfl,h⟩|exact h.elim
 |false=>exact ja h
def Rr.sb{K:FG}{b:Bool}{l:List TV}(h:Rr K H F' H' t v)(e:t.items=Om (b,l)):∃a vs,v=.ref a/\VZ K b H' a vs:=by
 obtain⟨a,vs,rfl,q,_⟩:=h.vw.b e;exact⟨a,vs,O,q⟩
def Hj{p pos:Pos}(xo:Tq X J FT GT fs gs)(hg:Gl X "enumerate")(hs:aW e=On)(he:PE X e (rE X.K J FT GT a)):PI X (.Tuple es x1 pp) (.Call (.Name "enumerate" p) [e] [] pos) (rW X.K J FT GT (.enum c) (.cons a .nil)):=by
 cases c with
 |true=>
  exact(Eu hg (xo.blt _ ca) he (bj hs)).imp λ σ H R ⟨F,ρ,ev,w⟩=>⟨F,ρ,ev,ax a (λ t w F1 H1 v g r=>by
   obtain⟨l,e1,w⟩:=oo (show k1 On t λ l=>∀F' H' xs Jt,Grow J F H F' H'->RrL X.K H F' H' [t] xs->TN X.K J Jt (l.mapIdx λ i x=>.tup [.int (i:Nat),x]) [t] xs->R Jt H' from w);obtain⟨A,vs,rfl,q⟩:=r.sb e1
   exact⟨A,vs,O,q,w F1 H1 _ _ g (.cons r .nil) (Gz xo.hJ e1)⟩) w⟩
 |false=>
  exact(EQ hg (xo.blt _ ca) he (bj hs)).imp λ σ H R ⟨F,ρ,ev,w⟩=>⟨F,ρ,ev,ax a (λ t w F1 H1 v g r=>by
   obtain⟨l,e1,w⟩:=oo (show k1 Op t λ l=>∀F' H' xs Jt,Grow J F H F' H'->RrL X.K H F' H' [t] xs->TN X.K J Jt (l.mapIdx λ i x=>.tup [.int (i:Nat),x]) [t] xs->R Jt H' from w);obtain⟨A,vs,rfl,q⟩:=r.sb e1
   exact⟨A,vs,O,q,w F1 H1 _ _ g (.cons r .nil) (GA xo.hJ e1)⟩) w⟩
def Hk{p pos:Pos}(xo:Tq X J FT GT fs gs)(hg:Gl X "reversed")(hs:aW e=On)(he:PE X e (rE X.K J FT GT a)):PI X tg (.Call (.Name "reversed" p) [e] [] pos) (rW X.K J FT GT (.rev On) (.cons a .nil)):=by
 exact(DO hg (xo.blt _ ca) he (bj hs)).imp λ σ H R ⟨F,ρ,ev,w⟩=>⟨F,ρ,ev,ax a (λ t w F1 H1 v g r=>by
   obtain⟨l,e1,w⟩:=oo (show k1 On t λ l=>∀F' H' xs Jt,Grow J F H F' H'->RrL X.K H F' H' [t] xs->TN X.K J Jt l.reverse [t] xs->R Jt H' from w);obtain⟨A,vs,rfl,q,rl⟩:=r.vw.t e1
   exact⟨A,vs,O,q,w F1 H1 _ _ g (.cons r .nil) (Gy e1 rl.length.symm)⟩) w⟩
noncomputable def UQ(own:List Str)(js:List Nat)(ρ:En):En:=Ow own.length Oo++js.map λ j=>(ρ[j]?).join
def EV.comp{K:FG}{own:List Str}(e:EV K J F H σ ρ):EV K J F H (dR own.length js σ) (UQ own js ρ) :=
 ⟨e.w,λ i t h=>by
  unfold UQ at h;unfold dR;by_cases hi:i<own.length
  .rw[cI (by simpa using hi),fH] at h;split at h<;>cases h
  .rw[cH (by simpa using hi),dC,bh] at h;rw[cH (by simpa using hi),dC,bh]
   cases ej:js[i-own.length]? with
   |none=>rw[ej] at h;cases h
   |some j=>
    rw[ej] at h;have h:(ρ[j]?).join=Om t:=bw h
    have h2:ρ[j]?=Om (Om t):=by
     cases q:ρ[j]? with
     |none=>rw[q] at h;cases h
     |some o=>rw[q] at h;cases o<;>cases h;rfl
    obtain⟨v,e1,r⟩:=e.sl j t h2
    exact⟨v,by rw[QG,e1];rfl,r⟩⟩
def wI{own:List Str}{i:Nat}(h:i<own.length):∀u,(UQ own js ρ)[i]?≠Om (Om u):=λ u z=>by
 unfold UQ at z;rw[cI (by simpa using h),fH] at z;split at z<;>cases z
theorem wJ{K:QC}{own:List Str}{js tgs:List Nat}{Q:VK}{tc:TT}{te:TE}
  (hJ:JS J) (g1:Grow J F H F1 H1) (rx:RrL K H F1 H1 ts xs) (ok:TN K J Jt its ts xs) (ev:EV K J F H σ ρ) (lt:∀i∈tgs,i<own.length) (hn:its.length<Ou) (b:TV->(List TV->Prop)->Prop)
  (hm:∀t K K',(∀y,K y->K' y)->b t K->b t K') (w:UD b its λ ys=>∀F' H' v,Grow J F H F' H'->Rr K H F' H' (.own ys) v->Q v H')
  (st:∀t P x F' H' σ',b t P->EV K J F' H' σ' (UQ own js ρ)->σ'.length=(dR own.length js σ).length->Rp K F' H' t x ->
   ∀R:List V->St->Hp->Prop,(∀ys vs σ2 F2 H2,P ys->ys.length<=1->Grow J F' H' F2 H2->RpL K F2 H2 ys vs->EV K J F2 H2 σ2 (UQ own js ρ)->σ2.length=σ'.length->R vs σ2 H2) ->
    Ux K tgs x σ' H' λ σ3 H3=>tc σ3 H3 λ q H4=>if q=On then te σ3 H4 λ v H5=>R [v] σ3 H5 else R [] σ3 H4) :
  ∃W:Nat->Nat->List V->St->Hp->Prop,(∃m,W 0 m [] (dR own.length js σ) H1)/\∀i m ys σ' H',W i m ys σ' H' ->
   (Jt.stop i H'/\∀p,H' p=Oo->Q (.ref p) (Tf H' p (.lst ys))) \/
   (Jt.go i H'/\ys.length < Ou/\∃N:List V->St->Hp->Prop,(∀zs σ2 H2,N zs σ2 H2->∃m',m' < m/\W (i+1) m' zs σ2 H2) /\
    ∀x H2,Jt.yld i H' x H2->Ux K tgs x σ' H2 λ σ3 H3=>tc σ3 H3 λ q H4=>if q=On then te σ3 H4 λ v H5=>N (ys++[v]) σ3 H5 else N ys σ3 H4):=by
 refine⟨λ i m ys σ' H'=>i≤its.length/\m=its.length - i/\∃F' zs,Grow J F1 H1 F' H'/\EV K J F' H' σ' (UQ own js ρ)/\σ'.length=(dR own.length js σ).length/\RpL K F' H' zs ys/\zs.length≤i/\UD b (its.drop i) λ ws=>∀F' H' v,Grow J F H F' H'->Rr K H F' H' (.own (zs++ws)) v->Q v H',
  ⟨_,bP _,rfl,F1,[],.refl g1.w,(ev.grow g1).comp,rfl,rfl,bP _,w⟩,?_⟩
 rintro i m ys σ' H' ⟨hi,rfl,F',zs,g',ev',sl,rz,zl,w'⟩;have vw:Py (Vw K F' H') ts xs:=Paired.mapP (rx.grow g') λ _ _ r=>r.vw;by_cases c:i<its.length
 .refine .inr ⟨ok.go F' H' i g'.w vw c,by rw[← rz.length];lia,λ zs' σ2 H2=>∃F2 ws,Grow J F1 H1 F2 H2/\EV K J F2 H2 σ2 (UQ own js ρ)/\σ2.length=(dR own.length js σ).length/\RpL K F2 H2 ws zs'/\ws.length≤i+1/\UD b (its.drop (i+1)) λ us=>∀F' H' v,Grow J F H F' H'->Rr K H F' H' (.own (ws++us)) v->Q v H',
   λ zs' σ2 H2 ⟨F2,ws,q⟩=>⟨_,Z,c,rfl,F2,ws,q⟩,λ x H2 y=>?_⟩
  obtain⟨t,et,gy,rt⟩:=ok.yld F' H' i x H2 g'.w vw c y
  have ed:its.drop i=t::its.drop (i+1):=by
   rw[rJ c]
   congr 1
   rw[aZ c] at et;exact bw et
  rw[ed] at w'
  have z:=st t _ x F' H2 σ' w' (ev'.grow gy) sl rt (λ vs σ2 H3=>∃F2 ws,Grow J F1 H1 F2 H3/\EV K J F2 H3 σ2 (UQ own js ρ)/\σ2.length=(dR own.length js σ).length/\RpL K F2 H3 ws (ys++vs)/\ws.length<=i+1/\UD b (its.drop (i+1)) λ us=>∀F' H' v,Grow J F H F' H'->Rr K H F' H' (.own (ws++us)) v->Q v H')
   (λ zs2 vs σ2 F2 H3 q l1 g2 r2 e2 s2=>⟨F2,zs++zs2,(g'.trans gy).trans g2,e2,s2.trans sl,(rz.ke (gy.trans g2).ke).append r2,by rw[aF];lia,by
    exact nY hm (λ us q=>by rw[ig];exact q) q⟩)
  simp only[eE] at z;exact z
 .have e:i=its.length:=by lia
  subst e;rw[rK] at w';have w':∀F' H' v,Grow J F H F' H'->Rr K H F' H' (.own (zs++[])) v->Q v H':=w';rw[eE] at w';exact .inl ⟨ok.stop F' H' g'.w vw,iB hJ (g1.trans g') rz w'⟩
end
section
variable {J:Hp->Prop}{FT:List Tc}{GT:List TV}{fs gs:List Str}{N:List Str}{nm:List (Str×OF)}
def ko{cl:LA}(xo:Tq X J FT GT fs gs):Tq (eG X N' sc cl C ex s H) J FT GT fs gs:=⟨xo.calm,xo.units,xo.hJ,xo.fns,xo.glb,xo.dic,xo.blt,xo.len,xo.hof⟩
def wK{own fv:List Str}{js tgs:List Nat}(hJ:JS J)(lt:∀i∈tgs,i<own.length)(h:rE X.K J FT GT (.comp own fv js tgs k it e) σ H Q):ik (rW X.K J FT GT k it) own.length js (Ux X.K tgs) (λ _ H K=>K On H) (rE X.K J FT GT e) σ H Q:=by
 obtain⟨F,ρ,ev,w⟩:=h;refine⟨F,ρ,ev,bI it (λ ts w=>iz (λ its w F1 H1 xs Jt g1 rx ok=>?_) w) w⟩;obtain⟨hn,w⟩:=w
 exact wJ (tc:=λ _ H Q=>Q On H) (te:=rE X.K J FT GT e) hJ g1 rx ok ev lt hn (λ t K'=>Ug (UQ own js ρ) tgs t λ ρ'=>wE FT GT e ρ' λ y=>(y.nb=On/\K' [y.fz])) (λ t K K' h q=>gN (λ ρ' q=>ax e (λ y q=>⟨q.1,h _ q.2⟩) q) q) w
  (λ t P x F' H' σ' b ev' sl rt R fin=>wA b ev' rt (λ i hi=>by rw[sl];unfold dR;simp;have:=lt i hi;lia) λ σ2 ρ2 p ev2 sl2 keep=>by
   show if On=On then _ else _;rw[XT rfl];refine⟨F',ρ2,ev2,ax e (λ y ⟨nb,p⟩ F2 H2 v g r=>?_) p⟩;obtain⟨F3,g3,_,_,rp⟩:=r.frz g nb
   exact fin [y.fz] [v] σ2 F3 H2 p (ao _) g3 ⟨v,[],O,rp,O⟩ ((keep _ ev' λ i hi u=>wI (lt i hi) u).grow g3) sl2)
def wM{own fv:List Str}{js tgs:List Nat}(hJ:JS J)(lt:∀i∈tgs,i<own.length)(h:rE X.K J FT GT (.compI own fv js tgs k it c e) σ H Q):ik (rW X.K J FT GT k it) own.length js (Ux X.K tgs) (rT X.K J FT GT c) (rE X.K J FT GT e) σ H Q:=by
 obtain⟨F,ρ,ev,w⟩:=h;refine⟨F,ρ,ev,bI it (λ ts w=>iz (λ its w F1 H1 xs Jt g1 rx ok=>?_) w) w⟩;obtain⟨hn,w⟩:=w
 exact wJ (tc:=rT X.K J FT GT c) (te:=rE X.K J FT GT e) hJ g1 rx ok ev lt hn (λ t K'=>Ug (UQ own js ρ) tgs t λ ρ'=>wE FT GT c ρ' λ x=>b1 x λ q=>if q=On then wE FT GT e ρ' λ y=>(y.nb=On/\K' [y.fz]) else K' []) (λ t K K' h q=>gN (λ ρ' q=>ax c (λ x q=>cP (λ z q=>by
   split at q
   .rw[XT (by assumption)];exact ax e (λ y q=>⟨q.1,h _ q.2⟩) q
   .rw[XR (by assumption)];exact h _ q) q) q) q) w
  (λ t P x F' H' σ' b ev' sl rt R fin=>wA b ev' rt (λ i hi=>by rw[sl];unfold dR;simp;have:=lt i hi;lia) λ σ2 ρ2 p ev2 sl2 keep=>by
   have kp:=keep _ ev' λ i hi u=>wI (own:=own) (js:=js) (ρ:=ρ) (lt i hi) u;refine⟨F',ρ2,ev2,ax c (λ x w=>cP (λ q w2 F2 H2 g2=>?_) w) p⟩;split at w2
   .rw[XT (by assumption)];refine⟨F2,ρ2,ev2.grow g2,ax e (λ y ⟨nb,p⟩ F3 H3 v g r=>?_) w2⟩;obtain⟨F4,g4,_,_,rp⟩:=r.frz g nb;exact fin [y.fz] [v] σ2 F4 H3 p (ao _) (g2.trans g4) ⟨v,[],O,rp,O⟩ ((kp.grow g2).grow g4) sl2
   .rw[XR (by assumption)]
    exact fin [] [] σ2 F2 H2 w2 (bP _) g2 rfl (kp.grow g2) sl2)
structure CmP (X:Cx)(N:List Str)(nm:List (Str×OF))(elt tg iter:Expr)(ifs:List Expr)(scope:Scope)(cl:LA)(own fv:List Str)(js tgs:List Nat)(wi:TI)(tc:TT)(te:TE):Prop where
 c:X.calm=On
 i:PI X tg iter wi
 S:Xe X N nm scope own fv js cl
 T:Vc Op (own++fv) (cQ nm scope.names) tgs tg=On
 e:∀(C:Os) (ex:List Os) (s:Ot) (H:Hp),XS (eG X (own++fv) scope cl C ex s H) (own++fv) (cQ nm scope.names)->PE (eG X (own++fv) scope cl C ex s H) elt te
 t:∃T0,lB ifs T0/\∀(C:Os) (ex:List Os) (s:Ot) (H:Hp),XS (eG X (own++fv) scope cl C ex s H) (own++fv) (cQ nm scope.names)->PM (eG X (own++fv) scope cl C ex s H) T0 tc
 n:dX iter=On
section
variable {N:List Str}{nm:List (Str×OF)}{elt tg iter:Expr}{ifs:List Expr}{scope:Scope}{cl:LA}{pos pos' lpos:Pos}{own fv:List Str}{js tgs:List Nat}{wi:TI}{tc:TT}{te:TE}{Tb:LO}{s:Ot}{σ:St}{H:Hp}
theorem CmP.core(M:CmP X N nm elt tg iter ifs scope cl own fv js tgs wi tc te)(I:Inv X Tb σ H s)(h:ik wi own.length js (Ux X.K tgs) tc te σ H Q)
  (fin:∀(a C:Os) (s5:Ot) (H5:Hp) (fl:Flow),Inv X Tb σ H5 s5->H5 C=Oo->C≠X.env.locals->X.s₀.heap.objs.size<=C->(∀x c,X.env.cells.lookup x=Om c->c≠C)->(∀p∈X.pn++Tb,p.1≠C)->(∃m,s5.heap.Ns C m)->Q (.ref a) H5->SN (Oy X.prog X.w) X.A X.xe use QQ (.ref a) C (.ok fl) s5) :
  Ov (Oy X.prog X.w) X.A (Su (.ListComp elt [⟨tg,iter,ifs,0⟩] scope pos) scope X.env fpos (Rc []) Op (firstIter [⟨tg,iter,ifs,0⟩] X.env) use) QQ X.xe s:=by
 obtain⟨hc,hi,S,hT,he,⟨T0,lp,ht⟩,hs⟩:=M;have yx:=λ C ex s H=>(⟨rfl,S.rel⟩:XS (eG X (own++fv) scope cl C ex s H) (own++fv) (cQ nm scope.names));exact DA hc hi S.clos S.cell S.kind S.names S.sub S.has S.len S.cap (λ C ex s H=>(rD (X:=eG X (own++fv) scope cl C ex s H) S.nd hc (yx C ex s H) (λ z=>by cases z) hT).1) (λ C ex s H=>he C ex s H (yx C ex s H)) (λ C ex s H=>ht C ex s H (yx C ex s H)) lp (λ x=>wC hs) I h fin
def CmP.pe(M:CmP X N nm elt tg iter ifs scope cl own fv js tgs wi tc te)(I:Inv X Tb σ H s)(h:ik wi own.length js (Ux X.K tgs) tc te σ H Q):Ov (Oy X.prog X.w) X.A (eval (.ListComp elt [⟨tg,iter,ifs,0⟩] scope pos) X.env) (EP X Tb σ Q) X.xe s:=by
 rw[eval_ListComp];refine M.core (use:=Oo) (QQ:=EP X Tb σ Q) I h λ a C s5 H5 fl I5 zC zL zS zc zp ⟨m,hn⟩ q=>⟨m,hn,λ h' sc=>?_⟩;exact⟨.ref a,H5,I5.turned (t':=s5.toks) (it:=C) (λ d o nd e=>sc.extBut d o nd e) zC zL (.inr zS) zc zp,O,q⟩
theorem CmP.ps(M:CmP X N nm elt tg iter ifs scope cl own fv js tgs wi tc te){i:Nat}
  (hN:X.N.Nodup) (hx1:X.N[i]?=Om x) (hx:UK X.env.scope x) (hf:X.fn x=On\/X.env.scope.names.lookup x=Om .local)
  (hsw:Qf (.ListComp elt [⟨tg,iter,ifs,0⟩] scope lpos) (Om (.Name x pos')) pos.line X.env=OM On)
  (I:Inv X Tb σ H s) (h:jC (ik wi own.length js (Ux X.K tgs) tc te) (cX i) D σ H):Ov (Oy X.prog X.w) X.A (exec (.Assign [.Name x pos'] (.ListComp elt [⟨tg,iter,ifs,0⟩] scope lpos) pos) X.env) (SP X Tb D) X.xe s:=by
 rw[exec_Assign_Name_used _ _ _ _ hsw];refine ae (kM ?_);rw[arm_evalThenUse_ListComp];have core:=M.core (use:=Om (Qh (.Name x pos') X.env)) (QQ:=λ _ s'=>SP X Tb D .next s') (fpos:=firstIterPos [⟨tg,iter,ifs,0⟩] lpos) (pos:=lpos) I h (λ a C s5 H5 fl I5 zC zL zS zc zp ⟨m,hn⟩ q=>?_)
 .refine ae (ae (Tl core λ _ s' hq=>?_));exact au (au hq)
 .show Ov (Oy X.prog X.w) X.A (Qh (.Name x pos') X.env (.ref a)) _ X.xe s5;show Ov (Oy X.prog X.w) X.A (do QN pos';bindName X.env x (.ref a)) _ X.xe s5;refine ae (kM ?_);refine bindName_ ?_;refine tU I5 hN hx1 hx (show RelV (.ref a) (.ref a) from rfl) (λ s6 I6 ⟨b,sb,hb⟩=>?_) hf
  have cb:C≠b:=by
   rcases hb with rfl|hb
   .exact zL
   .exact λ z=>zc x b hb z.symm
  obtain⟨o,es,ep,e,r⟩:=hn;refine⟨m,⟨o,es,ep,(sb.2 C cb).trans e,r⟩,λ h' sc=>?_⟩;exact⟨_,H5,I6.turned (t':=s6.toks) (it:=C) (λ d o nd e=>sc.extBut d o nd e) zC zL (.inr zS) zc zp,q⟩
end
def oq{own fv:List Str}{cl:LA}:∃T0,lB [] T0/\∀(C:Os) (ex:List Os) (s:Ot) (H:Hp),XS (eG X (own++fv) scope cl C ex s H) N nm->PM (eG X (own++fv) scope cl C ex s H) T0 λ _ H K=>K On H:=⟨qA,Dz,λ _ _ _ _ _=>pm0⟩
theorem Hl{t iter elt:Expr}(xo:Tq X J FT GT fs gs)(xs:XS X N nm)(hS:Vu N nm sc own fv js=On)(hi:PI X t iter (rW X.K J FT GT k it))(hT:Vc Op (own++fv) (cQ nm sc.names) tgs t=On)(hl:tgs.all (λ i=>decide (i<own.length))=On)(hns:dX iter=On)
  (he:∀Y:Cx,Tq Y J FT GT fs gs->XS Y (own++fv) (cQ nm sc.names)->PE Y elt (rE Y.K J FT GT e)):PE X (.ListComp elt [⟨t,iter,[],0⟩] sc pos) (rE X.K J FT GT (.comp own fv js tgs k it e)):=by
 intro Tb s σ H Q I h;obtain⟨cl,S⟩:=kn I.ok xs hS;exact CmP.pe ⟨xo.calm,hi,S,hT,λ C ex s H yx=>he _ (ko xo) yx,oq,hns⟩ I (wK xo.hJ (λ i hi=>aC (gj.mp hl i hi)) h)
theorem Hn{t iter elt cnd:Expr}(xo:Tq X J FT GT fs gs)(xs:XS X N nm)(hS:Vu N nm sc own fv js=On)(hi:PI X t iter (rW X.K J FT GT k it))(hT:Vc Op (own++fv) (cQ nm sc.names) tgs t=On)(hl:tgs.all (λ i=>decide (i<own.length))=On)(hns:dX iter=On)
  (hc:∀Y:Cx,Tq Y J FT GT fs gs->XS Y (own++fv) (cQ nm sc.names)->PT Y cnd (rT Y.K J FT GT c)) (he:∀Y:Cx,Tq Y J FT GT fs gs->XS Y (own++fv) (cQ nm sc.names)->PE Y elt (rE Y.K J FT GT e)):PE X (.ListComp elt [⟨t,iter,[cnd],0⟩] sc pos) (rE X.K J FT GT (.compI own fv js tgs k it c e)):=by
 intro Tb s σ H Q I h;obtain⟨cl,S⟩:=kn I.ok xs hS;exact CmP.pe ⟨xo.calm,hi,S,hT,λ C ex s H yx=>he _ (ko xo) yx,⟨_,vA,λ C ex s H yx=>WX rfl (hc _ (ko xo) yx)⟩,hns⟩ I (wM xo.hJ (λ i hi=>aC (gj.mp hl i hi)) h)
def Ho{es:List Expr}(h:es.all aW=On):(Pu pos (OI es env)).all (λ x=>!x.1)=On:=by
 unfold Pu;rw[SJ];have:=rk (env:=env) h;rw[List.all_eq_not_any_not];simpa using this
theorem kr{e:Expr}{es:List Expr}(h:(e::es).all aW=On)(hl:(e::es).length<20) :
  ((Pu cp (OI (e::es) env)).all (λ x=>!x.1)&&(backToKw cp (keywordEach [] env)).all (λ x=>x.1.isSome)&&decide ((e::es).length+([]:List QA).length+(if ([]:List QA).isEmpty then 0 else 1)<30))=On:=by
 rw[Ho h,bp,bp];refine⟨⟨O,O⟩,?_⟩;simp only[List.isEmpty_nil,ga,RC];exact cB Z
theorem Hq{i f:Nat}{a:Expr}{es:List Expr}(xo:Tq X J FT GT fs gs)(xs:XS X N nm)(hf:f=fs.length)(h1:N[i]?=Om x)(h2:vs nm x=On)(h3:Ue x=On)(ha:PA X (a::es) (rA X.K J FT GT l))(hs:aW a=On)(hss:es.all aW=On) :
  PE X (.Call (.Name x p) (a::es) [] pos) (rE X.K J FT GT (.ap i f l)):=by
 subst hf;intro Tb s σ H Q I ⟨F,ρ,ev,hS,w⟩;obtain⟨S,hS⟩:=iS.mp hS;obtain⟨d1,d2,_⟩:=dY h3;obtain⟨fa,hs',w⟩:=qU (show Vn ρ[i]? _ from w);obtain⟨v,e,rfl,fv⟩:=ev.sl i _ hs';obtain⟨k,hr,hc⟩:=(xo.hof S hS).ap;refine Fu (k:=k) (i:=i) hr (by rw[xs.N];exact h1) (gO xs h2) ha d1 d2 (bj hs) (fO hss) Tb s σ H Q I ⟨fa,e,fv,F,ρ,ev,bI l (λ ts w F1 H1 us g1 r1=>?_) w⟩;obtain⟨hn,P,⟨S',e',sp⟩,w⟩:=w;rw[hS] at e';cases e';obtain⟨F2,g2,_,r2⟩:=gp g1 r1 hn;have fv1:FnV H1 fa:=let ⟨φ,q,kf⟩:=fv;⟨φ,g1.sm _ _ (λ ps z=>by cases z) q,kf⟩;exact⟨fv1,hc fa _ us P F2 H1 Q g2.w fv1 r2 sp λ t pt F' H' v g' r'=>w t pt F' H' v (g2.trans g') (Rr.of r')⟩
theorem Hr{i f:Nat}(xo:Tq X J FT GT fs gs)(xs:XS X N nm)(hf:f=fs.length)(hg:Gl X x)(hd:(x == ("__debug__" : Str))=Op)(h1:N[i]?=Om z)(h2:vs nm z=On)(h3:Ue z=On)(hc:PE X u (rE X.K J FT GT c))(hs:aW u=On) :
  PE X (.Call (.Name x p) [u,.Name z q] [] pos) (rE X.K J FT GT (.cf i f x c)):=by
 subst hf;intro Tb s σ H Q I ⟨F,ρ,ev,⟨S,eS,sx⟩,w⟩;obtain⟨d1,d2,_⟩:=dY h3;obtain⟨k,ps,hr,cc⟩:=(xo.hof S eS).cf x sx;obtain⟨fa,hs',w⟩:=qU (show Vn ρ[i]? _ from w);refine qB cc hr hg qy (cY hc (cY (gB (pos:=q) (by rw[xs.N];exact h1) (gO xs h2) d1 d2) pa_nil rfl) (bj hs)) hd (bj hs) rfl Tb s σ H Q I ?_;refine⟨F,ρ,ev,ax c (λ t w F1 H1 v g r=>?_) w⟩;obtain⟨v2,e2,rfl,fv⟩:=(ev.grow g).sl i _ hs';obtain⟨hn,P,⟨S',e',sp⟩,w⟩:=w;rw[eS] at e';cases e';obtain⟨F2,g2,_,_,r2⟩:=r.frz g hn;show cg i σ H1 _;unfold cg;rw[e2];exact⟨F2,fa,[t.fz],[v],P,O,g2.w,fv,⟨v,[],O,r2,O⟩,sp,λ t pt F' H' v' g' r'=>w t pt F' H' v' (g2.trans g') (Rr.of r')⟩
def Hs(h:PE X e (rE X.K J FT GT c))(he:∀whole,isTrue e X.env whole=(do let v <- whole;QN e.pos;PB [v] (truthy v))):PT X e (rT X.K J FT GT c) :=
 (Bm h he).imp λ σ H Q ⟨F,ρ,ev,w⟩=>⟨F,ρ,ev,ax c (λ t w F1 H1 v g r=>by
  obtain⟨b,e,w2⟩:=iA w;subst e;cases r
  exact w2 F1 H1 g) w⟩
def Ht{o:Qo}(xo:Tq X J FT GT fs gs)(ha:PE X l (rE X.K J FT GT a))(hb:PE X r (rE X.K J FT GT b))(hs:dX r=On):PT X (.Compare l [o] [r] p) (rT X.K J FT GT (.cmp o a b)) :=
 (Cw (jZ xo.units o) ha hb (rF hs)).imp λ σ H Q ⟨F,ρ,ev,w⟩=>⟨F,ρ,ev,ax a (λ x w F1 H1 v g1 r1=>⟨F1,ρ,ev.grow g1,ax b (λ y w F2 H2 v2 g2 r2=>⟨F,H,F2,x,y,g1.trans g2,r1.grow g2,r2.late g1,gM (λ z w v r=>by
  obtain⟨b,e,w2⟩:=iA w;subst e;cases r
  exact w2 F2 H2 (g1.trans g2)) w⟩) w⟩) w⟩
def Hu{o o':Qo}(xo:Tq X J FT GT fs gs)(ha:PE X l (rE X.K J FT GT a))(hb:PE X r (rE X.K J FT GT b))(hc:PE X w' (rE X.K J FT GT c))(hs:dX w'=On):PT X (.Compare l [o,o'] [r,w'] p) (rT X.K J FT GT (.cm2 o o' a b c)) :=
 (Cz (jZ xo.units o) (jZ xo.units o') ha hb hc (wB hs)).imp λ σ H Q ⟨F,ρ,ev,w⟩=>⟨F,ρ,ev,ax a (λ x w F1 H1 v g1 r1=>⟨F1,ρ,ev.grow g1,ax b (λ y w F2 H2 v2 g2 r2=>⟨F,H,F2,x,y,g1.trans g2,r1.grow g2,r2.late g1,gM (λ z w v3 r3=>by
  obtain⟨k,ek,w2⟩:=iA w;subst ek;cases r3;refine⟨k,O,?_⟩;split at w2
  .rw[XT (by assumption)]
   exact⟨F2,ρ,(ev.grow g1).grow g2,ax c (λ z w F4 H4 v4 g4 r4=>⟨F,H,F4,y,z,(g1.trans g2).trans g4,(r2.late g1).grow g4,r4.late (g1.trans g2),gM (λ u w v r=>by
    obtain⟨b,e,w3⟩:=iA w;subst e;cases r
    exact w3 F4 H4 ((g1.trans g2).trans g4)) w⟩) w2⟩
  .rw[XR (by assumption)];exact w2 F2 H2 (g1.trans g2)) w⟩) w⟩) w⟩
def Hv(ha:PT X l (rT X.K J FT GT a)):PT X (.UnaryOp .Not l p) (rT X.K J FT GT (.not a)) :=
 (Bu ha).imp λ σ H Q ⟨F,ρ,ev,w⟩=>⟨F,ρ,ev,ax a (λ x w=>cP (λ b w F1 H1 g=>w F1 H1 g) w) w⟩
def wN{l r:Expr}{Td:List Expr}(ha:PT X l (rT X.K J FT GT a))(hb:PW X (.BoolOp .And (r::Td) p) (rT X.K J FT GT b)):PW X (.BoolOp .And (l::r::Td) p) (rT X.K J FT GT (.and a b)):=by
 intro wh Tb s σ H Q I q;refine Br ha hb wh Tb s σ H Q I ?_;obtain⟨F,ρ,ev,w⟩:=q;refine⟨F,ρ,ev,ax a (λ x w=>cP (λ k w2 F1 H1 g1=>?_) w) w⟩;split at w2
 .rw[XT (by assumption)];exact⟨F1,ρ,ev.grow g1,ax b (λ y w=>cP (λ k w F2 H2 g2=>w F2 H2 (g1.trans g2)) w) w2⟩
 .rw[XR (by assumption)];exact w2 F1 H1 g1
def wO{l r:Expr}{Td:List Expr}(ha:PT X l (rT X.K J FT GT a))(hb:PW X (.BoolOp .Or (r::Td) p) (rT X.K J FT GT b)):PW X (.BoolOp .Or (l::r::Td) p) (rT X.K J FT GT (.or a b)):=by
 intro wh Tb s σ H Q I q;refine Bt ha hb wh Tb s σ H Q I ?_;obtain⟨F,ρ,ev,w⟩:=q;refine⟨F,ρ,ev,ax a (λ x w=>cP (λ k w2 F1 H1 g1=>?_) w) w⟩;split at w2
 .rw[XT (by assumption)];exact w2 F1 H1 g1
 .rw[XR (by assumption)];exact⟨F1,ρ,ev.grow g1,ax b (λ y w=>cP (λ k w F2 H2 g2=>w F2 H2 (g1.trans g2)) w) w2⟩
def wP{lo:Cd}(h:kg lo=On):PO X Oo (λ σ H Q=>∃F ρ,EV X.K J F H σ ρ/\wE FT GT lo ρ λ t=>oI t λ o=>∀F' H',Grow J F H F' H'->Q o H'):=by
 intro Tb s σ H Q I q;obtain⟨F,ρ,ev,w⟩:=q
 have e:lo=.c .non:=by unfold kg at h;split at h<;>first|rfl|cases h
 subst e;exact CS Tb s σ H Q I (w F H (.refl ev.w))
def wQ{lo:Cd}(he:PE X e (rE X.K J FT GT lo)):PO X (Om e) (λ σ H Q=>∃F ρ,EV X.K J F H σ ρ/\wE FT GT lo ρ λ t=>oI t λ o=>∀F' H',Grow J F H F' H'->Q o H'):=by
 intro Tb s σ H Q I q;obtain⟨F,ρ,ev,w⟩:=q;rw[evalPart_some];refine Tl (he Tb s σ H (λ x H1=>(x=.non/\Q Oo H1)\/∃i,x=.int i/\Q (Om i) H1) I ⟨F,ρ,ev,ax lo (λ t w F1 H1 v g r=>?_) w⟩) λ u s1 ⟨x,H1,I1,r1,q1⟩=>?_
 .cases t with
  |non=>cases r;exact .inl ⟨rfl,w F1 H1 g⟩
  |int i=>cases r;exact .inr ⟨i,rfl,w F1 H1 g⟩
  |_=>exact w.elim
 .rcases q1 with ⟨rfl,q⟩|⟨i,rfl,q⟩
  .cases r1;exact⟨Oo,H1,I1,.none,q⟩
  .obtain⟨tk,rfl⟩:=r1;exact⟨Om i,H1,I1,.int _ _,q⟩
end
def Hw(h:wc c=On):c=.nil:=by cases c<;>first|rfl|exact Oq h
def wR(h:kj e=On):∃es k p,e=.Tuple es k p:=by cases e<;>first|exact⟨_,_,_,rfl⟩|exact Oq h
set_option tactic.hygienic true in
def Hx(h:WF e=On)(whole:Sem Value):isTrue e env whole=(do let v <- whole;QN e.pos;PB [v] (truthy v)):=by
 cases e<;>first|rfl|(exact Oq h)|skip
 rename_i op _ _
 cases op<;>first|rfl|exact Oq h
section
variable {fs gs:List Str}
def iF:∀ {r:Cd}{N:List Str}{nm:List (Str×OF)}{es:List Expr},ckL fs gs r N nm es=On->es.all aW=On:=λ {r}=>by
 induction r with
 |nil=>intro N nm es h;cases es with|nil=>rfl|cons e es=>exact Oq h
 |cons a r _ ih=>
  intro N nm es h
  cases es with
  |nil=>exact Oq h
  |cons e es=>
   obtain⟨h1,h2⟩:=an h;rw[cK,(an h1).1,ih h2];rfl
 |_=>intro N nm es h;exact Oq h
def jm(h:ckI fs gs c k tg N nm it=On):dX it=On:=by
 cases c with
 |cons a r=>
  cases k with
  |seq=>exact(an (an h).1).1
  |str=>exact Oq h
  |_=>exact dG h λ _ _ _ _ _=>rfl
 |_=>exact Oq h
end
section
variable {J:Hp->Prop}{FT:List Tc}{GT:List TV}{fs gs:List Str}
structure SA (J:Hp->Prop)(FT:List Tc)(GT:List TV)(fs gs:List Str)(c:Cd):Prop where
 e:∀ {X:Cx}{N:List Str}{nm:List (Str×OF)}{e:Expr},Tq X J FT GT fs gs->XS X N nm->ck fs gs c N nm e=On->PE X e (rE X.K J FT GT c)
 l:∀ {X:Cx}{N:List Str}{nm:List (Str×OF)}{es:List Expr},Tq X J FT GT fs gs->XS X N nm->ckL fs gs c N nm es=On->PA X es (rA X.K J FT GT c)
 i:∀ {k:IK}{X:Cx}{N:List Str}{nm:List (Str×OF)}{tg it:Expr},Tq X J FT GT fs gs->XS X N nm->ckI fs gs c k tg N nm it=On->PI X tg it (rW X.K J FT GT k c)
 t:∀ {X:Cx}{N:List Str}{nm:List (Str×OF)}{e:Expr},Tq X J FT GT fs gs->XS X N nm->tB' c e=On->ck fs gs c N nm e=On->PT X e (rT X.K J FT GT c)
 w:∀ {X:Cx}{N:List Str}{nm:List (Str×OF)}{op:Rz}{es:List Expr}{p:Pos},Tq X J FT GT fs gs->XS X N nm->ck fs gs c N nm (.BoolOp op es p)=On->PW X (.BoolOp op es p) (rT X.K J FT GT c)
abbrev EF(J:Hp->Prop)(FT:List Tc)(GT:List TV)(fs gs:List Str)(c:Cd):Prop:=∀ {X:Cx}{N:List Str}{nm:List (Str×OF)}{e:Expr},Tq X J FT GT fs gs->XS X N nm->ck fs gs c N nm e=On->PE X e (rE X.K J FT GT c)
def SA.val(E:EF J FT GT fs gs c)(t:autoParam (∀e,tB' c e=WF e) A7._auto_1)(l:autoParam (∀N nm es,ckL fs gs c N nm es=Op) A5._auto_1)(i:autoParam (∀k tg N nm it,ckI fs gs c k tg N nm it=Op) A5._auto_1)(w:autoParam (∀N nm op es p,ck fs gs c N nm (.BoolOp op es p)=Op) A5._auto_1):SA J FT GT fs gs c :=
 ⟨E,λ _ _ h=>by rw[l] at h;exact Oq h,λ _ _ h=>by rw[i] at h;exact Oq h,λ xo xs n h=>Hs (E xo xs h) (Hx (by rw[<- t];exact n)),λ _ _ h=>by rw[w] at h;exact Oq h⟩
def SA.tst(E:EF J FT GT fs gs c)(T:∀ {X:Cx}{N:List Str}{nm:List (Str×OF)}{e:Expr},Tq X J FT GT fs gs->XS X N nm->ck fs gs c N nm e=On->PT X e (rT X.K J FT GT c))(l:autoParam (∀N nm es,ckL fs gs c N nm es=Op) A5._auto_1)(i:autoParam (∀k tg N nm it,ckI fs gs c k tg N nm it=Op) A5._auto_1)(w:autoParam (∀N nm op es p,ck fs gs c N nm (.BoolOp op es p)=Op) A5._auto_1):SA J FT GT fs gs c :=
 ⟨E,λ _ _ h=>by rw[l] at h;exact Oq h,λ _ _ h=>by rw[i] at h;exact Oq h,λ xo xs _ h=>T xo xs h,λ _ _ h=>by rw[w] at h;exact Oq h⟩
def sA(J:Hp->Prop)(FT:List Tc)(GT:List TV)(fs gs:List Str)(c:Cd):SA J FT GT fs gs c:=by
 induction c with
 |v i=>exact .val λ xo xs h=>s_v xs h
 |c t=>exact .val λ xo xs h=>s_c h
 |g k=>exact .val λ xo xs h=>s_g xo xs h
 |bin o a b ia ib=>
  refine .val λ {X N nm e} xo xs h=>?_;refine GE h λ l op r p k1=>?_;obtain⟨g1,g2,g3⟩:=a3 k1;cases aC g1;exact GN xo (ia.e xo xs g2) (ib.e xo xs g3)
 |neg a ia=>
  refine .val λ {X N nm e} xo xs h=>?_;refine wj h λ op x p k1=>?_;cases aC (an k1).1;exact GQ (ia.e xo xs (an k1).2)
 |not a ia=>
  refine .tst (λ {X N nm e} xo xs h=>?_) (λ {X N nm e} xo xs h=>?_)
  all_goals
   refine wj h λ op x p k1=>?_;obtain⟨g1,g2,g3⟩:=a3 k1;cases aC g1
  .exact GR (ia.e xo xs g3)
  .exact Hv (ia.t xo xs g2 g3)
 |cmp o a b ia ib=>
  refine .tst (λ {X N nm e} xo xs h=>?_) (λ {X N nm e} xo xs h=>?_)
  all_goals
   refine wl h λ l os rs p k1=>?_;refine eZ k1 λ op k2=>?_;refine eZ k2 λ r k3=>?_;obtain⟨g1,g2,g3,g4⟩:=a4 k3;cases aC g1
  .exact GO xo (ia.e xo xs g2) (ib.e xo xs g3) g4
  .exact Ht xo (ia.e xo xs g2) (ib.e xo xs g3) g4
 |cm2 o o' a b c ia ib ic=>
  refine .tst (λ {X N nm e} xo xs h=>?_) (λ {X N nm e} xo xs h=>?_)
  all_goals
   refine wl h λ l os rs p k1=>?_;refine lU k1 λ op op' k2=>?_;refine lU k2 λ r r' k3=>?_;obtain⟨g1,g2,g3,g4,g5,g6⟩:=a6 k3;cases aC g1;cases aC g2
  .exact GS xo (ia.e xo xs g3) (ib.e xo xs g4) (ic.e xo xs g5) g6
  .exact Hu xo (ia.e xo xs g3) (ib.e xo xs g4) (ic.e xo xs g5) g6
 |and a b ia ib=>
  have W:∀ {X:Cx}{N:List Str}{nm:List (Str×OF)}{op:Rz}{es:List Expr}{p:Pos},Tq X J FT GT fs gs->XS X N nm->ck fs gs (.and a b) N nm (.BoolOp op es p)=On->PW X (.BoolOp op es p) (rT X.K J FT GT (.and a b)):=by
   intro X N nm op es p xo xs h;obtain⟨g,g'⟩:=an h;cases aC g
   rcases es with _|⟨x,_|⟨y,_|⟨z,r⟩⟩⟩<;>try exact Oq g'
   .obtain⟨h1,h2,h3,h4⟩:=a4 g';exact wN (ia.t xo xs h1 h3) (Bp (ib.t xo xs h2 h4))
   .obtain⟨h1,h3,h4⟩:=a3 g';exact wN (ia.t xo xs h1 h3) (ib.w xo xs h4)
  refine⟨λ {X N nm e} xo xs h=>?_,λ _ _ h=>Oq h,λ _ _ h=>Oq h,λ {X N nm e} xo xs n h=>?_,W⟩
  .refine wn h λ op es p g=>?_;obtain⟨g,g'⟩:=an g;cases aC g
   rcases es with _|⟨x,_|⟨y,_|⟨z,r⟩⟩⟩<;>try exact Oq g'
   .obtain⟨h1,h2,h3,h4⟩:=a4 g';exact wD (ia.e xo xs h3) (tY (ib.e xo xs h4))
   .obtain⟨h1,h3,h4⟩:=a3 g';exact wD (ia.e xo xs h3) (ib.e xo xs h4)
  .obtain⟨op,es,p,rfl,g⟩:=wo h;exact(W xo xs h).pt
 |or a b ia ib=>
  have W:∀ {X:Cx}{N:List Str}{nm:List (Str×OF)}{op:Rz}{es:List Expr}{p:Pos},Tq X J FT GT fs gs->XS X N nm->ck fs gs (.or a b) N nm (.BoolOp op es p)=On->PW X (.BoolOp op es p) (rT X.K J FT GT (.or a b)):=by
   intro X N nm op es p xo xs h;obtain⟨g,g'⟩:=an h;cases aC g
   rcases es with _|⟨x,_|⟨y,_|⟨z,r⟩⟩⟩<;>try exact Oq g'
   .obtain⟨h1,h2,h3,h4⟩:=a4 g';exact wO (ia.t xo xs h1 h3) (Bq (ib.t xo xs h2 h4))
   .obtain⟨h1,h3,h4⟩:=a3 g';exact wO (ia.t xo xs h1 h3) (ib.w xo xs h4)
  refine⟨λ {X N nm e} xo xs h=>?_,λ _ _ h=>Oq h,λ _ _ h=>Oq h,λ {X N nm e} xo xs n h=>?_,W⟩
  .refine wn h λ op es p g=>?_;obtain⟨g,g'⟩:=an g;cases aC g
   rcases es with _|⟨x,_|⟨y,_|⟨z,r⟩⟩⟩<;>try exact Oq g'
   .obtain⟨h1,h2,h3,h4⟩:=a4 g';exact wF (ia.e xo xs h3) (tY (ib.e xo xs h4))
   .obtain⟨h1,h3,h4⟩:=a3 g';exact wF (ia.e xo xs h3) (ib.e xo xs h4)
  .obtain⟨op,es,p,rfl,g⟩:=wo h;exact(W xo xs h).pt
 |ite c a b ic ia ib=>
  refine .val λ {X N nm e} xo xs h=>?_;refine GF h λ x y z p k1=>?_;obtain⟨g1,g2,g3,g4⟩:=a4 k1;exact GU (ic.t xo xs g1 g2) (ia.e xo xs g3) (ib.e xo xs g4)
 |nil=>
  refine⟨λ _ _ h=>Oq h,λ {X N nm es} xo xs h=>?_,λ _ _ h=>Oq h,λ _ _ _ h=>Oq h,λ _ _ h=>Oq h⟩
  cases es with
  |nil=>exact GV
  |cons e es=>exact Oq h
 |cons a r ia ir=>
  refine⟨λ _ _ h=>Oq h,λ {X N nm es} xo xs h=>?_,λ {k X N nm tg it} xo xs h=>?_,λ _ _ _ h=>Oq h,λ _ _ h=>Oq h⟩
  .cases es with
   |nil=>exact Oq h
   |cons e es=>
    obtain⟨h1,h3⟩:=an h;obtain⟨h1,h2⟩:=an h1;exact wG (ia.e xo xs h2) (ir.l xo xs h3) h1
  .have call:∀ {x:Str}{p:Pos}{e:Expr}{es:List Expr}{pos:Pos},decide (Vo k=Om (x,es.length))=On->gl nm x=On->(!Wf k || kj tg)=On->aW e=On->ck fs gs a N nm e=On->ckL fs gs r N nm es=On->PI X tg (.Call (.Name x p) (e::es) [] pos) (rW X.K J FT GT k (.cons a r)):=by
    intro x p e es pos h1 h2 h3 h4 h5 h6;have hk:=aC h1;have he:=ia.e xo xs h5;have hr:=ir.l xo xs h6;have st:=iF h6;have g:=UI xs h2
    have n0:es=[]->r=.nil:=λ z=>by subst z;cases r<;>first|rfl|exact Oq h6
    cases k with
    |seq|str|rng2|zip c d|zip3=>cases hk
    |rng=>
     simp only[Vo,ou,oy] at hk;obtain⟨rfl,hk⟩:=hk;cases lO hk.symm;cases n0 rfl;exact Hg xo g h4 he
    |rng3=>
     simp only[Vo,ou,oy] at hk;obtain⟨rfl,hk⟩:=hk
     match es,hk with
     |[y,z],_=>exact Hi xo g h4 (by simp at st;exact st.1) (by simp at st;exact st.2) (wG he hr h4)
    |enum c=>
     simp only[Vo,ou,oy] at hk;obtain⟨rfl,hk⟩:=hk;obtain⟨tes,tk,tp,rfl⟩:=wR (show kj tg=On by simpa [Wf] using h3);cases lO hk.symm;cases n0 rfl;exact Hj xo g h4 he
    |rev c=>
     cases c<;>try (cases hk;done)
     simp only[Vo,ou,oy] at hk;obtain⟨rfl,hk⟩:=hk;cases lO hk.symm;cases n0 rfl;exact Hk xo g h4 he
   have arg:(dw it λ g as w _=>bJ g λ x _=>cC as λ e es=>w.isEmpty&&decide (Vo k=Om (x,es.length))&&gl nm x&&(!Wf k || kj tg)&&aW e&&ck fs gs a N nm e&&ckL fs gs r N nm es)=On->PI X tg it (rW X.K J FT GT k (.cons a r)):=λ h=>by
    refine dG h λ g as w pos k1=>?_;refine bz k1 λ x p k2=>?_;refine oh k2 λ e es k3=>?_;obtain⟨g0,g1,g2,g3,g4,g5,g6⟩:=a7 k3;refine dg g0 ?_;exact call g1 g2 g3 g4 g5 g6
   cases k with
   |seq=>
    obtain⟨h1,h3⟩:=an h;cases Hw (an h1).2;exact He (ia.e xo xs h3)
   |str=>exact Oq h
   |_=>exact arg h
 |tup l il=>
  refine .val λ {X N nm e} xo xs h=>?_;refine oe h λ es _ _ k1=>?_;exact GW xo (il.l xo xs k1)
 |lst l il=>
  refine .val λ {X N nm e} xo xs h=>?_;refine wq h λ es _ k1=>?_;exact GX xo (il.l xo xs k1)
 |ix a b ia ib=>
  refine .val λ {X N nm e} xo xs h=>?_;refine lQ h λ x y p k1=>?_;obtain⟨g1,g2,g3⟩:=a3 k1;exact GP (ia.e xo xs g2) (ib.e xo xs g3) g1
 |sl a lo hi ia il ih=>
  refine .val λ {X N nm e} xo xs h=>?_;refine lQ h λ x y p k1=>?_;refine GG k1 λ l u st q k2=>?_;obtain⟨g0,g1,g2,g3⟩:=a4 k2;cases Option.isNone_iff_eq_none.mp g0;refine GY xo (ia.e xo xs g1) ?_ ?_
  .cases l with
   |none=>exact wP g2
   |some l=>exact wQ (il.e xo xs (an g2).1)
  .cases u with
   |none=>exact wP g3
   |some u=>exact wQ (ih.e xo xs (an g3).1)
 |call f l il=>
  refine .val λ {X N nm e} xo xs h=>?_;refine dG h λ f' as w pos k1=>?_;refine bz k1 λ x p k2=>?_;refine oh k2 λ a es k3=>?_;obtain⟨g0,g1,g2,g3,g4⟩:=a5 k3;refine dg g0 ?_;have st:=iF g4;rw[cK,bp] at st;exact GZ xo (aC g1) (UI xs g2) (dY g3).1 (il.l xo xs g4) st.1 st.2
 |bi f l il=>
  refine .val λ {X N nm e} xo xs h=>?_;refine dG h λ f' as w pos k1=>?_;refine bz k1 λ x p k2=>?_;refine oh k2 λ a es k3=>?_;obtain⟨g0,g1,g2,g4⟩:=a4 k3;refine dg g0 ?_;have st:=iF g4;rw[cK,bp] at st;exact Ha xo (aC g1) (UI xs g2) (il.l xo xs g4) st.1 st.2
 |mxl a b ia ib=>
  refine .val λ {X N nm e} xo xs h=>?_;refine dG h λ f' as w pos k1=>?_;refine bz k1 λ x p k2=>?_;refine lU k2 λ y z k3=>?_;obtain⟨⟨kx,kv,kp⟩,rfl,k4⟩:=iD k3;obtain⟨u,_,e1,k5⟩:=GC k4;cases e1;obtain⟨g1,g2,g3,g4,g5,g6,g7,g8,g9⟩:=a9 k5;cases aC g1;cases aC g3;cases aC g4;exact Hb xo (UI xs g2) (UI xs g5) g6 g7 (ia.e xo xs g8) (ib.e xo xs g9)
 |trev k a ia=>
  refine .val λ {X N nm e} xo xs h=>?_;refine dG h λ f' as w pos k1=>?_;refine bz k1 λ x p k2=>?_;refine eZ k2 λ u k3=>?_;refine dG k3 λ f'' as' w' pos' k4=>?_;refine bz k4 λ y p' k5=>?_;refine eZ k5 λ z k6=>?_;obtain⟨g0,g0',g1,g2,g3,g4,g5,g6⟩:=a8 k6;refine dg g0 ?_;refine dg g0' ?_;cases aC g1;cases aC g3;exact Hc xo (UI xs g2) (UI xs g4) g5 (ia.e xo xs g6)
 |ap i f l il=>
  refine .val λ {X N nm e} xo xs h=>?_;refine dG h λ f' as w pos k1=>?_;refine bz k1 λ x p k2=>?_;refine oh k2 λ a es k3=>?_;obtain⟨g0,g1,g2,g3,g4,g5⟩:=a6 k3;refine dg g0 ?_;have st:=iF g5;rw[cK,bp] at st;exact Hq xo xs (aC g1) (aC g2) g3 g4 (il.l xo xs g5) st.1 st.2
 |cf i f x c ic=>
  refine .val λ {X N nm e} xo xs h=>?_;refine dG h λ f' as w pos k1=>?_;refine bz k1 λ y p k2=>?_;refine lU k2 λ u v k3=>?_;refine bz k3 λ z q k4=>?_;obtain⟨g0,g1,g2,g3,g4,g5⟩:=a6 k4;obtain⟨b0,b1,b2,b3,b4⟩:=a5 g0;refine dg b0 ?_;cases aC b2;exact Hr xo xs (aC b1) (UI xs b3) (dY b4).1 (aC g1) g2 g3 (ic.e xo xs g5) g4
 |lrng k a ia=>
  refine .val λ {X N nm e} xo xs h=>?_;refine dG h λ f' as w pos k1=>?_;refine bz k1 λ x p k2=>?_;refine eZ k2 λ u k3=>?_;refine dG k3 λ f'' as' w' pos' k4=>?_;refine bz k4 λ y p' k5=>?_;refine eZ k5 λ z k6=>?_;obtain⟨g0,g0',g1,g2,g3,g4,g5,g6⟩:=a8 k6;refine dg (an g0).1 ?_;refine dg g0' ?_;cases aC g1;cases aC g3;exact Hd (k:=k) (an g0).2 xo (UI xs g2) (UI xs g4) g5 (ia.e xo xs g6)
 |dk k a ia=>
  refine .val λ {X N nm e} xo xs h=>?_;refine lQ h λ o y p k1=>?_;refine bz k1 λ x q k2=>?_;obtain⟨g1,g2,g3,g4,g5⟩:=a5 k2;exact GM xo xs (aC g1) g2 g3 g4 (ia.e xo xs g5)
 |comp own fv js tg k it e ii ie=>
  refine .val λ {X N nm x} xo xs h=>?_;obtain⟨elt,gn,sc,p,rfl,k1⟩:=lT h;obtain⟨⟨t,iter,ifs,z⟩,rfl,k2⟩:=iD k1;obtain⟨g0,g1,g2,g3,g4,g5,g6⟩:=a7 k2;cases (show ifs=[] from rN.mp g0);cases aC g1;exact Hl xo xs g2 (ii.i xo xs g3) g4 g5 (jm g3) λ Y yo ys=>ie.e yo ys g6
 |compI own fv js tg k it c e ii ic ie=>
  refine .val λ {X N nm x} xo xs h=>?_;obtain⟨elt,gn,sc,p,rfl,k1⟩:=lT h;obtain⟨⟨t,iter,ifs,z⟩,rfl,k2⟩:=iD k1;obtain⟨cnd,e1,k3⟩:=iD k2;cases e1;obtain⟨g1,g2,g3,g4,g5,g6,g7,g8⟩:=a8 k3;cases aC g1;exact Hn xo xs g2 (ii.i xo xs g3) g4 g5 (jm g3) (λ Y yo ys=>ic.t yo ys g6 g7) λ Y yo ys=>ie.e yo ys g8
def sE(c:Cd)(xo:Tq X J FT GT fs gs)(xs:XS X N nm)(h:ck fs gs c N nm e=On):PE X e (rE X.K J FT GT c):=(sA J FT GT fs gs c).e xo xs h
def sL(c:Cd)(xo:Tq X J FT GT fs gs)(xs:XS X N nm)(h:ckL fs gs c N nm es=On):PA X es (rA X.K J FT GT c):=(sA J FT GT fs gs c).l xo xs h
def sI(c:Cd)(k:IK)(xo:Tq X J FT GT fs gs)(xs:XS X N nm)(h:ckI fs gs c k tg N nm it=On):PI X tg it (rW X.K J FT GT k c):=(sA J FT GT fs gs c).i xo xs h
def sT(c:Cd)(xo:Tq X J FT GT fs gs)(xs:XS X N nm)(n:tB' c e=On)(h:ck fs gs c N nm e=On):PT X e (rT X.K J FT GT c):=(sA J FT GT fs gs c).t xo xs n h
end
inductive MM where
 |append|insert|extend (t:Bool)|pop
inductive Ct where
 |nil|never|ret (c:Cd)
 |set (i:Nat) (c:Cd) (r:Ct)|sets (is:List Nat) (c:Cd) (r:Ct)|fz (i:Nat) (r:Ct)|ex (c:Cd) (r:Ct)
 |met (m:MM) (i:Nat) (l:Cd) (r:Ct)|put (i:Nat) (c d:Cd) (r:Ct)
 |ite (c:Cd) (a b r:Ct)|«for» (tg:List Nat) (k:IK) (it:Cd) (b r:Ct)|tri (b r:Ct)
 |nl (i:Nat) (own:List Str) (k:IK) (it:Cd) (r:Ct)|pu (i j:Nat) (e:Cd) (r:Ct)|fu (i:Nat) (r:Ct)|xl (i f:Nat) (l:Cd) (r:Ct)
noncomputable def Vp(ρ:En)(i:Nat):En:=match ρ[i]? with|some (Om (.own l))=>ρ.set i (Om (.lst l))|_=>ρ
def fzC:Cd->En->En
 |.v i,ρ=>Vp ρ i
 |_,ρ=>ρ
def fzV:Cd->En->En
 |.cons a r,ρ=>fzV r (fzC a ρ)
 |_,ρ=>ρ
def UT(b:TV->En->(En->Prop)->Prop):List TV->En->(En->Prop)->Prop
 |[],ρ,K=>K ρ
 |t::r,ρ,K=>b t ρ λ ρ'=>UT b r ρ' K
def VH(s:Option (Option TV))(P:List Os->List (LL)->Prop):Prop:=match s with|some (Om (.obj (.lls as ll)))=>P as ll|_=>False
def Wg(s:Option (Option TV))(P:Int->Prop):Prop:=match s with|some (Om (.int k))=>P k|_=>False
noncomputable def rO(ρ:En):Bool:=ρ.all λ s=>match s with|some (.obj (.lls _ _))=>Op|_=>On
def rP(q:VH s P):∃as ll,s=Om (Om (.obj (.lls as ll)))/\P as ll:=by
 rcases s with _|_|t
 .exact q.elim
 .exact q.elim
 .cases t with
  |obj o=>cases o<;>first|exact⟨_,_,rfl,q⟩|exact q.elim
  |_=>exact q.elim
def wT(q:Wg s P):∃k,s=Om (Om (.int k))/\P k:=by
 rcases s with _|_|t
 .exact q.elim
 .exact q.elim
 .cases t<;>first|exact⟨_,rfl,q⟩|exact q.elim
def wU{P P':List Os->List (LL)->Prop}(h:∀as ll,P as ll->P' as ll)(q:VH s P):VH s P':=by
 obtain⟨as,ll,e,p⟩:=rP q;subst e;exact h as ll p
def Hy{P P':Int->Prop}(h:∀k,P k->P' k)(q:Wg s P):Wg s P':=by
 obtain⟨k,e,p⟩:=wT q;subst e;exact h k p
def fP(s:Option (Option TV))(P:List TV->Prop):Prop:=match s with|some (Om (.own l))=>P l|_=>False
def VI(m:MM)(l:List TV)(ts:List TV)(K:TV->List TV->Prop):Prop:=match m,ts with
 |.append,[t]=>t.nb=On/\l.length<Ou/\K .non (l++[t.fz])
 |.insert,[u,t]=>i1 u λ i=>t.nb=On/\(0<=i/\i<=l.length)/\l.length<Ou/\K .non (l.take i.toNat++t.fz::l.drop i.toNat)
 |.extend b,[t]=>t.nb=On/\k1 b t λ m=>l.length+m.length<=Ou/\K .non (l++m)
 |.pop,[]=>∃y,l[l.length-1]?=Om y/\K y l.dropLast
 |.pop,[u]=>i1 u λ i=>(-(2 ^ 63)<=i/\i<2 ^ 63)/\∃k y,QH i l.length=Om k/\l[k]?=Om y/\K y (l.eraseIdx k)
 |_,_=>False
section
variable (FT:List Tc)(GT:List TV)
def wS:Ct->En->(En->Prop)->(TV->Prop)->Prop
 |.nil,ρ,nx,_=>nx ρ
 |.never,_,_,_=>False
 |.ret c,ρ,_,rt=>wE FT GT c (fzC c ρ) λ t=>t.nb=On/\rt t.fz
 |.set i c r,ρ,nx,rt=>wE FT GT c (fzC c ρ) λ t=>t.nb=On/\wS r ((fzC c ρ).set i (Om t)) nx rt
 |.sets is c r,ρ,nx,rt=>wE FT GT c ρ λ t=>(match t with|.tup _=>Ug ρ is t λ ρ'=>wS r ρ' nx rt|_=>False)
 |.fz i r,ρ,nx,rt=>wS r (Vp ρ i) nx rt
 |.ex c r,ρ,nx,rt=>wE FT GT c ρ λ _=>wS r ρ nx rt
 |.met m i l r,ρ,nx,rt=>fP (fzV l ρ)[i]? λ xs=>wL FT GT l (fzV l ρ) λ ts=>VI m xs ts λ _ ys=>wS r ((fzV l ρ).set i (Om (.own ys))) nx rt
 |.put i c d r,ρ,nx,rt=>fP (fzC d ρ)[i]? λ xs=>wE FT GT d (fzC d ρ) λ t=>t.nb=On/\wE FT GT c (fzC d ρ) λ u=>i1 u λ k=>∃n,UP xs.length k=Om n/\wS r ((fzC d ρ).set i (Om (.own (xs.set n t.fz)))) nx rt
 |.ite c a b r,ρ,nx,rt=>wE FT GT c ρ λ t=>b1 t λ k=>if k=On then wS a ρ (λ ρ'=>wS r ρ' nx rt) rt else wS b ρ (λ ρ'=>wS r ρ' nx rt) rt
 |.for tg k it b r,ρ,nx,rt=>wL FT GT it (fzV it ρ) λ ts=>ts.all TV.nb=On/\Vb k ts λ its=>UT (λ t ρ K=>Ug ρ tg t λ ρ'=>wS b ρ' K rt) its (fzV it ρ) λ ρ'=>wS r ρ' nx rt
 |.tri b r,ρ,nx,rt=>wS b ρ (λ ρ'=>wS r ρ' nx rt) rt
 |.nl i _ k it r,ρ,nx,rt=>rO ρ=On/\wL FT GT it ρ λ ts=>Vb k ts λ its=>its.length<Ou/\∀as:List Os,as.Nodup->as.length=its.length->wS r (ρ.set i (Om (.obj (.lls as (Ow as.length []))))) nx rt
 |.pu i j e r,ρ,nx,rt=>VH ρ[i]? λ as ll=>Wg ρ[j]? λ k=>∃(n:Nat) (l:LL),k=n/\ll[n]?=Om l/\l.length<1000/\wE FT GT e ρ λ t=>∃ks,t=kT ks/\wS r (ρ.set i (Om (.obj (.lls as (ll.set n (l++[ks])))))) nx rt
 |.fu i r,ρ,nx,rt=>VH ρ[i]? λ _ ll=>wS r (ρ.set i (Om (.lst (ll.map λ l=>.lst (l.map kT))))) nx rt
 |.xl i f l r,ρ,nx,rt=>fP ρ[i]? λ xs=>wL FT GT l ρ λ ts=>∃P,(∃S,FT[f]?=Om S/\S (ts.map .fz) P)/\∀t,P t->∃m,t=.lst m/\(∀x∈m,LF x)/\xs.length+m.length<=Ou/\wS r (ρ.set i (Om (.own (xs++m)))) nx rt
end
def lX{P P':List TV->Prop}(h:∀l,P l->P' l)(q:fP s P):fP s P':=by
 unfold fP at *;split at q
 .exact h _ q
 .exact q.elim
def lY(q:fP s P):∃l,s=Om (Om (.own l))/\P l:=by
 unfold fP at q;split at q
 .exact⟨_,O,q⟩
 .exact q.elim
def wV{K K':TV->List TV->Prop}(h:∀y ys,K y ys->K' y ys)(q:VI m l ts K):VI m l ts K':=by
 rcases ts with _|⟨t,_|⟨u,_|⟨w,r⟩⟩⟩
 .cases m with
  |pop=>obtain⟨y,e,q⟩:=q;exact⟨y,e,h _ _ q⟩
  |_=>exact q.elim
 .cases m with
  |append=>exact⟨q.1,q.2.1,h _ _ q.2.2⟩
  |extend b=>exact⟨q.1,iy (λ m q=>⟨q.1,h _ _ q.2⟩) q.2⟩
  |pop=>exact gk (λ i ⟨c,k,y,e,f,q⟩=>⟨c,k,y,e,f,h _ _ q⟩) q
  |_=>exact q.elim
 .cases m with
  |insert=>exact gk (λ i ⟨a,b,c,q⟩=>⟨a,b,c,h _ _ q⟩) q
  |_=>exact q.elim
 .cases m<;>exact q.elim
section
variable {FT:List Tc}{GT:List TV}
theorem bB:∀(c:Ct) {ρ:En}{nx nx':En->Prop}{rt rt':TV->Prop},(∀ρ,nx ρ->nx' ρ)->(∀t,rt t->rt' t)->wS FT GT c ρ nx rt->wS FT GT c ρ nx' rt'
 |.nil,_,_,_,_,_,h,_,q=>h _ q
 |.never,_,_,_,_,_,_,_,q=>q.elim
 |.ret c,_,_,_,_,_,_,g,q=>ax c (λ t q=>⟨q.1,g _ q.2⟩) q
 |.set i c r,_,_,_,_,_,h,g,q=>ax c (λ t q=>⟨q.1,bB r h g q.2⟩) q
 | .sets is c r,_,_,_,_,_,h,g,q=>ax c (λ t q=>by
   cases t with
   |tup l=>exact gN (λ ρ' q=>bB r h g q) q
   |_=>exact q.elim) q
 |.fz i r,ρ,nx,_,rt,_,h,g,q=>bB r h g (show wS FT GT r (Vp ρ i) nx rt from q)
 |.ex c r,_,_,_,_,_,h,g,q=>ax c (λ t q=>bB r h g q) q
 |.met m i l r,_,_,_,_,_,h,g,q=>lX (λ xs q=>bI l (λ ts q=>wV (λ y ys q=>bB r h g q) q) q) q
 |.put i c d r,_,_,_,_,_,h,g,q=>lX (λ xs q=>ax d (λ t q=>⟨q.1,ax c (λ u q=>gk (λ k ⟨n,e,q⟩=>⟨n,e,bB r h g q⟩) q) q.2⟩) q) q
 | .ite c a b r,_,_,_,_,_,h,g,q=>ax c (λ t q=>cP (λ k q=>by
   split at q
   .rw[XT (by assumption)];exact bB a (λ ρ q=>bB r h g q) g q
   .rw[XR (by assumption)];exact bB b (λ ρ q=>bB r h g q) g q) q) q
 |.for tg k it b r,_,nx,nx',rt,rt',h,g,q=>by
   refine bI it (λ ts q=>⟨q.1,iz (λ its q=>?_) q.2⟩) q
   have e:∀(l:List TV) (ρ:En),UT (λ t ρ K=>Ug ρ tg t λ ρ'=>wS FT GT b ρ' K rt) l ρ (λ ρ'=>wS FT GT r ρ' nx rt)->UT (λ t ρ K=>Ug ρ tg t λ ρ'=>wS FT GT b ρ' K rt') l ρ (λ ρ'=>wS FT GT r ρ' nx' rt'):=by
    intro l
    induction l with
    |nil=>intro ρ q;exact bB r h g q
    |cons t l ih=>
     intro ρ q;have q:Ug ρ tg t λ ρ'=>wS FT GT b ρ' (λ ρ''=>UT (λ t ρ K=>Ug ρ tg t λ ρ'=>wS FT GT b ρ' K rt) l ρ'' λ ρ'=>wS FT GT r ρ' nx rt) rt:=q;exact gN (λ ρ' q=>bB b (λ ρ'' q=>ih ρ'' q) g q) q
   exact e _ _ q
 |.tri b r,ρ,nx,_,rt,_,h,g,q=>bB b (λ ρ q=>bB r h g q) g (show wS FT GT b ρ (λ ρ'=>wS FT GT r ρ' nx rt) rt from q)
 |.nl i own k it r,_,_,_,_,_,h,g,q=>⟨q.1,bI it (λ ts q=>iz (λ its q=>⟨q.1,λ as a b=>bB r h g (q.2 as a b)⟩) q) q.2⟩
 |.pu i j e r,_,_,_,_,_,h,g,q=>wU (λ as ll q=>Hy (λ k ⟨n,l,a,b,c,q⟩=>⟨n,l,a,b,c,ax e (λ t ⟨ks,z,q⟩=>⟨ks,z,bB r h g q⟩) q⟩) q) q
 |.fu i r,_,_,_,_,_,h,g,q=>wU (λ as ll q=>bB r h g q) q
 |.xl i f l r,_,_,_,_,_,h,g,q=>lX (λ xs q=>bI l (λ ts ⟨P,sp,q⟩=>⟨P,sp,λ t pt=>let ⟨m,e,lf,lz,q⟩:=q t pt;⟨m,e,lf,lz,bB r h g q⟩⟩) q) q
end
def LLd(H0:Hp)(σ:St)(ρ:En):Prop:=∀(i:Nat) as ll,ρ[i]?=Om (Om (.obj (.lls as ll)))->(∀a∈as,H0 a=Oo)/\(∀(j:Nat) l a,ρ[j]?=Om (Om (.own l))->σ[j]?=Om (Om (.ref a))->a ∉ as)/\∀(j:Nat) as' ll',ρ[j]?=Om (Om (.obj (.lls as' ll')))->j=i
structure ER (K:FG)(J:Hp->Prop)(F0:Fz)(H0:Hp)(PN:List (TV×V))(F:Fz)(H:Hp)(σ:St)(ρ:En):Prop where
 ev:EV K J F H σ ρ
 gr:Grow J F0 H0 F H
 nb:∀(i:Nat) l a,ρ[i]?=Om (Om (.own l))->σ[i]?=Om (Om (.ref a))->H0 a=Oo
 di:∀(i k:Nat) l l' v,ρ[i]?=Om (Om (.own l))->ρ[k]?=Om (Om (.own l'))->σ[i]?=Om (Om v)->σ[k]?=Om (Om v)->i=k
 pn:∀p∈PN,Rp K F H p.1 p.2
 ol:LLd H0 σ ρ
section
variable {K:FG}{J:Hp->Prop}{F0 F F':Fz}{H0 H H':Hp}{σ:St}{ρ:En}{PN:List (TV×V)}
def ER.grow(e:ER K J F0 H0 PN F H σ ρ)(g:Grow J F H F' H'):ER K J F0 H0 PN F' H' σ ρ:=⟨e.ev.grow g,e.gr.trans g,e.nb,e.di,λ p hp=>(e.pn p hp).ke g.ke,e.ol⟩
def cM{ρ:En}{i j:Nat}(h:(ρ.set i (Om t))[j]?=Om (Om (.own l))):(i=j/\t=.own l)\/(i≠j/\ρ[j]?=Om (Om (.own l))):=by
 rw[cR] at h;split at h
 .rename_i c;split at h
  .cases h;exact .inl ⟨c,rfl⟩
  .cases h
 .rename_i c;exact .inr ⟨c,h⟩
def dy{σ:St}{i j:Nat}(n:i≠j):(σ.set i v)[j]?=σ[j]?:=by rw[cR,XR n]
def dH{ρ:En}{i j:Nat}(h:(ρ.set i (Om t))[j]?=Om (Om u)):(i=j/\t=u)\/(i≠j/\ρ[j]?=Om (Om u)):=by
 rw[cR] at h;split at h
 .rename_i c;split at h
  .cases h;exact .inl ⟨c,rfl⟩
  .cases h
 .rename_i c;exact .inr ⟨c,h⟩
def LLd.set{t:TV}(h:LLd H0 σ ρ)(no:∀l,t≠.own l)(no':∀as ll,t≠.obj (.lls as ll)):LLd H0 (σ.set i v) (ρ.set i (Om t)):=λ k as ll e=>by
 rcases dH e with ⟨_,z⟩|⟨n,z⟩
 .exact XU z (no' _ _)
 .obtain⟨h1,h2,h3⟩:=h k as ll z;refine⟨h1,λ j l a e1 e2=>?_,λ j as' ll' e1=>?_⟩
  .rcases dH e1 with ⟨_,y⟩|⟨m,y⟩
   .exact XU y (no _)
   .rw[dy m] at e2;exact h2 j l a y e2
  .rcases dH e1 with ⟨_,y⟩|⟨m,y⟩
   .exact XU y (no' _ _)
   .exact h3 j as' ll' y
def LLd.sub{ρ':En}(h:LLd H0 σ ρ)(f1:∀(j:Nat) l,ρ'[j]?=Om (Om (.own l))->∃l',ρ[j]?=Om (Om (.own l')))(f2:∀(j:Nat) as ll,ρ'[j]?=Om (Om (.obj (.lls as ll)))->∃ll',ρ[j]?=Om (Om (.obj (.lls as ll')))):LLd H0 σ ρ':=λ k as ll e=>by
 obtain⟨ll0,e0⟩:=f2 k as ll e;obtain⟨h1,h2,h3⟩:=h k as ll0 e0;exact⟨h1,λ j l a e1 e2=>let ⟨l',z⟩:=f1 j l e1;h2 j l' a z e2,λ j as' ll' e1=>let ⟨ll2,z⟩:=f2 j as' ll' e1;h3 j as' ll2 z⟩
def ER.set{i:Nat}(e:ER K J F0 H0 PN F H σ ρ)(h:Rp K F H t v)(hi:i<σ.length):ER K J F0 H0 PN F H (σ.set i (Om v)) (ρ.set i (Om t)):=by
 have no:∀l,t≠.own l:=λ l z=>by subst z;exact h.elim
 refine⟨e.ev.set h hi,e.gr,λ j l a h1 h2=>?_,λ j k l l' w h1 h2 h3 h4=>?_,e.pn,e.ol.set no λ as ll z=>by subst z;exact h.elim⟩
 .rcases cM h1 with ⟨_,z⟩|⟨n,z⟩
  .exact XU z (no l)
  .rw[dy n] at h2;exact e.nb j l a z h2
 .rcases cM h1 with ⟨_,z⟩|⟨n,z⟩
  .exact XU z (no l)
  .rcases cM h2 with ⟨_,z'⟩|⟨n',z'⟩
   .exact XU z' (no l')
   .rw[dy n] at h3;rw[dy n'] at h4;exact e.di j k l l' w z z' h3 h4
def ER.own{i:Nat}(e:ER K J F0 H0 PN F H σ ρ)(g:Grow J F H F' H')(h:Rr K H F' H' (.own l) v)(hi:i<σ.length):ER K J F0 H0 PN F' H' (σ.set i (Om v)) (ρ.set i (Om (.own l))):=by
 obtain⟨a,vs,rfl,na,nf,q,r⟩:=h;have na0:H0 a=Oo:=e.gr.none na
 have old:∀(j:Nat) l',ρ[j]?=Om (Om (.own l'))->σ[j]?≠Om (Om (.ref a)):=λ j l' h1 h2=>by
  obtain⟨v,e1,b,ws,rfl,_,qb,_⟩:=e.ev.sl j _ h1;rw[h2] at e1;cases e1;rw[na] at qb;cases qb
 have eg:=e.grow g
 have ll:LLd H0 (σ.set i (Om (.ref a))) (ρ.set i (Om (.own l))):=λ k as ll z=>by
  rcases dH z with ⟨_,y⟩|⟨n,z⟩
  .cases y
  .obtain⟨h1,h2,h3⟩:=e.ol k as ll z;refine⟨h1,λ j l' b e1 e2=>?_,λ j as' ll' e1=>?_⟩
   .rcases dH e1 with ⟨rfl,y⟩|⟨m,y⟩
    .rw[cR] at e2;simp[hi] at e2;subst e2;intro hb;obtain⟨v0,_,a0,_,_,_,hl,hh⟩:=e.ev.sl k _ z;obtain⟨jj,ej⟩:=lZ hb;obtain⟨_,us,q',_⟩:=hh jj a (ll[jj]'(by rw[<- hl];exact(aX.mp ej).1)) ej (aZ _);rw[na] at q';cases q'
    .rw[dy m] at e2;exact h2 j l' b y e2
   .rcases dH e1 with ⟨_,y⟩|⟨m,y⟩
    .cases y
    .exact h3 j as' ll' y
 refine⟨⟨eg.ev.w,λ j t hj=>?_⟩,eg.gr,λ j l' b h1 h2=>?_,λ j k l1 l2 w h1 h2 h3 h4=>?_,eg.pn,ll⟩
 .rw[cR] at hj;split at hj
  .rename_i c;subst c;split at hj
   .cases hj;exact⟨.ref a,by rw[cR];simp[hi],a,vs,O,nf,q,r⟩
   .cases hj
  .rename_i c;obtain⟨w,e1,z⟩:=eg.ev.sl j t hj;exact⟨w,by rw[dy c];exact e1,z⟩
 .rcases cM h1 with ⟨rfl,_⟩|⟨n,z⟩
  .rw[cR] at h2;simp[hi] at h2;subst h2;exact na0
  .rw[dy n] at h2;exact e.nb j l' b z h2
 .rcases cM h1 with ⟨rfl,_⟩|⟨n,z⟩
  .rcases cM h2 with ⟨rfl,_⟩|⟨n',z'⟩
   .rfl
   .rw[cR] at h3;simp[hi] at h3;subst h3;rw[dy n'] at h4;exact XU h4 (old k l2 z')
  .rcases cM h2 with ⟨rfl,_⟩|⟨n',z'⟩
   .rw[cR] at h4;simp[hi] at h4;subst h4;rw[dy n] at h3;exact XU h3 (old j l1 z)
   .rw[dy n] at h3;rw[dy n'] at h4;exact e.di j k l1 l2 w z z' h3 h4
set_option tactic.hygienic true in
def ER.fz(e:ER K J F0 H0 PN F H σ ρ)(i:Nat):∃F',ER K J F0 H0 PN F' H σ (Vp ρ i)/\∀a,F a->F' a:=by
 unfold Vp;split
 .rename_i l hl;obtain⟨v,ev,a,vs,rfl,nf,q,r⟩:=e.ev.sl i _ hl;have na:H0 a=Oo:=e.nb i l a hl ev;have up:Ke K F H (λ b=>F b\/b=a) H:=.up λ _ f=>.inl f;have ilt:i<σ.length:=(aX.mp ev).1
  refine⟨λ b=>F b\/b=a,⟨⟨⟨e.ev.w.j,λ b f=>?_⟩,λ j t hj=>?_⟩,e.gr.frz na (by rw[q];simp),λ j l' b h1 h2=>?_,λ j k l1 l2 w h1 h2 h3 h4=>?_,λ p hp=>(e.pn p hp).ke up,e.ol.sub (λ j l' z=>by
   rcases cM z with ⟨_,y⟩|⟨_,y⟩
   .cases y
   .exact⟨_,y⟩) (λ j as ll z=>by
   rcases dH z with ⟨_,y⟩|⟨_,y⟩
   .cases y
   .exact⟨_,y⟩)⟩,λ _ f=>.inl f⟩
  .rcases f with f|rfl
   .exact e.ev.w.d b f
   .rw[q];simp
  .rw[cR] at hj;split at hj
   .rename_i c;subst c;split at hj
    .cases hj;exact⟨.ref a,ev,a,vs,rfl,.inl ⟨.inr rfl,.of q⟩,r.ke up⟩
    .cases hj
   .rename_i c;obtain⟨w,e1,z⟩:=e.ev.sl j t hj;refine⟨w,e1,?_⟩
    cases t with
    |own l'=>
     obtain⟨b,ws,rfl,nf',q',r'⟩:=z;refine⟨b,ws,O,λ z=>?_,q',r'.ke up⟩
     rcases z with z|z
     .exact nf' z
     .subst z;exact c (e.di i j l l' _ hl hj ev e1)
    |obj o=>
     cases o with
     |lls as ll=>
      obtain⟨a0,e2,l0,nd,hl2,hh⟩:=z;refine⟨a0,e2,up.l _ _ l0,nd,hl2,λ jj b ks e3 e4=>?_⟩;obtain⟨nf2,us,q2,r2⟩:=hh jj b ks e3 e4;refine⟨λ y=>?_,us,q2,r2.ke up⟩
      rcases y with y|y
      .exact nf2 y
      .subst y;exact(e.ol j as ll hj).2.1 i l b hl ev (aE e3)
     |_=>exact z
    |_=>exact Rp.ke up z
  .rcases cM h1 with ⟨_,z⟩|⟨n,z⟩
   .cases z
   .exact e.nb j l' b z h2
  .rcases cM h1 with ⟨_,z⟩|⟨n,z⟩
   .cases z
   .rcases cM h2 with ⟨_,z'⟩|⟨n',z'⟩
    .cases z'
    .exact e.di j k l1 l2 w z z' h3 h4
 .exact⟨F,e,λ _ f=>f⟩
def ER.fzC(e:ER K J F0 H0 PN F H σ ρ)(c:Cd):∃F',ER K J F0 H0 PN F' H σ (fzC c ρ)/\∀a,F a->F' a:=by
 cases c<;>first|exact e.fz _|exact⟨F,e,λ _ f=>f⟩
def ER.fzV(c:Cd):∀ {F:Fz}{ρ:En},ER K J F0 H0 PN F H σ ρ->∃F',ER K J F0 H0 PN F' H σ (fzV c ρ)/\∀a,F a->F' a:=by
 induction c with
 |cons a r _ ih=>
  intro F ρ e;obtain⟨F1,e1,u1⟩:=e.fzC a;obtain⟨F2,e2,u2⟩:=ih e1;exact⟨F2,e2,λ b f=>u2 b (u1 b f)⟩
 |_=>intro F ρ e;exact⟨F,e,λ _ f=>f⟩
def ER.mut(hJ:JS J){i:Nat}(e:ER K J F0 H0 PN F H σ ρ)(h:ρ[i]?=Om (Om (.own l)))(hs:σ[i]?=Om (Om (.ref a)))(r:RpL K F H l' ws):ER K J F0 H0 PN F (Tf H a (.lst ws)) σ (ρ.set i (Om (.own l')))/\Ke K F H F (Tf H a (.lst ws)):=by
 obtain⟨v,ev,b,vs,rfl,nf,q,_⟩:=e.ev.sl i _ h;rw[hs] at ev;cases ev;have na:H0 a=Oo:=e.nb i l a h hs
 have dom:∀b,H b≠Oo->Tf H a (.lst ws) b≠Oo:=λ b hb=>by
  by_cases c:b=a
  .subst c;rw[bT];simp
  .rw[aA c];exact hb
 have rd:∀b u,(∀vs,u≠.lst vs)->Rd H b u->Rd (Tf H a (.lst ws)) b u:=λ b u n h=>by
  rcases h with h|⟨o,h⟩
  .exact .inl (by rw[aA (λ z=>by subst z;rw[q] at h;cases h;exact n _ rfl)];exact h)
  .exact .inr ⟨o,by rw[aA (λ z=>by subst z;rw[q] at h;cases h)];exact h⟩
 have ke:Ke K F H F (Tf H a (.lst ws)):=⟨λ b vs h=>by
  rcases h with h|h
  .exact .inl (rd _ _ (λ _ z=>by cases z) h)
  .exact .inr h,λ b vs h=>h.imp λ f h=>⟨f,by
  have ba:b≠a:=λ z=>by subst z;exact nf f
  rcases h with h|h
  .refine .inl ?_
   rcases h with h|⟨o,h⟩
   .exact .inl (by rw[aA ba];exact h)
   .exact .inr ⟨o,by rw[aA ba];exact h⟩
  .exact .inr h⟩⟩
 have ilt:i<ρ.length:=(aX.mp h).1
 refine⟨⟨⟨⟨hJ.mu H a vs ws q e.ev.w.j,λ b f=>dom b (e.ev.w.d b f)⟩,λ j t hj=>?_⟩,⟨λ b o n hb=>?_,λ b hb=>dom b (e.gr.dm b hb),e.gr.up,e.gr.nw,hJ.mu H a vs ws q e.ev.w.j,λ b f=>dom b (e.ev.w.d b f)⟩,λ j l1 b h1 h2=>?_,λ j k l1 l2 w h1 h2 h3 h4=>?_,λ p hp=>(e.pn p hp).ke ke,e.ol.sub (λ j l1 z=>by
   rcases cM z with ⟨rfl,_⟩|⟨_,y⟩
   .exact⟨l,h⟩
   .exact⟨_,y⟩) (λ j as ll z=>by
   rcases dH z with ⟨_,y⟩|⟨_,y⟩
   .cases y
   .exact⟨_,y⟩)⟩,ke⟩
 .rw[cR] at hj;split at hj
  .rename_i c;subst c;cases hj;exact⟨.ref a,hs,a,ws,O,nf,bT,r.ke ke⟩
  .rename_i c;obtain⟨w,e1,z⟩:=e.ev.sl j t hj;refine⟨w,e1,?_⟩
   cases t with
   |own l1=>
    obtain⟨b,us,rfl,nf',q',r'⟩:=z;have ba:b≠a:=λ z=>by subst z;exact c (e.di i j l l1 _ h hj hs e1)
    exact⟨b,us,O,nf',by rw[aA ba];exact q',r'.ke ke⟩
   |obj o=>
    cases o with
    |dct l'=>obtain⟨b,e2,q'⟩:=z;exact⟨b,e2,by rw[aA (λ z=>by subst z;rw[q] at q';cases q')];exact q'⟩
    |fn b=>obtain⟨e2,φ,q',kf⟩:=z;exact⟨e2,φ,by rw[aA (λ z=>by subst z;rw[q] at q';cases q')];exact q',kf⟩
    |lls as ll=>
     obtain⟨a0,e2,l0,nd,hl2,hh⟩:=z;refine⟨a0,e2,ke.l _ _ l0,nd,hl2,λ jj b ks e3 e4=>?_⟩;obtain⟨nf2,us,q2,r2⟩:=hh jj b ks e3 e4;exact⟨nf2,us,by rw[aA (λ y=>by subst y;exact(e.ol j as ll hj).2.1 i l b h hs (aE e3))];exact q2,r2.ke ke⟩
   |_=>exact Rp.ke ke z
 .rw[aA (λ z=>by subst z;rw[na] at hb;cases hb)];exact e.gr.sm b o n hb
 .rcases cM h1 with ⟨rfl,_⟩|⟨n,z⟩
  .rw[hs] at h2;cases h2;exact na
  .exact e.nb j l1 b z h2
 .have f:∀(j:Nat) (l:List TV),(ρ.set i (Om (TV.own l')))[j]?=Om (Om (TV.own l))->∃l,ρ[j]?=Om (Om (TV.own l)):=λ j l1 h1=>by
   rcases cM h1 with ⟨rfl,_⟩|⟨n,z⟩
   .exact⟨l,h⟩
   .exact⟨l1,z⟩
  obtain⟨m1,z1⟩:=f j l1 h1;obtain⟨m2,z2⟩:=f k l2 h2;exact e.di j k m1 m2 w z1 z2 h3 h4
end
noncomputable def WH:MM->Str
 |.append=> "append" |.insert=> "insert" |.extend On=> "__name__" |.extend Op=> "extend" |.pop=> "pop"
noncomputable def Vv:Expr->Bool
 |.ListComp ..=>Op|.SetComp ..=>Op|.DictComp ..=>Op|.Tuple ..=>Op|.List ..=>Op|_=>On
noncomputable def Wh(N:List Str)(nm:List (Str×OF))(i:Nat)(x:Str):Bool:=decide (N[i]?=Om x)&&(decide (nm.lookup x=Om .local) || decide (nm.lookup x=Om .cell))
def Xf(fs gs:List Str)(N:List Str)(nm:List (Str×OF))(m:MM)(i:Nat)(l:Cd)(e:Expr):Bool:=dw e λ g es w cp=>og g λ o name ap=>bJ o λ x _=>w.isEmpty&&decide (N[i]?=Om x)&&vs nm x&&Ue x&&decide (name=WH m)&&decide (name ≠ "__name__" /\ ap.endLine=cp.line/\es.length<20)&&ckL fs gs l N nm es
noncomputable def VJ(l:List OC)(k:List Expr->Expr->Pos->List OC->Bool):Bool:=match l with|.Assign x p q::l=>k x p q l|_=>Op
@[elab_as_elim] theorem oz{motive:List OC->Prop}{l:List OC}{k:List Expr->Expr->Pos->List OC->Bool}(h:VJ l k=On)(f:∀x p q t,k x p q t=On->motive (.Assign x p q::t)):motive l:=by
 cases l with
 |nil=>exact Oq h
 |cons a t=>cases a<;>first|exact f _ _ _ _ h|exact Oq h
noncomputable def Xg(l:List OC)(k:Option Expr->Pos->List OC->Bool):Bool:=match l with|.Return x p::l=>k x p l|_=>Op
@[elab_as_elim] theorem Hz{motive:List OC->Prop}{l:List OC}{k:Option Expr->Pos->List OC->Bool}(h:Xg l k=On)(f:∀x p t,k x p t=On->motive (.Return x p::t)):motive l:=by
 cases l with
 |nil=>exact Oq h
 |cons a t=>cases a<;>first|exact f _ _ _ h|exact Oq h
noncomputable def VL(l:List OC)(k:Expr->Pos->List OC->Bool):Bool:=match l with|.Expr x p::l=>k x p l|_=>Op
@[elab_as_elim] theorem oA{motive:List OC->Prop}{l:List OC}{k:Expr->Pos->List OC->Bool}(h:VL l k=On)(f:∀x p t,k x p t=On->motive (.Expr x p::t)):motive l:=by
 cases l with
 |nil=>exact Oq h
 |cons a t=>cases a<;>first|exact f _ _ _ h|exact Oq h
noncomputable def Xh(l:List OC)(k:Expr->List OC->List OC->Pos->List OC->Bool):Bool:=match l with|.If x p q r::l=>k x p q r l|_=>Op
@[elab_as_elim] theorem HA{motive:List OC->Prop}{l:List OC}{k:Expr->List OC->List OC->Pos->List OC->Bool}(h:Xh l k=On)(f:∀x p q r t,k x p q r t=On->motive (.If x p q r::t)):motive l:=by
 cases l with
 |nil=>exact Oq h
 |cons a t=>cases a<;>first|exact f _ _ _ _ _ h|exact Oq h
noncomputable def Xi(l:List OC)(k:Expr->Expr->List OC->List OC->Pos->List OC->Bool):Bool:=match l with|.For x p q r s::l=>k x p q r s l|_=>Op
@[elab_as_elim] theorem HB{motive:List OC->Prop}{l:List OC}{k:Expr->Expr->List OC->List OC->Pos->List OC->Bool}(h:Xi l k=On)(f:∀x p q r s t,k x p q r s t=On->motive (.For x p q r s::t)):motive l:=by
 cases l with
 |nil=>exact Oq h
 |cons a t=>cases a<;>first|exact f _ _ _ _ _ _ h|exact Oq h
noncomputable def Xj(l:List OC)(k:List OC->List QT->List OC->List OC->Pos->List OC->Bool):Bool:=match l with|.Try x p q r s::l=>k x p q r s l|_=>Op
def HD(h:Xj l k=On):∃x p q r s t,l=.Try x p q r s::t/\k x p q r s t=On:=by
 cases l with
 |nil=>exact Oq h
 |cons a t=>cases a<;>first|exact⟨_,_,_,_,_,_,rfl,h⟩|exact Oq h
section
variable (fs gs:List Str)(N:List Str)(nm:List (Str×OF))
def br:Bool->Ct->List OC->Bool
 |_,.nil,sts=>sts.isEmpty
 |_,.never,_=>On
 |_,.ret c,sts=>Xg sts λ e _ _=>(match e with|some e=>ck fs gs c N nm e|none=>Op)
 |lp,.set i c r,sts=>VJ sts λ ts e _ Td=>c1 ts λ t=>bJ t λ x _=>Wh N nm i x&&ck fs gs c N nm e&&br lp r Td
 |lp,.sets is c r,sts=>VJ sts λ ts e _ Td=>c1 ts λ tg=>Vc On N nm is tg&&kj tg&&Vv e&&ck fs gs c N nm e&&br lp r Td
 |lp,.fz _ r,sts=>br lp r sts
 |lp,.ex c r,sts=>VL sts λ e _ Td=>Vv e&&ck fs gs c N nm e&&br lp r Td
 |lp,.met m i l r,sts=>VL sts λ e _ Td=>Xf fs gs N nm m i l e&&br lp r Td
 |lp,.put i c d r,sts=>VJ sts λ ts e _ Td=>c1 ts λ t=>kh t λ o y _=>bJ o λ x _=>decide (N[i]?=Om x)&&vs nm x&&Ue x&&jd y&&ck fs gs c N nm y&&ck fs gs d N nm e&&br lp r Td
 |lp,.ite c a b r,sts=>Xh sts λ t x y _ Td=>tB' c t&&ck fs gs c N nm t&&br lp a x&&br lp b y&&br lp r Td
 |lp,.for tg k it b r,sts=>Xi sts λ t iter body els _ Td=>els.isEmpty&&lp&&Vc On N nm tg t&&ckI fs gs it k t N nm iter&&br lp b body&&br lp r Td
 |lp,.tri b r,sts=>Xj sts λ body hs els fi _ Td=>!hs.isEmpty&&els.isEmpty&&fi.isEmpty&&br Op b body&&br lp r Td
 |lp,.nl i own k it r,sts=>VJ sts λ ts e _ Td=>c1 ts λ t=>bJ t λ x _=>Wh N nm i x&&ck fs gs (.comp own [] [] [0] k it (.lst .nil)) N nm e&&br lp r Td
 |lp,.pu i j e r,sts=>VL sts λ q _ Td=>dw q λ g as w cp=>og g λ o name ap=>kh o λ u v _=>bJ u λ x _=>bJ v λ z _=>c1 as λ a=>(w.isEmpty&&decide (N[i]?=Om x/\N[j]?=Om z/\name="append" /\ ap.endLine=cp.line)&&vs nm x&&Ue x)&&vs nm z&&Ue z&&aW a&&ck fs gs e N nm a&&br lp r Td
 |lp,.fu _ r,sts=>br lp r sts
 |lp,.xl i f l r,sts=>VL sts λ q _ Td=>dw q λ g as w cp=>og g λ o name ap=>bJ o λ x _=>c1 as λ u=>dw u λ g2 es w2 _=>bJ g2 λ y _=>(w.isEmpty&&w2.isEmpty&&decide (N[i]?=Om x/\name="extend" /\ ap.endLine=cp.line/\fs[f]?=Om y)&&vs nm x&&Ue x)&&gl nm y&&Ue y && !es.isEmpty&&ckL fs gs l N nm es&&br lp r Td
end
section
variable {J:Hp->Prop}{FT:List Tc}{GT:List TV}{fs gs:List Str}{N:List Str}{nm:List (Str×OF)}{F0:Fz}{H0:Hp}{PN:List (TV×V)}
def PSs.imp{st:List OC}{t t':TS}(h:PSs X st t)(i:∀D σ H,t' D σ H->t D σ H):PSs X st t':=λ Tb s σ H D I q=>h Tb s σ H D I (i D σ H q)
def Wi(K:FG)(J:Hp->Prop)(F0:Fz)(H0:Hp)(PN:List (TV×V))(n:Nat)(P:St->Hp->Prop)(ρ:En):Prop:=∀F' H' σ',ER K J F0 H0 PN F' H' σ' ρ->σ'.length=n->P σ' H'
def Xk(K:FG)(J:Hp->Prop)(F0:Fz)(H0:Hp)(P:VK)(t:TV):Prop:=∀F' H' v,Grow J F0 H0 F' H'->Rp K F' H' t v->P v H'
def rS(K:FG)(J:Hp->Prop)(FT:List Tc)(GT:List TV)(n:Nat)(F0:Fz)(H0:Hp)(PN:List (TV×V))(c:Ct):TS:=λ D σ H=>∃F ρ,ER K J F0 H0 PN F H σ ρ/\σ.length=n/\wS FT GT c ρ (Wi K J F0 H0 PN n D.nx) (Xk K J F0 H0 D.rt)
def ER.rr{K:FG}{i:Nat}(e:ER K J F0 H0 PN F H σ ρ)(g:Grow J F H F' H')(h:Rr K H F' H' t v)(nb:t.nb=On)(hi:i<σ.length):ER K J F0 H0 PN F' H' (σ.set i (Om v)) (ρ.set i (Om t)):=by
 cases t with
 |own l=>exact e.own g h hi
 |bor l=>cases nb
 |_=>exact(e.grow g).set h hi
def wW{x:Str}(xs:XS X N nm)(hf:∀x,X.env.scope.names.lookup x=Om .cell->X.fn x=On)(h:Wh N nm i x=On):X.N[i]?=Om x/\UK X.env.scope x/\(X.fn x=On\/X.env.scope.names.lookup x=Om .local)/\i<N.length:=by
 unfold Wh at h;rw[bp,iE] at h;have e:=aC h.1;have lo:UK X.env.scope x:=by unfold UK;rw[xs.nm];exact h.2.imp aC aC
 exact⟨by rw[xs.N];exact e,lo,lo.elim .inr λ z=>.inl (hf x z),(aX.mp e).1⟩
def oB(h:Vv e=On):Qf e t n env=OM Op:=by cases e<;>first|rfl|cases h
theorem HE{i:Nat}(xo:Tq X J FT GT fs gs)(xs:XS X N nm)(hN:X.N.Nodup)(hi:X.N[i]?=Om x)(hx:UK X.env.scope x)(hf:X.fn x=On\/X.env.scope.names.lookup x=Om .local)(h:ck fs gs c N nm e=On) :
  PS X (.Assign [.Name x p'] e pos) (jC (rE X.K J FT GT c) (cX i)):=by
 have plain:Qf e (Om (.Name x p')) pos.line X.env=OM Op->PS X (.Assign [.Name x p'] e pos) (jC (rE X.K J FT GT c) (cX i)):=λ hs=>uh hN hi hx (sE c xo xs h) hs hf
 cases e with
 |ListComp elt gens sc lp=>
  cases hb:(X.env.blockKind == .function&&X.env.kindOf x == Om .local&&p'.line == (Expr.ListComp elt gens sc lp).pos.line && !(sc.names.any λ(n,k)=>n == x&&(k == .local || k == .cell))) with
  |false=>exact plain (by show(OM _:Sem Bool)=_;rw[<- hb])
  |true=>
   have hsw:Qf (.ListComp elt gens sc lp) (Om (.Name x p')) pos.line X.env=OM On:=by show(OM _:Sem Bool)=_;rw[<- hb]
   cases c with
   |comp own fv js tgs k it e=>
    obtain⟨_,_,_,_,e1,g⟩:=lT h;cases e1;obtain⟨⟨t,iter,ifs,z⟩,rfl,g'⟩:=iD g;obtain⟨g0,g1,h1,h2,h3,h4,h5⟩:=a7 g';cases (show ifs=[] from rN.mp g0);cases aC g1;intro Tb s σ H D I q;obtain⟨cl,S⟩:=kn I.ok xs h1;have lt:∀i∈tgs,i<own.length:=λ i hi=>aC (gj.mp h4 i hi);exact CmP.ps ⟨xo.calm,sI it k xo xs h2,S,h3,λ C ex s H yx=>sE e (ko xo) yx h5,oq,jm h2⟩ hN hi hx hf hsw I (wK xo.hJ lt q)
   |compI own fv js tgs k it c e=>
    obtain⟨_,_,_,_,e1,g⟩:=lT h;cases e1;obtain⟨⟨t,iter,ifs,z⟩,rfl,g'⟩:=iD g;obtain⟨cnd,e2,g⟩:=iD g';cases e2;obtain⟨g1,h1,h2,h3,h4,h7,h5,h6⟩:=a8 g;cases aC g1;intro Tb s σ H D I q;obtain⟨cl,S⟩:=kn I.ok xs h1;have lt:∀i∈tgs,i<own.length:=λ i hi=>aC (gj.mp h4 i hi);exact CmP.ps ⟨xo.calm,sI it k xo xs h2,S,h3,λ C ex s H yx=>sE e (ko xo) yx h6,⟨_,vA,λ C ex s H yx=>WX rfl (sT c (ko xo) yx h7 h5)⟩,jm h2⟩ hN hi hx hf hsw I (wM xo.hJ lt q)
   |_=>exact Oq h
 |SetComp|DictComp=>cases c<;>exact Oq h
 |_=>exact plain rfl
end
section
variable {pg:Oz}{wd:OB}{B:OD}{X0:VS}{z0:Ot}
theorem HG{l b:Os}{R:VS}(gl:z0.heap.get? l=Om { cls:=.type "list",dict:=Oo,data:=.seq xs k,slots:=#[] })(gb:z0.heap.get? b=Om u)(cb:u.cls=.type "list")(db:u.data=.seq ys n)(fit:xs.size+ys.size<=Ou)
  (fin:R .none { z0 with heap:=z0.heap.update l (Pe (·++ys)) }):Ov (Oy pg wd) B (call (.builtin "list.extend") [.ref l,.ref b]) R X0 z0:=by
 refine fI rQ ⟨_,gl,O⟩ PySem.F.entry_list_extend ?_ (PySem.F.args_list_extend_2 _ _);show Ov _ _ (OX (.ref l) (.ref b) .none) _ _ z0;unfold OX;refine ae (hV ⟨u,gb,cb⟩ ?_);have one:(Pj (.ref l) (.ref b) || Pq "list" == Pq "list" || Pq "list" == Pq "tuple")=On:=on;rw[XT one];refine ae ?_;unfold SY;refine ae (iY gb db (au ?_));refine ae ?_;refine ae (iY gl rfl (au ?_));have two:¬(!xs.isEmpty&&Pc (xs.size+ys.size))=On:=by rw[uT fit,lN];exact bK
 rw[XR two];show Ov _ _ (PQ l (·++ys) >>= λ _=>ret OZ) _ _ z0;refine ae (jN gl rfl ?_ Z (by rw[Array.size_append];lia));exact au ⟨_,O,fin⟩
end
def wX(K:FG):V->List V->Hp->VK->Prop:=λ x vs H Q=>∃l b xs zs,x=.ref l/\vs=[.ref b]/\H l=Om (.lst xs)/\SqL K H b zs/\xs.length+zs.length<=Ou/\Q .non (Tf H l (.lst (xs++zs)))
def wY:VD X "list.extend" (wX X.K):=by
 intro Tb s σ H x vs v us Q I rx rv h;obtain⟨l,b,xs,zs,rfl,rfl,hH,hB,hz,q⟩:=h;cases rx;obtain⟨u,rfl,ru⟩:=cz rv;cases ru;obtain⟨z,its,n,r,hl,e⟩:=I.lstM hH;obtain⟨its2,r2,⟨o2,n2,g2,c2,_,d2⟩,hz2⟩:=I.list hB;have hl2:=r2.length;refine HG e g2 c2 d2 (by simp only[aY];lia) ?_;refine⟨.non,_,I.lset (its':=its++its2) hH e on (r.append r2) ?_,O,q⟩;rw[aF];lia
section
variable {J:Hp->Prop}{FT:List Tc}{GT:List TV}{fs gs:List Str}{N:List Str}{nm:List (Str×OF)}{F0:Fz}{H0:Hp}{PN:List (TV×V)}
def rM(K:FG)(J:Hp->Prop)(FT:List Tc)(GT:List TV)(F0:Fz)(H0:Hp)(PN:List (TV×V))(m:MM)(i:Nat)(l:Cd):TE:=λ σ H Q=>∃F ρ,ER K J F0 H0 PN F H σ ρ/\fP ρ[i]? λ xs=>wL FT GT l ρ λ ts=>VI m xs ts λ y ys=>∀F' H' v,ER K J F0 H0 PN F' H' σ (ρ.set i (Om (.own ys)))->Rp K F' H' y v->Q v H'
def ER.at_{K:FG}{i:Nat}(e:ER K J F0 H0 PN F H σ ρ)(h:ρ[i]?=Om (Om (.own l))):∃a vs,σ[i]?=Om (Om (.ref a))/\H a=Om (.lst vs)/\RpL K F H l vs:=by
 obtain⟨v,e1,a,vs,rfl,_,q,r⟩:=e.ev.sl i _ h;exact⟨a,vs,e1,q,r⟩
def rl2{K:FG}{t u:TV}{vs:List V}(h:RpL K F H [t,u] vs):∃x y,vs=[x,y]/\Rp K F H t x/\Rp K F H u y:=by
 obtain⟨x,r,rfl,h1,y,r',rfl,h2,rfl⟩:=h;exact⟨x,y,O,h1,h2⟩
def rl1{K:FG}{t:TV}{vs:List V}(h:RpL K F H [t] vs):∃x,vs=[x]/\Rp K F H t x:=by
 obtain⟨x,r,rfl,h1,rfl⟩:=h;exact⟨x,O,h1⟩
def RpL.dropLast{K:FG}{vs:List V}(h:RpL K F H l vs):RpL K F H l.dropLast vs.dropLast:=by
 rw[wZ,wZ,<- h.length];exact h.take _
def RpL.eraseIdx{K:FG}{vs:List V}(h:RpL K F H l vs)(k:Nat):RpL K F H (l.eraseIdx k) (vs.eraseIdx k):=by
 rw[jn,jn];exact(h.take k).append (h.drop _)
theorem HH(hJ:JS J){i:Nat}{Q:VK}(e:ER X.K J F0 H0 PN F H σ ρ)(h:ρ[i]?=Om (Om (.own l)))(ha:σ[i]?=Om (Om (.ref a)))(g:Grow J F H F1 H1)(r:RrL X.K H F1 H1 ts ws)
  (w:VI m l ts λ y ys=>∀F' H' v,ER X.K J F0 H0 PN F' H' σ (ρ.set i (Om (.own ys)))->Rp X.K F' H' y v->Q v H') :
  (m=.append/\nj (.ref a) ws H1 Q)\/(m=.insert/\nT (.ref a) ws H1 Q)\/(∃b,m=.extend b/\∃c vs zs,ws=[.ref c]/\VZ X.K b H1 c zs/\H1 a=Om (.lst vs)/\vs.length+zs.length<=Ou/\Q .non (Tf H1 a (.lst (vs++zs))))\/(m=.pop/\nq (.ref a) ws H1 Q)\/(m=.pop/\lA (.ref a) ws H1 Q):=by
 rcases ts with _|⟨t,_|⟨u,_|⟨z,rr⟩⟩⟩
 .cases m with
  |pop=>
   cases r;obtain⟨y,ey,w⟩:=w;have e1:=e.grow g;obtain⟨b,vs,eb,q,rl⟩:=e1.at_ h;rw[ha] at eb;cases eb;obtain⟨v,ev,rv⟩:=rl.get ey;obtain⟨em,ke⟩:=e1.mut hJ h ha rl.dropLast;exact .inr (.inr (.inr (.inl ⟨O,a,vs,v,O,O,q,by rw[<- rl.length];exact ev,w _ _ _ em (rv.ke ke)⟩)))
  |_=>exact w.elim
 .cases m with
  |append=>
   obtain⟨nb,lz,w⟩:=w;obtain⟨F2,g2,_,r2⟩:=gp g r (by rw[cK,nb];rfl);obtain⟨x,rfl,rx⟩:=rl1 r2;have e1:=e.grow g2;obtain⟨b,vs,eb,q,rl⟩:=e1.at_ h;rw[ha] at eb;cases eb;obtain⟨em,ke⟩:=e1.mut hJ h ha (rl.append (show RpL X.K F2 H1 [t.fz] [x] from ⟨x,[],rfl,rx,rfl⟩));exact .inl ⟨O,a,vs,x,O,O,q,by rw[<- rl.length];exact lz,w _ _ _ em rfl⟩
  |extend bb=>
   obtain⟨nb,w⟩:=w;obtain⟨mm,em',lz,w⟩:=oo w;have e1:=e.grow g;obtain⟨b,vs,eb,q,rl⟩:=e1.at_ h;rw[ha] at eb;cases eb;obtain⟨x,rfl,rt⟩:=ka r;obtain⟨c,zs,rfl,qc,rz⟩:=rt.vw.b em';obtain⟨em,ke⟩:=e1.mut hJ h ha (rl.append rz);exact .inr (.inr (.inl ⟨bb,O,c,vs,zs,O,qc,q,by rw[<- rl.length,<- rz.length];exact lz,w _ _ _ em rfl⟩))
  |pop=>
   obtain⟨k,rfl,c,n,y,e2,ey,w⟩:=gm w;obtain⟨x,rfl,rt⟩:=ka r;cases rt;have e1:=e.grow g;obtain⟨b,vs,eb,q,rl⟩:=e1.at_ h;rw[ha] at eb;cases eb;obtain⟨v,ev,rv⟩:=rl.get ey;obtain⟨em,ke⟩:=e1.mut hJ h ha (rl.eraseIdx n);exact .inr (.inr (.inr (.inr ⟨O,a,vs,k,n,v,O,O,q,c.1,c.2,by rw[<- rl.length];exact e2,ev,w _ _ _ em (rv.ke ke)⟩)))
  |_=>exact w.elim
 .cases m with
  |insert=>
   obtain⟨k,rfl,nb,c,lz,w⟩:=gm w;obtain⟨F2,g2,_,r2⟩:=gp g r (by rw[cK,cK,nb];rfl);obtain⟨x,y,rfl,rx,ry⟩:=rl2 r2;cases rx;have e1:=e.grow g2;obtain⟨b,vs,eb,q,rl⟩:=e1.at_ h;rw[ha] at eb;cases eb;obtain⟨em,ke⟩:=e1.mut hJ h ha ((rl.take k.toNat).append (show RpL X.K F2 H1 (u.fz::l.drop k.toNat) (y::vs.drop k.toNat) from ⟨y,_,rfl,ry,rl.drop _⟩));exact .inr (.inl ⟨O,a,vs,k,y,O,O,q,c.1,by rw[<- rl.length];exact c.2,by rw[<- rl.length];exact lz,w _ _ _ em rfl⟩)
  |_=>exact w.elim
 .cases m<;>exact w.elim
def HI{i:Nat}{p ap cp:Pos}{es:List Expr}(xo:Tq X J FT GT fs gs)(xs:XS X N nm)(h1:N[i]?=Om x)(h2:vs nm x=On)(h3:Ue x=On)(h0:WH m ≠ "__name__")(h5:ap.endLine=cp.line)(h6:es.length<20)(h7:ckL fs gs l N nm es=On):PE X (.Call (.Attribute (.Name x p) (WH m) ap) es [] cp) (rM X.K J FT GT F0 H0 PN m i l):=by
 obtain⟨d1,d2,_⟩:=dY h3;have hv:PE X (.Name x p) (cg i):=gB (by rw[xs.N];exact h1) (gO xs h2) d1 d2;have hl:=beq_iff_eq.mpr h5;have st:=iF h7;have ha:=sL l xo xs h7
 have rd:∀ {r:V->List V->Hp->VK->Prop}{σ:St}{H:Hp}{Q:VK},rM X.K J FT GT F0 H0 PN m i l σ H Q->(∀ {a ws H1},((m=.append/\nj (.ref a) ws H1 Q)\/(m=.insert/\nT (.ref a) ws H1 Q)\/(∃b,m=.extend b/\∃c vs zs,ws=[.ref c]/\VZ X.K b H1 c zs/\H1 a=Om (.lst vs)/\vs.length+zs.length<=Ou/\Q .non (Tf H1 a (.lst (vs++zs))))\/(m=.pop/\nq (.ref a) ws H1 Q)\/(m=.pop/\lA (.ref a) ws H1 Q))->r (.ref a) ws H1 Q) ->
   ∃a,σ[i]?=Om (Om (.ref a))/\(VX X.K "list" (.ref a) H)/\rA X.K J FT GT l σ H λ ws H1=>r (.ref a) ws H1 Q:=λ {r σ H Q} ⟨F,ρ,e,w⟩ hr=>by
  obtain⟨ys,hy,w⟩:=lY w;obtain⟨a,vs,ea,q,_⟩:=e.at_ hy;exact⟨a,ea,.inl ⟨O,vs,.of q⟩,F,ρ,e.ev,bI l (λ ts w F1 H1 ws g r=>hr (HH xo.hJ e hy ea g r w)) w⟩
 have tv:∀ {σ:St}{H:Hp}{P:VK}{a:Os},σ[i]?=Om (Om (.ref a))->P (.ref a) H->cg i σ H P:=λ {σ H P a} e p=>by unfold cg;rw[e];exact p
 cases es with
 |nil=>
  cases m with
  |pop=>
   refine(Do (apos:=ap) (cpos:=cp) jo xa xc Dq hv rfl hl).imp λ σ H Q q=>?_
   have l0:l=.nil:=by cases l<;>first|rfl|exact Oq h7
   subst l0
   obtain⟨a,ea,ty,F,ρ,ev,w⟩:=rd (r:=λ x ws H Q=>ws=[]->nq x [] H Q) q (λ h z=>by
    subst z
    rcases h with ⟨z,_⟩|⟨z,_⟩|⟨_,z,_⟩|⟨_,h⟩|⟨_,h⟩
    .cases z
    .cases z
    .cases z
    .exact h
    .obtain⟨_,_,_,_,_,_,z,_⟩:=h;cases z)
   exact tv ea ⟨ty,w F H [] (.refl ev.w) .nil rfl⟩
  |append|insert=>
    intro Tb s σ H Q I q
    have l0:l=.nil:=by cases l<;>first|rfl|exact Oq h7
    subst l0;obtain⟨F,ρ,e,w⟩:=q;obtain⟨_,_,w⟩:=lY w;exact w.elim
  |extend b=>
   cases b with
   |true=>exact XU rfl h0
   |false=>
    intro Tb s σ H Q I q
    have l0:l=.nil:=by cases l<;>first|rfl|exact Oq h7
    subst l0;obtain⟨F,ρ,e,w⟩:=q;obtain⟨_,_,w⟩:=lY w;exact w.elim
 |cons y es=>
  have sy:aW y=On:=by rw[cK,bp] at st;exact st.1
  have ss:es.all aW=On:=by rw[cK,bp] at st;exact st.2
  cases m with
  |append=>
   refine(jJ (apos:=ap) (cpos:=cp) jo xg xh uU hv ha rfl (kr st h6) hl (bj sy) (fO ss)).imp λ σ H Q q=>?_
   obtain⟨a,ea,ty,w⟩:=rd (r:=nj) q (λ h=>by
    rcases h with ⟨_,h⟩|⟨z,_⟩|⟨_,z,_⟩|⟨z,_⟩|⟨z,_⟩
    .exact h
    all_goals cases z)
   exact tv ea ⟨ty,w⟩
  |insert=>
   refine(jJ (apos:=ap) (cpos:=cp) jo PySem.F.slot_list_insert PySem.F.type_list_insert FJ hv ha rfl (kr st h6) hl (bj sy) (fO ss)).imp λ σ H Q q=>?_
   obtain⟨a,ea,ty,w⟩:=rd (r:=nT) q (λ h=>by
    rcases h with ⟨z,_⟩|⟨_,h⟩|⟨_,z,_⟩|⟨z,_⟩|⟨z,_⟩
    .cases z
    .exact h
    all_goals cases z)
   exact tv ea ⟨ty,w⟩
  |pop=>
   refine(jJ (apos:=ap) (cpos:=cp) jo xa xc Fa hv ha rfl (kr st h6) hl (bj sy) (fO ss)).imp λ σ H Q q=>?_
   obtain⟨a,ea,ty,w⟩:=rd (r:=λ x ws H Q=>ws≠[]->lA x ws H Q) q (λ h n=>by
    rcases h with ⟨z,_⟩|⟨z,_⟩|⟨_,z,_⟩|⟨_,h⟩|⟨_,h⟩
    .cases z
    .cases z
    .cases z
    .obtain⟨_,_,_,_,z,_⟩:=h;exact XU z n
    .exact h)
   refine tv ea ⟨ty,?_⟩;obtain⟨F,ρ,ev,w⟩:=w;refine⟨F,ρ,ev,?_⟩
   cases l with
   |cons b r=>exact ax b (λ t w=>bI r (λ ts w F' H' vs g rr=>w F' H' vs g rr (λ z=>by subst z;cases rr)) w) w
   |_=>exact Oq h7
  |extend b=>
   cases b with
   |true=>exact XU rfl h0
   |false=>
    refine(jJ (apos:=ap) (cpos:=cp) jo rQ xj wY hv ha rfl (kr st h6) hl (bj sy) (fO ss)).imp λ σ H Q q=>?_
    obtain⟨a,ea,ty,w⟩:=rd (r:=wX X.K) q (λ {a ws H1} h=>by
     rcases h with ⟨z,_⟩|⟨z,_⟩|⟨bb,z,c,vs,zs,e1,e2,e3,e4,e5⟩|⟨z,_⟩|⟨z,_⟩
     .cases z
     .cases z
     .cases z;exact⟨a,c,vs,zs,O,e1,e3,e2,e4,e5⟩
     all_goals cases z)
    exact tv ea ⟨ty,w⟩
def HJ(xo:Tq X J FT GT fs gs)(xs:XS X N nm)(h:Xf fs gs N nm m i l e=On):PE X e (rM X.K J FT GT F0 H0 PN m i l)/\Vv e=On:=by
 refine dG h λ g es w cp k1=>?_;refine rj k1 λ o name ap k2=>?_;refine bz k2 λ x p k3=>?_;obtain⟨z0,h1,h2,h3,z1,z2,h7⟩:=a7 k3;refine dg z0 ?_;cases aC z1;obtain⟨h0,h5,h6⟩:=aC z2;exact⟨HI xo xs (aC h1) h2 h3 h0 h5 h6 h7,O⟩
def rXl(K:FG)(J:Hp->Prop)(FT:List Tc)(GT:List TV)(F0:Fz)(H0:Hp)(PN:List (TV×V))(i f:Nat)(l:Cd):TE:=λ σ H Q=>∃F ρ,ER K J F0 H0 PN F H σ ρ/\fP ρ[i]? λ xs=>wL FT GT l ρ λ ts=>∃P,(∃S,FT[f]?=Om S/\S (ts.map .fz) P)/\∀t,P t->∃m,t=.lst m/\(∀x∈m,LF x)/\xs.length+m.length<=Ou/\∀F' H',ER K J F0 H0 PN F' H' σ (ρ.set i (Om (.own (xs++m))))->Q .non H'
def HK{i f:Nat}{a:Expr}{es:List Expr}{p ap cp p2 p3:Pos}(xo:Tq X J FT GT fs gs)(xs:XS X N nm)(h1:N[i]?=Om x)(h2:vs nm x=On)(h3:Ue x=On)(hl:ap.endLine=cp.line)(hf:fs[f]?=Om y)(hg:gl nm y=On)(ho:Ue y=On)(h7:ckL fs gs l N nm (a::es)=On):PE X (.Call (.Attribute (.Name x p) "extend" ap) [.Call (.Name y p2) (a::es) [] p3] [] cp) (rXl X.K J FT GT F0 H0 PN i f l):=by
 obtain⟨d1,d2,_⟩:=dY h3;have hv:PE X (.Name x p) (cg i):=gB (by rw[xs.N];exact h1) (gO xs h2) d1 d2;have fo:=kr (e:=.Call (.Name y p2) (a::es) [] p3) (es:=[]) (env:=X.env) (cp:=cp) rfl (show 1<20 by decide);have st:=iF h7;rw[cK,bp] at st;obtain⟨S,eS⟩:∃S,FT[f]?=Om S:=fN (bE (aX.mp hf).1 xo.len);obtain⟨k,ps,hr,c⟩:=xo.fns f y S hf eS;have ha:=cY (qB (p:=p2) (pos:=p3) c hr (UI xs hg) qy (sL l xo xs h7) (dY ho).1 (bj st.1) (fO st.2)) pa_nil rfl;refine(jJ (apos:=ap) (cpos:=cp) jo rQ xj wY hv ha rfl fo (beq_iff_eq.mpr hl) rfl rfl).imp λ σ H Q ⟨F,ρ,er,w⟩=>?_;obtain⟨ls,hy,w⟩:=lY w;obtain⟨b,vs,ea,q,_⟩:=er.at_ hy;unfold Wy cg;rw[ea];refine⟨.inl ⟨O,vs,.of q⟩,F,ρ,er.ev,bI l (λ ts w F1 H1 us g1 r1=>?_) w⟩;obtain⟨P,⟨S',e',sp⟩,w⟩:=w;rw[eS] at e';cases e';rw[eE];obtain⟨F2,w2,r2⟩:=wH g1.w r1;refine⟨F2,_,P,w2,r2,sp,λ t pt F' H' v g' r'=>?_⟩;obtain⟨m,rfl,lf,lz,w⟩:=w t pt;have gg:Grow J F1 H1 F1 H':=⟨g'.sm,g'.dm,λ _ h=>h,λ _ h=>.inl h,g'.w.j,λ b f=>g'.dm b (g1.w.d b f)⟩;have e1:=(er.grow g1).grow gg;obtain⟨b',xs',eb,qb,rl⟩:=e1.at_ hy;rw[ea] at eb;cases eb;obtain⟨cc,zs,rfl,qc,rz⟩:=(Rr.of (H:=H) r').vw.b (show(TV.lst m).items=Om (Op,m) from rfl);have rz':RpL X.K F1 H' m zs:=LF.rpl lf rz;obtain⟨em,ke⟩:=e1.mut xo.hJ hy ea (rl.append rz');exact⟨b,cc,xs',zs,O,O,qb,qc,by rw[<- rl.length,<- rz'.length];exact lz,w _ _ em⟩
end
section
variable {J:Hp->Prop}{FT:List Tc}{GT:List TV}{fs gs:List Str}{N:List Str}{nm:List (Str×OF)}{F0:Fz}{H0:Hp}
theorem HL{K:QC}{ts its:List TV}{n:Nat}{D:UG}{tb:TS}(b:TV->En->(En->Prop)->Prop)(P:En->Prop)
  (e1:ER K J F0 H0 PN F1 H1 σ ρ) (sl:σ.length=n) (rx:RpL K F1 H1 (ts.map TV.fz) xs) (ok:TN K J Jt its ts xs) (w:UT b its ρ P) (fin:∀ρ',P ρ'->Wi K J F0 H0 PN n D.nx ρ')
  (st:∀t ρ' F' H' σ' x (Q:En->Prop) (D':UG),b t ρ' Q->ER K J F0 H0 ((ts.map TV.fz).zip xs++PN) F' H' σ' ρ'->σ'.length=n->Rp K F' H' t x->D'.rt=D.rt->(∀ρ2,Q ρ2->Wi K J F0 H0 ((ts.map TV.fz).zip xs++PN) n D'.nx ρ2)->Ux K tgs x σ' H' λ σ2 H2=>tb D' σ2 H2) :
  ∃W:Nat->Nat->St->Hp->Prop,(∃m,W 0 m σ H1)/\∀i m σ H,W i m σ H ->
   (Jt.stop i H/\D.nx σ H)\/(Jt.go i H/\∃N:St->Hp->Prop,(∀σ' H',N σ' H'->∃m',m'<m/\W (i+1) m' σ' H')/\∀x H',Jt.yld i H x H'->Ux K tgs x σ H' λ σ2 H2=>tb { D with nx:=N,ct:=N,bk:=D.nx } σ2 H2):=by
 have zl:(ts.map TV.fz).length=xs.length:=rx.length
 have pin0:∀p∈(ts.map TV.fz).zip xs,Rp K F1 H1 p.1 p.2:=by
  intro p hp;obtain⟨i,hi⟩:=lZ hp;rw[wy] at hi;obtain⟨v,ev,rv⟩:=rx.get hi.1;rw[hi.2] at ev;cases ev;exact rv
 have vw:∀ {F:Fz}{H:Hp}{σ:St}{ρ:En},ER K J F0 H0 ((ts.map TV.fz).zip xs++PN) F H σ ρ->Py (Vw K F H) ts xs:=λ {F H σ ρ} e=>by
  have f:=e.pn;clear rx ok w fin st pin0 e1
  revert xs
  induction ts with
  |nil=>intro xs zl e f;cases xs with|nil=>exact .nil|cons x xs=>simp at zl
  |cons t ts ih=>
   intro xs zl e f
   cases xs with
   |nil=>simp at zl
   |cons x xs=>
    refine .cons (Rp.vw (f (t.fz,x) on)) (ih (by simpa using zl) ⟨e.ev,e.gr,e.nb,e.di,λ p hp=>f p (by
     rw[cJ,s1a,nN]
     exact aV _ hp),e.ol⟩ λ p hp=>f p (by
     rw[cJ,s1a,nN]
     exact aV _ hp))
 refine⟨λ i m σ H=>i≤its.length/\m=its.length - i/\∃F ρ,ER K J F0 H0 ((ts.map TV.fz).zip xs++PN) F H σ ρ/\σ.length=n/\UT b (its.drop i) ρ P,
  ⟨_,bP _,rfl,F1,ρ,⟨e1.ev,e1.gr,e1.nb,e1.di,λ p hp=>(bX.mp hp).elim (pin0 p) (e1.pn p),e1.ol⟩,sl,w⟩,?_⟩
 rintro i m σ H ⟨hi,rfl,F,ρ,e,s,w⟩;have v:=vw e;by_cases c:i<its.length
 .refine .inr ⟨ok.go F H i e.ev.w v c,λ σ' H'=>∃F ρ,ER K J F0 H0 ((ts.map TV.fz).zip xs++PN) F H' σ' ρ/\σ'.length=n/\UT b (its.drop (i+1)) ρ P,λ σ' H' q=>⟨_,Z,c,O,q⟩,λ x H' y=>?_⟩;obtain⟨t,et,gy,rt⟩:=ok.yld F H i x H' e.ev.w v c y
  have ed:its.drop i=t::its.drop (i+1):=by
   rw[rJ c]
   congr 1
   rw[aZ c] at et;exact bw et
  rw[ed] at w;exact st t ρ F H' σ x _ _ w (e.grow gy) s rt rfl λ ρ2 q F2 H2 σ2 e2 s2=>⟨F2,ρ2,e2,s2,q⟩
 .have ei:i=its.length:=by lia
  subst ei;rw[rK] at w;refine .inl ⟨ok.stop F H e.ev.w v,fin ρ w F H σ ⟨e.ev,e.gr,e.nb,e.di,λ p hp=>e.pn p (bH _ hp),e.ol⟩ s⟩
theorem HM{K:FG}{own:List Str}{Q:VK}{R:List Os->Prop}(hJ:JS J)(e:EV K J F H σ ρ)(w:wL FT GT it ρ λ ts=>Vb k ts λ its=>its.length<Ou/\∀as:List Os,as.Nodup->as.length=its.length->R as)
  (fin:∀as F' H' a0,R as->as.Nodup->Grow J F H F' H'->H a0=Oo->¬F' a0->H' a0=Om (.lst (as.map V.ref))->(∀a∈as,H a=Oo/\¬F' a/\H' a=Om (.lst []))->a0 ∉ as->Q (.ref a0) H'):jL (rW K J FT GT k it) own.length [] (Ux K [0]) (kU kS) σ H Q:=by
 refine⟨F,ρ,e,bI it (λ ts w=>iz (λ its w F1 H1 xs Jt g1 rx ok=>?_) w) w⟩;obtain⟨hn,w⟩:=w;refine⟨λ i m ys σ' H'=>i<=its.length/\m=its.length-i/\∃F' as,Grow J F1 H1 F' H'/\ys=as.map V.ref/\as.length=i/\as.Nodup/\∀a∈as,H1 a=Oo/\¬F' a/\H' a=Om (.lst []),⟨_,bP _,O,F1,[],.refl g1.w,O,O,.nil,λ a ha=>nomatch ha⟩,?_⟩;rintro i m ys σ' H' ⟨hi,rfl,F',as,g',rfl,al,nd,ha⟩;have vw:Py (Vw K F' H') ts xs:=Paired.mapP (rx.grow g') λ _ _ r=>r.vw;by_cases c:i<its.length
 .refine .inr ⟨ok.go F' H' i g'.w vw c,by rw[ah];lia,λ zs σ2 H2=>∃F2 as2,Grow J F1 H1 F2 H2/\zs=as2.map V.ref/\as2.length=i+1/\as2.Nodup/\∀a∈as2,H1 a=Oo/\¬F2 a/\H2 a=Om (.lst []),λ zs σ2 H2 ⟨F2,as2,q⟩=>⟨_,Z,c,O,F2,as2,q⟩,λ x H2 y=>?_⟩;obtain⟨t,et,gy,rt⟩:=ok.yld F' H' i x H2 g'.w vw c y;refine⟨bP _,λ p hp=>?_⟩;have g2:=gy.trans (Grow.new hJ gy.w (.lst []) hp);have np:∀a∈as,a≠p:=λ a h z=>by have:=gy.sm _ _ (λ ps z=>by cases z) (ha a h).2.2;rw[z,hp] at this;cases this
  refine⟨F',as++[p],g'.trans g2,by rw[aL];rfl,by rw[aF,al];rfl,List.nodup_append.mpr ⟨nd,fZ.mpr ⟨on,List.nodup_nil⟩,λ a h b hb=>by cases aH.mp hb;exact np a h⟩,λ a hm=>?_⟩
  rcases bX.mp hm with h|h
  .obtain⟨z1,z2,z3⟩:=ha a h;exact⟨z1,z2,g2.sm _ _ (λ ps z=>by cases z) z3⟩
  .cases aH.mp h;exact⟨(g'.trans gy).none hp,λ f=>gy.w.d _ f hp,bT⟩
 .have e:i=its.length:=by lia
  refine .inl ⟨e ▸ ok.stop F' H' g'.w vw,λ p hp=>?_⟩;have np:∀a∈as,a≠p:=λ a h z=>by have:=(ha a h).2.2;rw[z,hp] at this;cases this
  exact fin as F' _ p (w as nd Z) nd ((g1.trans g').trans (.new hJ g'.w _ hp)) ((g1.trans g').none hp) (λ f=>g'.w.d _ f hp) bT (λ a h=>⟨g1.none (ha a h).1,(ha a h).2.1,by rw[aA (np a h)];exact(ha a h).2.2⟩) λ h=>np p h rfl
def xk(h:rO ρ=On){k:Nat}(e:ρ[k]?=Om (Om (.obj (.lls as ll)))):False:=by
 have:=gj.mp h _ (aE e);cases this
theorem ER.setL{K:FG}{i:Nat}{as:List Os}(e:ER K J F0 H0 PN F H σ ρ)(no:rO ρ=On)(g:Grow J F H F' H')(n0:H a0=Oo)(nf0:¬F' a0)(q0:H' a0=Om (.lst (as.map V.ref)))(nd:as.Nodup)(ha:∀a∈as,H a=Oo/\¬F' a/\H' a=Om (.lst []))(na:a0 ∉ as)(hi:i<σ.length) :
  ER K J F0 H0 PN (λ b=>F' b\/b=a0) H' (σ.set i (Om (.ref a0))) (ρ.set i (Om (.obj (.lls as (Ow as.length []))))):=by
 have eg:=e.grow (g.frz n0 (by rw[q0];simp));refine⟨⟨eg.ev.w,λ j t hj=>?_⟩,eg.gr,λ j l' b h1 h2=>?_,λ j k l1 l2 w h1 h2 h3 h4=>?_,eg.pn,λ k as' ll' z=>?_⟩
 .rw[cR] at hj;split at hj
  .rename_i c;subst c;split at hj
   .cases hj;refine⟨.ref a0,by rw[cR];simp[hi],a0,O,.inl ⟨.inr rfl,.of q0⟩,nd,on,λ jj a ks e1 e2=>?_⟩;have m:=aE e1;obtain⟨_,z2,z3⟩:=ha a m;rw[fH] at e2;split at e2
    .cases e2;refine⟨λ y=>?_,[],z3,O⟩
     rcases y with y|y
     .exact z2 y
     .subst y;exact na m
    .cases e2
   .cases hj
  .rename_i c;obtain⟨w,e1,z⟩:=eg.ev.sl j t hj;exact⟨w,by rw[dy c];exact e1,z⟩
 .rcases cM h1 with ⟨_,z⟩|⟨n,z⟩
  .cases z
  .rw[dy n] at h2;exact e.nb j l' b z h2
 .rcases cM h1 with ⟨_,z⟩|⟨n,z⟩
  .cases z
  .rcases cM h2 with ⟨_,z'⟩|⟨n',z'⟩
   .cases z'
   .rw[dy n] at h3;rw[dy n'] at h4;exact e.di j k l1 l2 w z z' h3 h4
 .rcases dH z with ⟨rfl,y⟩|⟨n,y⟩
  .cases y;refine⟨λ a h=>e.gr.none (ha a h).1,λ j l b e1 e2 hb=>?_,λ j as' ll' e1=>?_⟩
   .rcases dH e1 with ⟨_,y⟩|⟨m,y⟩
    .cases y
    .rw[dy m] at e2;obtain⟨v,e3,b',ws,rfl,_,qb,_⟩:=e.ev.sl j _ y;rw[e2] at e3;cases e3;rw[(ha b hb).1] at qb;cases qb
   .rcases dH e1 with ⟨y,_⟩|⟨m,y⟩
    .exact y.symm
    .exact(xk no y).elim
  .exact(xk no y).elim
def HN{K:FG}{F:Fz}{H:Hp}{vs ws:List V}(nf:¬F a)(q:H a=Om (.lst vs)):Ke K F H F (Tf H a (.lst ws)):=by
 have rd:∀b u,(∀vs,u≠.lst vs)->Rd H b u->Rd (Tf H a (.lst ws)) b u:=λ b u n h=>by
  rcases h with h|⟨o,h⟩
  .exact .inl (by rw[aA (λ z=>by subst z;rw[q] at h;cases h;exact n _ rfl)];exact h)
  .exact .inr ⟨o,by rw[aA (λ z=>by subst z;rw[q] at h;cases h)];exact h⟩
 exact⟨λ b vs h=>by
  rcases h with h|h
  .exact .inl (rd _ _ (λ _ z=>by cases z) h)
  .exact .inr h,λ b vs h=>h.imp λ f h=>⟨f,by
  have ba:b≠a:=λ z=>by subst z;exact nf f
  rcases h with h|h
  .refine .inl ?_
   rcases h with h|⟨o,h⟩
   .exact .inl (by rw[aA ba];exact h)
   .exact .inr ⟨o,by rw[aA ba];exact h⟩
  .exact .inr h⟩⟩
theorem ER.push{K:FG}{i n:Nat}(hJ:JS J)(e:ER K J F0 H0 PN F H σ ρ)(hi:ρ[i]?=Om (Om (.obj (.lls as ll))))(eb:as[n]?=Om b)(hn:ll[n]?=Om l)(q:H b=Om (.lst us))(r:RpL K F H (l.map kT) us)(rv:Rp K F H (kT ks) v) :
  ER K J F0 H0 PN F (Tf H b (.lst (us++[v]))) σ (ρ.set i (Om (.obj (.lls as (ll.set n (l++[ks])))))):=by
 obtain⟨o1,o2,o3⟩:=e.ol i as ll hi;have bm:=aE eb;obtain⟨v0,ev0,a0,e0,l0,nd,hl,hh⟩:=e.ev.sl i _ hi;have nf:=(hh n b l eb hn).1;have ke:Ke K F H F (Tf H b (.lst (us++[v]))):=HN nf q
 have dom:∀c,H c≠Oo->Tf H b (.lst (us++[v])) c≠Oo:=λ c hc=>by
  by_cases z:c=b
  .subst z;rw[bT];simp
  .rw[aA z];exact hc
 have f:∀(j:Nat) (m:List TV),(ρ.set i (Om (.obj (.lls as (ll.set n (l++[ks]))))))[j]?=Om (Om (TV.own m))->ρ[j]?=Om (Om (TV.own m)):=λ j m h1=>by
  rcases cM h1 with ⟨_,y⟩|⟨_,z⟩
  .cases y
  .exact z
 refine⟨⟨⟨hJ.mu H b us _ q e.ev.w.j,λ c f=>dom c (e.ev.w.d c f)⟩,λ j t hj=>?_⟩,⟨λ c o nt hc=>by rw[aA (λ z=>by subst z;rw[o1 c bm] at hc;cases hc)];exact e.gr.sm c o nt hc,λ c hc=>dom c (e.gr.dm c hc),e.gr.up,e.gr.nw,hJ.mu H b us _ q e.ev.w.j,λ c f=>dom c (e.ev.w.d c f)⟩,λ j m c h1 h2=>e.nb j m c (f j m h1) h2,λ j k m1 m2 w h1 h2 h3 h4=>e.di j k m1 m2 w (f j m1 h1) (f k m2 h2) h3 h4,λ p hp=>(e.pn p hp).ke ke,e.ol.sub (λ j m z=>⟨m,f j m z⟩) λ j as' ll' z=>?_⟩
 .rcases dH hj with ⟨rfl,y⟩|⟨c,y⟩
  .subst y;refine⟨v0,ev0,a0,e0,ke.l _ _ l0,nd,by rw[dE];exact hl,λ jj a ks' e1 e2=>?_⟩;by_cases z:jj=n
   .subst z;rw[eb] at e1;cases e1;rw[iP (aX.mp hn).1] at e2;cases e2;refine⟨nf,_,bT,?_⟩;rw[aL];exact(r.ke ke).append ⟨v,[],O,rv.ke ke,O⟩
   .rw[jA (λ y=>z y.symm)] at e2;obtain⟨nf2,us2,q2,r2⟩:=hh jj a ks' e1 e2;have ne:a≠b:=λ y=>by subst y;exact z ((List.getElem?_inj (aX.mp e1).1 nd).mp (e1.trans eb.symm))
    exact⟨nf2,us2,by rw[aA ne];exact q2,r2.ke ke⟩
  .obtain⟨w,e1,z⟩:=e.ev.sl j t y;refine⟨w,e1,?_⟩
   cases t with
   |own l1=>
    obtain⟨d,us',rfl,nf',q',r'⟩:=z;exact⟨d,us',O,nf',by rw[aA (λ y'=>by subst y';exact o2 j l1 d y e1 bm)];exact q',r'.ke ke⟩
   |obj o=>
    cases o with
    |dct l'=>obtain⟨d,e2,q'⟩:=z;exact⟨d,e2,by rw[aA (λ z=>by subst z;rw[q] at q';cases q')];exact q'⟩
    |fn d=>obtain⟨e2,φ,q',kf⟩:=z;exact⟨e2,φ,by rw[aA (λ z=>by subst z;rw[q] at q';cases q')];exact q',kf⟩
    |lls as' ll'=>exact XU (o3 j as' ll' y).symm c
   |_=>exact Rp.ke ke z
 .rcases dH z with ⟨rfl,y⟩|⟨_,y⟩
  .cases y;exact⟨ll,hi⟩
  .exact⟨ll',y⟩
theorem RpL.mk{K:FG}:∀ {ts:List TV}{vs:List V},ts.length=vs.length->(∀(j:Nat) t v,ts[j]?=Om t->vs[j]?=Om v->Rp K F H t v)->RpL K F H ts vs
 |[],[],_,_=>rfl
 |_::_,v::vs,hl,h=>⟨v,vs,rfl,h 0 _ _ rfl rfl,RpL.mk (by simpa using hl) λ j t v e1 e2=>h (j+1) t v e1 e2⟩
def ER.fu{K:FG}{i:Nat}(e:ER K J F0 H0 PN F H σ ρ)(hi:ρ[i]?=Om (Om (.obj (.lls as ll)))):∃F',ER K J F0 H0 PN F' H σ (ρ.set i (Om (.lst (ll.map λ l=>.lst (l.map kT))))):=by
 obtain⟨o1,o2,o3⟩:=e.ol i as ll hi;obtain⟨v0,ev0,a0,e0,l0,nd,hl,hh⟩:=e.ev.sl i _ hi;have up:Ke K F H (λ b=>F b\/b∈as) H:=.up λ _ f=>.inl f
 have there:∀a∈as,H a≠Oo:=λ a ha=>by
  obtain⟨jj,ej⟩:=lZ ha;obtain⟨_,us,q',_⟩:=hh jj a (ll[jj]'(by rw[<- hl];exact(aX.mp ej).1)) ej (aZ _);rw[q'];simp
 have wd:Wd J (λ b=>F b\/b∈as) H:=⟨e.ev.w.j,λ b f=>f.elim (e.ev.w.d b) (there b)⟩
 have f:∀(j:Nat) (m:List TV),(ρ.set i (Om (.lst (ll.map λ l=>.lst (l.map kT)))))[j]?=Om (Om (TV.own m))->ρ[j]?=Om (Om (TV.own m)):=λ j m h1=>by
  rcases cM h1 with ⟨_,y⟩|⟨_,z⟩
  .cases y
  .exact z
 refine⟨λ b=>F b\/b∈as,⟨wd,λ j t hj=>?_⟩,⟨e.gr.sm,e.gr.dm,λ b z=>.inl (e.gr.up b z),λ b z=>z.elim (e.gr.nw b) λ h=>.inr (o1 b h),wd⟩,λ j m c h1 h2=>e.nb j m c (f j m h1) h2,λ j k m1 m2 w h1 h2 h3 h4=>e.di j k m1 m2 w (f j m1 h1) (f k m2 h2) h3 h4,λ p hp=>(e.pn p hp).ke up,e.ol.sub (λ j m z=>⟨m,f j m z⟩) λ j as' ll' z=>?_⟩
 .rcases dH hj with ⟨rfl,y⟩|⟨c,y⟩
  .subst y;refine⟨v0,ev0,a0,_,e0,up.l _ _ l0,RpL.mk (by rw[ah,ah,hl]) λ jj t v e1 e2=>?_⟩;rw[bh] at e1 e2;obtain⟨l,el,rfl⟩:=kt.mp e1;obtain⟨a,ea,rfl⟩:=kt.mp e2;obtain⟨_,us,q',r'⟩:=hh jj a l ea el;exact⟨a,us,O,.inl ⟨.inr (aE ea),.of q'⟩,r'.ke up⟩
  .obtain⟨w,e1,z⟩:=e.ev.sl j t y;refine⟨w,e1,?_⟩
   cases t with
   |own l1=>
    obtain⟨d,us',rfl,nf',q',r'⟩:=z;refine⟨d,us',O,λ y'=>?_,q',r'.ke up⟩
    rcases y' with y'|y'
    .exact nf' y'
    .exact o2 j l1 d y e1 y'
   |obj o=>
    cases o with
    |lls as' ll'=>exact XU (o3 j as' ll' y).symm c
    |_=>exact z
   |_=>exact Rp.ke up z
 .rcases dH z with ⟨_,y⟩|⟨_,y⟩
  .cases y
  .exact⟨ll',y⟩
structure Xl (X:Cx)(J:Hp->Prop)(FT:List Tc)(GT:List TV)(fs gs N:List Str)(nm:List (Str×OF))(lp:Bool):Prop where
 xo:Tq X J FT GT fs gs
 xs:XS X N nm
 nd:N.Nodup
 fn:∀x,X.env.scope.names.lookup x=Om .cell->X.fn x=On
 ps:lp=On->PassesOwn (Oy X.prog X.w) X.A X.env X.xe
theorem xn{K:FG}{Q:St->Hp->Prop}(h:Ug ρ is t P)(e:ER K J F0 H0 PN F H σ ρ)(rt:Rp K F H t v)(hl:∀i∈is,i<σ.length)
  (fin:∀σ' ρ',P ρ'->ER K J F0 H0 PN F H σ' ρ'->σ'.length=σ.length->Q σ' H):Ux K is v σ H Q:=by
 match is,h with
 |[i],h=>exact fin _ _ h (e.set rt (hl i on)) on
 |[i,j],h=>
  cases t with
  |tup l=>
   match l,h with
   |[x,y],h=>
    obtain⟨a,ws,rfl,q,v1,r1,rfl,h1,v2,r2,rfl,h2,rfl⟩:=rt;exact⟨a,_,O,q,O,v1,_,O,v2,_,O,O,fin _ _ h ((e.set h1 (hl i on)).set h2 (by simpa using hl j on)) on⟩
   |[],h=>exact h.elim
   |[_],h=>exact h.elim
   |_::_::_::_,h=>exact h.elim
  |_=>exact h.elim
 |[i,j,k],h=>
  cases t with
  |tup l=>
   match l,h with
   |[x,y,z],h=>
    obtain⟨a,ws,rfl,q,v1,r1,rfl,h1,v2,r2,rfl,h2,v3,r3,rfl,h3,rfl⟩:=rt;exact⟨a,_,O,q,O,v1,_,O,v2,_,O,v3,_,O,O,fin _ _ h (((e.set h1 (hl i on)).set h2 (by simpa using hl j on)).set h3 (by simpa using hl k on)) on⟩
   |[],h=>exact h.elim
   |[_],h=>exact h.elim
   |[_,_],h=>exact h.elim
   |_::_::_::_::_,h=>exact h.elim
  |_=>exact h.elim
 |[i,j,k,m],h=>
  cases t with
  |tup l=>
   match l,h with
   |[x,y,z,w],h=>
    obtain⟨a,ws,rfl,q,v1,r1,rfl,h1,v2,r2,rfl,h2,v3,r3,rfl,h3,v4,r4,rfl,h4,rfl⟩:=rt;exact⟨a,_,O,q,O,v1,_,O,v2,_,O,v3,_,O,v4,_,O,O,fin _ _ h ((((e.set h1 (hl i on)).set h2 (by simpa using hl j on)).set h3 (by simpa using hl k on)).set h4 (by simpa using hl m on)) on⟩
   |[],h=>exact h.elim
   |[_],h=>exact h.elim
   |[_,_],h=>exact h.elim
   |[_,_,_],h=>exact h.elim
   |_::_::_::_::_::_,h=>exact h.elim
  |_=>exact h.elim
 |[],h=>exact h.elim
 |_::_::_::_::_::_,h=>exact h.elim
end
section
variable {J:Hp->Prop}{FT:List Tc}{GT:List TV}{fs gs:List Str}{N:List Str}{nm:List (Str×OF)}{F0:Fz}{H0:Hp}
def HP{tg e:Expr}(h:Vv e=On):QV [tg] e n env=OM Op:=oB h
def HQ:QV [.Subscript o i p] e n env=OM Op:=by cases e<;>rfl
def HR:QU [.Subscript o i p] e env=OM Oo:=by cases e<;>rfl
def HS{tg e:Expr}(h:Vv e=On):QU [tg] e env=OM Oo:=by
 cases tg<;>first|rfl|(cases e<;>first|rfl|cases h)
theorem HU(h:jd i=On):∀v,Qh (.Subscript o i p) env v=(do
   let ov <- PB [v] (eval o env)
   let iv <- PB [v,ov] (eval i env)
   QN p
   PB [v,ov,iv] (setItem ov iv v)
   release [v,ov,iv] []):=by
 intro v
 cases i<;>first|rfl|(cases h;done)
theorem HV{i:Nat}(xo:Tq X J FT GT fs gs)(xs:XS X N nm)(hN:X.N.Nodup)(hi:X.N[i]?=Om x)(hx:UK X.env.scope x)(hf:X.fn x=On\/X.env.scope.names.lookup x=Om .local)(h:ck fs gs (.comp own [] [] [0] k it (.lst .nil)) N nm e=On) :
  PS X (.Assign [.Name x p'] e pos) (jC (jL (rW X.K J FT GT k it) own.length [] (Ux X.K [0]) (kU kS)) (cX i)):=by
 obtain⟨elt,gens,sc,lp,e1,g⟩:=lT h;cases e1;obtain⟨⟨t,iter,ifs,z⟩,rfl,g'⟩:=iD g;obtain⟨g0,g1,h1,h2,h3,h4,h5⟩:=a7 g';cases (show ifs=[] from rN.mp g0);cases aC g1
 obtain⟨lp5,rfl⟩:∃p,elt=.List [] p:=by
  refine wq h5 λ es p k=>?_
  cases es with
  |nil=>exact⟨p,rfl⟩
  |cons a r=>exact Oq k
 intro Tb s σ H D I q;obtain⟨cl,S⟩:=kn I.ok xs h1
 cases hb:(X.env.blockKind == .function&&X.env.kindOf x == Om .local&&p'.line == (Expr.ListComp (.List [] lp5) [⟨t,iter,[],0⟩] sc lp).pos.line && !(sc.names.any λ(n,k)=>n == x&&(k == .local || k == .cell))) with
 |false=>
  have hpe:PE X (.ListComp (.List [] lp5) [⟨t,iter,[],0⟩] sc lp) (jL (rW X.K J FT GT k it) own.length [] (Ux X.K [0]) (kU kS)):=λ Tb s σ H Q I q=>by
   obtain⟨cl,S⟩:=kn I.ok xs h1;exact CmP.pe ⟨xo.calm,sI it k xo xs h2,S,h3,λ C ex s H yx=>qh pa_nil,oq,jm h2⟩ I (by rw[vc];exact q)
  exact uh hN hi hx hpe (by show(OM _:Sem Bool)=_;rw[<- hb]) hf Tb s σ H D I q
 |true=>
  have hsw:Qf (.ListComp (.List [] lp5) [⟨t,iter,[],0⟩] sc lp) (Om (.Name x p')) pos.line X.env=OM On:=by show(OM _:Sem Bool)=_;rw[<- hb]
  exact CmP.ps ⟨xo.calm,sI it k xo xs h2,S,h3,λ C ex s H yx=>qh pa_nil,oq,jm h2⟩ hN hi hx hf hsw I (by rw[vc];exact q)
theorem HW{i j:Nat}{p p2 p3 ap cp:Pos}(xo:Tq X J FT GT fs gs)(xs:XS X N nm)(h1:N[i]?=Om x)(h2:vs nm x=On)(h3:Ue x=On)(h4:N[j]?=Om z)(h5:vs nm z=On)(h6:Ue z=On)(hl:ap.endLine=cp.line)(st:aW a=On)(ha:PE X a (rE X.K J FT GT c)) :
  PE X (.Call (.Attribute (.Subscript (.Name x p) (.Name z p2) p3) "append" ap) [a] [] cp) (λ σ H Q=>∃F ρ as ll n l,ER X.K J F0 H0 PN F H σ ρ/\ρ[i]?=Om (Om (.obj (.lls as ll)))/\ρ[j]?=Om (Om (.int (n:Nat)))/\ll[n]?=Om l/\l.length<1000/\wE FT GT c ρ λ t=>∃ks,t=kT ks/\∀F' H',ER X.K J F0 H0 PN F' H' σ (ρ.set i (Om (.obj (.lls as (ll.set n (l++[ks]))))))->Q .non H'):=by
 obtain⟨d1,d2,_⟩:=dY h3;obtain⟨d3,d4,_⟩:=dY h6;have hv:PE X (.Subscript (.Name x p) (.Name z p2) p3) (Vs (qt X.K) (cg i) (cg j)):=uK ix_list (gB (by rw[xs.N];exact h1) (gO xs h2) d1 d2) (gB (by rw[xs.N];exact h4) (gO xs h5) d3 d4) (rG rfl);refine(jJ (apos:=ap) (cpos:=cp) jo xg xh uU hv (cY ha pa_nil (bj st)) rfl (kr (by rw[cK,st];rfl) (show 1<20 by decide)) (beq_iff_eq.mpr hl) (bj st) rfl).imp λ σ H Q ⟨F,ρ,as,ll,n,l,e,hi,hj,hn,ln,w⟩=>?_;obtain⟨v,ev,a0,rfl,l0,nd,Tj,hh⟩:=e.ev.sl i _ hi;obtain⟨v2,ev2,e3⟩:=e.ev.sl j _ hj;cases (show v2=V.int (n:Nat) from e3);obtain⟨b,eb⟩:∃b,as[n]?=Om b:=⟨_,aZ (by rw[Tj];exact(aX.mp hn).1)⟩;obtain⟨nf,us,q,r⟩:=hh n b l eb hn;unfold Wy Vs;show cg i σ H _;unfold cg;rw[ev];simp only[ev2];refine⟨a0,as.map V.ref,n,.ref b,O,O,l0.sq,?_,.inl ⟨O,us,.of q⟩,F,ρ,e.ev,ax c (λ t ⟨ks,et,w⟩ F1 H1 v g r1=>?_) w⟩
 .exact jI (by rw[bh,eb];rfl)
 .subst et;have q1:=g.sm _ _ (λ ps z=>by cases z) q;have ul:us.length=l.length:=by rw[<- r.length,ah]
  exact⟨b,us,v,O,O,q1,by rw[ul];exact bE ln (dN (aN (ao _))),w F1 _ (ER.push xo.hJ (e.grow g) hi eb hn q1 (r.ke g.ke) r1)⟩
theorem sS:∀(c:Ct) {X:Cx}{lp:Bool}{PN:List (TV×V)}{sts:List OC},Xl X J FT GT fs gs N nm lp->br fs gs N nm lp c sts=On->PSs X sts (rS X.K J FT GT N.length F0 H0 PN c)
 |.nil,X,lp,PN,sts,y,h=>by
  refine dg h ?_;exact pss_nil.imp λ D σ H ⟨F,ρ,e,s,w⟩=>w F H σ e s
 |.never,X,lp,PN,sts,y,h=>pss_never.imp λ D σ H ⟨F,ρ,e,s,w⟩=>w.elim
 |.ret c,X,lp,PN,sts,y,h=>by
  refine Hz h λ o _ _ g=>?_
  cases o with
  |none=>exact Oq g
  |some e=>
   refine(dO (pV (sE c y.xo y.xs g)) pss_never).imp λ D σ H ⟨F,ρ,e,s,w⟩=>?_;obtain⟨F',e',_⟩:=e.fzC c;refine⟨F',_,e'.ev,ax c (λ t ⟨nb,w⟩ F1 H1 v g r=>?_) w⟩;obtain⟨F2,g2,_,_,rp⟩:=r.frz g nb;exact w F2 H1 v (e'.gr.trans g2) rp
 |.set i c r,X,lp,PN,sts,y,h=>by
  .refine oz h λ ts e _ Td k1=>?_;refine eZ k1 λ t k2=>?_;refine bz k2 λ x _ k3=>?_;obtain⟨h1,h2,h3⟩:=_L.a3 k3;obtain⟨a1,a2,a3,a4⟩:=wW y.xs y.fn h1;refine(dO (HE y.xo y.xs (by rw[y.xs.N];exact y.nd) a1 a2 a3 h2) (sS r (PN:=PN) y h3)).imp λ D σ H ⟨F,ρ,e,s,w⟩=>?_;obtain⟨F',e',_⟩:=e.fzC c;exact⟨F',_,e'.ev,ax c (λ t ⟨nb,w⟩ F1 H1 v g r=>⟨F1,_,e'.rr g r nb Z,by rw[dE];exact s,w⟩) w⟩
 |.sets is c r,X,lp,PN,sts,y,h=>by
  .refine oz h λ ts e _ Td k1=>?_;refine eZ k1 λ tg k2=>?_;obtain⟨h1,h2,h3,h4,h5⟩:=a5 k2;obtain⟨pg,lt⟩:=rD (X:=X) (by rw[y.xs.N];exact y.nd) y.xo.calm y.xs (λ _=>y.fn) h1;obtain⟨tes,tk,tp,rfl⟩:=wR h2;refine(dO (ug (sE c y.xo y.xs h4) pg (HP h3) (HS h3) rfl) (sS r (PN:=PN) y h5)).imp λ D σ H ⟨F,ρ,e,s,w⟩=>?_;refine⟨F,ρ,e.ev,ax c (λ t w F1 H1 v g rr=>?_) w⟩
   cases t with
   |tup l=>exact xn w (e.grow g) rr (λ i hi=>by rw[s];exact lt i hi) λ σ' ρ' p e' s'=>⟨F1,ρ',e',s'.trans s,p⟩
   |_=>exact w.elim
 |.fz i r,X,lp,PN,sts,y,h=>by
  refine(sS r (PN:=PN) y (show br fs gs N nm lp r sts=On from h)).imp λ D σ H ⟨F,ρ,e,s,w⟩=>?_;obtain⟨F',e',_⟩:=e.fz i;exact⟨F',_,e',s,w⟩
 |.ex c r,X,lp,PN,sts,y,h=>by
  .refine oA h λ e _ Td k1=>?_;obtain⟨h1,h2,h3⟩:=_L.a3 k1;exact(dO (mP (sE c y.xo y.xs h2) (oB h1)) (sS r (PN:=PN) y h3)).imp λ D σ H ⟨F,ρ,e,s,w⟩=>⟨F,ρ,e.ev,ax c (λ t w F1 H1 v g rr=>⟨F1,ρ,e.grow g,s,w⟩) w⟩
 |.met m i l r,X,lp,PN,sts,y,h=>by
  .refine oA h λ e _ Td k1=>?_;obtain⟨h1,h2⟩:=an k1;obtain⟨pe,pl⟩:=HJ (F0:=F0) (H0:=H0) (PN:=PN) (J:=J) (FT:=FT) (GT:=GT) y.xo y.xs h1;refine(dO (mP pe (oB pl)) (sS r (PN:=PN) y h2)).imp λ D σ H ⟨F,ρ,e,s,w⟩=>?_;obtain⟨F',e',_⟩:=ER.fzV l e;exact⟨F',_,e',lX (λ xs w=>bI l (λ ts w=>wV (λ y ys w F1 H1 v e1 _=>⟨F1,_,e1,s,w⟩) w) w) w⟩
 |.put i c d r,X,lp,PN,sts,y,h=>by
  .refine oz h λ ts e _ Td k1=>?_;refine eZ k1 λ t k2=>?_;refine lQ k2 λ o yy _ k3=>?_;refine bz k3 λ x _ k4=>?_;obtain⟨h1,h2,h3,h4,h5,h6,h7⟩:=a7 k4;replace h1:=aC h1;obtain⟨d1,d2,_⟩:=dY h3;refine(dO (ug (sE d y.xo y.xs h6) (BK (gB (by rw[y.xs.N];exact h1) (gO y.xs h2) d1 d2) (sE c y.xo y.xs h5) Dc (HU h4)) HQ HR rfl) (sS r (PN:=PN) y h7)).imp λ D σ H ⟨F,ρ,e,s,w⟩=>?_;obtain⟨F',e',_⟩:=e.fzC d;obtain⟨xs,hx,w⟩:=lY w;refine⟨F',_,e'.ev,ax d (λ t ⟨nb,w⟩ F1 H1 v g rr=>?_) w⟩;obtain⟨F2,g2,_,_,rp⟩:=rr.frz g nb;have e2:=e'.grow g2;obtain⟨a,vs,ea,q,_⟩:=e2.at_ hx;show cg i σ H1 _;unfold cg;rw[ea];refine⟨F2,_,e2.ev,ax c (λ u w F3 H3 v3 g3 r3=>?_) w⟩;obtain⟨k,rfl,n,en,w⟩:=gm w;cases r3;have e3:=e2.grow g3;obtain⟨a',vs',ea',q',rl⟩:=e3.at_ hx;rw[ea] at ea';cases ea';obtain⟨em,_⟩:=e3.mut y.xo.hJ hx ea (rl.set (rp.ke g3.ke) n);exact⟨a,vs',k,n,O,O,q',by rw[<- rl.length];exact en,F3,_,em,s,w⟩
 |.ite c a b r,X,lp,PN,sts,y,h=>by
  .refine HA h λ t x yy _ Td k1=>?_;obtain⟨h1,h2,h3,h4,h5⟩:=a5 k1;refine(dO (uc (sT c y.xo y.xs h1 h2) (sS a (PN:=PN) y h3) (sS b (PN:=PN) y h4)) (sS r (PN:=PN) y h5)).imp λ D σ H ⟨F,ρ,e,s,w⟩=>?_;refine⟨F,ρ,e.ev,ax c (λ t w=>cP (λ k w F1 H1 g=>?_) w) w⟩;split at w
   .rw[XT (by assumption)];exact⟨F1,ρ,e.grow g,s,bB a (λ ρ' w F' H' σ' e s=>⟨F',ρ',e,s,w⟩) (λ _ h=>h) w⟩
   .rw[XR (by assumption)];exact⟨F1,ρ,e.grow g,s,bB b (λ ρ' w F' H' σ' e s=>⟨F',ρ',e,s,w⟩) (λ _ h=>h) w⟩
 |.for tg k it b r,X,lp,PN,sts,y,h=>by
  .refine HB h λ t iter body els _ Td k1=>?_;obtain⟨z0,h0,h1,h2,h3,h4⟩:=a6 k1;refine dg z0 ?_;obtain⟨pg,lt⟩:=rD (X:=X) (by rw[y.xs.N];exact y.nd) y.xo.calm y.xs (λ _=>y.fn) h1;have hb:PSs X _ (λ D σ H=>∃PN,rS X.K J FT GT N.length F0 H0 PN b D σ H):=λ Tb s σ H D I ⟨PN,q⟩=>sS b (PN:=PN) y h3 Tb s σ H D I q;refine(dO (BV (y.ps h0) y.xo.calm (sI it k y.xo y.xs h2) pg hb (λ x=>wC (jm h2))) (sS r (PN:=PN) y h4)).imp λ D σ H ⟨F,ρ,e,s,w⟩=>?_;obtain⟨F',e',_⟩:=ER.fzV it e;refine⟨F',_,e'.ev,bI it (λ ts ⟨nb,w⟩=>iz (λ its w F1 H1 xs Jt g rx ok=>?_) w) w⟩;obtain⟨F2,g2,_,r2⟩:=gp g rx nb;refine HL (n:=N.length) (tb:=λ D σ H=>∃PN,rS X.K J FT GT N.length F0 H0 PN b D σ H) _ _ (e'.grow g2) s r2 ok w (λ ρ' w F3 H3 σ3 e3 s3=>⟨F3,ρ',e3,s3,w⟩) λ t ρ' F3 H3 σ3 x Q D' bt e3 s3 rt ert fin=>?_;exact xn bt e3 rt (λ i hi=>by rw[s3];exact lt i hi) λ σ4 ρ4 p e4 s4=>⟨_,F3,ρ4,e4,s4.trans s3,bB b (λ ρ5 q=>fin ρ5 q) (λ u hu=>by rw[ert];exact hu) p⟩
 |.nl i own k it r,X,lp,PN,sts,y,h=>by
  .refine oz h λ ts e _ Td k1=>?_;refine eZ k1 λ t k2=>?_;refine bz k2 λ x _ k3=>?_;obtain⟨h1,h2,h3⟩:=_L.a3 k3;obtain⟨a1,a2,a3,a4⟩:=wW y.xs y.fn h1;refine(dO (HV y.xo y.xs (by rw[y.xs.N];exact y.nd) a1 a2 a3 h2) (sS r (PN:=PN) y h3)).imp λ D σ H ⟨F,ρ,e,s,no,w⟩=>?_;show jL (rW X.K J FT GT k it) own.length [] (Ux X.K [0]) (kU kS) σ H (λ x H1=>rS X.K J FT GT N.length F0 H0 PN r D (σ.set i (Om x)) H1);refine HM (own:=own) (R:=λ as=>wS FT GT r (ρ.set i (Om (.obj (.lls as (Ow as.length []))))) (Wi X.K J F0 H0 PN N.length D.nx) (Xk X.K J F0 H0 D.rt)) y.xo.hJ e.ev w λ as F' H' a0 wr nd g n0 nf0 q0 ha na=>?_;exact⟨_,_,e.setL no g n0 nf0 q0 nd ha na Z,by rw[dE];exact s,wr⟩
 |.pu i j c r,X,lp,PN,sts,y,h=>by
  .refine oA h λ qe _ Td k1=>?_;refine dG k1 λ g as w cp k2=>?_;refine rj k2 λ o name ap k3=>?_;refine lQ k3 λ u v p3 k4=>?_;refine bz k4 λ x p k5=>?_;refine bz k5 λ z p2 k6=>?_;refine eZ k6 λ a k7=>?_;obtain⟨k8,g5,g6,g7,g8,g9⟩:=a6 k7;obtain⟨g0,g1,g2,g3⟩:=a4 k8;refine dg g0 ?_;obtain⟨b1,b2,rfl,b4⟩:=aC g1;have pe:=HW (F0:=F0) (H0:=H0) (PN:=PN) (p:=p) (p2:=p2) (p3:=p3) y.xo y.xs b1 g2 g3 b2 g5 g6 b4 g7 (sE c y.xo y.xs g8);refine(dO (mP pe rfl) (sS r (PN:=PN) y g9)).imp λ D σ H ⟨F,ρ,e,s,w⟩=>?_;obtain⟨as,ll,e1,w⟩:=rP w;obtain⟨k,e2,n,l,rfl,e3,ln,w⟩:=wT w;exact⟨F,ρ,as,ll,n,l,e,e1,e2,e3,ln,ax c (λ t ⟨ks,et,w⟩=>⟨ks,et,λ F' H' e'=>⟨F',_,e',s,w⟩⟩) w⟩
 |.fu i r,X,lp,PN,sts,y,h=>by
  .refine(sS r (PN:=PN) y h).imp λ D σ H ⟨F,ρ,e,s,w⟩=>?_;obtain⟨as,ll,e1,w⟩:=rP w;obtain⟨F',e'⟩:=e.fu e1;exact⟨F',_,e',s,w⟩
 |.xl i f l r,X,lp,PN,sts,y,h=>by
  .refine oA h λ qe _ Td k1=>?_;refine dG k1 λ g as w cp k2=>?_;refine rj k2 λ o name ap k3=>?_;refine bz k3 λ x p k4=>?_;refine eZ k4 λ u k5=>?_;refine dG k5 λ g2 es w2 p3 k6=>?_;refine bz k6 λ z p2 k7=>?_;obtain⟨k8,g4,g5,g6,g7,g8⟩:=a6 k7;obtain⟨z0,z1,z2,g2,g3⟩:=a5 k8;refine dg z0 ?_;refine dg z1 ?_;obtain⟨b1,rfl,b3,b4⟩:=aC z2
   cases es with
   |nil=>exact Oq g6
   |cons a es=>
   refine(dO (mP (HK (F0:=F0) (H0:=H0) (PN:=PN) (p:=p) (p2:=p2) (p3:=p3) y.xo y.xs b1 g2 g3 b3 b4 g4 g5 g7) (oB rfl)) (sS r (PN:=PN) y g8)).imp λ D σ H ⟨F,ρ,e,s,w⟩=>?_;exact⟨F,ρ,e,lX (λ xs w=>bI l (λ ts ⟨P,sp,w⟩=>⟨P,sp,λ t pt=>let ⟨m,e,lf,lz,w⟩:=w t pt;⟨m,e,lf,lz,λ F' H' e'=>⟨F',_,e',s,w⟩⟩⟩) w) w⟩
 |.tri b r,X,lp,PN,sts,y,h=>by
  .obtain⟨body,hs,els,fi,_,Td,rfl,k1⟩:=HD h;obtain⟨z0,z1,z2,h1,h2⟩:=a5 k1;refine dg z1 ?_;refine dg z2 ?_
   cases hs with
   |nil=>exact Oq z0
   |cons h0 hs=>
   have hb:∀(xe:VS) (pn:LO),PSs (X.more xe pn) _ (rS X.K J FT GT N.length F0 H0 PN b):=λ xe pn=>sS b (X:=X.more xe pn) (PN:=PN) (lp:=Op) ⟨⟨y.xo.calm,y.xo.units,y.xo.hJ,y.xo.fns,y.xo.glb,y.xo.dic,y.xo.blt,y.xo.len,y.xo.hof⟩,⟨y.xs.N,y.xs.nm⟩,y.nd,y.fn,λ z=>by cases z⟩ h1;exact(dO (FP hb) (sS r (PN:=PN) y h2)).imp λ D σ H ⟨F,ρ,e,s,w⟩=>⟨F,ρ,e,s,bB b (λ ρ' w F' H' σ' e s=>⟨F',ρ',e,s,w⟩) (λ _ h=>h) (w)⟩
end
noncomputable def TM(n:Nat)(ts:List TV):En:=ts.map Om++Ow (n-ts.length) Oo
section
variable {P:Oz}{w:OB}{K:FG}{mg:SV}{base:OH}{J:Hp->Prop}{FT:List Tc}{GT:List TV}{fs gs:List Str}
structure MOk (P:Oz)(w:OB)(K:FG)(mg:SV)(J:Hp->Prop)(GT:List TV)(gs:List Str):Prop where
 hJ:JS J
 glb:∀(g:Nat) x t,gs[g]?=Om x->GT[g]?=Om t->t.nb=On->∃v u,mg x=Om u/\RelV v u/\∀F H,Rp K F H t v
 dic:∀(g:Nat) x l,gs[g]?=Om x->GT[g]?=Om (.bor l)->Xd P w K mg x l
 blt:∀x∈BN,mg x=Oo
def Wj{vs:List V}(wd:Wd J F H)(r:RpL K F H ts vs):ER K J F H [] F H (Ti N vs) (TM N.length ts):=by
 have get:∀(i:Nat) t,(TM N.length ts)[i]?=Om (Om t)->ts[i]?=Om t:=λ i t h=>by
  unfold TM at h;by_cases c:i<ts.length
  .rw[cI (by simpa using c),bh] at h
   cases q:ts[i]? with
   |none=>rw[q] at h;cases h
   |some u=>rw[q] at h;cases h;rfl
  .rw[cH (by simpa using c),fH] at h;split at h<;>cases h
 have sl:∀(i:Nat) t,(TM N.length ts)[i]?=Om (Om t)->∃v,(Ti N vs)[i]?=Om (Om v)/\Rp K F H t v:=λ i t h=>by
  obtain⟨v,ev,rv⟩:=r.get (get i t h);refine⟨v,?_,rv⟩;unfold Ti;rw[cI (by simpa using (aX.mp ev).1),bh,ev];rfl
 refine⟨⟨wd,λ i t h=>let ⟨v,e,q⟩:=sl i t h;⟨v,e,wz q⟩⟩,.refl wd,λ i l a h1 h2=>?_,λ i k l l' v h1 h2 h3 h4=>?_,(λ p hp=>by cases hp),λ i as ll h=>by obtain⟨v,_,q⟩:=sl i _ h;exact q.elim⟩
 .obtain⟨v,_,q⟩:=sl i _ h1;exact q.elim
 .obtain⟨v,_,q⟩:=sl i _ h1;exact q.elim
theorem xp{st:OC}(code:Ct)(F:Fun K x qual st f fd)(sc:Tt N ps (aD st))(m:MOk P w K mg J GT gs)(hl:fs.length=FT.length)
  (fns:∀(f:Nat) x S,fs[f]?=Om x->FT[f]?=Om S->∃ps,Callee P w K mg base Tp k x ps (Up K J S))
  (hck:br fs gs N (aD st).names On code (aK st)=On) (Tj:∀ts Q,S ts Q->ts.length=ps.length)
  (hw:∀ts Q,S ts Q->wS FT GT code (TM N.length ts) (λ _=>Q .non) Q):FnOk P w K mg base Tp (k+1) f fd ps (Up K J S):=by
 refine F.ok sc (λ vs H Q E ⟨F1,ts,P1,wd,r,s,_⟩=>by rw[<- r.length];exact Tj _ _ s) (λ cdv A outer s H vs Q E hr h=>?_);obtain⟨F1,ts,P1,wd,r,sp,fin⟩:=h
 have nl:vs.length<=N.length:=by
  have z:=bA Pi sc.pre;rw[aP] at z;have:=Tj _ _ sp;rw[<- r.length];lia
 have xo:Tq (dP Tp P w K mg base N qual (aD st) f cdv A outer s H E).nox J FT GT fs gs:=⟨rfl,by have:=hr.un;show(A.deeper _).units+120<Pv;lia,m.hJ,λ g y S h1 h2=>let ⟨ps,c⟩:=fns g y S h1 h2;⟨k,ps,hr,c⟩,m.glb,m.dic,m.blt,s1j hl,ww hl⟩;refine⟨_,sS (F0:=F1) (H0:=H) (PN:=[]) code (lp:=On) ⟨xo,⟨O,O⟩,sc.nd,λ _ _=>rfl,λ _=>oC⟩ hck,F1,TM N.length ts,Wj wd r,?_,?_⟩
 .unfold Ti;rw[aF,ah,dC];show vs.length+(N.length-vs.length)=N.length;lia
 .exact bB code (λ ρ' q F' H' σ' e _=>fin .non q F' H' .non e.gr rfl) (λ t q F' H' v g r=>fin t q F' H' v g r) (hw ts P1 sp)
end
structure Gl' (K:FG)(x:Str)(st:OC)(f:Os)(fd:OT):Prop where
 F:Fun K x x st f fd
 a:W.nsIn K OG x=Om (Om (.ref f))
def Gx(K:FG)(x:Str)(st:OC):Prop:=∃f fd,Gl' K x st f fd
section
variable {K:FG}{x:Str}{st:OC}{f:Os}{oc:Value}{od an:OA}{osl:AV}{kV doc pm cdv ct:Value}
def gl_ex(a:W.nsIn K OG x=Om (Om (.ref f)))(l:K.lookup f=Om ⟨oc,od,.func (W.fnOf x x (gi st) (aK st) (aD st) .none kV doc pm an cdv ct),osl⟩)(c:W.codeIn K cdv x=On)(k:W.keepIn K (.ref f)=On):Gx K x st:=⟨_,_,uZ l c k,a⟩
def gx_int(h:W.nsIn K OG x=Om (Om (.int i t))):∃t,W.nsIn K OG x=Om (Om (.int i t)):=⟨_,h⟩
end
abbrev DR:=Str×List Str×Tc
noncomputable def Uv(L:List DR)(j:Nat):List Str:=(L.take j).map (·.1)
def Uj(L:List DR)(j:Nat):List Tc:=(L.take j).map (·.2.2)
section
variable {P:Oz}{w:OB}{K:FG}{mg:SV}{base:OH}{J:Hp->Prop}{GT:List TV}{gs:List Str}{L:List DR}
def Xm(P:Oz)(w:OB)(K:FG)(mg:SV)(base:OH)(J:Hp->Prop)(L:List DR)(j:Nat):Prop:=∀x ps S,L[j]?=Om (x,ps,S)->Callee P w K mg base Tp (j+1) x ps (Up K J S)
def Cals(P:Oz)(w:OB)(K:FG)(mg:SV)(base:OH)(J:Hp->Prop)(L:List DR)(j:Nat):Prop:=∀i,i<j->Xm P w K mg base J L i
def Cals.z:Cals P w K mg base J L 0:=λ i h=>XU h (Nat.not_lt_zero _)
def Cals.s(C:Cals P w K mg base J L j)(c:Xm P w K mg base J L j):Cals P w K mg base J L (j+1):=λ i h=>by
 by_cases e:i=j
 .subst e;exact c
 .exact C i Z
def Cals.fns(C:Cals P w K mg base J L j):∀(f:Nat) x S,(Uv L j)[f]?=Om x->(Uj L j)[f]?=Om S->∃ps,Callee P w K mg base Tp j x ps (Up K J S):=λ f x S h1 h2=>by
 unfold Uv at h1;unfold Uj at h2;rw[bh] at h1 h2
 cases q:(L.take j)[f]? with
 |none=>rw[q] at h1;cases h1
 |some d=>
  rw[q] at h1 h2;cases h1;cases h2;have lt:f<j:=by have:=(aX.mp q).1;rw[aP] at this;lia
  rw[s1b,XT lt] at q;exact⟨_,(C f lt d.1 d.2.1 d.2.2 q).mono Z⟩
def fb(j:Nat):(Uv L j).length=(Uj L j).length:=by unfold Uv Uj;rw[ah,ah]
theorem HX{x:Str}{ps N:List Str}{st:OC}{S:Tc}(code:Ct)(C:Cals P w K mg base J L j)(m:MOk P w K mg J GT gs)(hm:∀ {x:Str}{v:Option Value},W.nsIn K OG x=Om v->mg x=v)(e:L[j]?=Om (x,ps,S))(g:Gx K x st)(sc:Tt N ps (aD st))
  (b:∀f fd,Fun K x x st f fd->Binds K fd ps []) (hck:br (Uv L j) gs N (aD st).names On code (aK st)=On) (Tj:∀ts Q,S ts Q->ts.length=ps.length)
  (hw:∀ts Q,S ts Q->wS (Uj L j) GT code (TM N.length ts) (λ _=>Q .non) Q):Cals P w K mg base J L (j+1):=by
 refine C.s λ x' ps' S' e'=>?_;rw[e] at e';cases e';obtain⟨f,fd,gf⟩:=g;exact Callee.mk' gf.F (hm gf.a) (b f fd gf.F) (xp code gf.F sc m (fb j) C.fns hck Tj hw)
def rR:Tc:=λ ts Q=>∃ns:LI,ts=[.lst (ns.map .int)]/\ns.length<=63/\Q (.bl On)
def rV(K:FG)(J:Hp->Prop):Sp:=λ vs H Q _=>∃(a:Os) (ns:LI),vs=[.ref a]/\SqL K H a (ns.map V.int)/\ns.length<=63/\J H/\∀H',Q (.bl On) H'
def HY(F:FnOk P w K mg base Tp k f fd ps (Up K J rR)):FnOk P w K mg base Tp k f fd ps (rV K J):=F.imp λ vs H Q E ⟨a,ns,e,sq,l,j,q⟩=>by
 subst e
 rcases sq with rd|kk
 .have ha:H a≠Oo:=by rcases rd with h|⟨o,h⟩<;>rw[h]<;>simp
  exact⟨λ b=>b=a,[.lst (ns.map .int)],_,⟨j,λ b e=>by rw[show b=a from e];exact ha⟩,⟨_,_,O,⟨a,_,O,.inl ⟨O,.inl rd⟩,RpL.ofInts ns⟩,O⟩,⟨ns,O,l,O⟩,λ t e F' H' v _ r=>by subst e;cases r;exact q H'⟩
 .exact⟨λ _=>False,[.lst (ns.map .int)],_,⟨j,λ b e=>e.elim⟩,⟨_,_,O,⟨a,_,O,.inr kk,RpL.ofInts ns⟩,O⟩,⟨ns,O,l,O⟩,λ t e F' H' v _ r=>by subst e;cases r;exact q H'⟩
variable {FT:List Tc}
def cN{its:List TV}{Kn:En->Prop}(I:Nat->En->Prop)(h0:I 0 ρ)(st:∀i t ρ,its[i]?=Om t->I i ρ->Ug ρ tg t λ ρ'=>wS FT GT c ρ' (I (i+1)) rt)(fin:∀ρ,I its.length ρ->Kn ρ):UT (λ t ρ K=>Ug ρ tg t λ ρ'=>wS FT GT c ρ' K rt) its ρ Kn:=by
 have go:∀(r:List TV) (i:Nat) (ρ:En),its.drop i=r->i<=its.length->I i ρ->UT (λ t ρ K=>Ug ρ tg t λ ρ'=>wS FT GT c ρ' K rt) r ρ Kn:=by
  intro r
  induction r with
  |nil=>
   intro i ρ e li h;have:i=its.length:=by have:=bA Pi e;rw[bL] at this;simp at this;lia
   subst this;exact fin ρ h
  |cons t r ih=>
   intro i ρ e li h;have lt:i<its.length:=by have:=bA Pi e;rw[bL] at this;simp at this;lia
   rw[rJ lt] at e
   injection e with e1 e2
   have et:its[i]?=Om t:=by rw[aZ lt,e1]
   exact gN (λ ρ' q=>bB c (λ ρ'' q=>ih (i+1) ρ'' e2 Z q) (λ _ q=>q) q) (st i t ρ et h)
 exact go its 0 ρ rfl (bP _) h0
end
end _L
namespace _L
set_option backward.match.sparseCases false
open TV renaming int->XV,tup->XW,str->XX
open PySem PySem.Spec PyProof.Rows PySem.W PySem.Calls
theorem HZ{K:FG}{qual:Str}{cl:LA}{vs vcs:List V}{H:Hp}{Q:VK}
  (S:Tu N ps fv scope) (hcl:cl.map (·.1)=fv)
  (hb:∀(pm ctv:Value) (us:LV),us.length=ps.length->Pf (kla_fn "<lambda>" qual params body scope cl pm (.ref c') ctv) ⟨us,[]⟩=OM (ps.zip us)) (hl:vs.length=ps.length)
  (L1:H fa=Om (eX fa c' qual params body scope cl)) (_L:H c'=Om (cn c' qual)) (hc:CelAt H cl vcs)
  (hbody:∀(A:OD) (outer:List Env) (s:Ot),Room k (A.deeper (envX qual scope s.heap.objs.size fa (.ref c') (OL (s.heap.objs.size+1) scope.names []++cl)))->PE (iq P w K mg base N qual scope fa (.ref c') cl A outer s (minC H cl)) body te)
  (hq:te (Ti N (vs++vcs)) (minC H cl) (λ v H'=>(∀q∈cl,H' q.2=Oo)->Q v (TD H H' cl))):lL P w K mg base (k+1) fa vs H Q:=by
 intro A outer s us hr e0 r;obtain⟨⟨pm,ctv,ho⟩,_⟩:=e0.hok fa _ L1;obtain⟨hcd,_⟩:=e0.hok c' _ _L;have lim:s.heap.NoLimit:=e0.mod.nolimit.keeps λ b o e=>(e0.bs b o e).1
 have Tx:∀y∈ps.zip us,scope.names.lookup y.1=Om .local\/(scope.names.lookup y.1=Om .cell/\((OL (s.heap.objs.size+1) scope.names []).lookup y.1).isSome=On):=λ⟨n,v⟩ hy=>by
  rcases S.par n (kX hy).1 with q|q
  .exact .inl q
  .exact .inr ⟨q,jH _ _ _ (.inl q)⟩
 refine kla_callFunE hr.depth ho rfl S.co S.gen rfl hcd ?_;rw[hb pm ctv us (by rw[<- r.length];exact hl)];refine au (vL S.kind Tx λ env he s1 x=>?_);subst he;refine⟨lim.keeps x.toInCall.keep,kla_codeExpr ?_⟩;have I:Inv (iq P w K mg base N qual scope fa (.ref c') cl A outer s (minC H cl)) [] (Ti N (vs++vcs)) (minC H cl) s1:=vM S hr.hd e0 hl r hcl hc x;refine cy (hbody A outer s (hr.deeper _) [] s1 _ _ _ I hq) (λ u s' hs=>?_) (λ e s' hs=>OY hs);obtain⟨v,H',J,rv,q⟩:=hs;have un:Un (Us outer) [] (minC H cl) H' s.heap s'.heap:=J.base
 have nfr:∀q∈cl,q.2 ∉ Us outer:=λ q hq z=>by
  obtain⟨o,v,e⟩:=hc.mem hq;rw[e0.frf _ z] at e;cases e
 have kc:∀q∈cl,∀o,s.heap.get? q.2=Om o->s'.heap.get? q.2=Om o/\H' q.2=Oo:=λ q hq o e=>⟨un.keep _ o e (jQ hq) (nfr q hq) on,un.free _ o e (jQ hq) on⟩
 have there:∀q∈cl,∃o,s.heap.get? q.2=Om o:=λ q hq=>by
  obtain⟨o,v,e⟩:=hc.mem hq;exact⟨o,(e0.hok _ _ e).1⟩
 have split:∀b,(∃q∈cl,q.2=b)\/∀q∈cl,q.2≠b:=λ b=>by
  by_cases c:∃q∈cl,q.2=b
  .exact .inl c
  .exact .inr λ q hq e=>c ⟨q,hq,e⟩
 refine⟨v,TD H H' cl,J.os,J.bare,⟨λ b o e n hb hx=>un.keep b o e (gJ n) hb hx,λ b o e n hb hx=>un.slot b o e (gJ n) hb hx,λ b o e n hx=>?_,un.there,λ b xs e=>?_,λ b o u e=>?_,λ b ps e=>?_⟩,λ b o e=>?_,rv,q λ p hp=>let ⟨o,eo⟩:=there p hp;(kc p hp o eo).2⟩
 .rcases split b with ⟨q,hq,rfl⟩|hn
  .rw[eY hq];exact n
  .rw[cL hn];exact un.free b o e (gJ n) hx
 .rcases split b with ⟨q,hq,rfl⟩|hn
  .rw[eY hq];exact e
  .rw[cL hn];exact un.tups b xs (by rw[bU hn];exact e)
 .rcases split b with ⟨q,hq,rfl⟩|hn
  .rw[eY hq];exact e
  .rw[cL hn];exact un.frzs b o u (by rw[bU hn];exact e)
 .rcases split b with ⟨q,hq,rfl⟩|hn
  .obtain⟨o,v,e2⟩:=hc.mem hq;rw[e] at e2;cases e2
  .rw[cL hn];exact un.tbls b ps (by rw[bU hn];exact e)
 .rcases split b with ⟨q,hq,rfl⟩|hn
  .rw[eY hq] at e;obtain⟨o2,v2,e2⟩:=hc.mem hq;rw[e] at e2;cases e2;obtain⟨g1,⟨u2,ru,ic⟩,_,st⟩:=e0.hok _ _ e;have k1:=(kc q hq _ g1).1;refine⟨k1,⟨u2,ru,?_⟩,⟨_,k1⟩,st⟩;obtain⟨o3,e3,d3⟩:=ic;rw[g1] at e3;cases e3;exact⟨_,k1,d3⟩
  .rw[cL hn] at e
   have nf:∀c u,H' c=Om u->TD H H' cl c=Om u:=λ c u e2=>by
    rcases split c with ⟨q,hq,rfl⟩|hn
    .obtain⟨o,eo⟩:=there q hq;rw[(kc q hq o eo).2] at e2;cases e2
    .rw[cL hn];exact e2
   exact(J.hok b o e).stay (λ _ _ _ q=>q) (λ c q=>nf c _ q) λ c xs q=>nf c _ q
theorem Ia{K:FG}{cl:LA}{vs vcs:List V}{H:Hp}{Q:VK}
  (S:Tu N ps fv scope) (hcl:cl.map (·.1)=fv)
  (hb:∀(doc pm ctv:Value) (us:LV),us.length=ps.length->Pf (fnX name qual params body scope cl .none .none doc pm Oo (.ref c') ctv) ⟨us,[]⟩=OM (ps.zip us)) (hl:vs.length=ps.length)
  (L1:H fa=Om (dU fa c' name qual params body scope cl)) (_L:H c'=Om (cn c' qual)) (hc:CelAt H cl vcs)
  (hbody:∀(A:OD) (outer:List Env) (s:Ot),Room k (A.deeper (envX qual scope s.heap.objs.size fa (.ref c') (OL (s.heap.objs.size+1) scope.names []++cl)))->PSs (iq P w K mg base N qual scope fa (.ref c') cl A outer s (minC H cl)) body ts)
  (hq:ts { nx:=λ _ H'=>(∀q∈cl,H' q.2=Oo)->Q .non (TD H H' cl),rt:=λ v H'=>(∀q∈cl,H' q.2=Oo)->Q v (TD H H' cl) } (Ti N (vs++vcs)) (minC H cl)):lL P w K mg base (k+1) fa vs H Q:=by
 intro A outer s us hr e0 r;obtain⟨⟨doc,pm,ctv,ho⟩,_⟩:=e0.hok fa _ L1;obtain⟨hcd,_⟩:=e0.hok c' _ _L;have lim:s.heap.NoLimit:=e0.mod.nolimit.keeps λ b o e=>(e0.bs b o e).1
 have Tx:∀y∈ps.zip us,scope.names.lookup y.1=Om .local\/(scope.names.lookup y.1=Om .cell/\((OL (s.heap.objs.size+1) scope.names []).lookup y.1).isSome=On):=λ⟨n,v⟩ hy=>by
  rcases S.par n (kX hy).1 with q|q
  .exact .inl q
  .exact .inr ⟨q,jH _ _ _ (.inl q)⟩
 refine uD hr.depth ho rfl S.co S.gen rfl hcd ?_;rw[hb doc pm ctv us (by rw[<- r.length];exact hl)];refine au (vL S.kind Tx λ env he s1 x=>?_);subst he;refine⟨lim.keeps x.toInCall.keep,codeAny_func ?_⟩;have I:Inv (iq P w K mg base N qual scope fa (.ref c') cl A outer s (minC H cl)) [] (Ti N (vs++vcs)) (minC H cl) s1:=vM S hr.hd e0 hl r hcl hc x;refine cy (hbody A outer s (hr.deeper _) [] s1 _ _ _ I hq) (λ fl s' hs=>?_) (λ e s' hs=>OY hs);have fin:∀ {v:V}{u:Value}{σ':St}{H':Hp},Inv (iq P w K mg base N qual scope fa (.ref c') cl A outer s (minC H cl)) [] σ' H' s'->RelV v u->((∀q∈cl,H' q.2=Oo)->Q v (TD H H' cl))->CE outer P w H s Q u s':=?_
 .cases fl with
  |ret u=>
   obtain⟨v,σ',H',J,rv,q⟩:=hs;exact fin J rv q
  |next=>
   obtain⟨σ',H',J,q⟩:=hs;exact fin (v:=V.non) (u:=OZ) J rfl q
  |brk|cont=>obtain⟨_,_,_,q⟩:=hs;exact OY q
 intro v u σ' H' J rv q;have un:Un (Us outer) [] (minC H cl) H' s.heap s'.heap:=J.base
 have nfr:∀q∈cl,q.2 ∉ Us outer:=λ q hq z=>by
  obtain⟨o,v,e⟩:=hc.mem hq;rw[e0.frf _ z] at e;cases e
 have kc:∀q∈cl,∀o,s.heap.get? q.2=Om o->s'.heap.get? q.2=Om o/\H' q.2=Oo:=λ q hq o e=>⟨un.keep _ o e (jQ hq) (nfr q hq) on,un.free _ o e (jQ hq) on⟩
 have there:∀q∈cl,∃o,s.heap.get? q.2=Om o:=λ q hq=>by
  obtain⟨o,v,e⟩:=hc.mem hq;exact⟨o,(e0.hok _ _ e).1⟩
 have split:∀b,(∃q∈cl,q.2=b)\/∀q∈cl,q.2≠b:=λ b=>by
  by_cases c:∃q∈cl,q.2=b
  .exact .inl c
  .exact .inr λ q hq e=>c ⟨q,hq,e⟩
 refine⟨v,TD H H' cl,J.os,J.bare,⟨λ b o e n hb hx=>un.keep b o e (gJ n) hb hx,λ b o e n hb hx=>un.slot b o e (gJ n) hb hx,λ b o e n hx=>?_,un.there,λ b xs e=>?_,λ b o u e=>?_,λ b ps e=>?_⟩,λ b o e=>?_,rv,q λ p hp=>let ⟨o,eo⟩:=there p hp;(kc p hp o eo).2⟩
 .rcases split b with ⟨q,hq,rfl⟩|hn
  .rw[eY hq];exact n
  .rw[cL hn];exact un.free b o e (gJ n) hx
 .rcases split b with ⟨q,hq,rfl⟩|hn
  .rw[eY hq];exact e
  .rw[cL hn];exact un.tups b xs (by rw[bU hn];exact e)
 .rcases split b with ⟨q,hq,rfl⟩|hn
  .rw[eY hq];exact e
  .rw[cL hn];exact un.frzs b o u (by rw[bU hn];exact e)
 .rcases split b with ⟨q,hq,rfl⟩|hn
  .obtain⟨o,v,e2⟩:=hc.mem hq;rw[e] at e2;cases e2
  .rw[cL hn];exact un.tbls b ps (by rw[bU hn];exact e)
 .rcases split b with ⟨q,hq,rfl⟩|hn
  .rw[eY hq] at e;obtain⟨o2,v2,e2⟩:=hc.mem hq;rw[e] at e2;cases e2;obtain⟨g1,⟨u2,ru,ic⟩,_,st⟩:=e0.hok _ _ e;have k1:=(kc q hq _ g1).1;refine⟨k1,⟨u2,ru,?_⟩,⟨_,k1⟩,st⟩;obtain⟨o3,e3,d3⟩:=ic;rw[g1] at e3;cases e3;exact⟨_,k1,d3⟩
  .rw[cL hn] at e
   have nf:∀c u,H' c=Om u->TD H H' cl c=Om u:=λ c u e2=>by
    rcases split c with ⟨q,hq,rfl⟩|hn
    .obtain⟨o,eo⟩:=there q hq;rw[(kc q hq o eo).2] at e2;cases e2
    .rw[cL hn];exact e2
   exact(J.hok b o e).stay (λ _ _ _ q=>q) (λ c q=>nf c _ q) λ c xs q=>nf c _ q
def TbJ(L:List (Os×Pos×Str))(H:Hp):Prop:=∀x∈L,TabOk H x.1 x.2.1 x.2.2
def TabOk.sm{H H':Hp}(h:TabOk H T pos qual)(s:∀a o,(∀vs,o≠.lst vs)->(∀b u,o≠.frz b u)->H a=Om o->H' a=Om o):TabOk H' T pos qual:=by
 obtain⟨ps,e,t,q⟩:=h;refine⟨ps,s _ _ (λ _ z=>nomatch z) (λ _ _ z=>nomatch z) e,t,q.imp id λ⟨c,e1,e2⟩=>⟨c,e1,s _ _ (λ _ z=>nomatch z) (λ _ _ z=>nomatch z) e2⟩⟩
section
variable {K:FG}{L:List (Os×Pos×Str)}{F F1 F2 F':Fz}{H H1 H2 H':Hp}{cl:LA}{vcs:List V}
def TbJ.sm(h:TbJ L H)(s:∀a o,(∀vs,o≠.lst vs)->(∀b u,o≠.frz b u)->H a=Om o->H' a=Om o):TbJ L H':=λ x hx=>(h x hx).sm s
def TbJ.js:JS (TbJ L):=⟨λ H p o n h=>h.sm λ a u _ _ e=>by rw[aA (λ z=>by rw[z,n] at e;cases e)];exact e,
 λ H p vs ws n h=>h.sm λ a u k _ e=>by rw[aA (λ z=>by rw[z,n] at e;cases e;exact k _ rfl)];exact e⟩
def oD(cl:LA)(b:Os):(∃q∈cl,q.2=b)\/∀q∈cl,q.2≠b:=by
 by_cases c:∃q∈cl,q.2=b
 .exact .inl c
 .exact .inr λ q hq e=>c ⟨q,hq,e⟩
def jp(hc:CelAt H cl vcs)(h:H a=Om o)(n:∀b c v,o≠.frz b (jP c v)):minC H cl a=Om o:=by
 rw[bU λ q hq z=>by obtain⟨b,v,e⟩:=hc.mem hq;rw[z,h] at e;exact n _ _ _ (bw e)];exact h
def Rd.min{u:HO}(hc:CelAt H cl vcs)(n:∀φ,u≠.ext φ)(k:∀b v,u≠.frz b v)(h:Rd H a u):Rd (minC H cl) a u:=by
 rcases h with h|⟨o,h⟩
 .exact .inl (jp hc h λ _ _ _=>k _ _)
 .exact .inr ⟨o,jp hc h λ b c v z=>by injection z with _ z;exact n _ z⟩
def rX(hc:CelAt H cl vcs):Ke K F H F (minC H cl):=⟨λ a vs h=>h.imp (λ h=>h.min hc (λ _ z=>nomatch z) (λ _ _ z=>nomatch z)) id,λ a vs h=>h.imp λ f h=>⟨f,h.imp (λ h=>h.min hc (λ _ z=>nomatch z) (λ _ _ z=>nomatch z)) id⟩⟩
def Ib(hc:CelAt H cl vcs)(nf:∀q∈cl,¬F q.2)(w:Wd (TbJ L) F H):Wd (TbJ L) F (minC H cl):=⟨w.j.sm λ a o _ k e=>jp hc e λ _ _ _=>k _ _,λ a f=>by
 rw[bU λ q hq z=>nf q hq (z ▸ f)];exact w.d a f⟩
def oE(hz:∀q∈cl,H' q.2=Oo)(h:H' a≠Oo):TD H1 H' cl a=H' a:=cL λ q hq z=>h (z ▸ hz q hq)
def Rd.res(hz:∀q∈cl,H' q.2=Oo)(h:Rd H' a u):Rd (TD H1 H' cl) a u:=by
 rcases h with h|⟨o,h⟩
 .exact .inl (by rw[oE hz (by rw[h];simp)];exact h)
 .exact .inr ⟨o,by rw[oE hz (by rw[h];simp)];exact h⟩
def xq(hz:∀q∈cl,H' q.2=Oo):Ke K F H' F (TD H1 H' cl):=⟨λ a vs h=>h.imp (λ h=>h.res hz) id,λ a vs h=>h.imp λ f h=>⟨f,h.imp (λ h=>h.res hz) id⟩⟩
structure Hand (cl:LA)(vcs:List V)(H1 H2:Hp):Prop where
 fr:∀q∈cl,H1 q.2=Oo
 at_:CelAt H2 cl vcs
 eq:∀b,(∀q∈cl,q.2≠b)->H2 b=H1 b
def Hand.to(h:Hand cl vcs H1 H2)(e:H1 a=Om o):H2 a=Om o:=by
 rw[h.eq a λ q hq z=>by have:=h.fr q hq;rw[z,e] at this;cases this];exact e
def Hand.wd(h:Hand cl vcs H1 H2)(w:Wd (TbJ L) F H1):Wd (TbJ L) F H2:=⟨w.j.sm λ a o _ _ e=>h.to e,λ a f=>by
 cases e:H1 a with
 |none=>exact XU e (w.d a f)
 |some o=>rw[h.to e];simp⟩
def Hand.ke(h:Hand cl vcs H1 H2):Ke K F H1 F H2:=⟨λ a vs q=>q.sm λ a o _ e=>h.to e,λ a vs q=>q.imp λ f q=>⟨f,q.sm λ a o _ e=>h.to e⟩⟩
def Hand.nf(h:Hand cl vcs H1 H2)(w:Wd (TbJ L) F H1)(g:Grow (TbJ L) F H2 F' H'):∀q∈cl,¬F' q.2:=λ q hq f=>by
 rcases g.nw _ f with z|z
 .exact w.d _ z (h.fr q hq)
 .obtain⟨o,v,e⟩:=h.at_.mem hq;rw[z] at e;cases e
def Hand.cel(h:Hand cl vcs H1 H2)(g:Grow (TbJ L) F H2 F' H'):CelAt H' cl vcs:=⟨h.at_.len,λ i q e=>let ⟨v,o,e1,e2⟩:=h.at_.at_ i q e;⟨v,o,e1,g.sm _ _ (λ ps z=>nomatch z) e2⟩,h.at_.apart⟩
def Hand.back(h:Hand cl vcs H1 H2)(w:Wd (TbJ L) F H1)(g:Grow (TbJ L) F H2 F' H'):Grow (TbJ L) F H1 F' (minC H' cl):=by
 have nf:=h.nf w g;have ne:∀a,H1 a≠Oo->∀q∈cl,q.2≠a:=λ a e q hq z=>e (z ▸ h.fr q hq);refine⟨λ a o n e=>?_,λ a e=>?_,g.up,λ a f=>?_,Ib (h.cel g) nf g.w⟩
 .rw[bU (ne a (by rw[e];simp))];exact g.sm a o n (h.to e)
 .rw[bU (ne a e)];exact g.dm a (by rw[h.eq a (ne a e)];exact e)
 .rcases g.nw a f with z|z
  .exact .inl z
  .refine .inr ?_
   rwa [h.eq a λ q hq e=>nf q hq (e ▸ f)] at z
end
theorem xr(env:Env)(post:List OC):∀pre:List OC,Ra (pre++post) env=(Ra pre env >>= λ f=>match f with|.next=>Ra post env|f=>OM f)
 |[]=>by
  rw[nr];unfold Ra;simp
 |st::pre=>by
  rw[nN];rw[Ra,Ra,xr env post pre];simp[bind_assoc]
  congr 1;funext f;cases f<;>simp
def xt(h1:PSs X pre t)(h2:PSs X post u):PSs X (pre++post) (tZ t u):=by
 intro Tb s σ H D I h;rw[xr];refine ae (Tl (h1 Tb s σ H { D with nx:=u D } I h) λ f s1 q=>?_)
 cases f with
 |next=>obtain⟨σ',H',I',q⟩:=q;exact h2 Tb s1 σ' H' D I' q
 |ret v|brk|cont=>exact au q
noncomputable def Ub(l:List (Str×OF)):List Str:=((l.filter (·.2 == OW)).map (·.1)).reverse
theorem rY{env:Env}:∀(l:List (Str×OF)) (cs:LA),(∀x,(x,OW)∈l->∃c,env.cells.lookup x=Om c) ->
  ∃cl,(forIn l cs (λ(x:Str × OF) (r:LA)=>(match x with
   |(name,kind)=>if (kind == OW)=On then (do let y <- QZ env name;OM (Qg ((name,y)::r))) else OM (Qg r):Sem (ForInStep (LA)))):Sem (LA))=OM (cl++cs) /\
   cl.map (·.1)=Ub l/\∀q∈cl,env.cells.lookup q.1=Om q.2
 |[],cs,_=>⟨[],rfl,rfl,λ q h=>by cases h⟩
 |(n,k)::l,cs,h=>by
  by_cases hk:k=.free
  .subst hk;obtain⟨c,hc⟩:=h n on;obtain⟨cl,e,q1,q2⟩:=rY l ((n,c)::cs) λ x hx=>h x (by simp[hx]);refine⟨cl++[(n,c)],?_,?_,λ q hq=>?_⟩
   .rw[lJ];have:QZ env n=OM c:=by unfold QZ;rw[hc]
    simp only[this,jO,ga,s1o];rw[ig];exact e
   .rw[aL,q1];unfold Ub;rw[xv on];simp
   .rcases bX.mp hq with z|z
    .exact q2 q z
    .cases aH.mp z;exact hc
  .obtain⟨cl,e,q1,q2⟩:=rY l cs λ x hx=>h x (by simp[hx]);refine⟨cl,?_,?_,q2⟩
   .rw[lJ];have:(k == OW)=Op:=by simpa using hk
    simp only[this,lK,iT,s1o];exact e
   .rw[q1];unfold Ub;rw[xw (by simpa using hk)]
def xx{scope:Scope}{env:Env}(h:∀x∈Ub scope.names,∃c,env.cells.lookup x=Om c):∃cl,Pl scope env=OM cl/\OwnCl env.cells (Ub scope.names) cl:=by
 obtain⟨cl,e,q1,q2⟩:=rY (env:=env) scope.names [] λ x hx=>h x (by unfold Ub;simp only[List.mem_reverse,bq,fV];exact⟨_,⟨hx,on⟩,rfl⟩);refine⟨cl,?_,q1,q2⟩;unfold Pl;simp only[bind_pure];rw[eE] at e;exact e
noncomputable def TV.pl:TV->Bool
 |.own _=>Op
 |.bor _=>Op
 |.obj _=>Op
 |_=>On
section
variable {P:Oz}{w:OB}{K:FG}{mg:SV}{base:OH}{L:List (Os×Pos×Str)}
def Ic{H F' H'}{t:TV}(p:t.pl=On)(h:Rr K H F' H' t v):Rp K F' H' t v:=by
 cases t<;>first|exact h|cases p
variable {FT:List Tc}{GT:List TV}{fs gs:List Str}{F F1:Fz}{Hm H2 H1:Hp}{cl:LA}{vcs:List V}{caps:List TV}{N ps fv:List Str}{fa c':Os}{name qual:Str}{params:Pb}{scope:Scope}{k:Nat}{a b:TV}{p:V}{Q:VK}
end
section
variable {P:Oz}{w:OB}{K:FG}{mg:SV}{base:OH}{L:List (Os×Pos×Str)}{FT FI:List Tc}{GT:List TV}{fs fi gs:List Str}
theorem xy{α β:Type}{f:α->β}:∀ {l:List α}{a b:α},(l.map f).Nodup->a∈l->b∈l->f a=f b->a=b
 |c::l,a,b,n,ha,hb,e=>by
  rw[cJ,fZ] at n
  rcases aB.mp ha with ea|ia<;>rcases aB.mp hb with eb|ib
  .rw[ea,eb]
  .exact XU (bq.mpr ⟨b,ib,by rw[<- e,ea]⟩) n.1
  .exact XU (bq.mpr ⟨a,ia,by rw[e,eb]⟩) n.1
  .exact xy n.2 ia ib e
def xz{T:Os}{pos:Pos}{ql:Str}(nd:(L.map (·.1)).Nodup)(m:(T,pos,ql)∈L)(wd:Wd (TbJ L) F H)(t':TabOk H' T pos ql)(up:∀b o,b≠T->H b=Om o->H' b=Om o):Grow (TbJ L) F H F H':=by
 obtain⟨ps,e,_⟩:=wd.j _ m;obtain⟨ps',e',_⟩:=id t'
 have dm:∀a,H a≠Oo->H' a≠Oo:=λ a h=>by
  by_cases z:a=T
  .subst z;rw[e'];simp
  .cases q:H a with
   |none=>exact XU q h
   |some o=>rw[up a o z q];simp
 refine⟨λ a o n h=>up a o (λ z=>by rw[z,show H T=_ from e] at h;cases h;exact n _ rfl) h,dm,λ _ f=>f,λ _ f=>.inl f,⟨λ x hx=>?_,λ a f=>dm a (wd.d a f)⟩⟩;by_cases z:x.1=T
 .have:x=(T,pos,ql):=xy nd hx m z;subst this;exact t'
 .obtain⟨qs,h1,h2,h3⟩:=wd.j x hx;exact⟨qs,up _ _ z h1,h2,h3.imp id λ⟨c,q1,q2⟩=>⟨c,q1,up _ _ (λ y=>by rw[y,show H T=_ from e] at q2;cases q2) q2⟩⟩
variable {x tb at_ ql:Str}{st:OC}{f c T:Os}{fd:OT}{N ps pst N':List Str}{js:List Nat}{k kk:Nat}{S:Tc}{A:TV->List TV->Prop}{pre:List OC}{e:Expr}{params:Pb}{scope:Scope}{pos p1 p2 p3 p4:Pos}
end
section
variable {P:Oz}{w:OB}{K:FG}{mg:SV}{base:OH}{L:List (Os×Pos×Str)}{FT:List Tc}{GT:List TV}{fs gs:List Str}
variable {X:Cx}{N:List Str}{nm:List (Str×OF)}{kk fA:Nat}{A:TV->List TV->Prop}{SA:Tc}
variable {sd nf at_ aa:Str}{st:OC}{f:Os}{fd:OT}{k:Nat}{p1 p2 p3 p4 p5 p6 p7 p8 p9 p10 p11 p12 pos:Pos}{x1:Nat}{sc:Scope}
end
noncomputable abbrev Cd.a1(a:Cd):Cd:=.cons a .nil
noncomputable abbrev Cd.a2(a b:Cd):Cd:=.cons a (.cons b .nil)
noncomputable abbrev Cd.a3(a b c:Cd):Cd:=.cons a (.cons b (.cons c .nil))
noncomputable abbrev Cd.n(i:Int):Cd:=.c (.int i)
noncomputable abbrev Cd.w(x:Str):Cd:=.c (.str x)
noncomputable abbrev Cd.eq(a b:Cd):Cd:=.cmp .Eq a b
noncomputable abbrev dr(x:Str)(ps:List Str)(S:Tc):DR:=(x,ps,S)
section
variable {P:Oz}{w:OB}{K:FG}{mg:SV}{base:OH}{J:Hp->Prop}{GT:List TV}{gs:List Str}{D:List DR}{L:List (Os×Pos×Str)}
theorem Cals.fn{x:Str}{ps:List Str}{st:OC}{S:Tc}(C:Cals P w K mg base J D j)(hm:∀ {x:Str}{v:Option Value},W.nsIn K OG x=Om v->mg x=v)(e:D[j]?=Om (x,ps,S))(g:Gl' K x st f fd)
  (b:∀f fd,Fun K x x st f fd->Binds K fd ps []) (ok:FnOk P w K mg base Tp (j+1) f fd ps (Up K J S)):Cals P w K mg base J D (j+1):=by
 refine C.s λ x' ps' S' e'=>?_;rw[e] at e';cases e';exact Callee.mk' g.F (hm g.a) (b f fd g.F) ok
def Cals.to{i j:Nat}(C:Cals P w K mg base J D j)(h:i<=j):Cals P w K mg base J D i:=λ n hn=>C n (bE hn h)
noncomputable def Vx(s:Scope)(ps N:List Str):Bool:=decide (s.kind=.function/\s.isCoroutine=Op/\s.isGenerator=Op/\N.Nodup/\N.take ps.length=ps/\(∀x∈ps,s.names.lookup x=Om .local\/s.names.lookup x=Om .cell)/\∀y∈s.names,y.2≠.free)
def kw(h:Vx s ps N=On):Tt N ps s:=let h:=aC h;⟨h.1,h.2.1,h.2.2.1,h.2.2.2.1,h.2.2.2.2.1,h.2.2.2.2.2.1,h.2.2.2.2.2.2⟩
structure TZ (K:FG)(x:Str)(st:OC)(f:Os)(fd:OT)(c T:Os):Prop extends Gl' K x st f fd where
 hc:fd.code=.ref c
 tb:W.tabIn K x=Om (c,T)
end
noncomputable abbrev V0:Cd:=.v 0
noncomputable abbrev V1:Cd:=.v 1
noncomputable abbrev V2:Cd:=.v 2
noncomputable abbrev V3:Cd:=.v 3
noncomputable abbrev V4:Cd:=.v 4
noncomputable abbrev V5:Cd:=.v 5
noncomputable abbrev V6:Cd:=.v 6
noncomputable abbrev V7:Cd:=.v 7
noncomputable abbrev V8:Cd:=.v 8
noncomputable abbrev V9:Cd:=.v 9
noncomputable abbrev Uu:Cd:=.v 10
noncomputable abbrev Vd:Cd:=.v 11
noncomputable abbrev N0:Cd:=.c (.int 0)
noncomputable abbrev N1:Cd:=.c (.int 1)
noncomputable abbrev N2:Cd:=.c (.int 2)
noncomputable abbrev N3:Cd:=.c (.int 3)
noncomputable abbrev N4:Cd:=.c (.int 4)
noncomputable abbrev N5:Cd:=.c (.int 5)
noncomputable abbrev N6:Cd:=.c (.int 6)
noncomputable abbrev N7:Cd:=.c (.int 7)
noncomputable abbrev N8:Cd:=.c (.int 8)
noncomputable abbrev N9:Cd:=.c (.int 9)
noncomputable abbrev VM:Cd:=.c (.int 10)
noncomputable abbrev Wk:Cd:=.c (.int 11)
noncomputable abbrev Cd.x(i:Nat)(j:Int):Cd:=.ix (.v i) (.c (.int j))
abbrev Cd.c1(f:Nat)(a:Cd):Cd:=.call f (.a1 a)
abbrev Cd.c2(f:Nat)(a b:Cd):Cd:=.call f (.a2 a b)
abbrev Cd.c3(f:Nat)(a b c:Cd):Cd:=.call f (.a3 a b c)
abbrev Cd.ln(a:Cd):Cd:=.bi .len (.a1 a)
abbrev Cd.b1(f:BI)(a:Cd):Cd:=.bi f (.a1 a)
abbrev Cd.b2(f:BI)(a b:Cd):Cd:=.bi f (.a2 a b)
noncomputable abbrev Cd.st(a b:Cd):Cd:=.sl a (.c .non) b
noncomputable abbrev Cd.sf(a b:Cd):Cd:=.sl a b (.c .non)
abbrev Cd.es(a:Cd)(x:Str):Cd:=.cmp .Eq a (.c (.str x))
noncomputable abbrev Cd.t0:Cd:=.tup .nil
noncomputable abbrev Cd.l0:Cd:=.lst .nil
abbrev Cd.t1(a:Cd):Cd:=.tup (.a1 a)
abbrev Cd.t2(a b:Cd):Cd:=.tup (.a2 a b)
abbrev Cd.t3(a b c:Cd):Cd:=.tup (.a3 a b c)
noncomputable abbrev Ct.nv(c:Cd)(r:Ct):Ct:=.ite c .never .nil r
abbrev Ct.r(c x:Cd)(r:Ct):Ct:=.ite c (.ret x) .nil r
abbrev Ct.i(c:Cd)(a r:Ct):Ct:=.ite c a .nil r
noncomputable abbrev Cd.ad(a b:Cd):Cd:=.bin .Add a b
noncomputable abbrev Cd.sb(a b:Cd):Cd:=.bin .Sub a b
noncomputable abbrev Cd.ml(a b:Cd):Cd:=.bin .Mult a b
noncomputable abbrev Cd.dv(a b:Cd):Cd:=.bin .FloorDiv a b
noncomputable abbrev Cd.md(a b:Cd):Cd:=.bin .Mod a b
noncomputable abbrev Cd.lt(a b:Cd):Cd:=.cmp .Lt a b
noncomputable abbrev Cd.gt(a b:Cd):Cd:=.cmp .Gt a b
noncomputable abbrev Cd.ne(a b:Cd):Cd:=.cmp .NotEq a b
noncomputable abbrev Cd.ge(a b:Cd):Cd:=.cmp .GtE a b
def iG:Nat->(LV->Prop)->Prop
 |0,Q=>Q []
 |n+1,Q=>∀u,iG n λ l=>Q (u::l)
theorem oF:∀ {n:Nat}{Q:LV->Prop},iG n Q->∀us:LV,us.length=n->Q us
 |0,_,h,us,e=>by rw[lO e];exact h
 |_+1,_,h,_::us,e=>oF (h _) us (Nat.succ.inj e)
structure CM (P:Oz)(w:OB)(K:FG)(mg:SV)(base:OH)(J:Hp->Prop)(GT:List TV)(gs:List Str)(D:List DR)(j:Nat):Prop where
 c:Cals P w K mg base J D j
 m:MOk P w K mg J GT gs
 hm:∀ {x:Str}{v:Option Value},W.nsIn K OG x=Om v->mg x=v
abbrev WI(D:List DR)(GT:List TV)(gs:List Str)(j:Nat)(st:OC)(N:List Str)(n p:Nat)(S:Tc)(c:Ct):Prop:=(br (Uv D j) gs N (aD st).names On c (aK st)&&Vx (aD st) (N.take p) N&&decide (p<=N.length/\N.length=n))=On/\∀ts Q,S ts Q->ts.length=p/\wS (Uj D j) GT c (TM n ts) (λ _=>Q .non) Q
section
variable {P:Oz}{w:OB}{K:FG}{mg:SV}{base:OH}{J:Hp->Prop}{GT:List TV}{gs:List Str}{D:List DR}{L:List (Os×Pos×Str)}{j jj kk n n2 p i0:Nat}{x ql nn:Str}{N N' pst:List Str}{js:List Nat}{st:OC}{S:Tc}{code:Ct}{A:TV->List TV->Prop}{f c T:Os}{fd:OT}
abbrev Bds(x:Str)(st:OC)(ps:List Str)(p:Nat):Prop:=iG p λ us=>∀(kV doc pm:Value) (an:OA) (cdv ct:Value),Pf (W.fnOf x x (gi st) (aK st) (aD st) .none kV doc pm an cdv ct) ⟨us,[]⟩=OM (ps.zip us)
def Bds.ok(h:Bds x st (N.take p) p)(l:p<=N.length)(f:Os)(fd:OT)(F:Fun K x x st f fd):Binds K fd (N.take p) []:=F.binds λ kV doc pm an cdv ct us hl=>oF h us (by rw[hl,aP,eI l]) kV doc pm an cdv ct
def CM.d(C:CM P w K mg base J GT gs D j)(g:Gx K x st)(z:WI D GT gs j st N n p S code)(e:autoParam (D[j]?=Om (x,N.take p,S)) A8._auto_1)(b:autoParam (Bds x st (N.take p) p) A2._auto_1):CM P w K mg base J GT gs D (j+1):=by
 obtain⟨z1,z2⟩:=z;simp only[bp,da] at z1;obtain⟨⟨k1,k2⟩,k3,rfl⟩:=z1;exact⟨HX code C.c C.m C.hm e g (kw k2) (b.ok k3) k1 (λ ts Q h=>by rw[(z2 ts Q h).1,aP,eI k3]) λ ts Q h=>(z2 ts Q h).2,C.m,C.hm⟩
def CM.law(C:CM P w K mg base J GT gs D j)(g:Gl' K x st f fd)(z:WI D GT gs j st N n p rR code):FnOk P w K mg base Tp (j+1) f fd (N.take p) (rV K J):=by
 obtain⟨z1,z2⟩:=z;simp only[bp,da] at z1;obtain⟨⟨k1,k2⟩,k3,rfl⟩:=z1;exact HY (xp code g.F (kw k2) C.m (fb j) C.c.fns k1 (λ ts Q h=>by rw[(z2 ts Q h).1,aP,eI k3]) λ ts Q h=>(z2 ts Q h).2)
end
def JH(L:List (Os×Pos×Str))(D H:Hp):Prop:=TbJ L H/\∀a o,(∀vs,o≠.lst vs)->(∀ps,o≠.tbl ps)->D a=Om o->H a=Om o
section
variable {P:Oz}{w:OB}{K:FG}{mg:SV}{base:OH}{L:List (Os×Pos×Str)}{D:Hp}{F F' F1 F2 F3:Fz}{H H' H1 H2 H3 H4:Hp}{FT FI:List Tc}{GT:List TV}{fs fi gs:List Str}{S:Tc}{k ki kf:Nat}{x:Str}{ps:List Str}
def JH.js:JS (JH L D):=⟨λ H p o n h=>⟨TbJ.js.nw H p o n h.1,λ a u n1 n2 e=>by rw[aA (λ z=>by have:=h.2 a u n1 n2 e;rw[z,n] at this;cases this)];exact h.2 a u n1 n2 e⟩,
 λ H p vs ws n h=>⟨TbJ.js.mu H p vs ws n h.1,λ a u n1 n2 e=>by rw[aA (λ z=>by have:=h.2 a u n1 n2 e;rw[z,n] at this;cases this;exact n1 _ rfl)];exact h.2 a u n1 n2 e⟩⟩
def Grow.jh(g:Grow (TbJ L) F H F' H')(w:JH L D H):Grow (JH L D) F H F' H':=⟨g.sm,g.dm,g.up,g.nw,⟨g.w.j,λ a o n1 n2 e=>g.sm a o n2 (w.2 a o n1 n2 e)⟩,g.w.d⟩
def Grow.tb(g:Grow (JH L D) F H F' H'):Grow (TbJ L) F H F' H':=⟨g.sm,g.dm,g.up,g.nw,g.w.j.1,g.w.d⟩
def Wd.tb(w:Wd (JH L D) F H):Wd (TbJ L) F H:=⟨w.j.1,w.d⟩
def Callee.imp{sp sp':Sp}(c:Callee P w K mg base Tp k x ps sp)(h:∀vs H Q E,sp' vs H Q E->sp vs H Q E):Callee P w K mg base Tp k x ps sp':=let ⟨f,fd,ok,m,kp,b⟩:=c.has;⟨⟨f,fd,ok.imp h,m,kp,b⟩⟩
def Callee.jh(c:Callee P w K mg base Tp k x ps (Up K (TbJ L) S)):Callee P w K mg base Tp k x ps (Up K (JH L D) S):=c.imp λ vs H Q E ⟨F,ts,P1,wd,r,s,q⟩=>⟨F,ts,P1,wd.tb,r,s,λ t pt F' H' v g rr=>q t pt F' H' v (g.jh wd.j) rr⟩
def MOk.jh(m:MOk P w K mg (TbJ L) GT gs):MOk P w K mg (JH L D) GT gs:=⟨JH.js,m.glb,m.dic,m.blt⟩
structure XF (P:Oz)(w:OB)(K:FG)(mg:SV)(base:OH)(J:Hp->Prop)(FT:List Tc)(GT:List TV)(fs gs:List Str)(k:Nat):Prop where
 m:MOk P w K mg J GT gs
 fns:∀(f:Nat) x S,fs[f]?=Om x->FT[f]?=Om S->∃ps,Callee P w K mg base Tp k x ps (Up K J S)
 len:fs.length<=FT.length
 hof:∀A,Room k A->∀S,FT[fs.length]?=Om S->WG P w K mg base A J S
def XF.lam(x:XF P w K mg base J FT GT fs gs k){cl:LA}{A:OD}{s:Ot}(hr:Room k (A.deeper (envX qual E s.heap.objs.size f cd (OL (s.heap.objs.size+1) E.names []++cl)))):Tq (iq P w K mg base N qual E f cd cl A outer s H) J FT GT fs gs :=
 ⟨rfl,by have:=hr.un;show(A.deeper _).units+120<Pv;lia,x.m.hJ,λ g y S h1 h2=>let ⟨ps,c⟩:=x.fns g y S h1 h2;⟨k,ps,hr,c⟩,x.m.glb,x.m.dic,x.m.blt,x.len,x.hof _ hr⟩
def XF.of0(m:MOk P w K mg (TbJ L) GT gs)(hl:fs.length=FT.length)(fns:∀(f:Nat) x S,fs[f]?=Om x->FT[f]?=Om S->∃ps,Callee P w K mg base Tp k x ps (Up K (TbJ L) S)):XF P w K mg base (JH L D) FT GT fs gs k :=
 ⟨m.jh,λ f x S h1 h2=>let ⟨ps,c⟩:=fns f x S h1 h2;⟨ps,c.jh⟩,s1j hl,λ A _=>ww hl⟩
def oG(P:Oz)(w:OB)(K:FG)(mg:SV)(base:OH)(k:Nat)(L:List (Os×Pos×Str))(D:Hp)(a:Os)(Φ:Tc):Prop:=∀F H ts vs P' Q,Wd (JH L D) F H->RpL K F H ts vs->Φ ts P'->(∀t,P' t->∀F' H' v,Grow (JH L D) F H F' H'->Rp K F' H' t v->Q v H')->lL P w K mg base k a vs H Q
def Uk(P:Oz)(w:OB)(K:FG)(mg:SV)(base:OH)(L:List (Os×Pos×Str))(k:Nat)(S:Tc->Tc):Sp:=λ vs H Q _=>∃F a ts vs' D Φ P',vs=vs'++[.ref a]/\Wd (JH L D) F H/\FnV H a/\RpL K F H ts vs'/\S Φ ts P'/\oG P w K mg base k L D a Φ/\∀t,P' t->∀F' H' v,Grow (JH L D) F H F' H'->Rp K F' H' t v->Q v H'
def UR(HC:List (Str×(Tc->Tc)))(Φ:Tc)(a:Os):Tc:=λ l P'=>(∃ts,l=.str "" :: .obj (.fn a)::ts/\Φ ts P')\/∃(x:Str) (S:Tc->Tc),x ≠ "" /\ HC.lookup x=Om S/\(l=[.str x]\/∃ts,l=.str x::.obj (.fn a)::ts/\S Φ ts P')
theorem XF.of1{HC:List (Str×(Tc->Tc))}(m:MOk P w K mg (TbJ L) GT gs)(hl:fs.length=FT.length)(fns:∀(f:Nat) x S,fs[f]?=Om x->FT[f]?=Om S->∃ps,Callee P w K mg base Tp k x ps (Up K (TbJ L) S))(kl:kf<=k)
  (hc:∀x S,HC.lookup x=Om S->∃ps,Callee P w K mg base Tp k x ps (Uk P w K mg base L kf S)) (hf:oG P w K mg base kf L D a Φ):XF P w K mg base (JH L D) (FT++[UR HC Φ a]) GT fs gs k:=by
 refine⟨m.jh,λ f x S h1 h2=>?_,by rw[aF];lia,λ A hr S e=>?_⟩
 .have lf:=(aX.mp h1).1;rw[cI Z] at h2;obtain⟨ps,c⟩:=fns f x S h1 h2;exact⟨ps,c.jh⟩
 .rw[hl,cH (ao _),gP] at e;cases e;refine⟨⟨kf,hr.mono kl,λ a' ts vs P' F H Q wd fv r s q=>?_⟩,λ x sx=>?_⟩
  .rcases s with ⟨ts',e,s⟩|⟨x,S,nx,_,e|⟨ts',e,_⟩⟩
   .cases e;exact hf F H ts vs P' Q wd r s q
   .cases e
   .injection e with e1 _;injection e1 with e1;exact XU e1.symm nx
  .rcases sx with ⟨ts',e,_⟩|⟨x',S,nx,lk,e|⟨ts',e,_⟩⟩
   .cases e
   .injection e with e1 _;injection e1 with e1;subst e1
    obtain⟨ps,c⟩:=hc x S lk;refine⟨k,ps,hr,c.imp λ vs H Q E ⟨F,a',ts,vs',P',e,wd,fv,r,s,q⟩=>?_⟩
    rcases s with ⟨ts',e2,_⟩|⟨x2,S2,_,lk2,e2|⟨ts',e2,s⟩⟩
    .injection e2 with e1 _;injection e1 with e1;exact XU e1 nx
    .cases e2
    .injection e2 with e1 e2;injection e1 with e1;subst e1
     cases e2;rw[lk] at lk2;cases lk2;exact⟨F,a,ts,vs',D,Φ,P',e,wd,fv,r,s,hf,q⟩
   .cases e
def Rq(K:FG)(F:Fz)(H:Hp)(t:TV)(v:V):Prop:=match t with
 |.obj (.fn a)=>v=.ref a/\FnV H a
 |t=>Rp K F H t v
abbrev RqL(K:FG)(F:Fz)(H:Hp):List TV->List V->Prop:=Py (Rq K F H)
def Rq.sr(h:Rq K F H t v):Sr K F H t v:=by
 cases t with
 |obj o=>cases o<;>first|exact h|exact h.elim
 |_=>first|exact h|exact h.elim
def Rp.rq(h:Rp K F H t v):Rq K F H t v:=by
 cases t with
 |obj o=>exact h.elim
 |_=>exact h
theorem RpL.rq:∀ {ts:List TV}{vs:List V},RpL K F H ts vs->RqL K F H ts vs
 |[],_,h=>by cases h;exact .nil
 |_::_,_,⟨v,r,e,h1,h2⟩=>by subst e;exact .cons h1.rq (RpL.rq h2)
theorem RqL.get:∀ {ts:List TV}{vs:List V}{i:Nat}{t:TV},RqL K F H ts vs->ts[i]?=Om t->∃v,vs[i]?=Om v/\Rq K F H t v
 |_::_,_::_,0,_,.cons h _,e=>by cases e;exact⟨_,rfl,h⟩
 |_::_,_::_,i+1,_,.cons _ r,e=>RqL.get (i:=i) r e
theorem RqL.app:∀ {ts us:List TV}{vs ws:List V},RqL K F H ts vs->RqL K F H us ws->RqL K F H (ts++us) (vs++ws)
 |[],_,_,_,.nil,g=>g
 |_::_,_,_::_,_,.cons h r,g=>.cons h (RqL.app r g)
def Wl{vs:List V}(wd:Wd J F H)(r:RqL K F H ts vs):ER K J F H [] F H (Ti N vs) (TM N.length ts):=by
 have get:∀(i:Nat) t,(TM N.length ts)[i]?=Om (Om t)->ts[i]?=Om t:=λ i t h=>by
  unfold TM at h;by_cases c:i<ts.length
  .rw[cI (by simpa using c),bh] at h
   cases q:ts[i]? with
   |none=>rw[q] at h;cases h
   |some u=>rw[q] at h;cases h;rfl
  .rw[cH (by simpa using c),fH] at h;split at h<;>cases h
 have sl:∀(i:Nat) t,(TM N.length ts)[i]?=Om (Om t)->∃v,(Ti N vs)[i]?=Om (Om v)/\Rq K F H t v:=λ i t h=>by
  obtain⟨v,ev,rv⟩:=r.get (get i t h);refine⟨v,?_,rv⟩;unfold Ti;rw[cI (by simpa using (aX.mp ev).1),bh,ev];rfl
 refine⟨⟨wd,λ i t h=>let ⟨v,e,q⟩:=sl i t h;⟨v,e,q.sr⟩⟩,.refl wd,λ i l a h1 h2=>?_,λ i k l l' v h1 h2 h3 h4=>?_,(λ p hp=>by cases hp),λ i as ll h=>by obtain⟨v,_,q⟩:=sl i _ h;exact q.elim⟩
 .obtain⟨v,_,q⟩:=sl i _ h1;exact q.elim
 .obtain⟨v,_,q⟩:=sl i _ h1;exact q.elim
theorem xA{HC:List (Str×(Tc->Tc))}{SF:Tc->Tc}{st:OC}(code:Ct)(F0:Fun K x x st f fd)(sc:Tt N ps (aD st))(m:MOk P w K mg (TbJ L) GT gs)(hl:fs.length=FT.length)
  (fns:∀(f:Nat) x S,fs[f]?=Om x->FT[f]?=Om S->∃ps,Callee P w K mg base Tp k x ps (Up K (TbJ L) S)) (kl:kf<=k)
  (hc:∀x S,HC.lookup x=Om S->∃ps,Callee P w K mg base Tp k x ps (Uk P w K mg base L kf S))
  (hck:br fs gs N (aD st).names On code (aK st)=On) (Tj:∀Φ ts P',SF Φ ts P'->ts.length+1=ps.length)
  (hw:∀Φ a ts P',SF Φ ts P'->wS (FT++[UR HC Φ a]) GT code (TM N.length (ts++[.obj (.fn a)])) (λ _=>P' .non) P'):FnOk P w K mg base Tp (k+1) f fd ps (Uk P w K mg base L kf SF):=by
 refine F0.ok sc (λ vs H Q E ⟨F,a,ts,vs',D,Φ,P',e,wd,fv,r,s,_⟩=>by rw[e,aF,<- r.length];exact Tj _ _ _ s) (λ cdv A outer s H vs Q E hr h=>?_);obtain⟨F1,a,ts,vs',D,Φ,P',rfl,wd,fv,r,sp,hf,fin⟩:=h
 have nl:(vs'++[V.ref a]).length<=N.length:=by
  have z:=bA Pi sc.pre;rw[aP] at z;have:=Tj _ _ _ sp;rw[aF,<- r.length];show ts.length+1<=_;lia
 have xf:XF P w K mg base (JH L D) (FT++[UR HC Φ a]) GT fs gs k:=.of1 m hl fns kl hc hf;have xo:Tq (dP Tp P w K mg base N x (aD st) f cdv A outer s H E).nox (JH L D) (FT++[UR HC Φ a]) GT fs gs:=⟨rfl,by have:=hr.un;show(A.deeper _).units+120<Pv;lia,xf.m.hJ,λ g y S h1 h2=>let ⟨ps,c⟩:=xf.fns g y S h1 h2;⟨k,ps,hr,c⟩,xf.m.glb,xf.m.dic,xf.m.blt,xf.len,xf.hof _ hr⟩;refine⟨_,sS (F0:=F1) (H0:=H) (PN:=[]) code (lp:=On) ⟨xo,⟨O,O⟩,sc.nd,λ _ _=>rfl,λ _=>oC⟩ hck,F1,TM N.length (ts++[.obj (.fn a)]),Wl wd (r.rq.app (.cons (show Rq K F1 H (.obj (.fn a)) (.ref a) from ⟨O,fv⟩) .nil)),?_,?_⟩
 .unfold Ti;rw[aF,ah,dC];show(vs'++[V.ref a]).length+(N.length-(vs'++[V.ref a]).length)=N.length;lia
 .exact bB code (λ ρ' q F' H' σ' e _=>fin .non q F' H' .non e.gr rfl) (λ t q F' H' v g r=>fin t q F' H' v g r) (hw Φ a ts P' sp)
end
section
variable {P:Oz}{w:OB}{K:FG}{mg:SV}{base:OH}{L:List (Os×Pos×Str)}{D:Hp}{F F' F1 F2 F3:Fz}{H H' H1 H2 H3 H4:Hp}{FT FI:List Tc}{GT:List TV}{fs fi gs:List Str}{k ki:Nat}{cl:LA}{vcs:List V}{caps:List TV}{Φ:Tc}
def ky(t:TV):Prop:=LF t\/∃a,t=.obj (.fn a)
mutual
theorem LF.mv(st:∀a vs,SqT K H a vs->SqT K H' a vs):∀ {t:TV}{v:V},LF t->Rp K F H t v->Rp K F' H' t v
 |.non,_,_,h=>h
 |.bl _,_,_,h=>h
 |.int _,_,_,h=>h
 |.str _,_,_,h=>h
 |.tup l,_,f,⟨a,vs,e,q,r⟩=>⟨a,vs,e,st _ _ q,LF.mvl st (λ x hx=>by simp only[LF] at f;exact f x hx) r⟩
 |.lst _,_,f,_=>by simp[LF] at f
 |.bor _,_,f,_=>by simp[LF] at f
 |.own _,_,f,_=>by simp[LF] at f
 |.obj _,_,f,_=>by simp[LF] at f
theorem LF.mvl(st:∀a vs,SqT K H a vs->SqT K H' a vs):∀ {ts:List TV}{vs:List V},(∀x∈ts,LF x)->RpL K F H ts vs->RpL K F' H' ts vs
 |[],_,_,h=>h
 |t::ts,_,f,⟨v,r,e,h1,h2⟩=>⟨v,r,e,LF.mv st (f t on) h1,LF.mvl st (λ x hx=>f x (by simp[hx])) h2⟩
end
theorem RqL.mv(st:∀a vs,SqT K H a vs->SqT K H' a vs)(fn:∀a,FnV H a->FnV H' a):∀ {ts:List TV}{vs:List V},(∀t∈ts,ky t)->RqL K F H ts vs->RqL K F' H' ts vs
 |[],[],_,.nil=>.nil
 | t::_,_::_,c,.cons h r=>.cons (by
   rcases c t on with lf|⟨a,rfl⟩
   .cases t with
    |obj o=>simp[LF] at lf
    |_=>exact LF.mv (F:=F) st lf h
   .exact⟨h.1,fn a h.2⟩) (RqL.mv st fn (λ t ht=>c t (by simp[ht])) r)
def jq(F:Fz)(cl:LA):Fz:=λ a=>F a/\∀q∈cl,q.2≠a
def xB(hc:CelAt H cl vcs):Ke K F H (jq F cl) (minC H cl):=by
 have km:=rX (K:=K) (F:=F) hc;refine⟨km.t,λ a vs h=>?_⟩
 rcases h with ⟨f,sq⟩|h
 .rcases sq with rd|kk
  .refine .inl ⟨⟨f,λ q hq e=>?_⟩,.inl (rd.min hc (λ _ z=>nomatch z) (λ _ _ z=>nomatch z))⟩;obtain⟨o,v,ec⟩:=hc.mem hq;rw[e] at ec
   rcases rd with rd|⟨o',rd⟩<;>rw[ec] at rd<;>cases rd
  .exact .inr kk
 .exact .inr h
theorem Ie{qual:Str}(ci:Cd)(xi:XF P w K mg base (JH L D) FI GT fi gs ki)(S:Tu N' Tw fv scope)(hcl:cl.map (·.1)=fv)
  (hb:∀(pm ctv:Value) (us:LV),us.length=Tw.length->Pf (kla_fn "<lambda>" qual params body scope cl pm (.ref c') ctv) ⟨us,[]⟩=OM (Tw.zip us))
  (hd:Hand cl vcs H3 H4) (dj:JH L D H3) (L1:H4 fa=Om (eX fa c' qual params body scope cl)) (_L:H4 c'=Om (cn c' qual)) (cp:RqL K F3 H4 caps vcs) (co:∀t∈caps,ky t) (cki:ck fi gs ci N' scope.names body=On)
  (hw:∀args P',Φ args P'->args.length=Tw.length/\wE FI GT ci (TM N'.length (args++caps)) λ u=>u.pl=On/\P' u):oG P w K mg base (ki+1) L H4 fa Φ:=by
 intro F1 H1 ts vs P' Q wd r hφ q;obtain⟨hl,hw⟩:=hw ts P' hφ;have up:∀ {a o},(∀vs,o≠.lst vs)->(∀ps,o≠.tbl ps)->H4 a=Om o->H1 a=Om o:=λ n1 n2 e=>wd.j.2 _ _ n1 n2 e;have hc:CelAt H1 cl vcs:=⟨hd.at_.len,λ i q e=>let ⟨v,o,e1,e2⟩:=hd.at_.at_ i q e;⟨v,o,e1,up (λ _ z=>nomatch z) (λ _ z=>nomatch z) e2⟩,hd.at_.apart⟩;have vl:vs.length=Tw.length:=by rw[<- r.length,hl]
 have dm:∀a o,(∀vs,o≠.lst vs)->(∀ps,o≠.tbl ps)->D a=Om o->minC H1 cl a=Om o:=λ a o n1 n2 e=>by
  have e3:=dj.2 a o n1 n2 e;rw[bU λ q hq z=>by have:=hd.fr q hq;rw[z,e3] at this;cases this];exact up n1 n2 (hd.to e3)
 have wm:Wd (JH L D) (jq F1 cl) (minC H1 cl):=⟨⟨wd.j.1.sm λ a o _ k e=>jp hc e λ _ _ _=>k _ _,dm⟩,λ a f=>by rw[bU f.2];exact wd.d a f.1⟩
 have sq:∀a vs,SqT K H4 a vs->SqT K (minC H1 cl) a vs:=λ a vs h=>h.imp (λ h=>by
  have h1:Rd H1 a (.tup vs):=h.imp (λ h=>up (λ _ z=>nomatch z) (λ _ z=>nomatch z) h) λ⟨o,h⟩=>⟨o,up (λ _ z=>nomatch z) (λ _ z=>nomatch z) h⟩
  exact h1.min hc (λ _ z=>nomatch z) (λ _ _ z=>nomatch z)) id
 have fq:∀a,FnV H4 a->FnV (minC H1 cl) a:=λ a ⟨φ,e,kf⟩=>⟨φ,jp hc (up (λ _ z=>nomatch z) (λ _ z=>nomatch z) e) (λ _ _ _ z=>nomatch z),kf⟩;refine HZ (vcs:=vcs) S hcl hb vl (up (λ _ z=>nomatch z) (λ _ z=>nomatch z) L1) (up (λ _ z=>nomatch z) (λ _ z=>nomatch z) _L) hc (te:=rE K (JH L D) FI GT ci) (λ A outer s hr=>sE ci (xi.lam hr) ⟨O,O⟩ cki) ?_;refine⟨jq F1 cl,_,(Wl (N:=N') wm ((r.ke (xB hc)).rq.app (cp.mv sq fq co))).ev,ax ci (λ u ⟨pl,pu⟩ F' H' v g rr hz=>?_) hw⟩;have nF:∀a,F' a->∀q∈cl,q.2≠a:=λ a f q hq z=>g.w.d a f (z ▸ hz q hq)
 have gg:Grow (JH L H4) F1 H1 (λ a=>F' a\/F1 a) (TD H1 H' cl):=by
  have sm:∀a o,(∀ps,o≠.tbl ps)->H1 a=Om o->TD H1 H' cl a=Om o:=λ a o n e=>by
   rcases oD cl a with ⟨q,hq,rfl⟩|hn
   .rw[eY hq];exact e
   .rw[cL hn];exact g.sm a o n (by rw[bU hn];exact e)
  have dmm:∀a,H1 a≠Oo->TD H1 H' cl a≠Oo:=λ a e=>by
   rcases oD cl a with ⟨q,hq,rfl⟩|hn
   .rw[eY hq];exact e
   .rw[cL hn];exact g.dm a (by rw[bU hn];exact e)
  refine⟨sm,dmm,λ a f=>.inr f,λ a f=>?_,⟨g.w.j.1.sm λ a o _ _ e=>by rw[oE hz (by rw[e];simp)];exact e,λ a o n1 n2 e=>sm a o n2 (up n1 n2 e)⟩,λ a f=>?_⟩
  .rcases f with f|f
   .rcases g.nw a f with z|z
    .exact .inl z.1
    .rw[bU (nF a f)] at z;exact .inr z
   .exact .inl f
  .rcases f with f|f
   .rw[cL (nF a f)];exact g.w.d a f
   .exact dmm a (wd.d a f)
 exact q u pu _ _ v gg (((Ic pl rr).ke (xq hz)).ke (.up λ _ f=>.inl f))
theorem xC(xo:Tq X J FT GT fs gs)(xs:XS X N nm)(hst:aW e=On)(he:PE X e tl):∀(l:Cd) {es:List Expr},ckL fs gs l N nm es=On ->
  PA X (es++[e]) (λ σ H Q=>∃F ρ,EV X.K J F H σ ρ/\wL FT GT l ρ λ ts=>∀F' H' vs,Grow J F H F' H'->RrL X.K H F' H' ts vs->tl σ H' λ v H2=>Q (vs++[v]) H2):=λ l=>by
 induction l with
 |nil=>
  intro es h
  cases es with
  |nil=>exact(cY he pa_nil (bj hst)).imp λ σ H Q ⟨F,ρ,ev,w⟩=>w F H [] (.refl ev.w) .nil
  |cons e es=>exact Oq h
 |cons a r _ ih=>
  intro es h
  cases es with
  |nil=>exact Oq h
  |cons e0 es=>
   obtain⟨h1,h3⟩:=an h;obtain⟨h1,h2⟩:=an h1;refine(cY (sE a xo xs h2) (ih h3) (bj h1)).imp λ σ H Q ⟨F,ρ,ev,w⟩=>⟨F,ρ,ev,ax a (λ t w F1 H1 v g1 r1=>⟨F1,ρ,ev.grow g1,bI r (λ ts w F2 H2 vs g2 r2=>?_) w⟩) w⟩;exact w F2 H2 (v::vs) (g1.trans g2) (.cons (r1.grow g2) (Paired.mapP r2 λ _ _ z=>z.late g1))
 |_=>intro es h;exact Oq h
def UU(FT FI:List Tc)(GT:List TV)(l:Cd)(js:List Nat)(ci:Cd)(na n2:Nat)(SF:Tc->Tc)(ρ:En)(Q:TV->Prop):Prop:=wL FT GT l ρ λ ts=>ts.all TV.nb=On/\∃caps Φ P',js.map (λ j=>ρ[j]?)=caps.map (λ t=>Om (Om t))/\(∀t∈caps,ky t)/\SF Φ (ts.map .fz) P'/\(∀args P'',Φ args P''->args.length=na/\wE FI GT ci (TM n2 (args++caps)) λ u=>u.pl=On/\P'' u)/\∀t,P' t->Q t
theorem rZ(e:EV K J F H σ ρ):∀ {js:List Nat}{caps:List TV},js.map (λ j=>ρ[j]?)=caps.map (λ t=>Om (Om t))->(∀t∈caps,ky t)->∃vcs,js.map (λ j=>σ[j]?)=vcs.map (λ v=>Om (Om v))/\RqL K F H caps vcs
 |[],[],_,_=>⟨[],rfl,.nil⟩
 |[],_::_,h,_=>by cases h
 |_::_,[],h,_=>by cases h
 |j::js,t::caps,h,c=>by
  rw[cJ,cJ] at h
  injection h with h1 h2
  obtain⟨v,ev,r⟩:=e.sl j t h1;obtain⟨vs,e2,r2⟩:=rZ e h2 λ t ht=>c t (by simp[ht]);refine⟨v::vs,by rw[cJ,cJ,ev,e2],.cons ?_ r2⟩
  rcases c t on with lf|⟨a,rfl⟩
  .cases t<;>first|exact r|(simp[LF] at lf)
  .exact r
theorem Ig{N nm}{tb ql:Str}{js:List Nat}{body e0:Expr}{es:List Expr}{pos p1 p2 p3:Pos}(l ci:Cd)(xo:Tq X (JH L D) FT GT fs gs)(xs:XS X N nm)(hr:Room k X.A)
  (ho:Callee X.prog X.w X.K X.mg X.base Tp k tb pst (Uk X.prog X.w X.K X.mg X.base L (ki+1) SF)) (xi:XF X.prog X.w X.K X.mg X.base (JH L D) FI GT fi gs ki) (gt:Gl X tb) (ntb:(tb == ("__debug__" : Str))=Op) (TF:TL X.base X.mg c T) (hcd:X.env.code=.ref c) (mT:(T,pos,ql)∈L) (nd:(L.map (·.1)).Nodup)
  (hq:X.env.qual ++ "<lambda>"=ql) (df:PX params X.env=([],[])) (hcl:Pl scope X.env=OM cl) (own:OwnCl X.env.cells fv cl) (hj:js.map (λ j=>X.N[j]?)=fv.map Om) (hk:∀n∈fv,X.env.scope.names.lookup n=Om .cell) (hf:∀n∈fv,X.fn n=On) (nf:fv.Nodup)
  (ls:Tu N' Tw fv scope) (hb:∀(c':Os) (pm ctv:Value) (us:LV),us.length=Tw.length->Pf (kla_fn "<lambda>" ql params body scope cl pm (.ref c') ctv) ⟨us,[]⟩=OM (Tw.zip us))
  (ckl:ckL fs gs l N nm (e0::es)=On) (cki:ck fi gs ci N' scope.names body=On) :
  PSs X [.Return (Om (.Call (.Name tb p1) (e0::(es++[.Lambda params body scope pos])) [] p2)) p3] (λ R σ H=>∃F ρ,EV X.K (JH L D) F H σ ρ/\UU FT FI GT l js ci Tw.length N'.length SF ρ λ t=>∀F' H' v,Grow (JH L D) F H F' H'->Rp X.K F' H' t v->R.rt v H'):=by
 have st:=iF ckl;rw[cK,bp] at st;have st2:(es++[Expr.Lambda params body scope pos]).all aW=On:=by rw[RB,st.2];rfl
 have hE:=vQ (X:=X) (p:=p1) (pos:=p2) ho hr gt own hj hk hf nf (xC xo xs rfl (Fw (pos:=pos) (body:=body) hq hcd TF df hcl own) l ckl) ntb (bj st.1) (fO st2);intro Tb s σ H R I ⟨F,ρ,ev,q⟩;refine ua (pV (pos:=p3) hE) Tb s σ H R I ⟨F,ρ,ev,bI l (λ ts ⟨hn,caps,Φ,P',hc,co,sf,hw,fin⟩ F2 H2 vs g r=>⟨g.w.j.1 _ mT,λ fa c' cl1 H3 o1 ffa hfa hc3 t3 up3=>?_⟩) q⟩;cases OwnCl.uniq own o1;obtain⟨vcs,ev2,rc⟩:=rZ (ev.grow g) hc co;refine⟨vcs,ev2,λ cl2 H4 o2 fr hcel eq4=>?_⟩;cases OwnCl.uniq own o2;obtain⟨F3,g3',_,r3⟩:=gp g r hn;have g3:=xz nd mT g3'.w.tb t3 up3;have hd:Hand cl vcs H3 H4:=⟨fr,hcel,eq4⟩;have j3:JH L D H3:=(g3.jh g3'.w.j).w.j;have sq:∀a vs,SqT X.K H2 a vs->SqT X.K H4 a vs:=λ a vs h=>(h.sm g3.sm).sm λ a o _ e=>hd.to e;have w4:Wd (JH L H4) F3 H4:=⟨⟨(hd.wd g3.w).j,λ a o _ _ e=>e⟩,(hd.wd g3.w).d⟩;refine⟨F3,fa,_,vs,H4,Φ,P',O,w4,FnV.lam (hd.to hfa),(r3.ke g3.ke).ke hd.ke,sf,Ie ci xi ls own.1 (hb c') hd j3 (hd.to hfa) (hd.to hc3) (rc.mv (F':=F2) sq (λ a ⟨φ,e,kf⟩=>⟨φ,hd.to (g3.sm _ _ (λ _ z=>nomatch z) e),kf⟩) co) co cki hw,λ t pt F6 H6 v6 g6 r6=>?_⟩;have g6b:=hd.back g3.w g6.tb;have gall:=(g3'.tb.trans g3).trans g6b;exact fin t pt F6 _ v6 (gall.jh ev.w.j) (r6.ke (rX (hd.cel g6.tb)))
end
section
variable {P:Oz}{w:OB}{K:FG}{mg:SV}{base:OH}{L:List (Os×Pos×Str)}{D:Hp}{FT FI:List Tc}{GT:List TV}{fs fi gs:List Str}{k ki:Nat}{x tb ql:Str}{st:OC}{f c T:Os}{fd:OT}{N ps pst N' Tw:List Str}{js:List Nat}{S:Tc}{SF:Tc->Tc}{params:Pb}{scope:Scope}{body e0:Expr}{es:List Expr}{pre post:List OC}{pos p1 p2 p3 p4:Pos}{l ci:Cd}
structure MkI (K:FG)(mg:SV)(base:OH)(L:List (Os×Pos×Str))(x tb ql:Str)(st:OC)(f c T:Os)(fd:OT)(N ps Tw N':List Str)(js:List Nat)(params:Pb)(body:Expr)(scope:Scope)(pos:Pos)(gs fs fi:List Str)(l ci:Cd)(es:List Expr):Prop where
 F:Fun K x x st f fd
 cd:fd.code=.ref c
 TF:TL base mg c T
 mT:(T,pos,ql)∈L
 nd:(L.map (·.1)).Nodup
 sc:Tt N ps (aD st)
 gt:(aD st).names.lookup tb=Om .globalImplicit
 ntb:(tb == ("__debug__" : Str))=Op
 ls:Tu N' Tw (Ub scope.names) scope
 hj:js.map (λ j=>N[j]?)=(Ub scope.names).map Om
 hk:∀n∈Ub scope.names,(aD st).names.lookup n=Om .cell
 nf:(Ub scope.names).Nodup
 df:∀env,PX params env=([],[])
 hq:∀n f cd,(Ph x (aD st) n f cd).qual ++ "<lambda>"=ql
 hb:∀(cl:LA) (c':Os) (pm ctv:Value) (us:LV),us.length=Tw.length->Pf (kla_fn "<lambda>" ql params body scope cl pm (.ref c') ctv) ⟨us,[]⟩=OM (Tw.zip us)
 ckl:ckL fs gs l N (aD st).names es=On
 cki:ck fi gs ci N' scope.names body=On
def XF.fn(X:XF P w K mg base J FT GT fs gs k){A:OD}{s:Ot}(hr:Room k (A.deeper (Ph qual (aD st) s.heap.objs.size f cdv))):Tq (dP Tp P w K mg base N qual (aD st) f cdv A outer s H E).nox J FT GT fs gs :=
 ⟨rfl,by have:=hr.un;show(A.deeper _).units+120<Pv;lia,X.m.hJ,λ g y S h1 h2=>let ⟨ps,c⟩:=X.fns g y S h1 h2;⟨k,ps,hr,c⟩,X.m.glb,X.m.dic,X.m.blt,X.len,X.hof _ hr⟩
theorem xD{A:OD}{s:Ot}(M:MkI K mg base L x tb ql st f c T fd N ps Tw N' js params body scope pos gs fs fi l ci (e0::es))(xf:XF P w K mg base (JH L D) FT GT fs gs k)(xi:XF P w K mg base (JH L D) FI GT fi gs ki)(hr:Room k (A.deeper (Ph x (aD st) s.heap.objs.size f (.ref c))))(ho:Callee P w K mg base Tp k tb pst (Uk P w K mg base L (ki+1) SF)) :
  PSs (dP Tp P w K mg base N x (aD st) f (.ref c) A outer s H E).nox [.Return (Om (.Call (.Name tb p1) (e0::(es++[.Lambda params body scope pos])) [] p2)) p3] (λ R σ H=>∃F ρ,EV K (JH L D) F H σ ρ/\UU FT FI GT l js ci Tw.length N'.length SF ρ λ t=>∀F' H' v,Grow (JH L D) F H F' H'->Rp K F' H' t v->R.rt v H'):=by
 obtain⟨cl,hcl,own⟩:=xx (scope:=scope) (env:=Ph x (aD st) s.heap.objs.size f (.ref c)) λ y hy=>iS.mp (jH _ _ _ (.inl (M.hk y hy)));exact Ig (X:=(dP Tp P w K mg base N x (aD st) f (.ref c) A outer s H E).nox) l ci (xf.fn hr) ⟨O,O⟩ hr ho xi M.gt M.ntb M.TF rfl M.mT M.nd (M.hq _ _ _) (M.df _) hcl own M.hj M.hk (λ _ _=>rfl) M.nf M.ls (M.hb cl) M.ckl M.cki
theorem Ih{HC:List (Str×(Tc->Tc))}{SG:Tc->Tc}{kf:Nat}(M:MkI K mg base L x tb ql st f c T fd N ps Tw N' js params body scope pos gs fs fi l ci (e0::es))(m:MOk P w K mg (TbJ L) GT gs)(hl:fs.length=FT.length)(hl':fi.length=FI.length)
  (fns:∀(f:Nat) x S,fs[f]?=Om x->FT[f]?=Om S->∃ps,Callee P w K mg base Tp k x ps (Up K (TbJ L) S)) (fni:∀(f:Nat) x S,fi[f]?=Om x->FI[f]?=Om S->∃ps,Callee P w K mg base Tp ki x ps (Up K (TbJ L) S)) (kl:kf<=k/\kf<=ki)
  (ho:Callee P w K mg base Tp k tb pst (Uk P w K mg base L (ki+1) SF)) (hbd:aK st=[.Return (Om (.Call (.Name tb p1) (e0::(es++[.Lambda params body scope pos])) [] p2)) p3]) (Tj:∀Φ ts P',SG Φ ts P'->ts.length+1=ps.length)
  (hw:∀Φ a ts P',SG Φ ts P'->UU (FT++[UR [] Φ a]) (FI++[UR [] Φ a]) GT l js ci Tw.length N'.length SF (TM N.length (ts++[.obj (.fn a)])) P'):FnOk P w K mg base Tp (k+1) f fd ps (Uk P w K mg base L kf SG):=by
 refine M.F.okT M.cd M.sc (λ vs H Q E ⟨F,a,ts,vs',D,Φ,P',e,wd,fv,r,s,_⟩=>by rw[e,aF,<- r.length];exact Tj _ _ _ s) (λ A outer s H vs Q E hr h=>?_);obtain⟨F1,a,ts,vs',D,Φ,P',rfl,wd,fv,r,sp,hf,fin⟩:=h;have no:∀ {k:Nat}(x:Str) (S:Tc->Tc),([]:List (Str×(Tc->Tc))).lookup x=Om S->∃ps,Callee P w K mg base Tp k x ps (Uk P w K mg base L kf S):=λ _ _ z=>by cases z
 rw[hbd];refine⟨_,xD M (.of1 m hl fns kl.1 no hf) (.of1 m hl' fni kl.2 no hf) hr ho,F1,TM N.length (ts++[.obj (.fn a)]),(Wl wd (r.rq.app (.cons (show Rq K F1 H (.obj (.fn a)) (.ref a) from ⟨O,fv⟩) .nil))).ev,?_⟩;exact bI l (λ ts ⟨hn,caps,Φ',P'',hc,co,sf,hw,q⟩=>⟨hn,caps,Φ',P'',hc,co,sf,hw,λ t pt F' H' v g r=>fin t (q t pt) F' H' v g r⟩) (hw Φ a ts P' sp)
theorem xE(code:Ct)(oc:Option (Cd×Ct))(M:MkI K mg base L x tb ql st f c T fd N ps Tw N' js params body scope pos gs fs fi l ci (e0::es))(m:MOk P w K mg (TbJ L) GT gs)(hl:fs.length=FT.length)(hl':fi.length=FI.length)
  (fns:∀(f:Nat) x S,fs[f]?=Om x->FT[f]?=Om S->∃ps,Callee P w K mg base Tp k x ps (Up K (TbJ L) S)) (fni:∀(f:Nat) x S,fi[f]?=Om x->FI[f]?=Om S->∃ps,Callee P w K mg base Tp ki x ps (Up K (TbJ L) S))
  (ho:Callee P w K mg base Tp k tb pst (Uk P w K mg base L (ki+1) SF))
  (hbd:aK st=pre++(match oc with|none=>[.Return (Om (.Call (.Name tb p1) (e0::(es++[.Lambda params body scope pos])) [] p2)) p3]|some _=>.If cnd [.Return (Om (.Call (.Name tb p1) (e0::(es++[.Lambda params body scope pos])) [] p2)) p3] [] p4::post))
  (ck1:br fs gs N (aD st).names On code pre=On) (ck2:match oc with|none=>True|some q=>tB' q.1 cnd=On/\ck fs gs q.1 N (aD st).names cnd=On/\br fs gs N (aD st).names On q.2 post=On) (Tj:∀ts Q,S ts Q->ts.length=ps.length)
  (hw:∀ts Q,S ts Q->wS FT GT code (TM N.length ts) (λ ρ=>match oc with|none=>UU FT FI GT l js ci Tw.length N'.length SF ρ Q|some q=>wE FT GT q.1 ρ λ t=>b1 t λ b=>if b=On then UU FT FI GT l js ci Tw.length N'.length SF ρ Q else wS FT GT q.2 ρ (λ _=>Q .non) Q) Q):FnOk P w K mg base Tp (k+1) f fd ps (Up K (TbJ L) S):=by
 refine M.F.okT M.cd M.sc (λ vs H Q E ⟨F1,ts,P1,wd,r,s,_⟩=>by rw[<- r.length];exact Tj _ _ s) (λ A outer s H vs Q E hr h=>?_);obtain⟨F1,ts,P1,wd,r,sp,fin⟩:=h
 have nl:vs.length<=N.length:=by
  have z:=bA Pi M.sc.pre;rw[aP] at z;have:=Tj _ _ sp;rw[<- r.length];lia
 have xf:XF P w K mg base (JH L λ _=>Oo) FT GT fs gs k:=.of0 m hl fns;have hrow:=xD (E:=E) (H:=H) (s:=s) (A:=A) (outer:=outer) (p1:=p1) (p2:=p2) (p3:=p3) M xf (.of0 m hl' fni) hr ho;have yo:Xl (dP Tp P w K mg base N x (aD st) f (.ref c) A outer s H E).nox (JH L λ _=>Oo) FT GT fs gs N (aD st).names On:=⟨xf.fn hr,⟨rfl,rfl⟩,M.sc.nd,λ _ _=>rfl,λ _=>oC⟩;have h1:=sS (F0:=F1) (H0:=H) (PN:=[]) code (lp:=On) yo ck1
 have sl:(Ti N vs).length=N.length:=by
  unfold Ti;rw[aF,ah,dC];show vs.length+(N.length-vs.length)=N.length;lia
 have wd0:Wd (JH L λ _=>Oo) F1 H:=⟨⟨wd.j,λ _ _ _ _ e=>nomatch e⟩,wd.d⟩
 have end_:∀ {ρ:En}{F':Fz}{H':Hp}{σ':St},ER K (JH L λ _=>Oo) F1 H [] F' H' σ' ρ->UU FT FI GT l js ci Tw.length N'.length SF ρ P1->UU FT FI GT l js ci Tw.length N'.length SF ρ λ t=>∀F2 H2 v,Grow (JH L λ _=>Oo) F' H' F2 H2->Rp K F2 H2 t v->Q v H2:=λ e z=>
  bI l (λ ts ⟨hn,caps,Φ',P'',hc,co,sf,hw,q⟩=>⟨hn,caps,Φ',P'',hc,co,sf,hw,λ t pt F' H' v g r=>fin t (q t pt) F' H' v (e.gr.trans g).tb r⟩) z
 rw[hbd]
 cases oc with
 |none=>
  refine⟨_,xt h1 hrow,F1,TM N.length ts,Wj wd0 r,sl,?_⟩;exact bB code (λ ρ' q F' H' σ' e _=>⟨F',ρ',e.ev,end_ e q⟩) (λ t q F' H' v g r=>fin t q F' H' v g.tb r) (hw ts P1 sp)
 |some q=>
  obtain⟨cd,pc⟩:=q;obtain⟨c1,c2,c3⟩:=ck2;have h3:=sS (F0:=F1) (H0:=H) (PN:=[]) pc (lp:=On) yo c3;refine⟨_,xt h1 (dO (uc (pos:=p4) (sT cd yo.xo yo.xs c1 c2) hrow pss_nil) h3),F1,TM N.length ts,Wj wd0 r,sl,?_⟩;refine bB code (λ ρ' q F' H' σ' e s2=>⟨F',ρ',e.ev,ax cd (λ t w=>cP (λ b w F2 H2 g=>?_) w) q⟩) (λ t q F' H' v g r=>fin t q F' H' v g.tb r) (hw ts P1 sp)
  cases b with
  |true=>exact⟨F2,ρ',(e.grow g).ev,end_ (e.grow g) w⟩
  |false=>exact⟨F2,ρ',e.grow g,s2,bB pc (λ ρ2 q F3 H3 σ3 e3 _=>fin .non q F3 H3 .non e3.gr.tb rfl) (λ t q F3 H3 v g3 r=>fin t q F3 H3 v g3.tb r) w⟩
end
structure WJ where
 tb:Str
 e:Expr
 es:List Expr
 a:Pb
 b:Expr
 s:Scope
 p:Pos
 p1:Pos
 p2:Pos
 p3:Pos
def TW(st:OC):WJ:=match st with
 | .Return (Om (.Call (.Name tb p1) (e::r) [] p2)) p3=>(match r.getLast? with
  |some (.Lambda a b s p)=>⟨tb,e,r.dropLast,a,b,s,p,p1,p2,p3⟩
  |_=>⟨tb,e,[],gi (.Pass ⟨0,0,0,0⟩),e,aD (.Pass ⟨0,0,0,0⟩),p1,p1,p1,p1⟩)
 |_=>⟨"",.Name "" ⟨0,0,0,0⟩,[],gi (.Pass ⟨0,0,0,0⟩),.Name "" ⟨0,0,0,0⟩,aD (.Pass ⟨0,0,0,0⟩),⟨0,0,0,0⟩,⟨0,0,0,0⟩,⟨0,0,0,0⟩,⟨0,0,0,0⟩⟩
abbrev WK(r:WJ):OC:=.Return (Om (.Call (.Name r.tb r.p1) (r.e::(r.es++[.Lambda r.a r.b r.s r.p])) [] r.p2)) r.p3
def UJ(i:Nat)(st:OC):Expr×OC×Pos:=match (aK st)[i]? with
 |some (.If c [r] [] p)=>(c,r,p)
 |_=>(.Name "" ⟨0,0,0,0⟩,.Pass ⟨0,0,0,0⟩,⟨0,0,0,0⟩)
def WL(sc:Scope)(N Tw:List Str):Bool:=decide (sc.kind=.function/\sc.isCoroutine=Op/\sc.isGenerator=Op/\N.Nodup/\N.take (Tw++Ub sc.names).length=Tw++Ub sc.names/\(∀x∈Tw,sc.names.lookup x=Om .local\/sc.names.lookup x=Om .cell)/\(∀x∈Ub sc.names,sc.names.lookup x=Om .free)/\(∀y∈sc.names,y.2=.free->y.1∈Ub sc.names)/\∀x∈Ub sc.names,∀y∈sc.names,y.2=.cell->y.1≠x)
def xF(h:WL sc N Tw=On):Tu N Tw (Ub sc.names) sc:=let h:=aC h;⟨h.1,h.2.1,h.2.2.1,h.2.2.2.1,h.2.2.2.2.1,h.2.2.2.2.2.1,h.2.2.2.2.2.2.1,h.2.2.2.2.2.2.2.1,h.2.2.2.2.2.2.2.2⟩
abbrev Xn(D:List DR)(GT:List TV)(gs:List Str)(j:Nat)(HC:List (Str×(Tc->Tc)))(st:OC)(N:List Str)(n p:Nat)(SF:Tc->Tc)(c:Ct):Prop:=(br (Uv D j) gs N (aD st).names On c (aK st)&&Vx (aD st) (N.take p) N&&decide (p<=N.length/\N.length=n))=On/\∀Φ a ts P',SF Φ ts P'->ts.length+1=p/\wS (Uj D j++[UR HC Φ a]) GT c (TM n (ts++[.obj (.fn a)])) (λ _=>P' .non) P'
abbrev Xo(D:List DR)(GT:List TV)(gs:List Str)(j:Nat)(HC:List (Str×(Tc->Tc)))(x:Str)(st:OC)(N:List Str)(n p:Nat)(SS:Nat->Tc->Tc)(c:Ct):Prop:=(br (Uv D j) gs N (aD st).names On c (aK st)&&Vx (aD st) (N.take p) N&&decide (p<=N.length/\N.length=n))=On/\(∀Φ ts P',¬SS 0 Φ ts P')/\∀d Φ a ts P',SS (d+1) Φ ts P'->ts.length+1=p/\wS (Uj D j++[UR ((x,SS d)::HC) Φ a]) GT c (TM n (ts++[.obj (.fn a)])) (λ _=>P' .non) P'
def VN(D:List DR)(gs:List Str)(j jj:Nat)(st:OC)(r:WJ)(N N' Tw:List Str)(js:List Nat)(n n2 p:Nat)(l i:Cd):Bool:=Vx (aD st) (N.take p) N&&WL r.s N' Tw&&ckL (Uv D j) gs l N (aD st).names (r.e::r.es)&&ck (Uv D jj) gs i N' r.s.names r.b&&decide ((p<=N.length/\N.length=n/\N'.length=n2)/\(aD st).names.lookup r.tb=Om .globalImplicit/\(r.tb == ("__debug__" : Str))=Op/\js.map (λ j=>N[j]?)=(Ub r.s.names).map Om/\(∀n∈Ub r.s.names,(aD st).names.lookup n=Om .cell)/\(Ub r.s.names).Nodup)
abbrev Xp(D:List DR)(GT:List TV)(gs:List Str)(jj j:Nat)(st:OC)(N N' Tw:List Str)(js:List Nat)(n n2 p:Nat)(SF SG:Tc->Tc)(l i:Cd):Prop:=VN D gs j jj st (TW ((aK st).headD (.Pass ⟨0,0,0,0⟩))) N N' Tw js n n2 p l i=On/\∀Φ a ts P',SG Φ ts P'->ts.length+1=p/\UU (Uj D j++[UR [] Φ a]) (Uj D jj++[UR [] Φ a]) GT l js i Tw.length n2 SF (TM n (ts++[.obj (.fn a)])) P'
abbrev Xq(D:List DR)(GT:List TV)(gs:List Str)(jj j:Nat)(st:OC)(N N' Tw:List Str)(js:List Nat)(n n2 p:Nat)(SF:Tc->Tc)(S:Tc)(c:Ct)(l i:Cd):Prop:=(VN D gs j jj st (TW ((aK st).getLastD (.Pass ⟨0,0,0,0⟩))) N N' Tw js n n2 p l i&&br (Uv D j) gs N (aD st).names On c (aK st).dropLast)=On/\∀ts Q,S ts Q->ts.length=p/\wS (Uj D j) GT c (TM n ts) (λ ρ=>UU (Uj D j) (Uj D jj) GT l js i Tw.length n2 SF ρ Q) Q
abbrev Xr(D:List DR)(GT:List TV)(gs:List Str)(jj j m:Nat)(st:OC)(N N' Tw:List Str)(js:List Nat)(n n2 p:Nat)(SF:Tc->Tc)(S:Tc)(c:Ct)(l i q:Cd)(c':Ct):Prop:=(VN D gs j jj st (TW (UJ m st).2.1) N N' Tw js n n2 p l i&&br (Uv D j) gs N (aD st).names On c ((aK st).take m)&&tB' q (UJ m st).1&&ck (Uv D j) gs q N (aD st).names (UJ m st).1&&br (Uv D j) gs N (aD st).names On c' ((aK st).drop (m+1)))=On/\∀ts Q,S ts Q->ts.length=p/\wS (Uj D j) GT c (TM n ts) (λ ρ=>wE (Uj D j) GT q ρ λ t=>b1 t λ b=>if b=On then UU (Uj D j) (Uj D jj) GT l js i Tw.length n2 SF ρ Q else wS (Uj D j) GT c' ρ (λ _=>Q .non) Q) Q
section
variable {P:Oz}{w:OB}{K:FG}{mg:SV}{base:OH}{L:List (Os×Pos×Str)}{GT:List TV}{gs:List Str}{D:List DR}{j jj kf n n2 p d m:Nat}{x ql:Str}{N N' Tw pst:List Str}{js:List Nat}{st:OC}{S:Tc}{SF SG:Tc->Tc}{SS:Nat->Tc->Tc}{HC:List (Str×(Tc->Tc))}{code code':Ct}{l i q:Cd}{f c T:Os}{fd:OT}
def CM.fn(C:CM P w K mg base (TbJ L) GT gs D j)(g:Gx K x st)(z:Xn D GT gs j HC st N n p SF code)(kl:kf<=j)(hc:∀x S,HC.lookup x=Om S->∃ps,Callee P w K mg base Tp j x ps (Uk P w K mg base L kf S))(b:autoParam (Bds x st (N.take p) p) A2._auto_1):Callee P w K mg base Tp (j+1) x (N.take p) (Uk P w K mg base L kf SF):=by
 obtain⟨z1,z2⟩:=z;simp only[bp,da] at z1;obtain⟨⟨k1,k2⟩,k3,rfl⟩:=z1;obtain⟨f,fd,gf⟩:=g;exact Callee.mk' gf.F (C.hm gf.a) (b.ok k3 f fd gf.F) (xA code gf.F (kw k2) C.m (fb j) C.c.fns kl hc k1 (λ Φ ts P' h=>by rw[(z2 Φ 0 ts P' h).1,aP,eI k3]) λ Φ a ts P' h=>(z2 Φ a ts P' h).2)
def CM.fr(C:CM P w K mg base (TbJ L) GT gs D j)(g:Gx K x st)(z:Xo D GT gs j HC x st N n p SS code)(kl:kf<=j)(hc:∀x S,HC.lookup x=Om S->∃ps,Callee P w K mg base Tp j x ps (Uk P w K mg base L kf S))(b:autoParam (Bds x st (N.take p) p) A2._auto_1):∀d,Callee P w K mg base Tp (j+1+d) x (N.take p) (Uk P w K mg base L kf (SS d)):=by
 obtain⟨z1,z0,z2⟩:=z;simp only[bp,da] at z1;obtain⟨⟨k1,k2⟩,k3,rfl⟩:=z1;obtain⟨f,fd,gf⟩:=g;intro d
 induction d with
 |zero=>exact Callee.mk' gf.F (C.hm gf.a) (b.ok k3 f fd gf.F) ⟨λ vs H Q E ⟨_,_,ts,_,_,Φ,_,_,_,_,_,s,_⟩=>(z0 Φ ts _ s).elim,λ A outer s H args us vs Q E h1 h2 h3 h4 ⟨_,_,ts,_,_,Φ,_,_,_,_,_,s,_⟩=>(z0 Φ ts _ s).elim⟩
 |succ d ih=>
  refine Callee.mk' gf.F (C.hm gf.a) (b.ok k3 f fd gf.F) (xA (k:=j+1+d) (HC:=(x,SS d)::HC) code gf.F (kw k2) C.m (fb j) (λ i y S h1 h2=>let ⟨ps,c⟩:=C.c.fns i y S h1 h2;⟨ps,c.mono Z⟩) Z (λ y S e=>?_) k1 (λ Φ ts P' h=>by rw[(z2 d Φ 0 ts P' h).1,aP,eI k3]) λ Φ a ts P' h=>(z2 d Φ a ts P' h).2);rw[dS] at e;split at e
  .rename_i h;cases e;cases hW h;exact⟨_,ih⟩
  .obtain⟨ps,c⟩:=hc y S e;exact⟨ps,c.mono Z⟩
theorem MkI.of(z:VN D gs j jj st r N N' Tw js n n2 p l i=On)(t:TZ K x st f fd c T)(TF:TL base mg c T)(mT:(T,r.p,ql)∈L)(nd:(L.map (·.1)).Nodup)(df:∀env,PX r.a env=([],[]))(hq:∀n f cd,(Ph x (aD st) n f cd).qual ++ "<lambda>"=ql)
  (hb:∀(cl:LA) (c':Os) (pm ctv:Value),iG Tw.length λ us=>Pf (kla_fn "<lambda>" ql r.a r.b r.s cl pm (.ref c') ctv) ⟨us,[]⟩=OM (Tw.zip us)):p<=N.length/\N.length=n/\N'.length=n2/\MkI K mg base L x r.tb ql st f c T fd N (N.take p) Tw N' js r.a r.b r.s r.p gs (Uv D j) (Uv D jj) l i (r.e::r.es):=by
 simp only[VN,bp,da] at z;obtain⟨⟨⟨⟨k1,k2⟩,k3⟩,k4⟩,⟨k5,k6,k7⟩,h1,h2,h3,h4,h5⟩:=z;exact⟨k5,k6,k7,t.F,t.hc,TF,mT,nd,kw k1,h1,h2,xF k2,h3,h4,h5,df,hq,λ cl c' pm ctv us hl=>oF (hb cl c' pm ctv) us hl,k3,k4⟩
theorem CM.fh(C:CM P w K mg base (TbJ L) GT gs D j)(t:TZ K x st f fd c T)(TF:TL base mg c T)(mT:(T,(TW ((aK st).headD (.Pass ⟨0,0,0,0⟩))).p,ql)∈L)(nd:(L.map (·.1)).Nodup)(z:Xp D GT gs jj j st N N' Tw js n n2 p SF SG l i)(ho:Callee P w K mg base Tp j (TW ((aK st).headD (.Pass ⟨0,0,0,0⟩))).tb pst (Uk P w K mg base L (jj+1) SF))(jl:jj<=j/\kf<=jj)
  (b:autoParam (Bds x st (N.take p) p) A2._auto_1) (df:autoParam (∀env,PX (TW ((aK st).headD (.Pass ⟨0,0,0,0⟩))).a env=([],[])) A7._auto_1) (hq:autoParam (∀n f cd,(Ph x (aD st) n f cd).qual ++ "<lambda>"=ql) A5._auto_1) (hbd:autoParam (aK st=[WK (TW ((aK st).headD (.Pass ⟨0,0,0,0⟩)))]) A6._auto_1)
  (hb:autoParam (∀(cl:LA) (c':Os) (pm ctv:Value),iG Tw.length λ us=>Pf (kla_fn "<lambda>" ql (TW ((aK st).headD (.Pass ⟨0,0,0,0⟩))).a (TW ((aK st).headD (.Pass ⟨0,0,0,0⟩))).b (TW ((aK st).headD (.Pass ⟨0,0,0,0⟩))).s cl pm (.ref c') ctv) ⟨us,[]⟩=OM (Tw.zip us)) A2._auto_1):Callee P w K mg base Tp (j+1) x (N.take p) (Uk P w K mg base L kf SG):=by
 obtain⟨z1,z2⟩:=z;obtain⟨k3,rfl,rfl,M⟩:=MkI.of z1 t TF mT nd df hq hb;exact Callee.mk' t.F (C.hm t.a) (b.ok k3 f fd t.F) (Ih (k:=j) (ki:=jj) (HC:=[]) M C.m (fb j) (fb jj) C.c.fns (C.c.to jl.1).fns ⟨Z,jl.2⟩ ho hbd (λ Φ ts P' h=>by rw[(z2 Φ 0 ts P' h).1,aP,eI k3]) λ Φ a ts P' h=>(z2 Φ a ts P' h).2)
theorem CM.ml(C:CM P w K mg base (TbJ L) GT gs D j)(t:TZ K x st f fd c T)(TF:TL base mg c T)(mT:(T,(TW ((aK st).getLastD (.Pass ⟨0,0,0,0⟩))).p,ql)∈L)(nd:(L.map (·.1)).Nodup)(z:Xq D GT gs jj j st N N' Tw js n n2 p SF S code l i)(ho:Callee P w K mg base Tp j (TW ((aK st).getLastD (.Pass ⟨0,0,0,0⟩))).tb pst (Uk P w K mg base L (jj+1) SF))(jl:jj<=j)(e:autoParam (D[j]?=Om (x,N.take p,S)) A8._auto_1)
  (b:autoParam (Bds x st (N.take p) p) A2._auto_1) (df:autoParam (∀env,PX (TW ((aK st).getLastD (.Pass ⟨0,0,0,0⟩))).a env=([],[])) A7._auto_1) (hq:autoParam (∀n f cd,(Ph x (aD st) n f cd).qual ++ "<lambda>"=ql) A5._auto_1) (hbd:autoParam (aK st=(aK st).dropLast++[WK (TW ((aK st).getLastD (.Pass ⟨0,0,0,0⟩)))]) A6._auto_1)
  (hb:autoParam (∀(cl:LA) (c':Os) (pm ctv:Value),iG Tw.length λ us=>Pf (kla_fn "<lambda>" ql (TW ((aK st).getLastD (.Pass ⟨0,0,0,0⟩))).a (TW ((aK st).getLastD (.Pass ⟨0,0,0,0⟩))).b (TW ((aK st).getLastD (.Pass ⟨0,0,0,0⟩))).s cl pm (.ref c') ctv) ⟨us,[]⟩=OM (Tw.zip us)) A2._auto_1):CM P w K mg base (TbJ L) GT gs D (j+1):=by
 obtain⟨z1,z2⟩:=z;obtain⟨z1,z3⟩:=an z1;obtain⟨k3,rfl,rfl,M⟩:=MkI.of z1 t TF mT nd df hq hb;refine⟨C.c.fn C.hm e t.toGl' (b.ok k3) (xE (cnd:=.Name "" ⟨0,0,0,0⟩) (post:=[]) (p4:=⟨0,0,0,0⟩) code Oo M C.m (fb j) (fb jj) C.c.fns (C.c.to jl).fns ho hbd z3 trivial (λ ts Q h=>by rw[(z2 ts Q h).1,aP,eI k3]) λ ts Q h=>(z2 ts Q h).2),C.m,C.hm⟩
theorem CM.mm(C:CM P w K mg base (TbJ L) GT gs D j)(t:TZ K x st f fd c T)(TF:TL base mg c T)(mT:(T,(TW (UJ m st).2.1).p,ql)∈L)(nd:(L.map (·.1)).Nodup)(z:Xr D GT gs jj j m st N N' Tw js n n2 p SF S code l i q code')(ho:Callee P w K mg base Tp j (TW (UJ m st).2.1).tb pst (Uk P w K mg base L (jj+1) SF))(jl:jj<=j)(e:autoParam (D[j]?=Om (x,N.take p,S)) A8._auto_1)
  (b:autoParam (Bds x st (N.take p) p) A2._auto_1) (df:autoParam (∀env,PX (TW (UJ m st).2.1).a env=([],[])) A7._auto_1) (hq:autoParam (∀n f cd,(Ph x (aD st) n f cd).qual ++ "<lambda>"=ql) A5._auto_1) (hbd:autoParam (aK st=(aK st).take m++.If (UJ m st).1 [WK (TW (UJ m st).2.1)] [] (UJ m st).2.2::(aK st).drop (m+1)) A6._auto_1)
  (hb:autoParam (∀(cl:LA) (c':Os) (pm ctv:Value),iG Tw.length λ us=>Pf (kla_fn "<lambda>" ql (TW (UJ m st).2.1).a (TW (UJ m st).2.1).b (TW (UJ m st).2.1).s cl pm (.ref c') ctv) ⟨us,[]⟩=OM (Tw.zip us)) A2._auto_1):CM P w K mg base (TbJ L) GT gs D (j+1):=by
 obtain⟨z1,z2⟩:=z;obtain⟨z1,z3,z4,z5,z6⟩:=a5 z1;obtain⟨k3,rfl,rfl,M⟩:=MkI.of z1 t TF mT nd df hq hb;refine⟨C.c.fn C.hm e t.toGl' (b.ok k3) (xE code (Om (q,code')) M C.m (fb j) (fb jj) C.c.fns (C.c.to jl).fns ho hbd z3 ⟨z4,z5,z6⟩ (λ ts Q h=>by rw[(z2 ts Q h).1,aP,eI k3]) λ ts Q h=>(z2 ts Q h).2),C.m,C.hm⟩
def CM.pad{i0:Nat}{S0:Tc}{z:DR}(C:CM P w K mg base J GT gs D j)(m:Nat)(hz:∀ts Q,¬z.2.2 ts Q)(i1:i0<j)(e0:D[i0]?=Om (z.1,z.2.1,S0))(e:D.drop j=Ow m z++D.drop (j+m)):CM P w K mg base J GT gs D (j+m):=by
 refine⟨λ i hi y ps' S' h=>?_,C.m,C.hm⟩;by_cases c:i<j
 .exact C.c i c y ps' S' h
 .have h2:(D.drop j)[i-j]?=Om (y,ps',S'):=by rw[List.getElem?_drop,show j+(i-j)=i by lia];exact h
  rw[e,cI (by rw[dC];lia),fH,XT Z] at h2;cases h2;exact((C.c i0 i1 _ _ S0 e0).imp λ vs H Q E ⟨_,_,_,_,_,s,_⟩=>(hz _ _ s).elim).mono Z
def hc0:∀x S,([]:List (Str×(Tc->Tc))).lookup x=Om S->∃ps,Callee P w K mg base Tp j x ps (Uk P w K mg base L kf S):=λ _ _ e=>by cases e
def hc1(h:Callee P w K mg base Tp j x0 ps0 (Uk P w K mg base L kf S0)):∀x S,[(x0,S0)].lookup x=Om S->∃ps,Callee P w K mg base Tp j x ps (Uk P w K mg base L kf S):=λ x S e=>by
 rw[dS] at e;split at e
 .rename_i h1;cases e;cases hW h1;exact⟨_,h⟩
 .cases e
end
section
variable {P:Oz}{w:OB}{K:FG}{mg:SV}{base:OH}{L:List (Os×Pos×Str)}{D:Hp}{F F' F1 F2 F3:Fz}{H H' H1 H2 H3 H4:Hp}{FT FI:List Tc}{GT:List TV}{fs fi gs:List Str}{k ki:Nat}{cl:LA}{vcs:List V}{caps:List TV}{Φ:Tc}
theorem Ii(ci:Ct)(xi:XF P w K mg base (JH L D) FI GT fi gs ki)(S:Tu N' Tw fv scope)(hcl:cl.map (·.1)=fv)
  (hb:∀(doc pm ctv:Value) (us:LV),us.length=Tw.length->Pf (fnX nn qual params body scope cl .none .none doc pm Oo (.ref c') ctv) ⟨us,[]⟩=OM (Tw.zip us))
  (hd:Hand cl vcs H3 H4) (dj:JH L D H3) (L1:H4 fa=Om (dU fa c' nn qual params body scope cl)) (_L:H4 c'=Om (cn c' qual)) (cp:RqL K F3 H4 caps vcs) (co:∀t∈caps,ky t) (cki:br fi gs N' scope.names On ci body=On)
  (hw:∀args P',Φ args P'->args.length=Tw.length/\wS FI GT ci (TM N'.length (args++caps)) (λ _=>False) P'):oG P w K mg base (ki+1) L H4 fa Φ:=by
 intro F1 H1 ts vs P' Q wd r hφ q;obtain⟨hl,hw⟩:=hw ts P' hφ;have up:∀ {a o},(∀vs,o≠.lst vs)->(∀ps,o≠.tbl ps)->H4 a=Om o->H1 a=Om o:=λ n1 n2 e=>wd.j.2 _ _ n1 n2 e;have hc:CelAt H1 cl vcs:=⟨hd.at_.len,λ i q e=>let ⟨v,o,e1,e2⟩:=hd.at_.at_ i q e;⟨v,o,e1,up (λ _ z=>nomatch z) (λ _ z=>nomatch z) e2⟩,hd.at_.apart⟩;have vl:vs.length=Tw.length:=by rw[<- r.length,hl]
 have dm:∀a o,(∀vs,o≠.lst vs)->(∀ps,o≠.tbl ps)->D a=Om o->minC H1 cl a=Om o:=λ a o n1 n2 e=>by
  have e3:=dj.2 a o n1 n2 e;rw[bU λ q hq z=>by have:=hd.fr q hq;rw[z,e3] at this;cases this];exact up n1 n2 (hd.to e3)
 have wm:Wd (JH L D) (jq F1 cl) (minC H1 cl):=⟨⟨wd.j.1.sm λ a o _ k e=>jp hc e λ _ _ _=>k _ _,dm⟩,λ a f=>by rw[bU f.2];exact wd.d a f.1⟩
 have sq:∀a vs,SqT K H4 a vs->SqT K (minC H1 cl) a vs:=λ a vs h=>h.imp (λ h=>by
  have h1:Rd H1 a (.tup vs):=h.imp (λ h=>up (λ _ z=>nomatch z) (λ _ z=>nomatch z) h) λ⟨o,h⟩=>⟨o,up (λ _ z=>nomatch z) (λ _ z=>nomatch z) h⟩
  exact h1.min hc (λ _ z=>nomatch z) (λ _ _ z=>nomatch z)) id
 have fq:∀a,FnV H4 a->FnV (minC H1 cl) a:=λ a ⟨φ,e,kf⟩=>⟨φ,jp hc (up (λ _ z=>nomatch z) (λ _ z=>nomatch z) e) (λ _ _ _ z=>nomatch z),kf⟩;refine Ia (vcs:=vcs) S hcl hb vl (up (λ _ z=>nomatch z) (λ _ z=>nomatch z) L1) (up (λ _ z=>nomatch z) (λ _ z=>nomatch z) _L) hc (ts:=rS K (JH L D) FI GT N'.length (jq F1 cl) (minC H1 cl) [] ci) (λ A outer s hr=>sS (F0:=jq F1 cl) (H0:=minC H1 cl) (PN:=[]) ci (lp:=On) ⟨xi.lam hr,⟨O,O⟩,S.nd,λ x z=>cB z,λ _=>oC⟩ cki) ?_;refine⟨jq F1 cl,_,Wl (N:=N') wm ((r.ke (xB hc)).rq.app (cp.mv sq fq co)),?_,bB ci (λ ρ' z=>z.elim) (λ u pu F' H' v g rr hz=>?_) hw⟩
 .unfold Ti;have l1:=hd.at_.len;have l2:cl.length=fv.length:=by rw[<- hcl,ah]
  have z:=bA Pi S.pre;rw[aP,aF] at z;rw[aF,ah,dC];simp only[aF] at z ⊢;lia
 have nF:∀a,F' a->∀q∈cl,q.2≠a:=λ a f q hq z=>g.w.d a f (z ▸ hz q hq)
 have gg:Grow (JH L H4) F1 H1 (λ a=>F' a\/F1 a) (TD H1 H' cl):=by
  have sm:∀a o,(∀ps,o≠.tbl ps)->H1 a=Om o->TD H1 H' cl a=Om o:=λ a o n e=>by
   rcases oD cl a with ⟨q,hq,rfl⟩|hn
   .rw[eY hq];exact e
   .rw[cL hn];exact g.sm a o n (by rw[bU hn];exact e)
  have dmm:∀a,H1 a≠Oo->TD H1 H' cl a≠Oo:=λ a e=>by
   rcases oD cl a with ⟨q,hq,rfl⟩|hn
   .rw[eY hq];exact e
   .rw[cL hn];exact g.dm a (by rw[bU hn];exact e)
  refine⟨sm,dmm,λ a f=>.inr f,λ a f=>?_,⟨g.w.j.1.sm λ a o _ _ e=>by rw[oE hz (by rw[e];simp)];exact e,λ a o n1 n2 e=>sm a o n2 (up n1 n2 e)⟩,λ a f=>?_⟩
  .rcases f with f|f
   .rcases g.nw a f with z|z
    .exact .inl z.1
    .rw[bU (nF a f)] at z;exact .inr z
   .exact .inl f
  .rcases f with f|f
   .rw[cL (nF a f)];exact g.w.d a f
   .exact dmm a (wd.d a f)
 exact q u pu _ _ v gg ((rr.ke (xq hz)).ke (.up λ _ f=>.inl f))
def sa(FT FI:List Tc)(GT:List TV)(l:Cd)(js:List Nat)(ci:Ct)(i na n2:Nat)(SF:Tc->Tc)(ρ:En)(Q:TV->Prop):Prop:=(∀t,ρ[i]?≠Om (Om t))/\wL FT GT l ρ λ ts=>ts.all TV.nb=On/\∃caps Φ P',js.map (λ j=>ρ[j]?)=caps.map (λ t=>Om (Om t))/\(∀t∈caps,ky t)/\SF Φ (ts.map .fz) P'/\(∀args P'',Φ args P''->args.length=na/\wS FI GT ci (TM n2 (args++caps)) (λ _=>False) P'')/\∀t,P' t->Q t
theorem Ij{N nm}{tb ql nn:Str}{js:List Nat}{i:Nat}{params:Pb}{e0:Expr}{es:List Expr}{pos p1 p2 p3 p4:Pos}(l:Cd)(ci:Ct)(xo:Tq X (JH L D) FT GT fs gs)(xs:XS X N nm)(hr:Room k X.A)
  (ho:Callee X.prog X.w X.K X.mg X.base Tp k tb pst (Uk X.prog X.w X.K X.mg X.base L (ki+1) SF)) (xi:XF X.prog X.w X.K X.mg X.base (JH L D) FI GT fi gs ki) (gt:Gl X tb) (ntb:(tb == ("__debug__" : Str))=Op) (TF:TL X.base X.mg c T) (hcd:X.env.code=.ref c) (mT:(T,pos,ql)∈L) (nd:(L.map (·.1)).Nodup)
  (hN:X.N.Nodup) (hi:X.N[i]?=Om nn) (hx:UK X.env.scope nn) (hq:QS X.env nn nn=ql) (hd0:params.defaults=[]) (hk0:params.kw_defaults=[]) (han:Ru params Oo X.env=[]) (hfn:X.fn nn=On\/X.env.scope.names.lookup nn=Om .local) (hv:PE X (.Name nn p4) (cg i))
  (hcl:Pl scope X.env=OM cl) (own:OwnCl X.env.cells fv cl) (hj:js.map (λ j=>X.N[j]?)=fv.map Om) (hk:∀n∈fv,X.env.scope.names.lookup n=Om .cell) (hf:∀n∈fv,X.fn n=On) (nf:fv.Nodup)
  (ls:Tu N' Tw fv scope) (hb:∀(c':Os) (doc pm ctv:Value) (us:LV),us.length=Tw.length->Pf (fnX nn ql params body scope cl .none .none doc pm Oo (.ref c') ctv) ⟨us,[]⟩=OM (Tw.zip us))
  (ckl:ckL fs gs l N nm (e0::es)=On) (cki:br fi gs N' scope.names On ci body=On) :
  PSs X [.FunctionDef nn params body [] Oo [] scope Oo nn pos,.Return (Om (.Call (.Name tb p1) (e0::(es++[.Name nn p4])) [] p2)) p3] (λ R σ H=>∃F ρ,EV X.K (JH L D) F H σ ρ/\i<σ.length/\sa FT FI GT l js ci i Tw.length N'.length SF ρ λ t=>∀F' H' v,Grow (JH L D) F H F' H'->Rp X.K F' H' t v->R.rt v H'):=by
 have st:=iF ckl;rw[cK,bp] at st;have st2:(es++[Expr.Name nn p4]).all aW=On:=by rw[RB,st.2];rfl
 have hE:=vQ (X:=X) (p:=p1) (pos:=p2) ho hr gt own hj hk hf nf (xC xo xs rfl hv l ckl) ntb (bj st.1) (fO st2);intro Tb s σ H R I ⟨F,ρ,ev,il,hn0,q⟩;refine dO (FE (pos:=pos) (body:=body) hN hi hx hq hcd TF hcl own hd0 hk0 han hfn) (ua (pV (pos:=p3) hE)) Tb s σ H R I ⟨ev.w.j.1 _ mT,λ fa c' cl1 H3 o1 ffa hfa hc3 t3 up3=>?_⟩;cases OwnCl.uniq own o1;have g3:=xz nd mT ev.w.tb t3 up3;have ev4:=(ev.grow (g3.jh ev.w.j)).any (v:=Om (.ref fa)) hn0;refine⟨F,ρ,ev4,bI l (λ ts ⟨hn,caps,Φ,P',hc,co,sf,hw,fin⟩ F2 H2 vs g r=>?_) q⟩;show cg i (σ.set i (Om (.ref fa))) H2 _;unfold cg;rw[iP il];obtain⟨vcs,ev2,rc⟩:=rZ (ev4.grow g) hc co;refine⟨vcs,ev2,λ cl2 H4 o2 fr hcel eq4=>?_⟩;cases OwnCl.uniq own o2;obtain⟨F3,g3',_,r3⟩:=gp g r hn;have hd:Hand cl vcs H2 H4:=⟨fr,hcel,eq4⟩;have j2:JH L D H2:=g3'.w.j;have sq:∀a vs,SqT X.K H2 a vs->SqT X.K H4 a vs:=λ a vs h=>h.sm λ a o _ e=>hd.to e;have wt:=g3'.w.tb;have w4:Wd (JH L H4) F3 H4:=⟨⟨(hd.wd wt).j,λ a o _ _ e=>e⟩,(hd.wd wt).d⟩;have hfa2:H2 fa=Om (dU fa c' nn ql params body scope cl):=g.sm _ _ (λ _ z=>nomatch z) hfa;have hc2:H2 c'=Om (cn c' ql):=g.sm _ _ (λ _ z=>nomatch z) hc3;refine⟨F3,fa,_,vs,H4,Φ,P',O,w4,FnV.dfn (hd.to hfa2),r3.ke hd.ke,sf,Ii ci xi ls own.1 (hb c') hd j2 (hd.to hfa2) (hd.to hc2) (rc.mv (F':=F2) sq (λ a ⟨φ,e,kf⟩=>⟨φ,hd.to e,kf⟩) co) co cki hw,λ t pt F6 H6 v6 g6 r6=>?_⟩;have g6b:=hd.back wt g6.tb;have gall:=(g3.trans g3'.tb).trans g6b;exact fin t pt F6 _ v6 (gall.jh ev.w.j) (r6.ke (rX (hd.cel g6.tb)))
end
section
variable {P:Oz}{w:OB}{K:FG}{mg:SV}{base:OH}{L:List (Os×Pos×Str)}{FT FI:List Tc}{GT:List TV}{fs fi gs:List Str}{k ki i:Nat}{x tb ql nn:Str}{st:OC}{f c T:Os}{fd:OT}{N ps pst N' Tw:List Str}{js:List Nat}{S:Tc}{SF:Tc->Tc}{params:Pb}{scope:Scope}{body:List OC}{e0:Expr}{es:List Expr}{pos p1 p2 p3 p4:Pos}{l:Cd}{ci:Ct}
structure MkJ (K:FG)(mg:SV)(base:OH)(L:List (Os×Pos×Str))(x tb ql nn:Str)(st:OC)(f c T:Os)(fd:OT)(N ps Tw N':List Str)(js:List Nat)(i:Nat)(params:Pb)(body:List OC)(scope:Scope)(pos:Pos)(gs fs fi:List Str)(l:Cd)(ci:Ct)(es:List Expr):Prop where
 F:Fun K x x st f fd
 cd:fd.code=.ref c
 TF:TL base mg c T
 mT:(T,pos,ql)∈L
 nd:(L.map (·.1)).Nodup
 sc:Tt N ps (aD st)
 gt:(aD st).names.lookup tb=Om .globalImplicit
 ntb:(tb == ("__debug__" : Str))=Op
 ls:Tu N' Tw (Ub scope.names) scope
 hj:js.map (λ j=>N[j]?)=(Ub scope.names).map Om
 hk:∀n∈Ub scope.names,(aD st).names.lookup n=Om .cell
 nf:(Ub scope.names).Nodup
 hi:N[i]?=Om nn
 lo:(aD st).names.lookup nn=Om .local
 vi:vs (aD st).names nn=On
 ok:Ue nn=On
 hq:∀n f cd,QS (Ph x (aD st) n f cd) nn nn=ql
 d0:params.defaults=[]
 k0:params.kw_defaults=[]
 an:∀env,Ru params Oo env=[]
 hb:∀(cl:LA) (c':Os) (doc pm ctv:Value) (us:LV),us.length=Tw.length->Pf (fnX nn ql params body scope cl .none .none doc pm Oo (.ref c') ctv) ⟨us,[]⟩=OM (Tw.zip us)
 ckl:ckL fs gs l N (aD st).names es=On
 cki:br fi gs N' scope.names On ci body=On
theorem Ik(M:MkJ K mg base L x tb ql nn st f c T fd N ps Tw N' js i params body scope pos gs fs fi l ci (e0::es))(m:MOk P w K mg (TbJ L) GT gs)(hl:fs.length=FT.length)(hl':fi.length=FI.length)
  (fns:∀(f:Nat) x S,fs[f]?=Om x->FT[f]?=Om S->∃ps,Callee P w K mg base Tp k x ps (Up K (TbJ L) S)) (fni:∀(f:Nat) x S,fi[f]?=Om x->FI[f]?=Om S->∃ps,Callee P w K mg base Tp ki x ps (Up K (TbJ L) S))
  (ho:Callee P w K mg base Tp k tb pst (Uk P w K mg base L (ki+1) SF)) (hbd:aK st=[.FunctionDef nn params body [] Oo [] scope Oo nn pos,.Return (Om (.Call (.Name tb p1) (e0::(es++[.Name nn p4])) [] p2)) p3]) (Tj:∀ts Q,S ts Q->ts.length=ps.length)
  (hw:∀ts Q,S ts Q->sa FT FI GT l js ci i Tw.length N'.length SF (TM N.length ts) Q):FnOk P w K mg base Tp (k+1) f fd ps (Up K (TbJ L) S):=by
 refine M.F.okT M.cd M.sc (λ vs H Q E ⟨F1,ts,P1,wd,r,s,_⟩=>by rw[<- r.length];exact Tj _ _ s) (λ A outer s H vs Q E hr h=>?_);obtain⟨F1,ts,P1,wd,r,sp,fin⟩:=h
 have nl:vs.length<=N.length:=by
  have z:=bA Pi M.sc.pre;rw[aP] at z;have:=Tj _ _ sp;rw[<- r.length];lia
 have xf:XF P w K mg base (JH L λ _=>Oo) FT GT fs gs k:=.of0 m hl fns;obtain⟨cl,hcl,own⟩:=xx (scope:=scope) (env:=Ph x (aD st) s.heap.objs.size f (.ref c)) λ y hy=>iS.mp (jH _ _ _ (.inl (M.hk y hy)));obtain⟨d1,d2,_⟩:=dY M.ok;have hrow:=Ij (X:=(dP Tp P w K mg base N x (aD st) f (.ref c) A outer s H E).nox) (p1:=p1) (p2:=p2) (p3:=p3) (p4:=p4) l ci (xf.fn hr) ⟨rfl,rfl⟩ hr ho (.of0 m hl' fni) M.gt M.ntb M.TF rfl M.mT M.nd M.sc.nd M.hi (.inl M.lo) (M.hq _ _ _) M.d0 M.k0 (M.an _) (.inr M.lo) (gB M.hi (gO ⟨rfl,rfl⟩ M.vi) d1 d2) hcl own M.hj M.hk (λ _ _=>rfl) M.nf M.ls (M.hb cl) M.ckl M.cki
 have sl:(Ti N vs).length=N.length:=by
  unfold Ti;rw[aF,ah,dC];show vs.length+(N.length-vs.length)=N.length;lia
 have wd0:Wd (JH L λ _=>Oo) F1 H:=⟨⟨wd.j,λ _ _ _ _ e=>nomatch e⟩,wd.d⟩;rw[hbd];refine⟨_,hrow,F1,TM N.length ts,(Wj wd0 r).ev,by rw[sl];exact(aX.mp M.hi).1,(hw ts P1 sp).1,?_⟩;exact bI l (λ ts ⟨hn,caps,Φ',P'',hc,co,sf,hw,q⟩=>⟨hn,caps,Φ',P'',hc,co,sf,hw,λ t pt F' H' v g r=>fin t (q t pt) F' H' v g.tb r⟩) (hw ts P1 sp).2
end
structure Xs where
 nn:Str
 tb:Str
 e:Expr
 es:List Expr
 a:Pb
 b:List OC
 s:Scope
 p:Pos
 p1:Pos
 p2:Pos
 p3:Pos
 p4:Pos
def TX(st:OC):Xs:=match aK st with
 |[.FunctionDef nn a b _ _ _ s _ _ p,.Return (Om (.Call (.Name tb p1) (e::r) [] p2)) p3]=>⟨nn,tb,e,r.dropLast,a,b,s,p,p1,p2,p3,match r.getLast? with|some (.Name _ p4)=>p4|_=>p⟩
 |_=>⟨"","",.Name "" ⟨0,0,0,0⟩,[],gi (.Pass ⟨0,0,0,0⟩),[],aD (.Pass ⟨0,0,0,0⟩),⟨0,0,0,0⟩,⟨0,0,0,0⟩,⟨0,0,0,0⟩,⟨0,0,0,0⟩,⟨0,0,0,0⟩⟩
def Xt(D:List DR)(gs:List Str)(j jj:Nat)(st:OC)(r:Xs)(N N' Tw:List Str)(js:List Nat)(h n n2 p:Nat)(l:Cd)(ci:Ct):Bool:=Vx (aD st) (N.take p) N&&WL r.s N' Tw&&ckL (Uv D j) gs l N (aD st).names (r.e::r.es)&&br (Uv D jj) gs N' r.s.names On ci r.b&&decide ((p<=N.length/\N.length=n/\N'.length=n2)/\(aD st).names.lookup r.tb=Om .globalImplicit/\(r.tb == ("__debug__" : Str))=Op/\js.map (λ j=>N[j]?)=(Ub r.s.names).map Om/\(∀n∈Ub r.s.names,(aD st).names.lookup n=Om .cell)/\(Ub r.s.names).Nodup/\N[h]?=Om r.nn/\(aD st).names.lookup r.nn=Om .local/\vs (aD st).names r.nn=On/\Ue r.nn=On)
abbrev Xu(D:List DR)(GT:List TV)(gs:List Str)(jj j:Nat)(st:OC)(N N' Tw:List Str)(js:List Nat)(h n n2 p:Nat)(SF:Tc->Tc)(S:Tc)(l:Cd)(ci:Ct):Prop:=Xt D gs j jj st (TX st) N N' Tw js h n n2 p l ci=On/\∀ts Q,S ts Q->ts.length=p/\sa (Uj D j) (Uj D jj) GT l js ci h Tw.length n2 SF (TM n ts) Q
section
variable {P:Oz}{w:OB}{K:FG}{mg:SV}{base:OH}{L:List (Os×Pos×Str)}{GT:List TV}{gs:List Str}{D:List DR}{j jj kf n n2 p d m:Nat}{x ql:Str}{N N' Tw pst:List Str}{js:List Nat}{st:OC}{S:Tc}{SF SG:Tc->Tc}{SS:Nat->Tc->Tc}{HC:List (Str×(Tc->Tc))}{code code':Ct}{l i q:Cd}{f c T:Os}{fd:OT}
theorem CM.md(C:CM P w K mg base (TbJ L) GT gs D j)(t:TZ K x st f fd c T)(TF:TL base mg c T)(mT:(T,(TX st).p,ql)∈L)(nd:(L.map (·.1)).Nodup)(z:Xu D GT gs jj j st N N' Tw js h n n2 p SF S l ci)(ho:Callee P w K mg base Tp j (TX st).tb pst (Uk P w K mg base L (jj+1) SF))(jl:jj<=j)(e:autoParam (D[j]?=Om (x,N.take p,S)) A8._auto_1)
  (b:autoParam (Bds x st (N.take p) p) A2._auto_1) (d0:autoParam ((TX st).a.defaults=[]) A8._auto_1) (k0:autoParam ((TX st).a.kw_defaults=[]) A8._auto_1) (an:autoParam (∀env,Ru (TX st).a Oo env=[]) A7._auto_1) (hq:autoParam (∀n f cd,QS (Ph x (aD st) n f cd) (TX st).nn (TX st).nn=ql) A5._auto_1) (hbd:autoParam (aK st=[.FunctionDef (TX st).nn (TX st).a (TX st).b [] Oo [] (TX st).s Oo (TX st).nn (TX st).p,.Return (Om (.Call (.Name (TX st).tb (TX st).p1) ((TX st).e::((TX st).es++[.Name (TX st).nn (TX st).p4])) [] (TX st).p2)) (TX st).p3]) A6._auto_1)
  (hb:autoParam (∀(cl:LA) (c':Os) (doc pm ctv:Value),iG Tw.length λ us=>Pf (fnX (TX st).nn ql (TX st).a (TX st).b (TX st).s cl .none .none doc pm Oo (.ref c') ctv) ⟨us,[]⟩=OM (Tw.zip us)) A2._auto_1):CM P w K mg base (TbJ L) GT gs D (j+1):=by
 obtain⟨z1,z2⟩:=z;simp only[Xt,bp,da] at z1;obtain⟨⟨⟨⟨k1,k2⟩,k3⟩,k4⟩,⟨k5,k6,k7⟩,h1,h2,h3,h4,h5,h6,h7,h8,h9⟩:=z1;subst k6 k7;refine⟨C.c.fn C.hm e t.toGl' (b.ok k5) (Ik (k:=j) (ki:=jj) ⟨t.F,t.hc,TF,mT,nd,kw k1,h1,h2,xF k2,h3,h4,h5,h6,h7,h8,h9,hq,d0,k0,an,λ cl c' doc pm ctv us hl=>oF (hb cl c' doc pm ctv) us hl,k3,k4⟩ C.m (fb j) (fb jj) C.c.fns (C.c.to jl).fns ho hbd (λ ts Q h=>by rw[(z2 ts Q h).1,aP,eI k5]) λ ts Q h=>(z2 ts Q h).2),C.m,C.hm⟩
end
end _L
namespace _M
set_option backward.match.sparseCases false
open PySem _L PyProof.Rows
open TV renaming int->XV,tup->XW,str->XX
noncomputable def formsL:List (Str×List (Str×Int)):=[("in",[("sides",1)]),("num",[("number",1)]),("count",[("small",2),("sides",1)]),("each",[("word",1),("step",2)]),("pair",[("word",1),("step",2),("step",3)]),("pick",[("step",1),("step",2),("step",3)]),("turn",[("step",1),("sides",2)]),("flip",[("step",1),("small",2)]),("cut",[("step",1),("small",2),("small",3),("small",4),("small",5)]),("spread",[("step",1),("small",2),("small",3)]),("lay",[("step",1),("sides",2)]),("join",[("step",1),("step",2),("small",3)]),("fetch",[("step",1),("step",2)]),("fold",[("word",1),("step",2),("small",3)]),("run",[("word",1),("step",2),("small",3)])]
def se(K:FG):List (Str×Int)->List V->Prop
 |[],[]=>True
 |f::fs,x::xs=>(∃a,x=.ref a/\KTup K a [.str f.1,.int f.2])/\se K fs xs
 |_,_=>False
def sg(K:FG):List (Str×List (Str×Int))->LA->Prop
 |[],[]=>True
 |f::fs,p::ps=>(p.1=f.1/\∃xs,KTup K p.2 xs/\se K f.2 xs)/\sg K fs ps
 |_,_=>False
def xG(P:Oz)(w:OB)(K:FG)(d:Os):Prop:=∃kvs,KTab P w K d kvs/\sg K formsL kvs
def ma{K:FG}{sl:AV}(h:K.lookup a=Om ⟨.type "tuple",Oo,.seq its n,sl⟩)(z:its.size<=Ou)(v:Vals xs its.toList):KTup K a xs:=⟨_,its,n,h,rfl,rfl,rfl,z,v⟩
noncomputable def ai(ns:LI):Int:=ns.foldl (λ a b=>a*b) 1
def mf{ns:LI}{i:Nat}(h:ns[i]?=Om x):ai (ns.take (i+1))=ai (ns.take i)*x:=by
 unfold ai;rw[jr,h,kz];rfl
def bR(ns:LI):Prop:=∀n∈ns,0<=n/\n<1000000000000000000
def aq(n:Int):Int:=if n=0 then 1 else n
def xH(h:bR ns):bR (ns.map aq):=by
 intro n hn;obtain⟨m,hm,rfl⟩:=bq.mp hn;have:=h m hm;unfold aq;split<;>lia
def US(ns:LI)(j:Nat):Int:=ai (ns.reverse.take j)
def UB(ns:LI)(i:Nat):LI:=(OE i).map (US ns)
def xI(ns:LI)(i:Nat):UB ns (i+1)=UB ns i++[US ns i]:=by
 unfold UB;rw[RD,aL];rfl
def Il{ns:LI}{i:Nat}(hi:i<ns.length)(h:ns[ns.length-1-i]?=Om m):US ns (i+1)=US ns i*m:=by
 unfold US;exact mf (by rw[lG hi];exact h)
def cS(ns:LI):Prop:=6<ns.length\/512<ai (ns.map aq)
def xJ(xs:LI)(y:Int):ai (xs++[y])=ai xs*y:=by unfold ai;rw[kz];rfl
def Im(xs:LI):∀a:Int,xs.foldl (λ a b=>a*b) a=a*ai xs:=by
 induction xs with
 |nil=>intro a;show a=a*1;rw[s0h]
 |cons x xs ih=>intro a;show xs.foldl (λ a b=>a*b) (a*x)=a*(xs.foldl (λ a b=>a*b) (1*x));rw[ih,ih (1*x),s0m,s1c]
def cO(x:Int)(xs:LI):ai (x::xs)=x*ai xs:=by
 show xs.foldl (λ a b=>a*b) (1*x)=_;rw[Im,s0m]
def Io(ns:LI):ai ns.reverse=ai ns:=by
 induction ns with
 |nil=>rfl
 |cons x xs ih=>rw[jK,xJ,cO,ih,oH]
def Ip(ns:LI):US ns ns.length=ai ns:=by
 unfold US;rw[<- jc,bQ,Io]
def dz(n:Nat):LI:=Ow n 0
def kA(n:Nat):(dz n).length=n:=dC ..
def fit(ns:LI):Prop:=(∀n∈ns,0<=n/\n<=512)/\ns.length<=6/\1<=ai (ns.map aq)/\ai (ns.map aq)<=512
def grow(ns:LI)(free:Int)(i:Nat):Prop:=(∀n∈ns,0<=n/\n<=512)/\ns.length=i/\1<=free/\free<=512/\1<=ai (ns.map aq)/\free*ai (ns.map aq)<=512
def Uc(ns:LI)(side:Int):Prop:=side<0\/(ns.length:Int)<=side
def Ve(ns:LI)(side first many step:Int):Prop:=first<0\/many<0\/step<1\/(0<many/\ns.getD side.toNat 0<=first+(many-1)*step)
def dI(h:¬Uc ns side):∃k:Nat,side=k/\k<ns.length:=by
 unfold Uc at h;exact⟨side.toNat,Z,Z⟩
instance (ns:LI):Decidable (cS ns):=by unfold cS;infer_instance
def Vy(x y:LI):Prop:=∀k:Nat,k<x.length->k<y.length->x[k]?=y[k]?
def Iq(x:LI):Vy x x:=λ _ _ _=>rfl
def xK(h:Vy x y):Vy y x:=λ k a b=>(h k b a).symm
def sh{x y:LI}(h:x.length<=y.length):Vy x y ↔ y.take x.length=x:=by
 constructor
 .intro a;apply Re;intro k;by_cases c:k<x.length
  .rw[nc c];exact(a k c Z).symm
  .rw[jf (by rw[aP];lia),jf Z]
 .intro e k hx hy;have z:=bA (λ l=>l[k]?) e;simp only[nc hx] at z;exact z.symm
def cq(x y:LI):Prop:=if y.length<x.length then x.take y.length=y else y.take x.length=x
def bM(x y:LI):LI:=if y.length<x.length then x else y
def xL(x y:LI):cq x y ↔ Vy x y:=by
 unfold cq;split
 .rename_i h;exact(sh Z).symm.trans ⟨xK,xK⟩
 .rename_i h;exact(sh Z).symm
def Ir(h:Vy x y)(l:x.length=y.length):x=y:=by
 have z:=(sh (x:=x) (y:=y) Z).mp h;rw[l,bQ] at z;exact z.symm
def tups(H:Hp)(ps:List Os)(L:LL):Prop:=ps.length=L.length/\∀(i:Nat) p m,ps[i]?=Om p->L[i]?=Om m->H p=Om (.tup (m.map V.int))
def sm(ns:LI):Prop:=∀n∈ns,0<=n/\n<=1000000
def Iu(h:sm ns):bR ns:=λ n hn=>by have:=h n hn;lia
noncomputable def fQ(ns ms:LI)(side:Int):LI:=ns.set side.toNat (ns.getD side.toNat 0+ms.getD side.toNat 0)
def si{n k:Nat}(h:k<n):UP n (k:Int)=Om k:=by unfold UP;rw[XT Z];simp;lia
def getD_mem{ns:LI}{k:Nat}(h:k<ns.length):ns.getD k 0∈ns:=by rw[aO,aZ h];exact jV h
def xM(n:Int)(ns:LI){j:Nat}(h:j<=ns.length):US (n::ns) j=US ns j:=by
 unfold US;rw[jK,sj (by simpa using h)]
def Iv(n:Int)(ns:LI):(UB (n::ns) (n::ns).length).reverse=ai ns::(UB ns ns.length).reverse:=by
 rw[OQ,xI,List.reverse_append,xM n ns (ao _),Ip];show ai ns::(UB (n::ns) ns.length).reverse=_
 congr 2
 unfold UB;exact rC λ j hj=>xM n ns (dN (jz.mp hj))
def mh(n:Int):Int:=if n%17=5 then [(-9223372036854775808:Int),9223372036854775807,-1,4611686018427387904].getD (n/17%4).toNat 0 else (n+9223372036854775808)%18446744073709551616-9223372036854775808
theorem sk:∀ {ns:LI},(∀n∈ns,0<=n)->0<=ai ns/\ai ns<=ai (ns.map aq)
 |[],_=>by decide
 |n::ns,h=>by
  obtain⟨i0,i1⟩:=sk (ns:=ns) λ m hm=>h m (aV _ hm);have n0:=h n bd;rw[cJ,cO,cO];have o:n<=aq n/\0<=aq n:=by unfold aq;split<;>lia
  exact⟨Int.mul_nonneg n0 i0,s0f o.1 i1 i0 o.2⟩
def Iw{ns:LI}{k:Nat}(hk:k<ns.length):ns[k]?=Om (ns.getD k 0):=by rw[aO,aZ hk];rfl
def jt(n:Int):Int:=(n+9223372036854775808)%18446744073709551616-9223372036854775808
def sn(x y:Int):Int:=if y=0 then 0 else jt (Int.fdiv x y)
def so(x y:Int):Int:=if y=0 then x else Int.fmod x y
def xN(w:Str)(x y:Int):Int :=
 if w="add" then jt (x+y) else if w="sub" then jt (x-y) else if w="mul" then jt (x*y) else if w="quo" then sn x y else if w="rest" then so x y
 else if w="max" then (if x<y then y else x) else if w="min" then (if y<x then y else x) else if w="less" then (if x<y then 1 else 0) else if w="like" then (if x=y then 1 else 0)
 else if w="and" then Builtin.bitAnd x y else if w="or" then Builtin.bitOr x y else Builtin.bitXor x y
def UV(x:Int):Prop:=-9223372036854775808<=x/\x<9223372036854775808
def Ix(n:Int):UV (mh n):=by
 unfold mh UV;split
 .have h:n/17%4=0\/n/17%4=1\/n/17%4=2\/n/17%4=3:=by lia
  rcases h with h|h|h|h<;>rw[h]<;>exact⟨ca,ca⟩
 .lia
def xO(x:Int):Int:=if x<0 then -x else x
def xP(w:Str)(x:Int):Int:=if w="neg" then jt (-x) else if w="abs" then jt (xO x) else if w="sign" then (if x<0 then -1 else if 0<x then 1 else 0) else if x=0 then 1 else 0
noncomputable def mi:List Str:=["neg","abs","sign","not"]
noncomputable def mj:List Str:=["add","sub","mul","quo","rest","max","min","less","like","and","or","xor"]
def su(h:cq x y):(bM x y).take x.length=x/\(bM x y).take y.length=y:=by
 unfold cq at h;unfold bM;split at h
 .rename_i c;rw[XT c];exact⟨bQ,h⟩
 .rename_i c;rw[XR c];exact⟨h,bQ⟩
noncomputable abbrev fw:List Str:=["add","mul","max","min","and","or","xor"]
def Vz(w:Str):Prop:=w∈fw
def dJ(w:Str):Int:=if w="mul" then 1 else if w="max" then -9223372036854775808 else if w="min" then 9223372036854775807 else if w="and" then -1 else 0
def Iy:dJ "add"=0:=by unfold dJ;rw[XR (by decide +kernel),XR (by decide +kernel),XR (by decide +kernel),XR (by decide +kernel)]
def Iz:dJ "mul"=1:=by unfold dJ;rw[XT rfl]
def IA:dJ "max"=-9223372036854775808:=by unfold dJ;rw[XR (by decide +kernel),XT rfl]
def IB:dJ "min"=9223372036854775807:=by unfold dJ;rw[XR (by decide +kernel),XR (by decide +kernel),XT rfl]
def IC:dJ "and"=-1:=by unfold dJ;rw[XR (by decide +kernel),XR (by decide +kernel),XR (by decide +kernel),XT rfl]
def ID:dJ "or"=0:=by unfold dJ;rw[XR (by decide +kernel),XR (by decide +kernel),XR (by decide +kernel),XR (by decide +kernel)]
def IE:dJ "xor"=0:=by unfold dJ;rw[XR (by decide +kernel),XR (by decide +kernel),XR (by decide +kernel),XR (by decide +kernel)]
noncomputable def kinds:List Str:=["in","num","count","each","pair","pick","turn","flip","cut","spread","lay","join","fetch","fold","run"]
def dh(i:Nat):Str:=kinds.getD i ""
def IF(fs:List (Str×Int)):LI:=fs.filterMap λ f=>if f.1=("step" : Str) then Om f.2 else Oo
def xQ(i:Nat):LI:=IF ((formsL.getD i ("",[])).2)
def ju(n:Nat)(os:LI):Prop:=os.Perm (TC n)
def up_mem{n:Nat}{x:Int}:x∈TC n ↔ 0<=x/\x<n:=by
 unfold TC;constructor
 .intro h;obtain⟨i,hi,rfl⟩:=bq.mp h;have:=jz.mp hi;lia
 .intro h;exact bq.mpr ⟨x.toNat,jz.mpr Z,Z⟩
def fc(n:Nat):(TC n).length=n:=by simp[TC]
def IG(n:Nat):(TC n).Pairwise (·<=·):=by
 unfold TC;rw[List.pairwise_map];exact List.Pairwise.imp (λ h=>by lia) (List.pairwise_lt_range (n:=n))
theorem xR:∀ {l1 l2:LI},l1.Perm l2->l1.Pairwise (·<=·)->l2.Pairwise (·<=·)->l1=l2
 |[],l2,p,_,_=>(List.nil_perm.mp p).symm
 |a::l1,l2,p,h1,h2=>by
  cases l2 with
  |nil=>exact List.perm_nil.mp p
  |cons b l2=>
   obtain⟨a1,a2⟩:=lM.mp h1;obtain⟨b1,b2⟩:=lM.mp h2
   have ab:a<=b:=by
    rcases aB.mp (p.symm.subset (bd ..)) with e|e
    .lia
    .exact a1 b e
   have ba:b<=a:=by
    rcases aB.mp (p.subset (bd ..)) with e|e
    .lia
    .exact b1 a e
   have e:a=b:=Z;subst e;rw[xR (List.perm_cons a |>.mp p) a2 b2]
def IH{os ss:LI}(p:ss.Perm os)(s:ss.Pairwise (·<=·)):ss=TC n ↔ ju n os :=
 ⟨λ e=>p.symm.trans (by rw[e]),λ t=>xR (p.trans t) s (IG n)⟩
noncomputable def bS(ns os:LI):LI:=os.map λ k=>ns.getD k.toNat 0
noncomputable def bC(ns:LI)(k:Nat)(m:Int):LI:=ns.take k++[m]++ns.drop k
def jv(ns:LI)(side:Int):Prop:=side<0\/(ns.length:Int)<side
def xS(ns:LI)(k:Nat)(m:Int):(bC ns k m).length=ns.length+1:=by
 unfold bC;simp only[aF,aP,bL,OQ,RC];lia
def gQ{ns:LI}{k:Nat}(h:k<ns.length):ns.getD k 0∈ns:=by rw[aO,aZ h];exact jV h
def iH{n:Int}(h:0<=n):1<=aq n:=by unfold aq;split<;>lia
def sv{n:Int}(h:0<=n):(if n > 1 then n else 1)=aq n:=by unfold aq;split<;>split<;>lia
def oJ{ns:LI}(h:∀n∈ns,0<=n):1<=ai (ns.map aq):=by
 induction ns with
 |nil=>decide
 |cons n ns ih=>
  rw[cJ,cO];have a:=iH (h n bd);have b:=ih λ m hm=>h m (aV _ hm);exact kB ca (s0f a b ca Z)
def sw{r d:Int}(h1:1<=d)(h2:d<=r):1<=r/d:=by
 have:=Int.ediv_le_ediv (a:=d) (b:=r) (c:=d) Z h2;rw[Int.ediv_self Z] at this;exact this
def II{ss:LI}{k:Nat}{x:Int}(kl:k<ss.length):ss.take k++[x]++ss.drop (k+1)=ss.set k x:=by
 rw[oK,XT kl,ig];rfl
def cU(h:fit ns):bR ns:=λ n hn=>by have:=h.1 n hn;exact⟨this.1,Z⟩
def oM(h:fit ns):¬cS ns:=λ b=>b.elim (λ z=>by have:=h.2.1;lia) (λ z=>by have:=h.2.2.2;lia)
def IJ{cs:LI}{n:Nat}(h:cs.length=n):(OE n).map (λ i=>cs.getD i 0)=cs:=by
 subst h;apply Re;intro k;by_cases c:k<cs.length
 .rw[bh,nZ c];exact(Iw c).symm
 .rw[jf (by simp;lia),jf Z]
def oN{a b:LI}(h:a.Perm b):ai a=ai b:=by
 induction h with
 |nil=>rfl
 |cons x _ ih=>rw[cO,cO,ih]
 |swap x y l=>rw[cO,cO,cO,cO,<- s1c,<- s1c,oH x y]
 |trans _ _ h1 h2=>rw[h1,h2]
def IL{ns os:LI}(t:ju ns.length os):(bS ns os).Perm ns:=by
 have e:(TC ns.length).map (λ k:Int=>ns.getD k.toNat 0)=ns:=by
  unfold TC;rw[bF];exact IJ rfl
 have:=t.map (λ k:Int=>ns.getD k.toNat 0);rw[e] at this;exact this
inductive Stp where
 |inp (ms:LI)
 |num (n:Int)
 |count (ms:LI) (k:Int)
 |each (w:Str) (a:Nat)
 |pair (w:Str) (a b:Nat)
 |pick (a b c:Nat)
 |turn (a:Nat) (os:LI)
 |flip (a:Nat) (side:Int)
 |cut (a:Nat) (side f m g:Int)
 |spread (a:Nat) (side m:Int)
 |lay (a:Nat) (ms:LI)
 |join (a b:Nat) (side:Int)
 |fetch (a b:Nat)
 |fold (w:Str) (a:Nat) (side:Int)
 |run (w:Str) (a:Nat) (side:Int)
def aR(mo:Int)(ns:LI):Prop:=(∀n∈ns,0<=n/\n<=mo)/\ns.length<=6/\1<=ai (ns.map aq)/\ai (ns.map aq)<=mo
def dn(mo:Int):Prop:=2<=mo/\mo<=512
def iI{mo:Int}(h:aR mo ns)(m:dn mo):fit ns:=⟨λ n hn=>by have:=h.1 n hn;have:=m.2;lia,h.2.1,h.2.2.1,kB h.2.2.2 m.2⟩
def oO{mo:Int}(m:dn mo):aR mo []:=⟨(λ n hn=>nomatch hn),ca,ca,by have:=m.1;show(1:Int)<=mo;lia⟩
def sB{mo n:Int}(h:aR mo ns)(l:ns.length<6)(n0:0<=n)(hn:n<=mo/ai (ns.map aq)):aR mo (ns++[n]):=by
 have p:=h.2.2.1;have e:ai ((ns++[n]).map aq)=ai (ns.map aq)*aq n:=by rw[aL];exact xJ _ _
 have o1:=iH n0;have d1:1<=mo/ai (ns.map aq):=sw p h.2.2.2;have le:mo/ai (ns.map aq)<=mo:=Rm _ (by have:=h.2.2.2;lia);have m2:ai (ns.map aq)*(mo/ai (ns.map aq))<=mo:=s0a Z;generalize mo/ai (ns.map aq)=q at *;have o2:aq n<=q:=by unfold aq;split<;>lia
 have m1:=mq o2 (show 0<=ai (ns.map aq) by lia);refine⟨λ k hk=>?_,by rw[aF,gF];lia,?_,?_⟩
 .rcases bX.mp hk with z|z
  .exact h.1 k z
  .cases aH.mp z;lia
 .rw[e];exact kB ca (s0f p o1 ca Z)
 .rw[e];lia
def Uh(Ss:LL)(S:LI):Stp->Prop
 |.inp ms=>S=ms/\¬cS ms
 |.num n=>S=[]/\UV n
 |.count ms k=>S=ms/\¬cS ms/\¬Uc ms k
 |.each w a=>Ss[a]?=Om S/\w∈mi
 |.pair w a b=>∃A B,Ss[a]?=Om A/\Ss[b]?=Om B/\w∈mj/\cq A B/\S=bM A B
 |.pick a b c=>∃A B C,Ss[a]?=Om A/\Ss[b]?=Om B/\Ss[c]?=Om C/\cq A B/\cq (bM A B) C/\S=bM (bM A B) C
 |.turn a os=>∃A,Ss[a]?=Om A/\ju A.length os/\S=bS A os
 |.flip a side=>Ss[a]?=Om S/\¬Uc S side
 |.cut a side f m g=>∃A,Ss[a]?=Om A/\¬Uc A side/\¬Ve A side f m g/\(m<=512/\f<=512/\g<=512)/\S=A.set side.toNat m
 |.spread a side m=>∃A,Ss[a]?=Om A/\¬jv A side/\¬m<0/\m<=512/\¬cS (bC A side.toNat m)/\S=bC A side.toNat m
 |.lay a ms=>∃A,Ss[a]?=Om A/\¬cS ms/\ai A=ai ms/\S=ms
 |.join a b side=>∃A B,Ss[a]?=Om A/\Ss[b]?=Om B/\A.length=B.length/\¬Uc A side/\A.eraseIdx side.toNat=B.eraseIdx side.toNat/\¬cS (fQ A B side)/\S=fQ A B side
 |.fetch a b=>∃n r B,Ss[a]?=Om (n::r)/\n≠0/\Ss[b]?=Om B/\¬cS (B++r)/\S=B++r
 |.fold w a side=>∃A,Ss[a]?=Om A/\Vz w/\¬Uc A side/\S=A.eraseIdx side.toNat
 |.run w a side=>Ss[a]?=Om S/\Vz w/\¬Uc S side
def kC{mo:Int}(h:aR mo ns):∀n∈ns,0<=n:=λ n hn=>(h.1 n hn).1
def IM{n m:Int}(h:n<=m)(h1:1<=m):aq n<=m:=by unfold aq;split<;>lia
def IN{mo:Int}(h:aR mo ns)(m:dn mo):aR mo [ai ns]:=by
 have p:=sk (kC h);have b:=h.2.2.2;have o:=iH p.1;have e:ai ([ai ns].map aq)=aq (ai ns):=by show ai [aq (ai ns)]=_;rw[cO];exact s0h _
 refine⟨λ n hn=>?_,ly (bP _),by rw[e];exact o,by rw[e];exact IM Z (by have:=m.1;lia)⟩;cases aH.mp hn;lia
def IP{mo:Int}(h:aR mo ns)(m:dn mo)(l:ns.length<6):aR mo (1::ns):=by
 have e:ai ((1::ns).map aq)=ai (ns.map aq):=by rw[cJ,cO];exact s0m _
 refine⟨λ n hn=>?_,by rw[OQ];lia,by rw[e];exact h.2.2.1,by rw[e];exact h.2.2.2⟩
 rcases aB.mp hn with z|z
 .have:=m.1;lia
 .exact h.1 n z
def IQ{mo:Int}(h:aR mo ns)(m:dn mo)(c:ai ns%2=0):aR mo [ai ns/2,2]/\ai [ai ns/2,2]=ai ns:=by
 have p:=sk (kC h);have b:=h.2.2.2;have m1:=m.1;have e:ai ([ai ns/2,2].map aq)=aq (ai ns/2)*2:=by show ai [aq (ai ns/2),2]=_;rw[cO,cO];show _*(2*1)=_;rfl
 have e2:ai [ai ns/2,2]=ai ns/2*2:=by rw[cO,cO];show _*(2*1)=_;rfl
 generalize ai ns=P at *;have o:1<=aq (P/2)/\aq (P/2)*2<=mo:=by unfold aq;split<;>lia
 refine⟨⟨λ n hn=>?_,ly (ly (bP _)),by rw[e];lia,by rw[e];exact o.2⟩,by rw[e2];lia⟩
 rcases aB.mp hn with z|z
 .lia
 .cases aH.mp z;lia
def IR{mo:Int}(h:aR mo ns):aR mo ns.reverse/\ai ns.reverse=ai ns:=by
 have p:=List.reverse_perm ns;have e:=oN (p.map aq);exact⟨⟨λ n hn=>h.1 n (List.mem_reverse.mp hn),by rw[jc];exact h.2.1,by rw[e];exact h.2.2.1,by rw[e];exact h.2.2.2⟩,oN p⟩
def IS{mo:Int}(h:aR mo ns)(m:dn mo):bR ns:=λ n hn=>by have:=h.1 n hn;have:=m.2;exact⟨Z,Z⟩
def jw(ns:LI)(d:Int):LI:=if d%4=1 then [ai ns] else if d%4=2/\ns.length<6 then 1::ns else if d%4=3/\ai ns%2=0 then [ai ns/2,2] else ns.reverse
def IT{mo:Int}(h:aR mo ns)(m:dn mo):aR mo (jw ns d)/\ai (jw ns d)=ai ns:=by
 unfold jw;by_cases c1:d%4=1
 .rw[XT c1];exact⟨IN h m,by rw[cO];exact s0h _⟩
 rw[XR c1];by_cases c2:d%4=2/\ns.length<6
 .rw[XT c2];exact⟨IP h m c2.2,by rw[cO];exact s0m _⟩
 rw[XR c2];by_cases c3:d%4=3/\ai ns%2=0
 .rw[XT c3];exact IQ h m c3.2
 rw[XR c3];exact IR h
def fg(A B:LI)(k:Nat):LI:=if A.length=B.length/\A.eraseIdx k=B.eraseIdx k then fQ A B k else []
def IU(i:Nat):TC (i+1)=TC i++[(i:Int)]:=by unfold TC;rw[RD,aL];rfl
def IV{os:LI}(h:os.Perm (TC i)):(os.take j++(i:Int)::os.drop j).Perm (TC (i+1)):=by
 rw[IU];refine List.Perm.trans Ro ?_;rw[sC];exact(h.cons _).trans (xT _ _).symm
def IW{mo:Int}{ns os:LI}(h:aR mo ns)(t:ju ns.length os):aR mo (bS ns os):=by
 have p:=IL t;have e:=oN (p.map aq);exact⟨λ n hn=>h.1 n (p.subset hn),by rw[p.length_eq];exact h.2.1,by rw[e];exact h.2.2.1,by rw[e];exact h.2.2.2⟩
def IY{mo:Int}{A B:LI}(p:A.Perm B)(h:aR mo B):aR mo A:=by
 have e:=oN (p.map aq);exact⟨λ n hn=>h.1 n (p.subset hn),by rw[p.length_eq];exact h.2.1,by rw[e];exact h.2.2.1,by rw[e];exact h.2.2.2⟩
def IZ{mo x:Int}(h:aR mo A)(l:A.length<6)(x0:0<=x)(x1:x<=mo/ai (A.map aq)):aR mo (bC A k x):=by
 refine IY ?_ (sB h l x0 x1);unfold bC;rw[ig];refine List.Perm.trans Ro ?_;show(x::(A.take k++A.drop k)).Perm _;rw[sC];exact(xT _ _).symm
def iJ(x:Int)(xs:LI):ai ((x::xs).map aq)=aq x*ai (xs.map aq):=by rw[cJ];exact cO _ _
def Ja{ns:LI}(h:∀n∈ns,0<=n):∀n∈ns,n<=ai (ns.map aq):=by
 induction ns with
 |nil=>exact λ n hn=>nomatch hn
 |cons x xs ih=>
  intro n hn;have hx:=h x (bd ..);have ht:∀n∈xs,0<=n:=λ n hn=>h n (aV _ hn);have p:=oJ ht;have o:=iH hx;rw[iJ]
  rcases aB.mp hn with e|hn
  .rw[e];have le:x<=aq x:=by unfold aq;split<;>lia
   have:=mq p (show 0<=aq x by lia);lia
  .have:=ih ht n hn;have:=oP o (show 0<=ai (xs.map aq) by lia);lia
def Jb{ns:LI}(h:∀n∈ns,0<=n):∀ {k:Nat}{m:Int},0<=m->m<=ns.getD k 0->ai ((ns.set k m).map aq)<=ai (ns.map aq):=by
 induction ns with
 |nil=>intro k m _ _;rw[List.set_nil];exact jS _
 |cons x xs ih=>
  intro k m m0 m1;have hx:=h x (bd ..);have ht:∀n∈xs,0<=n:=λ n hn=>h n (aV _ hn);have p:=oJ ht
  cases k with
  |zero=>
   have m1:m<=x:=m1;show ai ((m::xs).map aq)<=_;rw[iJ,iJ];exact oP (by unfold aq;split<;>split<;>lia) Z
  |succ k=>
   have m1:m<=xs.getD k 0:=m1;show ai ((x::xs.set k m).map aq)<=_;rw[iJ,iJ];exact mq (ih ht m0 m1) (by have:=iH hx;lia)
def Jc{ns:LI}(h:∀n∈ns,0<=n):∀ {k:Nat},ai ((ns.eraseIdx k).map aq)<=ai (ns.map aq):=by
 induction ns with
 |nil=>intro k;rw[List.eraseIdx_nil];exact jS _
 |cons x xs ih=>
  intro k;have hx:=h x (bd ..);have ht:∀n∈xs,0<=n:=λ n hn=>h n (aV _ hn);have p:=oJ ht
  cases k with
  |zero=>
   show ai (xs.map aq)<=_;rw[iJ];have:=oP (iH hx) (show 0<=ai (xs.map aq) by lia);lia
  |succ k=>
   show ai ((x::xs.eraseIdx k).map aq)<=_;rw[iJ,iJ];exact mq (ih ht) (by have:=iH hx;lia)
def sD{mo:Int}{ns:LI}(nn:∀n∈ns,0<=n)(l:ns.length<=6)(w:ai (ns.map aq)<=mo):aR mo ns:=⟨λ n hn=>⟨nn n hn,kB (Ja nn n hn) w⟩,l,oJ nn,w⟩
def Jd{mo m:Int}(h:aR mo A)(m0:0<=m)(m1:m<=A.getD k 0):aR mo (A.set k m):=sD (λ n hn=>by rcases mx hn with z|z;exact kC h n z;rw[z];exact m0) (by rw[dE];exact h.2.1) (kB (Jb (kC h) m0 m1) h.2.2.2)
def Je{mo:Int}(h:aR mo A):aR mo (A.eraseIdx k):=sD (λ n hn=>kC h n (List.mem_of_mem_eraseIdx hn)) (cG (List.length_eraseIdx_le ..) h.2.1) (kB (Jc (kC h)) h.2.2.2)
def Jf{n f g e:Int}(n0:0<=n)(f0:0<=f)(g1:1<=g)(e0:0<=e):0<=(if (n-1-f).fdiv g+1-e > 0 then (n-1-f).fdiv g+1-e else 0)/\(if (n-1-f).fdiv g+1-e > 0 then (n-1-f).fdiv g+1-e else 0)<=n/\¬(0<(if (n-1-f).fdiv g+1-e > 0 then (n-1-f).fdiv g+1-e else 0)/\n<=f+((if (n-1-f).fdiv g+1-e > 0 then (n-1-f).fdiv g+1-e else 0)-1)*g):=by
 rw[mV _ Z];have q1:g*((n-1-f)/g)<=n-1-f:=s0a Z;generalize (n-1-f)/g=q at *;split
 .rename_i c;have a1:=oP (show q+1-e-1<=q by lia) (show 0<=g by lia);rw[oH q g] at a1;have a2:=mq g1 (show 0<=q+1-e-1 by lia);generalize (q+1-e-1)*g=z at *;exact⟨Z,Z,λ y=>by lia⟩
 .exact⟨Z,n0,λ y=>by lia⟩
def xU(A:LI):cq A A:=(xL A A).mpr (Iq A)
def xV(h:cq x y)(l:y.length<=x.length):bM x y=x:=by
 unfold bM;split
 .rfl
 .exact(Ir ((xL x y).mp h) Z).symm
def xW{x y:LI}(l:x.length<y.length):bM x y=y:=by unfold bM;rw[XR Z]
def xX{P:LI->Prop}(h:P x)(h2:P y):P (bM x y):=by unfold bM;split<;>assumption
def fR{k:Int}{n:Nat}(h:k∈TC n):∃a:Nat,k=a/\a<n:=⟨k.toNat,(lW (up_mem.mp h).1).symm,by have:=up_mem.mp h;lia⟩
def xY{a n:Nat}(h:a<n):(a:Int)∈TC n:=up_mem.mpr ⟨s0r _,Int.ofNat_lt.mpr h⟩
def eJ(mo:Int)(ds:List Stp)(Ss:LL):Prop:=ds.length=Ss.length/\(∀S∈Ss,aR mo S)/\∀(i:Nat) (d:Stp) (S:LI),ds[i]?=Om d->Ss[i]?=Om S->Uh (Ss.take i) S d
def xZ{mo:Int}(h:eJ mo ds Ss)(o:Uh Ss S d)(f:aR mo S):eJ mo (ds++[d]) (Ss++[S]):=by
 refine⟨by rw[aF,aF,h.1];rfl,λ T hT=>?_,λ i d' S' e1 e2=>?_⟩
 .rcases bX.mp hT with z|z
  .exact h.2.1 T z
  .cases aH.mp z;exact f
 .by_cases c:i<ds.length
  .rw[cI c] at e1;have c':i<Ss.length:=by rw[<- h.1];exact c
   rw[cI c'] at e2;rw[sj (dN c')];exact h.2.2 i d' S' e1 e2
  .have jl:=(aX.mp e1).1;rw[aF,gF] at jl;have je:i=ds.length:=Z;rw[je,cH (ao _),gP] at e1;rw[je,h.1,cH (ao _),gP] at e2;cases e1;cases e2;rw[je,h.1,sj (ao _),bQ];exact o
def yg(mo:Int):eJ mo [] []:=⟨rfl,(λ _ h=>nomatch h),(λ _ _ _ h=>nomatch h)⟩
def yh(h:¬fg A B k=[]):A.length=B.length/\A.eraseIdx k=B.eraseIdx k/\fg A B k=fQ A B k:=by
 unfold fg at h ⊢;split
 .rename_i c;exact⟨c.1,c.2,rfl⟩
 .rename_i c;rw[XR c] at h;exact XU rfl h
def yi{ns:LI}{m:Int}(h:∀n∈ns,0<=n/\n<=m)(m0:0<=m)(k:Nat):0<=ns.getD k 0/\ns.getD k 0<=m:=by
 by_cases c:k<ns.length
 .exact h _ (gQ c)
 .rw[aO,jf Z];exact⟨jS _,m0⟩
def Md(kd:Int)(A:LI)(k:Nat)(Ss Ms:LL):Prop:=(kd=11/\Ms=Ss.map (λ B=>fg A B k))\/(kd=12/\0<A.getD 0 0/\Ms=Ss.map (λ B=>B++A.drop 1))\/(¬kd=11/\¬0<A.getD 0 0/\Ms=[[]])
def Jg(h:Md kd A k Ss Ms)(l:Ss.length<=40):Ms.length<=40:=by
 rcases h with ⟨_,rfl⟩|⟨_,_,rfl⟩|⟨_,_,rfl⟩
 .rw[ah];exact l
 .rw[ah];exact l
 .exact ly (bP _)
def Jh{kd mo:Int}(h:Md kd A k Ss Ms)(fA:aR mo A)(fS:∀S∈Ss,aR mo S)(m:dn mo):∀M∈Ms,∀n∈M,0<=n/\n<=1024:=by
 have m2:=m.2;have m1:=m.1
 rcases h with ⟨_,rfl⟩|⟨_,_,rfl⟩|⟨_,_,rfl⟩
 .intro M hM n hn;obtain⟨B,hB,rfl⟩:=bq.mp hM;by_cases c:fg A B k=[]
  .rw[c] at hn;exact nomatch hn
  .rw[(yh c).2.2] at hn;unfold fQ at hn
   rcases mx hn with z|z
   .have:=fA.1 n z;lia
   .have a1:=yi fA.1 (show 0<=mo by lia) (k:Int).toNat
    have a2:=yi (fS B hB).1 (show 0<=mo by lia) (k:Int).toNat
    lia
 .intro M hM n hn;obtain⟨B,hB,rfl⟩:=bq.mp hM
  rcases bX.mp hn with z|z
  .have:=(fS B hB).1 n z;lia
  .have:=fA.1 n (sG z);lia
 .intro M hM n hn;cases aH.mp hM;exact nomatch hn
def Ji{M:LI}(h:∀n∈M,0<=n/\n<=1024):bR M:=λ n hn=>by have:=h n hn;exact⟨this.1,Z⟩
def Jj{M:LI}{mo:Int}(m:dn mo)(l:M.length<=6)(w:ai (M.map aq)<=mo):¬cS M:=λ z=>z.elim Z (by have:=m.2;lia)
def Jk{Ss:LL}{M:Int}(h:M∈Ss.map (λ S=>(S.length:Int)))(h0:0<M):∃S∈Ss,0<S.length:=by
 obtain⟨S,hS,rfl⟩:=bq.mp h;exact⟨S,hS,Z⟩
noncomputable def Tz:Stp->Nat
 |.inp ..=>0|.num ..=>1|.count ..=>2|.each ..=>3|.pair ..=>4|.pick ..=>5|.turn ..=>6|.flip ..=>7|.cut ..=>8|.spread ..=>9|.lay ..=>10|.join ..=>11|.fetch ..=>12|.fold ..=>13|.run ..=>14
noncomputable def ar:Stp->List Nat
 |.inp ..=>[]|.num ..=>[]|.count ..=>[]
 |.each _ a=>[a]|.pair _ a b=>[a,b]|.pick a b c=>[a,b,c]
 |.turn a _=>[a]|.flip a _=>[a]|.cut a ..=>[a]|.spread a ..=>[a]|.lay a _=>[a]
 |.join a b _=>[a,b]|.fetch a b=>[a,b]|.fold _ a _=>[a]|.run _ a _=>[a]
def yj:Stp->Prop
 |.each w _=>w∈mi|.pair w _ _=>w∈mj|.fold w _ _=>Vz w|.run w _ _=>Vz w|_=>True
def sH(h:Uh Ss S d):yj d:=by
 cases d with
 |each w a=>exact h.2
 |pair w a b=>obtain⟨A,B,_,_,z,_⟩:=h;exact z
 |fold w a s=>obtain⟨A,_,z,_⟩:=h;exact z
 |run w a s=>exact h.2.1
 |_=>trivial
def yk(h:Uh Ss S d):∀a∈ar d,a<Ss.length:=by
 have g:∀ {a:Nat}{A:LI},Ss[a]?=Om A->a<Ss.length:=λ e=>(aX.mp e).1;intro x hx
 cases d with
 |inp ms|num n|count ms k=>exact nomatch hx
 |each w a|flip a s|run w a s=>cases aH.mp hx;exact g h.1
 |pair w a b|join a b s=>
  obtain⟨A,B,e1,e2,_⟩:=h
  rcases aB.mp hx with z|z
  .rw[z];exact g e1
  .cases aH.mp z;exact g e2
 |pick a b c=>
  obtain⟨A,B,C,e1,e2,e3,_⟩:=h
  rcases aB.mp hx with z|z
  .rw[z];exact g e1
  rcases aB.mp z with z|z
  .rw[z];exact g e2
  .cases aH.mp z;exact g e3
 |turn a os|cut a s f m gg|spread a s m|lay a ms|fold w a s=>obtain⟨A,e1,_⟩:=h;cases aH.mp hx;exact g e1
 |fetch a b=>
  obtain⟨n,r,B,e1,_,e2,_⟩:=h
  rcases aB.mp hx with z|z
  .rw[z];exact g e1
  .cases aH.mp z;exact g e2
def Jl(d:Stp):(ar d).length<=3:=by cases d<;>exact Nat.le_of_sub_eq_zero rfl
def gR(mo:Int)(ds:List Stp)(Ss:LL)(os:LI):Prop:=dn mo/\eJ mo ds Ss/\0<ds.length/\ds.length<=40/\0<os.length/\os.length<=8/\∀o∈os,0<=o/\o<(ds.length:Int)
def oQ{mo:Int}(h:eJ mo ds Ss)(m:dn mo):∀T∈Ss,fit T:=λ T hT=>iI (h.2.1 T hT) m
def yl(h:fit A):sm A:=λ n hn=>by have:=h.1 n hn;exact⟨Z,Z⟩
section
variable {band:Int->Int->Int}
variable (hv:∀x y,band x y=2*band (x/2) (y/2)+(if x%2=1/\y%2=1 then 1 else 0))
include hv
end
def sJ{os:LI}(t:ju n os):os.length=n:=by rw[t.length_eq,fc]
def ym(f:Nat->Nat):Stp->Stp
 |.inp ms=>.inp ms
 |.num n=>.num n
 |.count ms k=>.count ms k
 |.each w a=>.each w (f a)
 |.pair w a b=>.pair w (f a) (f b)
 |.pick a b c=>.pick (f a) (f b) (f c)
 |.turn a os=>.turn (f a) os
 |.flip a s=>.flip (f a) s
 |.cut a s g m h=>.cut (f a) s g m h
 |.spread a s m=>.spread (f a) s m
 |.lay a ms=>.lay (f a) ms
 |.join a b s=>.join (f a) (f b) s
 |.fetch a b=>.fetch (f a) (f b)
 |.fold w a s=>.fold w (f a) s
 |.run w a s=>.run w (f a) s
def Jm{Ss Zs:LL}{f:Nat->Nat}(h:Uh Ss S d)(g:∀a∈ar d,∀A,Ss[a]?=Om A->Zs[f a]?=Om A):Uh Zs S (ym f d):=by
 cases d with
 |inp|num|count=>exact h
 |each|flip|run=>exact⟨g _ (.head _) _ h.1,h.2⟩
 |turn|cut|spread|lay|fold=>obtain⟨A,e,r⟩:=h;exact⟨A,g _ (.head _) _ e,r⟩
 |pair|join=>obtain⟨A,B,e1,e2,r⟩:=h;exact⟨A,B,g _ (.head _) _ e1,g _ (.tail _ (.head _)) _ e2,r⟩
 |fetch=>obtain⟨n,r,B,e1,n0,e2,z⟩:=h;exact⟨n,r,B,g _ (.head _) _ e1,n0,g _ (.tail _ (.head _)) _ e2,z⟩
 |pick=>obtain⟨A,B,C,e1,e2,e3,r⟩:=h;exact⟨A,B,C,g _ (.head _) _ e1,g _ (.tail _ (.head _)) _ e2,g _ (.tail _ (.tail _ (.head _))) _ e3,r⟩
end _M
namespace PySem.W.Fast
def tw10007073922489060594:=pv
def tw1004366182274542409:=pv
def tw10069349856123714983:=pv
def tw10117567415797001162:=pv
def tw10124443635632800984:=pv
def tw10141472836355835908:=pv
def tw10191572713085061151:=pv
def tw10203947794542564253:=pv
def tw10237341135127612082:=pv
def tw10274015763912047251:=pv
def tw10285883198878075327:=pv
def tw10351725034803670668:=pv
def tw10406360425544824884:=pv
def tw10434677497323888919:=pv
def tw10438845920800039084:=pv
def tw10441833656963966385:=pv
def tw10456082213523742358:=pv
def tw10466696034934550669:=pv
def tw10491207945012546649:=pv
def tw10492119822933014009:=pv
def tw10496706809553715092:=pv
def tw10498505321023562893:=pv
def tw10509054819720914816:=pv
def tw10575193236723054602:=pv
def tw1057744368613018114:=pv
def tw10608019821071113966:=pv
def tw10644103595452517642:=pv
def tw10654305285768067910:=pv
def tw1074171017452416115:=pv
def tw10741982328828293740:=pv
def tw10761559298951934955:=pv
def tw10782756789432130950:=pv
def tw10800487027416822199:=pv
def tw10895111709710849781:=pv
def tw10898253950055228688:=pv
def tw10900021350592556626:=pv
def tw10927186001657380962:=pv
def tw11007429401439755408:=pv
def tw11106759918903433240:=pv
def tw11146323152584651681:=pv
def tw1126775709800834926:=pv
def tw11433998432783553362:=pv
def tw11458014815089543902:=pv
def tw11480175012818973918:=pv
def tw11498460387678094392:=pv
def tw11503949897144104870:=pv
def tw11782880157992964466:=pv
def tw11788642361239563240:=pv
def tw11861350399974218818:=pv
def tw11871065681413448000:=pv
def tw11946301858604548204:=pv
def tw11965747435006358449:=pv
def tw12017682813227167725:=pv
def tw12025734577954082487:=pv
def tw12123835292358383796:=pv
def tw12132487284097148589:=pv
def tw12360195822001922956:=pv
def tw12368484946044290109:=pv
def tw12454868127330467628:=pv
def tw12463319066951386960:=pv
def tw12472969117291229795:=pv
def tw12473537697204216919:=pv
def tw12576663541556580199:=pv
def tw1270765552650906831:=pv
def tw12710698563469355276:=pv
def tw12721187522426966532:=pv
def tw1285161238733134314:=pv
def tw12861523126868590140:=pv
def tw1288341619677295660:=pv
def tw1296499614624541895:=pv
def tw13012443197119096933:=pv
def tw13069511577160691534:=pv
def tw1312289017321842074:=pv
def tw13144520621021251504:=pv
def tw13231280860284689792:=pv
def tw13238576965429093082:=pv
def tw13255032572901310927:=pv
def tw13264715183689571530:=pv
def tw13282658989651332680:=pv
def tw13294721892613985478:=pv
def tw13370613875663332643:=pv
def tw13385210227674031912:=pv
def tw13406922900380953780:=pv
def tw13447653070926034841:=pv
def tw13487394196041808898:=pv
def tw13605118989250641476:=pv
def tw13682699463724050386:=pv
def tw13691570474243785467:=pv
def tw1371206950884018841:=pv
def tw13724178857257554567:=pv
def tw13743807970593834652:=pv
def tw13757389543615731150:=pv
def tw13818233569118132889:=pv
def tw13882186941044206133:=pv
def tw1389461080902283758:=pv
def tw13911961217258961480:=pv
def tw13933664305216873915:=pv
def tw1397243930354396410:=pv
def tw13973008999384720618:=pv
def tw14019740667840713286:=pv
def tw14063902519512729263:=pv
def tw14150625482513122510:=pv
def tw14190494963845988870:=pv
def tw14207423746477737610:=pv
def tw14332798178255763300:=pv
def tw14341399127363571246:=pv
def tw14345061316151451965:=pv
def tw14381635360308295046:=pv
def tw14387226732076291204:=pv
def tw1439309472517405973:=pv
def tw14400609940487348858:=pv
def tw14445363209646177241:=pv
def tw14471616977434546583:=pv
def tw14504795568685389453:=pv
def tw14514809900079681751:=pv
def tw14593636178658060583:=pv
def tw14616718261529399615:=pv
def tw14626776291045902021:=pv
def tw14638901503030006919:=pv
def tw14682721085585180029:=pv
def tw14692478899251105903:=pv
def tw14710075868416321471:=pv
def tw14814677758772427072:=pv
def tw14822318701912089781:=pv
def tw14867009013284761677:=pv
def tw1487530908875588391:=pv
def tw14921758368328811368:=pv
def tw15046782590528971271:=pv
def tw15052272042503720734:=pv
def tw15056563231140097186:=pv
def tw15097914082799881926:=pv
def tw15108779738401397081:=pv
def tw15129992720019323429:=pv
def tw15148798793080577806:=pv
def tw15234211490981777331:=pv
def tw15278654584447355482:=pv
def tw15311250325289178707:=pv
def tw15321136767014148151:=pv
def tw15437500962194437363:=pv
def tw15443691316013009096:=pv
def tw15461092470194032306:=pv
def tw1550877818681894005:=pv
def tw1556424178541959509:=pv
def tw15620866584664203509:=pv
def tw15621249233096178280:=pv
def tw15681845392787160127:=pv
def tw15703216409702058616:=pv
def tw15762714790677247891:=pv
def tw15765981582722773610:=pv
def tw15816938641893679888:=pv
def tw15911220509675017973:=pv
def tw1592561655991934919:=pv
def tw15992677265048930625:=pv
def tw16035899266455582569:=pv
def tw16054587712416932008:=pv
def tw160836363948958938:=pv
def tw16167431048221683276:=pv
def tw16177467654859681466:=pv
def tw16205491376623315465:=pv
def tw16235807030237112891:=pv
def tw16239530876889803525:=pv
def tw16250690687136635375:=pv
def tw16319286128176141387:=pv
def tw16323426744290178397:=pv
def tw16430365234264477523:=pv
def tw16452640396112180398:=pv
def tw16479905487909210842:=pv
def tw16499603243253276520:=pv
def tw16535340382630014794:=pv
def tw16553554272825551010:=pv
def tw16562485111629817235:=pv
def tw16582044224015784784:=pv
def tw16595410531351763219:=pv
def tw16928765813730461879:=pv
def tw16937532578211145115:=pv
def tw16959942567436821138:=pv
def tw17059369092539407238:=pv
def tw17163013719744655641:=pv
def tw17167734856582019697:=pv
def tw17197676120009684076:=pv
def tw1722003834301731091:=pv
def tw17227536507515217141:=pv
def tw17259274170034082206:=pv
def tw17268789864778488715:=pv
def tw17320304130183378330:=pv
def tw17321442367127286897:=pv
def tw17334775562867825323:=pv
def tw17361792687724764892:=pv
def tw17417058462918481801:=pv
def tw17438303026467467636:=pv
def tw17567119400615277426:=pv
def tw17571846185356876460:=pv
def tw17573695404300078055:=pv
def tw17709033174218612099:=pv
def tw17710202661738832311:=pv
def tw1774377494159891508:=pv
def tw17756608300218655382:=pv
def tw17797777321989788537:=pv
def tw17853068170844065362:=pv
def tw17856383652870123386:=pv
def tw18029708306496472858:=pv
def tw18060886820041579822:=pv
def tw18108210255260643771:=pv
def tw18116381383894963416:=pv
def tw18139149771572763930:=pv
def tw18219652591438014195:=pv
def tw18253562477189385187:=pv
def tw18292775055214978099:=pv
def tw18331335978349328543:=pv
def tw1836619376303977773:=pv
def tw18381332409784877202:=pv
def tw18395606963319477605:=pv
def tw1886427470597408322:=pv
def tw1895183867508164856:=pv
def tw2000177178925695063:=pv
def tw203926940116651363:=pv
def tw2044972311913341728:=pv
def tw2081497302925917134:=pv
def tw2085125763695617344:=pv
def tw2167612811916058371:=pv
def tw2179667045801305702:=pv
def tw2197348061612934585:=pv
def tw2230142696278031216:=pv
def tw2274231150632910903:=pv
def tw2285527815957651497:=pv
def tw2311728921510488658:=pv
def tw2329758951286569565:=pv
def tw2347895941874227430:=pv
def tw2371278692499325628:=pv
def tw2411881928501910434:=pv
def tw2452838648707336261:=pv
def tw2468462948115802657:=pv
def tw2486043268248669991:=pv
def tw2565380502347080356:=pv
def tw2593207036418588845:=pv
def tw2593556454067117227:=pv
def tw2638892879032491581:=pv
def tw2696717067835168234:=pv
def tw270723609830534755:=pv
def tw2782510544040276350:=pv
def tw2875785486449579161:=pv
def tw290025694398283288:=pv
def tw2989386509283064525:=pv
def tw2991947785978961704:=pv
def tw3008255599171176294:=pv
def tw3030422583091423122:=pv
def tw3075356061400807046:=pv
def tw3162590069749217120:=pv
def tw3217505345324862740:=pv
def tw3252280332597408476:=pv
def tw3353071135021923757:=pv
def tw3417342158831594322:=pv
def tw3475970503606882666:=pv
def tw3531896641414489629:=pv
def tw3554567044697347966:=pv
def tw3583517223191474094:=pv
def tw3583722605642156593:=pv
def tw3615446682731198196:=pv
def tw3725088904024403106:=pv
def tw3813225224665926450:=pv
def tw3840571585101539632:=pv
def tw3901921578250102807:=pv
def tw3925996233394058014:=pv
def tw3974410447326485991:=pv
def tw4025353499725414042:=pv
def tw4056099861539692076:=pv
def tw4061397666289806896:=pv
def tw4068655662897802169:=pv
def tw4106900839879581454:=pv
def tw4112072573660087213:=pv
def tw4230379233055467023:=pv
def tw4268360568788623875:=pv
def tw4317219418626170238:=pv
def tw4323085592836641933:=pv
def tw4328880069304517196:=pv
def tw4434337145741759112:=pv
def tw4498049871354737889:=pv
def tw4519283326147158452:=pv
def tw4528959705148919478:=pv
def tw4660524561154857937:=pv
def tw4661284958177907813:=pv
def tw4671294961602420710:=pv
def tw468638349797981637:=pv
def tw4694833184579904388:=pv
def tw4766170395199358896:=pv
def tw4777374555314586595:=pv
def tw4846326012668965169:=pv
def tw4870029560576937388:=pv
def tw4874091642506358386:=pv
def tw4962277442030225454:=pv
def tw498227541996277699:=pv
def tw4984924685045051429:=pv
def tw4988882805449249349:=pv
def tw5008509129653289041:=pv
def tw5022538992545880419:=pv
def tw5035745231059581616:=pv
def tw5051689670294016425:=pv
def tw5088854164869848044:=pv
def tw5110031079795342128:=pv
def tw5146448980607484842:=pv
def tw5153793076995376539:=pv
def tw5165639214765206882:=pv
def tw5202046095348124972:=pv
def tw5221762209341394462:=pv
def tw5232312755893800974:=pv
def tw5236003797595317628:=pv
def tw5270473496770303016:=pv
def tw5297960380996956428:=pv
def tw5322930731627379242:=pv
def tw5326042868324422843:=pv
def tw5369935205059056369:=pv
def tw5371164676940162800:=pv
def tw5441768671207107880:=pv
def tw5481478243169493817:=pv
def tw5529669558628232537:=pv
def tw5553959184969224360:=pv
def tw5573345922493162292:=pv
def tw5604701230227729589:=pv
def tw5714406063379221833:=pv
def tw5753216676899946231:=pv
def tw5794721491260187122:=pv
def tw5832775284649047354:=pv
def tw583858798313686497:=pv
def tw5857095351111926279:=pv
def tw5863789863610474852:=pv
def tw588119734989479287:=pv
def tw5899945347148962634:=pv
def tw5907166648149718968:=pv
def tw5931358499035169778:=pv
def tw5994957476427198598:=pv
def tw6077539346048042862:=pv
def tw6179866965183381127:=pv
def tw6208471377812277077:=pv
def tw6209586267507387284:=pv
def tw6241413629141849154:=pv
def tw6247268093903452270:=pv
def tw6263993442850331567:=pv
def tw6282459779798320380:=pv
def tw6309206467108739676:=pv
def tw6310917565612218955:=pv
def tw6335084241083116629:=pv
def tw635218507239517107:=pv
def tw6384719898255616770:=pv
def tw6418109582378218991:=pv
def tw6429556914562724436:=pv
def tw645569716428418040:=pv
def tw6553773855281679110:=pv
def tw6562571556925656533:=pv
def tw6590422439159606428:=pv
def tw6599844536046201609:=pv
def tw6612963606712720114:=pv
def tw6617387651641976537:=pv
def tw6619251657497073915:=pv
def tw6637781955055925290:=pv
def tw6725050244937076744:=pv
def tw6732628275652010151:=pv
def tw6756447843952065052:=pv
def tw6795265790345020102:=pv
def tw6835337666030704961:=pv
def tw6859733635578181589:=pv
def tw6880657801657660597:=pv
def tw688552046655209484:=pv
def tw6925542316289114098:=pv
def tw6937945365641941148:=pv
def tw6964120681901459329:=pv
def tw7010631694941414823:=pv
def tw7055135237273812143:=pv
def tw7085866975583900705:=pv
def tw7091800670217067895:=pv
def tw7095776814064643472:=pv
def tw714096724067691180:=pv
def tw7164096620897216580:=pv
def tw7246974162256253006:=pv
def tw7286377337567680314:=pv
def tw7305706333887557097:=pv
def tw7311048509575490209:=pv
def tw7335471334773245707:=pv
def tw7342392039648026303:=pv
def tw7343883119010771316:=pv
def tw7350175591543144037:=pv
def tw7352084453511488775:=pv
def tw7389871418430604297:=pv
def tw743391715125926470:=pv
def tw7439884555172524438:=pv
def tw7478157013211277047:=pv
def tw7570592808153791126:=pv
def tw7613848460931209665:=pv
def tw7674349552797103239:=pv
def tw7691953117898911940:=pv
def tw7730133417934016327:=pv
def tw7732012082753299097:=pv
def tw7747898848107178511:=pv
def tw7754208094052812284:=pv
def tw7761745746105454778:=pv
def tw7764521021709307258:=pv
def tw777563404835823451:=pv
def tw7813548282369207181:=pv
def tw7957472539901232685:=pv
def tw796483665795008720:=pv
def tw798687705571750928:=pv
def tw8001449554698971295:=pv
def tw8084128057065075925:=pv
def tw8119424640903900066:=pv
def tw8141183124447328829:=pv
def tw8185874068765608178:=pv
def tw8204943863790359245:=pv
def tw8222786105927294879:=pv
def tw8269558657455178533:=pv
def tw8321413998381436452:=pv
def tw8342957769032216827:=pv
def tw840946516729970372:=pv
def tw8424361606639903858:=pv
def tw8450276696628748027:=pv
def tw8523971445221942026:=pv
def tw8548526952527834839:=pv
def tw8556573423469873548:=pv
def tw8560736988943548784:=pv
def tw8578399365513799737:=pv
def tw8582263175409421567:=pv
def tw8592521140925662643:=pv
def tw8633161661195524892:=pv
def tw8689749736845453156:=pv
def tw8711787207235531037:=pv
def tw8715905262615362113:=pv
def tw8777449771675547026:=pv
def tw8787719271880177593:=pv
def tw8796038429558547254:=pv
def tw8840145180566020844:=pv
def tw8896263395436763281:=pv
def tw8970546399935896858:=pv
def tw9044184687142568321:=pv
def tw9044194527714733664:=pv
def tw9047722275329159787:=pv
def tw9077990498130031267:=pv
def tw9080242804756620723:=pv
def tw9130403958857712109:=pv
def tw924519924376157099:=pv
def tw92768660162882982:=pv
def tw9293398349686112802:=pv
def tw9340972355685772134:=pv
def tw9349365896661346694:=pv
def tw9360629740045861986:=pv
def tw9382404050003648359:=pv
def tw9475100941779427853:=pv
def tw9535604632684189901:=pv
def tw9572893102172915722:=pv
def tw9578875249321825522:=pv
def tw9585339766406601846:=pv
def tw9589044726258983839:=pv
def tw9615057964312102554:=pv
def tw9697447984805195691:=pv
def tw9732384449147601633:=pv
def tw9780641036742360343:=pv
def tw9807419244261974312:=pv
def tw9838144569123529578:=pv
def tw9908345602695804989:=pv
def tw9919681885033968020:=pv
def tw9921092795921203271:=pv
def tw9925709922309640218:=pv
def tw9979955452809790818:=pv
end PySem.W.Fast
namespace _M
set_option backward.match.sparseCases false
open PySem _L PyProof.Rows
open TV renaming int->XV,tup->XW,str->XX
def av{a b:Prop}(h:b)(k:autoParam a A6._auto_1):a/\b:=⟨k,h⟩
def top(i:Nat):OC:=PySem.Challenge.pw_sideloom_k68_woven_trees.main.body.getD i (.Pass ⟨0,0,0,0⟩)
def UE(i:Nat):List Str:=((aD (top i)).names.filter λ q=>q.2 == .local || q.2 == .cell).map (·.1)
def fnz:OC->Str
 |.FunctionDef x ..=>x
 |_=> ""
abbrev Tk(i p:Nat)(S:Tc):DR:=(fnz (top i),(UE i).take p,S)
noncomputable def tI(ns:LI):TV:=.tup (ns.map .int)
noncomputable def lI(ns:LI):TV:=.lst (ns.map .int)
def iK{ns:LI}{i:Nat}(h:(ns.map XV)[i]?=Om t):∃n,t=.int n/\ns[i]?=Om n:=by
 rw[bh] at h
 cases q:ns[i]? with
 |none=>rw[q] at h;cases h
 |some n=>rw[q] at h;cases h;exact⟨n,rfl,rfl⟩
def af(ns:LI):(ns.map XV).length=ns.length:=ah ..
def Xv:kQ 2 64:=⟨ca,ca,ca⟩
def Wm:kQ 2 63:=⟨ca,ca,ca⟩
def gS{i j:Int}(h0:-18446744073709551616<j)(h1:j<18446744073709551616):QO i j:=CMul.ok (.inr ⟨Z,Z⟩)
def gU{i j:Int}(h0:-18446744073709551616<i)(h1:i<18446744073709551616):QO i j:=CMul.ok (.inl ⟨Z,Z⟩)
def s2{a b:Prop}{P:Bool}(h1:P=On->a)(h2:P=Op->b):if P=On then a else b:=by
 cases P
 .exact h2 rfl
 .exact h1 rfl
def sF{a b:Prop}{P:Bool}(h:P=Op)(k:b):if P=On then a else b:=by rw[h];exact k
def sT{a b:Prop}{P:Bool}(h:P=On)(k:a):if P=On then a else b:=by rw[h];exact k
def cl{FT:List Tc}{f:Nat}{ts:List TV}{K:TV->Prop}(e:FT[f]?=Om S)(h:S (ts.map .fz) K)(n:ts.all TV.nb=On):∃P,(∃S,FT[f]?=Om S/\S (ts.map .fz) P)/\∀t,P t->(ts.all TV.nb=Op->LF t)/\K t:=⟨K,⟨S,e,h⟩,λ t k=>⟨λ z=>(by rw[n] at z;cases z),k⟩⟩
theorem bZ{GT:List TV}{α:Type}(f g:α->TV):∀(l:List α) {Kn:List TV->Prop},(∀a∈l,Ug ρ tg (f a) λ ρ'=>wE FT GT e ρ' λ y=>y.nb=On/\y.fz=g a)->Kn (l.map g)->UD (λ t K'=>Ug ρ tg t λ ρ'=>wE FT GT e ρ' λ y=>(y.nb=On/\K' [y.fz])) (l.map f) Kn
 |[],_,_,k=>k
 |a::l,Kn,h,k=>gN (λ ρ' q=>ax e (λ y ⟨n,z⟩=>⟨n,by rw[z];exact bZ f g l (λ b hb=>h b (by simp[hb])) k⟩) q) (h a on)
def Jn{ns:LI}{i:Nat}(h:((ns.map XV).reverse)[i]?=Om t):i<ns.length/\∃n,t=.int n/\ns[ns.length-1-i]?=Om n:=by
 have hl:=(aX.mp h).1;rw[jc,af] at hl;rw[lG (by rw[af];exact hl),af] at h;exact⟨hl,iK h⟩
def Jo{n:Int}(h:(!decide (n=0))=On):aq n=n:=by unfold aq;rw[XR (by simpa using h)]
def Jp{n:Int}(h:(!decide (n=0))=Op):aq n=1:=by unfold aq;rw[XT (by simpa using h)]
def Wn{a b:Int}(h:a=b):(!_L.eqT (XV a).fz (XV b).fz)=Op:=by subst h;show(!decide (a=a))=Op;rw[cB rfl];rfl
def oR{GT:List TV}{α:Type}{l:List α}{f:α->TV}{its:List TV}(h0:its=l.map f)(g:α->TV){Kn:List TV->Prop}(h:∀a∈l,Ug ρ tg (f a) λ ρ'=>wE FT GT e ρ' λ y=>y.nb=On/\y.fz=g a)(k:Kn (l.map g)):UD (λ t K'=>Ug ρ tg t λ ρ'=>wE FT GT e ρ' λ y=>(y.nb=On/\K' [y.fz])) its Kn:=h0 ▸ bZ f g l h k
def bv{ns:LI}{k:Nat}(h:k<ns.length):TQ (ns.map XV) (k:Int)=Om (.int (ns.getD k 0)):=jI (by rw[bh,aZ h,aO,aZ h];rfl)
def oS{n i:Nat}(h:((OE n).map f)[i]?=Om a):i<n/\a=f i:=by
 have hi:=(aX.mp h).1;rw[ah,eK] at hi;rw[bh,nZ hi] at h;exact⟨hi,(bw h).symm⟩
def sE{a b:Prop}{x y:Str}(h1:x=y->a)(h2:x≠y->b):if _L.eqT (XX x).fz (XX y).fz=On then a else b:=by
 by_cases h:x=y
 .rw[XT (show _L.eqT (XX x).fz (XX y).fz=On from cB h)];exact h1 h
 .rw[XR (by rw[show _L.eqT (XX x).fz (XX y).fz=decide (x=y) from rfl];simpa using h)];exact h2 h
def sN{a b:Prop}{x y:Int}(h1:x=y->a)(h2:x≠y->b):if _L.eqT (XV x).fz (XV y).fz=On then a else b:=by
 by_cases h:x=y
 .rw[XT (show _L.eqT (XV x).fz (XV y).fz=On from cB h)];exact h1 h
 .rw[XR (by rw[show _L.eqT (XV x).fz (XV y).fz=decide (x=y) from rfl];simpa using h)];exact h2 h
def s3{a b:Prop}{P:Prop} [Decidable P] (h1:P->a)(h2:¬P->b):if decide P=On then a else b:=by
 by_cases h:P
 .rw[XT (cB h)];exact h1 h
 .rw[XR (by simpa using h)];exact h2 h
theorem sK:∀(l m:LI),_L.eqTL (l.map XV) (m.map XV)=decide (l=m)
 |[],[]=>rfl
 |[],_::_=>rfl
 |_::_,[]=>rfl
 |x::xs,y::ys=>by
  rw[cJ,cJ,_L.eqTL_c,sK xs ys,show _L.eqT (XV x) (XV y)=decide (x=y) from rfl,<- Bool.decide_and];exact pZ.mpr (by rw[List.cons.injEq])
def my(l m:LI):_L.eqT (XW (l.map XV)) (XW (m.map XV))=decide (l=m):=sK l m
def Jq(l m:LI):_L.eqT (TV.lst (l.map XV)) (TV.lst (m.map XV))=decide (l=m):=sK l m
def Xw(ns:LI):∀x∈ns.map XV,_L.dp 98 x:=λ x hx=>by obtain⟨n,_,rfl⟩:=bq.mp hx;trivial
def UZ(ns:LI):_L.dp 99 (XW (ns.map XV)):=Xw ns
def dpL(ns:LI):_L.dp 99 (TV.lst (ns.map XV)):=Xw ns
def oT{ns:LI}{o:Int}(h0:0<=o)(h1:o<ns.length):TQ (ns.map XV) o=Om (.int (ns.getD o.toNat 0)):=by
 have z:=bv (ns:=ns) (k:=o.toNat) Z
 rwa [show((o.toNat:Nat):Int)=o by lia] at z
def yn(x:Int):bc x y=Int.fdiv x y:=by unfold bc;split<;>first|rfl|exact(mV _ Z).symm
def Jr(x:Int):aQ x y=Int.fmod x y:=by unfold aQ;split<;>first|rfl|exact(um _ Z).symm
def Vf:Stp->List TV
 |.inp ms=>[.str "in",tI ms]
 |.num n=>[.str "num",.int n]
 |.count ms k=>[.str "count",tI ms,.int k]
 |.each w a=>[.str "each",.str w,.int a]
 |.pair w a b=>[.str "pair",.str w,.int a,.int b]
 |.pick a b c=>[.str "pick",.int a,.int b,.int c]
 |.turn a os=>[.str "turn",.int a,tI os]
 |.flip a side=>[.str "flip",.int a,.int side]
 |.cut a side f m g=>[.str "cut",.int a,.int side,.int f,.int m,.int g]
 |.spread a side m=>[.str "spread",.int a,.int side,.int m]
 |.lay a ms=>[.str "lay",.int a,tI ms]
 |.join a b side=>[.str "join",.int a,.int b,.int side]
 |.fetch a b=>[.str "fetch",.int a,.int b]
 |.fold w a side=>[.str "fold",.str w,.int a,.int side]
 |.run w a side=>[.str "run",.str w,.int a,.int side]
def Tn(d:Stp):TV:=.tup (Vf d)
def Wo:∀x∈[XX "fold",XX "run"],Uo x=On:=ca
def ak{α:Type}{f:α->TV}{Ss:List α}{a:Nat}{A:α}(e:Ss[a]?=Om A):TQ (Ss.map f) (a:Int)=Om (f A):=jI (by rw[bh,e];rfl)
def UL{FT:List Tc}{f:Nat}{ts:List TV}{K:TV->Prop}(e:FT[f]?=Om S)(h:S (ts.map .fz) λ t=>LF t/\K t):∃P,(∃S,FT[f]?=Om S/\S (ts.map .fz) P)/\∀t,P t->(ts.all TV.nb=Op->LF t)/\K t:=⟨_,⟨S,e,h⟩,λ t k=>⟨λ _=>k.1,k.2⟩⟩
def UW{n:Nat}(h:n<=3):n<Ou:=aN Z
def WM(ns:LI):LF (tI ns):=by unfold tI;simp only[LF];intro x hx;obtain⟨n,_,rfl⟩:=bq.mp hx;simp[LF]
def Js{α:Type}{f:α->TV}{l:List α}{i:Nat}(h:(l.map f)[i]?=Om t):∃a,t=f a/\l[i]?=Om a:=by
 rw[bh] at h;obtain⟨a,ea,rfl⟩:=kt.mp h;exact⟨a,O,ea⟩
def LF2(S:LI):LF (.tup [tI S,.non]):=by
 simp only[LF];intro x hx;simp only[aB,bg,be] at hx
 rcases hx with rfl|rfl
 .exact WM S
 .simp[LF]
def Ju{cs:LI}{i:Nat}(h:((cs.map XV).mapIdx λ i x=>XW [.int (i:Nat),x])[i]?=Om t):∃c,t=.tup [.int (i:Nat),.int c]/\cs[i]?=Om c:=by
 rw[oa,bh] at h
 cases q:cs[i]? with
 |none=>rw[q] at h;cases h
 |some c=>rw[q] at h;cases h;exact⟨c,rfl,rfl⟩
def neT{a b:Int}(h:a≠b):(!_L.eqT (XV a).fz (XV b).fz)=On:=by rw[show _L.eqT (XV a).fz (XV b).fz=decide (a=b) from rfl];simp[h]
theorem gW{GT:List TV}{α:Type}(f g:α->TV)(p:α->Bool):∀(l:List α) {its:List TV}{Kn:List TV->Prop},its=l.map f->(∀a∈l,Ug ρ tg (f a) λ ρ'=>wE FT GT c ρ' λ x=>x=.bl (p a)/\(p a=On->wE FT GT e ρ' λ y=>y.nb=On/\y.fz=g a))->Kn ((l.filter p).map g)->UD (λ t K'=>Ug ρ tg t λ ρ'=>wE FT GT c ρ' λ x=>b1 x λ q=>if q=On then wE FT GT e ρ' λ y=>(y.nb=On/\K' [y.fz]) else K' []) its Kn
 |[],_,_,h0,_,k=>by subst h0;exact k
 |a::l,_,Kn,h0,h,k=>by
  subst h0;show Ug ρ tg (f a) λ ρ'=>wE FT GT c ρ' λ x=>b1 x λ q=>if q=On then wE FT GT e ρ' (λ y=>y.nb=On/\UD _ (l.map f) λ ys=>Kn ([y.fz]++ys)) else UD _ (l.map f) λ ys=>Kn ([]++ys);refine gN (λ ρ' q=>ax c (λ x ⟨e1,q⟩=>?_) q) (h a on);subst e1;have hr:=λ b hb=>h b (aV a hb);show if p a=On then _ else _;by_cases z:p a=On
  .rw[XT z];rw[xv z,cJ] at k;exact ax e (λ y ⟨n,w⟩=>⟨n,by rw[w];exact gW f g p l rfl hr k⟩) (q z)
  .rw[XR z];rw[xw z] at k;exact gW f g p l rfl hr k
def p62:kQ 2 62:=⟨ca,ca,ca⟩
def Jv{i:Int}(h0:0<=i)(h1:i<4):TQ [XV (-(2 ^ (63:Int).toNat)),XV (2 ^ (63:Int).toNat-1),XV (-1),XV (2 ^ (62:Int).toNat)] i=Om (.int ([(-9223372036854775808:Int),9223372036854775807,-1,4611686018427387904].getD i.toNat 0)):=by
 have:i=0\/i=1\/i=2\/i=3:=Z
 rcases this with rfl|rfl|rfl|rfl<;>rfl
def aG{n:Nat}(h:n<=1000):n<=Ou:=dN (aN h)
def Ui:0<=Ou:=aG ca
def Ua:1<=Ou:=aG ca
def Tv:2<=Ou:=aG ca
def TR:3<=Ou:=aG ca
def Uq:4<=Ou:=aG ca
def Va:6<=Ou:=aG ca
def Wp:7<=Ou:=aG ca
def Jw:12<=Ou:=aG ca
def oU(ns:LI)(a b:Option Int):ag (ns.map XV) a b=((ns.drop (_H.sIx ns.length 0 a)).take (_H.sIx ns.length ns.length b-_H.sIx ns.length 0 a)).map XV:=by
 unfold ag;rw[ah,Sk,Sj]
def cV(ns:LI)(k:Nat):ag (ns.map XV) Oo (Om (k:Int))=(ns.take k).map XV:=by
 rw[oU];simp only[_H.sIx,RT,Nat.sub_zero];rw[XR Z,Ox,Nat.min_def];split
 .rfl
 .rw[cj Z,cj Z]
def ce(ns:LI)(k:Nat):ag (ns.map XV) (Om (k:Int)) Oo=(ns.drop k).map XV:=by
 rw[oU];simp only[_H.sIx];rw[XR Z,Ox,Nat.min_def];split
 .rw[cj (by rw[bL];lia)]
 .rw[rK,yp Z];simp
def Jx(i:Nat):LI:=[[],[],[],[2],[2,3],[1,2,3],[1],[1],[1],[1],[1],[1,2],[1,2],[2],[2]].getD i []
def Jy:∀i,i<15->xQ i=Jx i:=by decide +kernel
def Vg(d:Stp)(S:LI):TV:=.tup [Tn d,tI S]
def cW{i j:Int}(h:0<j):aQ i j=i%j:=XT h
def yq{i j:Int}(h:0<j):bc i j=i/j:=XT h
def mz(x:Int){n:Nat}(h:0<n):∃k:Nat,aQ x (n:Int)=k/\k<n:=by
 have f0:=oV x (show(n:Int)≠0 by lia);have f1:=oW x (show(0:Int)<n by lia);exact⟨(x%(n:Int)).toNat,(cW Z).trans (lW f0).symm,Z⟩
def oX(x:Int){A:LI}(h:0<A.length):∃k:Nat,aQ x (((A.map XV).length:Nat):Int)=k/\k<A.length:=by rw[af];exact mz x h
def Jz(k:Int)(h0:0<=k)(h1:k<7):∃x:Int,TQ [XV 2,XV 3,XV 1,XV 4,XV 2,XV 3,XV 0] k=Om (.int x)/\0<=x:=by
 have:k=0\/k=1\/k=2\/k=3\/k=4\/k=5\/k=6:=Z
 rcases this with rfl|rfl|rfl|rfl|rfl|rfl|rfl<;>exact⟨_,rfl,ca⟩
def sM(ws:List Str){k:Int}(h0:0<=k)(h1:k<(ws.length:Int)):∃w,TQ (ws.map XX) k=Om (.str w)/\w∈ws:=by
 have l:k.toNat<ws.length:=Z;refine⟨ws[k.toNat],?_,jV l⟩;have z:=jI (xs:=ws.map XX) (j:=k.toNat) (v:=.str ws[k.toNat]) (by rw[bh,aZ l];rfl)
 rwa [lW h0] at z
def kD(ms:LI):_L.eqT (XW (ms.map XV)).fz (XW []).fz=decide (ms=[]):=my ms []
def sO(d:Stp):LF (Tn d):=by
 unfold Tn;simp only[LF];intro x hx
 cases d<;>simp only[Vf,aB,bg,be] at hx<;>(try rcases hx with rfl|rfl|rfl|rfl|rfl|rfl)<;>(try rcases hx with rfl|rfl|rfl|rfl|rfl)<;>(try rcases hx with rfl|rfl|rfl|rfl)<;>(try rcases hx with rfl|rfl|rfl)<;>(try rcases hx with rfl|rfl)<;>first|exact WM _|simp[LF]
def oY(d:Stp)(S:LI):LF (Vg d S):=by
 unfold Vg;simp only[LF];intro x hx;simp only[aB,bg,be] at hx
 rcases hx with rfl|rfl
 .exact sO d
 .exact WM S
def oZ(n:Nat):((OE (((n:Nat):Int)).toNat).map λ i:Nat=>XV (i:Nat))=(TC n).map XV:=by unfold TC;rw[bF];rfl
def Xx(h:cq A B):XW (if (A.map XV).length<(B.map XV).length then B.map XV else A.map XV)=tI (bM A B):=by
 rw[af,af];by_cases c:A.length<B.length
 .rw[XT c,xW c];rfl
 .rw[XR c,xV h Z];rfl
noncomputable def pB(Ss:LL)(A:LI)(k:Int):Bool:=@decide (cq A (Ss.getD k.toNat [])) (Classical.propDecidable _)
def pd:pB Ss A k=On ↔ cq A (Ss.getD k.toNat []):=by unfold pB;exact @decide_eq_true_iff _ (Classical.propDecidable _)
def yr{a b:Bool}{p:Prop}(h1:a=On ↔ p)(h2:b=On ↔ p):a=b:=by
 cases a<;>cases b<;>simp_all
def fj{Ss:LL}{a:Nat}(h:a<Ss.length):Ss[a]?=Om (Ss.getD a []):=by rw[aO,aZ h];rfl
def or3{G N:Prop}{e1 e2 e3:Bool}(g:(e1=On\/e2=On/\e3=On)->G)(n:e1=Op->N):if e1=On then G else True/\(if e2=On then (if e3=On then G else N) else N):=by
 cases e1
 .refine⟨pv,?_⟩;cases e2
  .exact n rfl
  .cases e3
   .exact n rfl
   .exact g (.inr ⟨O,O⟩)
 .exact g (.inl rfl)
def JA{A:LI}{k:Nat}:(ag (A.map XV) Oo (Om (k:Int))++[XV x])++ag (A.map XV) (Om (k:Int)) Oo=(bC A k x).map XV:=by rw[cV,ce];unfold bC;simp
def JB{A:LI}{k:Nat}(kl:k<A.length):(ag (A.map XV) Oo (Om (k:Int))++[XV x])++ag (A.map XV) (Om ((k:Int)+1)) Oo=(A.set k x).map XV:=by
 rw[show(k:Int)+1=((k+1:Nat):Int) by lia,cV,ce,<- II kl];simp
def jx{A:LI}(h:A.length<=6):(ag (A.map XV) a b).length<=6:=by
 rw[oU,af,aP,bL];lia
def pf{GT:List TV}(P:En->Prop)(h:wS FT GT (.ite c a b .nil) ρ P rt)(k:∀ρ',P ρ'->wS FT GT r ρ' nx rt):wS FT GT (.ite c a b r) ρ nx rt :=
 ax c (λ t q=>cP (λ _ q=>jX (λ q=>bB a (λ ρ' p=>k ρ' p) (λ _ h=>h) q) (λ q=>bB b (λ ρ' p=>k ρ' p) (λ _ h=>h) q) q) q) h
def yt{A:LI}(h:0<A.length):TQ (A.map XV) 0=Om (.int (A.getD 0 0)):=bv (k:=0) h
def flI(ns:LI):∀z∈ns.map XV,Uo z=On:=λ z hz=>by obtain⟨n,_,rfl⟩:=bq.mp hz;rfl
def JC(k:Int)(h0:0<=k)(h1:k<6):∃x:Int,TQ [XV 1,XV 2,XV 3,XV 2,XV 1,XV 8] k=Om (.int x)/\1<=x/\x<=8:=by
 have:k=0\/k=1\/k=2\/k=3\/k=4\/k=5:=Z
 rcases this with rfl|rfl|rfl|rfl|rfl|rfl<;>exact⟨_,rfl,ca,ca⟩
def dA(d:Stp):TQ (Vf d) 0=Om (.str (dh (Tz d))):=by cases d<;>rfl
def dZ{ds:List Stp}{a:Nat}(h:a<ds.length):ds[a]?=Om (ds.getD a (.num 0)):=by rw[aO,aZ h];rfl
abbrev aI(ns:LI):LI:=(UB ns ns.length).reverse
abbrev Uf(S:LI)(b:Int)(s:LI):TV:=.tup [tI S,.int b,tI s]
def mB(ns:LI):(aI ns).length=ns.length:=by simp[UB]
inductive Tr where
 |num (n:Int)|idx (s:Int) (ss:LI)|read (st s:Int) (ss:LI)
 |each (w:Str) (t:Tr)|pair (w:Str) (a b:Tr)|pick (a b c:Tr)|fold (w:Str) (n:Int) (t:Tr)
 |fetch (st s r n:Int) (ss:LI) (t:Tr)
noncomputable def Vh:Tr->List Tr
 |.each _ t=>[t]|.pair _ a b=>[a,b]|.pick a b c=>[a,b,c]|.fold _ _ t=>[t]|.fetch _ _ _ _ _ t=>[t]
 |_=>[]
noncomputable def WN:Tr->List (Int×LI)
 |.idx s ss=>[(s,ss)]|.read _ s ss=>[(s,ss)]|.fetch _ s _ _ ss _=>[(s,ss)]
 |_=>[]
noncomputable def TH:Tr->List (Int×LI)
 |.num _=>[]|.idx s ss=>[(s,ss)]|.read _ s ss=>[(s,ss)]
 |.each _ t=>TH t|.pair _ a b=>TH a++TH b|.pick a b c=>TH a++(TH b++TH c)|.fold _ _ t=>TH t|.fetch _ s _ _ ss t=>(s,ss)::TH t
noncomputable def To:Tr->Nat
 |.each _ t=>To t+1|.pair _ a b=>max (To a) (To b)+1|.pick a b c=>max (To a) (max (To b) (To c))+1|.fold _ _ t=>To t+1|.fetch _ _ _ _ _ t=>To t+1
 |_=>0
def Wq:Tr->List TV
 |.num n=>[.str "num",.int n]|.idx s ss=>[.str "index",.int s,tI ss]|.read st s ss=>[.str "read",.int st,.int s,tI ss]
 |.each w _=>[.str "each",.str w]|.pair w _ _=>[.str "pair",.str w]|.pick _ _ _=>[.str "pick"]|.fold w n _=>[.str "fold",.str w,.int n]
 |.fetch st s r n ss _=>[.str "fetch",.int st,.int s,.int r,.int n,tI ss]
def Ud:Tr->List TV
 |.num n=>[.str "num",.int n]|.idx s ss=>[.str "index",.int s,tI ss]|.read st s ss=>[.str "read",.int st,.int s,tI ss]
 |.each w t=>[.str "each",.str w,.tup (Ud t)]|.pair w a b=>[.str "pair",.str w,.tup (Ud a),.tup (Ud b)]|.pick a b c=>[.str "pick",.tup (Ud a),.tup (Ud b),.tup (Ud c)]|.fold w n t=>[.str "fold",.str w,.int n,.tup (Ud t)]
 |.fetch st s r n ss t=>[.str "fetch",.int st,.int s,.int r,.int n,tI ss,.tup (Ud t)]
abbrev Th(t:Tr):TV:=.tup (Ud t)
abbrev Gf:=Int->LI->Int×LI
def rm(g:Gf):Tr->Tr
 |.num n=>.num n|.idx s ss=>.idx (g s ss).1 (g s ss).2|.read st s ss=>.read st (g s ss).1 (g s ss).2
 |.each w t=>.each w (rm g t)|.pair w a b=>.pair w (rm g a) (rm g b)|.pick a b c=>.pick (rm g a) (rm g b) (rm g c)|.fold w n t=>.fold w n (rm g t)
 |.fetch st s r n ss t=>.fetch st (g s ss).1 r n (g s ss).2 (rm g t)
def JD(g:Gf)(t:Tr):XW (Wq (rm g t)++(Vh t).map λ b=>Th (rm g b))=Th (rm g t):=by cases t<;>rfl
def JE{t b:Tr}(h:b∈Vh t):To b<To t:=by
 cases t with
 |each w t|fold w n t|fetch _ _ _ _ _ t=>cases aH.mp h;exact iW _
 |pair w a c=>
  show To b<max (To a) (To c)+1
  rcases aB.mp h with rfl|h
  .lia
  .cases aH.mp h;lia
 |pick a c e=>
  show To b<max (To a) (max (To c) (To e))+1
  rcases aB.mp h with rfl|h
  .lia
  .rcases aB.mp h with rfl|h
   .lia
   .cases aH.mp h;lia
 |_=>cases h
def JF{t b:Tr}(h:b∈Vh t):∀p∈TH b,p∈TH t:=by
 intro p hp
 cases t with
 |each w t|fold w n t=>cases aH.mp h;exact hp
 |fetch _ _ _ _ _ t=>cases aH.mp h;exact aV _ hp
 |pair w a c=>
  rcases aB.mp h with rfl|h
  .exact fG _ hp
  .cases aH.mp h;exact bH _ hp
 |pick a c e=>
  rcases aB.mp h with rfl|h
  .exact fG _ hp
  .rcases aB.mp h with rfl|h
   .exact bH _ (fG _ hp)
   .cases aH.mp h;exact bH _ (bH _ hp)
 |_=>cases h
def JG{t:Tr}:∀p∈WN t,p∈TH t:=by
 intro p hp
 cases t with
 |idx s ss|read st s ss=>exact hp
 |fetch st s r n ss t=>cases aH.mp hp;exact bd
 |_=>cases hp
def Xy(Φ:Tc)(g:Gf)(l:List (Int×LI)):Prop:=∀p∈l,∀Q:TV->Prop,Q (.tup [.int (g p.1 p.2).1,tI (g p.1 p.2).2])->Φ [.int p.1,tI p.2] Q
def JI:∀x∈[XX "num",.str "index",.str "read"],Uo x=On:=ca
def ph:∀x∈[XX "each",.str "pair"],Uo x=On:=ca
def yv(t:Tr):(Vh t).length<=3:=by cases t<;>exact bW rfl
def JJ(t:Tr):(Wq t).length<=6:=by cases t<;>exact bW rfl
def dq(n m:Nat):Gf:=λ s ss=>(s,ss.take n++dz m++ss.drop n)
def cD(n k:Nat):Gf:=λ s ss=>(s,bC (ss.eraseIdx k) (n-1) (ss.getD k 0))
def isM(Φ:Tc)(S:LI)(h:Gf)(l:List (Int×LI)):Prop:=∀p∈l,∃S':LI,∀Q:TV->Prop,Q (Uf S' (h p.1 p.2).1 (h p.1 p.2).2)->Φ [Uf S p.1 p.2] Q
def fT(n:Nat)(t:Tr):Prop:=∀p∈TH t,n<=p.2.length/\p.2.length<=60
def gq(ns:LI):LF (tI ns):=by
 unfold tI;simp[LF]
def yw(m n:Nat):(Ow ((m:Int)-(n:Int)).toNat (Pd TV.fz [XV 0])).flatten=(dz (m-n)).map XV:=by
 rw[show((m:Int)-(n:Int)).toNat=m-n by lia];unfold dz;rw[sP];exact yz
def Vi:Stp->Prop
 |.turn ..=>True|.flip ..=>True|.cut ..=>True|.spread ..=>True
 |_=>False
def cE(A:LI):Stp->Gf
 |.turn _ os=>λ s ss=>(s,bS ss os++ss.drop A.length)
 |.flip _ k=>λ s ss=>(s+(A.getD k.toNat 0-1)*ss.getD k.toNat 0,ss.set k.toNat (-ss.getD k.toNat 0))
 |.cut _ k f _ g=>λ s ss=>(s+f*ss.getD k.toNat 0,ss.set k.toNat (ss.getD k.toNat 0*g))
 |.spread _ k _=>λ s ss=>(s,bC ss k.toNat 0)
 |_=>λ s ss=>(s,ss)
def gX(ds:List Stp)(k:Nat)(R:List Bool):List Bool:=if R.getD k Op=On then (ar (ds.getD k (.num 0))).foldl (λ R a=>R.set a On) R else R
def cr(ds:List Stp)(n:Nat):Nat->List Bool->List Bool
 |0,R=>R
 |i+1,R=>gX ds (n-1-i) (cr ds n i R)
def cF(n:Nat)(es:LI):List Bool:=es.foldl (λ R e=>R.set e.toNat On) (Ow n Op)
def aU(ds:List Stp)(es:LI):List Nat:=(OE ds.length).filter λ k=>(cr ds ds.length ds.length (cF ds.length es)).getD k Op
def JK(l:List Bool)(es:LI):(es.foldl (λ R e=>R.set e.toNat On) l).length=l.length:=by
 induction es generalizing l with
 |nil=>rfl
 |cons e es ih=>rw[ij,ih,dE]
def mC(n:Nat)(es:LI):(cF n es).length=n:=by unfold cF;rw[JK,dC]
def JL{es:LI}{i:Nat}(h:es[i]?=Om e):cF n (es.take (i+1))=(cF n (es.take i)).set e.toNat On:=by unfold cF;rw[jr,h,kz];rfl
def yA(l:List Bool)(as:List Nat):(as.foldl (λ R a=>R.set a On) l).length=l.length:=by
 induction as generalizing l with
 |nil=>rfl
 |cons e es ih=>rw[ij,ih,dE]
def JM(ds:List Stp)(k:Nat)(R:List Bool):(gX ds k R).length=R.length:=by
 unfold gX;split
 .exact yA _ _
 .rfl
theorem pi(ds:List Stp)(n:Nat)(R:List Bool):∀i,(cr ds n i R).length=R.length
 |0=>rfl
 |i+1=>by rw[cr,JM,pi ds n R i]
def JN{n:Nat}(h:n<=40):Pk ((n:Int)-1) (-1) (-1)=On/\OJ ((n:Int)-1) (-1) (-1)=(n:Int):=by
 have z:∀m:Fin 41,Pk ((m.val:Int)-1) (-1) (-1)=On/\OJ ((m.val:Int)-1) (-1) (-1)=(m.val:Int):=by decide +kernel
 exact z ⟨n,Z⟩
def Xz{R:List Bool}{k:Nat}(h:k<R.length):TQ (R.map TV.bl) (k:Int)=Om (.bl (R.getD k Op)):=jI (by rw[bh,aZ h,aO,aZ h];rfl)
theorem sQ:∀(as:List Nat) (R:List Bool) (j:Nat),(as.foldl (λ R a=>R.set a On) R).getD j Op=On ↔ (j∈as/\j<R.length)\/R.getD j Op=On
 |[],R,j=>by simp
 |a::as,R,j=>by
  rw[ij,sQ as];rw[dE,aO,aO,cR];by_cases c:a=j
  .subst c;rw[XT rfl];by_cases l:a<R.length
   .simp[l]
   .simp[l]
  .rw[XR c];have:¬j=a:=λ z=>c z.symm;simp[this]
def JO{n:Nat}{es:LI}(he:∀e∈es,0<=e/\e<(n:Int))(j:Nat):(cF n es).getD j Op=On ↔ (j:Int)∈es:=by
 have e:cF n es=(es.map Int.toNat).foldl (λ R a=>R.set a On) (Ow n Op):=by unfold cF;rw[List.foldl_map]
 rw[e,sQ,dC];have z:¬(Ow n Op).getD j Op=On:=by rw[aO,fH];split<;>simp
 constructor
 .rintro(⟨h,_⟩|h)
  .obtain⟨x,hx,rfl⟩:=bq.mp h;rw[lW (he x hx).1];exact hx
  .exact XU h z
 .intro h;exact .inl ⟨bq.mpr ⟨_,h,Ox j⟩,by have:=(he _ h).2;lia⟩
section
variable {ds:List Stp}{R:List Bool}{n:Nat}
def sR(hl:R.length=n)(i j:Nat):(cr ds n (i+1) R).getD j Op=On ↔ (cr ds n i R).getD j Op=On\/((cr ds n i R).getD (n-1-i) Op=On/\j∈ar (ds.getD (n-1-i) (.num 0))/\j<n):=by
 show(gX ds (n-1-i) (cr ds n i R)).getD j Op=On ↔ _;unfold gX;split
 .rename_i c;rw[sQ,pi,hl];constructor
  .rintro(h|h)
   .exact .inr ⟨c,h⟩
   .exact .inl h
  .rintro(h|h)
   .exact .inr h
   .exact .inl h.2
 .rename_i c;constructor
  .exact .inl
  .rintro(h|h)
   .exact h
   .exact XU h.1 c
theorem sU(hl:R.length=n):∀m,(cr ds n i R).getD j Op=On->(cr ds n (i+m) R).getD j Op=On
 |0,h=>h
 |m+1,h=>(sR hl (i+m) j).mpr (.inl (sU hl m h))
theorem yB(hl:R.length=n)(ha:∀(k:Nat) (e:Stp),ds[k]?=Om e->∀a∈ar e,a<k)(dl:ds.length=n){k:Nat}(hk:k<n):∀m,n-1-k+m<=n->(cr ds n (n-1-k+m) R).getD k Op=On->(cr ds n (n-1-k) R).getD k Op=On
 |0,_,h=>h
 |m+1,hm,h=>by
  rcases(sR hl (n-1-k+m) k).mp h with h|⟨_,h,_⟩
  .exact yB hl ha dl hk m Z h
  .have lt:n-1-(n-1-k+m)<ds.length:=by lia
   have:=ha _ _ (dZ lt) k h;lia
end
def mem_reach{ds:List Stp}{es:LI}{k:Nat}:k∈aU ds es ↔ k<ds.length/\(cr ds ds.length ds.length (cF ds.length es)).getD k Op=On:=by
 unfold aU;rw[fV,jz]
def yC{ds:List Stp}{es:LI}(he:∀e∈es,0<=e/\e<(ds.length:Int)){k:Nat}(h:(k:Int)∈es):k∈aU ds es:=by
 refine mem_reach.mpr ⟨by have:=(he _ h).2;lia,?_⟩;have:=sU (ds:=ds) (mC ds.length es) ds.length (i:=0) ((JO he k).mpr h)
 rwa [Nat.zero_add] at this
def JP{ds:List Stp}{es:LI}(ha:∀(k:Nat) (e:Stp),ds[k]?=Om e->∀a∈ar e,a<k){k a:Nat}(h:k∈aU ds es)(m:a∈ar (ds.getD k (.num 0))):a∈aU ds es:=by
 obtain⟨kl,hk⟩:=mem_reach.mp h;have al:=ha k _ (dZ kl) a m;have hl:=mC ds.length es;have b:=yB hl ha rfl kl (k+1) Z (by rw[show ds.length-1-k+(k+1)=ds.length by lia];exact hk);refine mem_reach.mpr ⟨Z,?_⟩;have s:=(sR hl (ds.length-1-k) a).mpr (.inr ⟨by rw[show ds.length-1-(ds.length-1-k)=k by lia];exact b,by rw[show ds.length-1-(ds.length-1-k)=k by lia];exact m,Z⟩);have t:=sU hl k s
 rwa [show ds.length-1-k+1+k=ds.length by lia] at t
def pk{mo:Int}(gl:eJ mo ds Ss):∀(k:Nat) (e:Stp),ds[k]?=Om e->∀a∈ar e,a<k:=λ k e he a ha=>by
 have kl:=(aX.mp he).1;have eS:=aZ (show k<Ss.length by rw[<- gl.1];exact kl);have:=yk (gl.2.2 k e _ he eS) a ha;rw[aP] at this;lia
def yD{mo:Int}(gl:eJ mo ds Ss):∀d∈ds,∀a∈ar d,a<ds.length:=λ d hd a ha=>by
 obtain⟨k,ek⟩:=lZ hd;have:=pk gl k d ek a ha;have:=(aX.mp ek).1;lia
noncomputable def Ur(u:Nat)(as:List Nat)(U:List (LL)):List (LL):=as.zipIdx.foldl (λ U q=>U.set q.1 (U.getD q.1 []++[[(u:Int),(q.2:Int)]])) U
def UM(ds:List Stp)(live:List Nat):List (LL):=live.foldl (λ U u=>Ur u (ar (ds.getD u (.num 0))) U) (Ow ds.length [])
def ef(ds:List Stp)(os:LI):List (LL):=UM ds (aU ds os)
def mD{u j a:Nat}{as:List Nat}(h:as[j]?=Om a):Ur u (as.take (j+1)) U=(Ur u (as.take j) U).set a ((Ur u (as.take j) U).getD a []++[[(u:Int),(j:Int)]]):=by
 have l:(as.take j).length=j:=by rw[aP];have:=(aX.mp h).1;lia
 unfold Ur;rw[jr,h,List.zipIdx_append,kz,l];show QP _ _ [(a,0+j)]=_;rw[Nat.zero_add];rfl
theorem yE{u:Nat}:∀(l:List (Nat×Nat)) (U:List (LL)),(l.foldl (λ U q=>U.set q.1 (U.getD q.1 []++[[(u:Int),(q.2:Int)]])) U).length=U.length
 |[],_=>rfl
 |q::l,U=>by rw[ij,yE l,dE]
def sV(u:Nat)(as:List Nat)(U:List (LL)):(Ur u as U).length=U.length:=yE _ _
def sW(ds:List Stp)(live:List Nat):(UM ds live).length=ds.length:=by
 have z:∀(live:List Nat) (U:List (LL)),(live.foldl (λ U u=>Ur u (ar (ds.getD u (.num 0))) U) U).length=U.length:=λ live=>by
  induction live with
  |nil=>intro U;rfl
  |cons u l ih=>intro U;rw[ij,ih,sV]
 unfold UM;rw[z,dC]
def pq{live:List Nat}{i u:Nat}(h:live[i]?=Om u):UM ds (live.take (i+1))=Ur u (ar (ds.getD u (.num 0))) (UM ds (live.take i)):=by
 unfold UM;rw[jr,h,kz];rfl
def VO(n:Nat)(U:List (LL)):Prop:=∀l∈U,l.length<=n
def JQ{x:LI}(h:VO n U):VO (n+1) (U.set a (U.getD a []++[x])):=λ l hl=>by
 rcases mx hl with hl|rfl
 .have:=h l hl;lia
 .rw[aF];by_cases c:a<U.length
  .have:=h (U.getD a []) (by rw[aO,aZ c];exact jV c);show _+1<=_;lia
  .rw[aO,jf Z];show 0+1<=n+1;lia
theorem pr{as:List Nat}(h:VO n U):∀j,VO (n+j) (Ur u (as.take j) U)
 |0=>by rw[kE];exact h
 |j+1=>by
  cases e:as[j]? with
  |none=>
   rw[cj (by have:=fk.mp e;lia),<- cj (l:=as) (i:=j) (by have:=fk.mp e;lia)];exact λ l hl=>by have:=pr (u:=u) (as:=as) h j l hl;lia
  |some a=>rw[mD e];exact JQ (pr h j)
def yF(d:Stp):(ar d).length<=3:=by cases d<;>exact bW rfl
theorem px{live:List Nat}:∀i,VO (3*i) (UM ds (live.take i))
 |0=>by rw[kE];intro l hl;rw[(List.mem_replicate.mp hl).2];exact ao _
 |i+1=>by
  cases e:live[i]? with
  |none=>
   rw[cj (by have:=fk.mp e;lia),<- cj (l:=live) (i:=i) (by have:=fk.mp e;lia)];exact λ l hl=>by have:=px (ds:=ds) (live:=live) i l hl;lia
  |some u=>
   rw[pq e];have z:=pr (u:=u) (as:=ar (ds.getD u (.num 0))) (px (ds:=ds) (live:=live) i) (ar (ds.getD u (.num 0))).length;rw[bQ] at z;have:=yF (ds.getD u (.num 0));exact λ l hl=>by have:=z l hl;lia
def yG(ds:List Stp)(es:LI):(aU ds es).length<=ds.length:=by unfold aU;exact cG (kF _ _) (by rw[eK];exact ao _)
def JR{l:List Nat}{i:Nat}(h:(l.map λ k:Nat=>XV (k:Nat))[i]?=Om t):∃k,t=.int (k:Nat)/\l[i]?=Om k:=by
 rw[bh] at h;obtain⟨k,e,q⟩:=kt.mp h;exact⟨k,q.symm,e⟩
noncomputable def gt(Ts:List (Option Tr))(a:Nat):Tr:=(Ts.getD a Oo).getD (.num 0)
def TJ:Option Tr->TV
 |some t=>Th t
 |none=>.non
def kG:Tr->Int
 |.read st _ _=>st
 |_=>0
noncomputable abbrev Tg(Ss:LL)(a:Nat):LI:=Ss.getD a []
def bN(Ts:List (Option Tr))(Ss:LL)(S:LI)(a:Nat):Tr:=rm (dq (Tg Ss a).length (S.length-(Tg Ss a).length)) (gt Ts a)
def kH(r:Tr)(A B:LI)(row:Tr):Tr:=match r with
 |.read st s ss=>.fetch st s (ss.getD 0 0) (A.getD 0 0) (dz B.length++ss.drop 1) row
 |_=>.num 0
def cu(Ts:List (Option Tr))(Ss:LL)(S:LI):Stp->Option Tr
 |.num n=>Om (.num n)
 |.count _ k=>Om (.idx 0 ((OE S.length).map λ j:Nat=>if (j:Int)=k then 1 else 0))
 |.each w a=>Om (.each w (bN Ts Ss S a))
 |.pair w a b=>Om (.pair w (bN Ts Ss S a) (bN Ts Ss S b))
 |.pick a b c=>Om (.pick (bN Ts Ss S a) (bN Ts Ss S b) (bN Ts Ss S c))
 |.lay a _=>Om (.read (kG (gt Ts a)) 0 (aI S))
 |.fetch a b=>Om (kH (gt Ts a) (Tg Ss a) (Tg Ss b) (bN Ts Ss S b))
 |.fold w a k=>Om (.fold w ((Tg Ss a).getD k.toNat 0) (rm (cD (Tg Ss a).length k.toNat) (gt Ts a)))
 |.turn a os=>Om (rm (cE (Tg Ss a) (.turn a os)) (gt Ts a))
 |.flip a k=>Om (rm (cE (Tg Ss a) (.flip a k)) (gt Ts a))
 |.cut a k f m g=>Om (rm (cE (Tg Ss a) (.cut a k f m g)) (gt Ts a))
 |.spread a k m=>Om (rm (cE (Tg Ss a) (.spread a k m)) (gt Ts a))
 |_=>Oo
def iL(t:Tr):Prop:=∃st s ss,t=.read st s ss
def Vj(n:Nat)(S:LI)(t:Tr):Prop:=To t<=n/\∀p∈TH t,S.length<=p.2.length/\p.2.length<=S.length+To t
def py(Ts:List (Option Tr))(Ss:LL)(d:Stp):Prop:=(∀a∈ar d,∃t A,Ts[a]?=Om (Om t)/\Ss[a]?=Om A/\Vj 40 A t)/\(∀a ms,d=.lay a ms->iL (gt Ts a))/\∀a b,d=.fetch a b->iL (gt Ts a)
def bG{Ts:List (Option Tr)}{a:Nat}(e:Ts[a]?=Om (Om t)):gt Ts a=t:=by unfold gt;rw[aO,e];rfl
def Ul{Ss:LL}{a:Nat}(e:Ss[a]?=Om A):Tg Ss a=A:=by unfold Tg;rw[aO,e];rfl
def gu(h:Vj n A t)(a6:A.length<=6)(n4:n<=40):To t<=41/\fT A.length t:=⟨by have:=h.1;lia,λ p hp=>by have:=h.2 p hp;have:=h.1;lia⟩
def yH(m:Vi d):∃a,ar d=[a]/\_L.eqT (.str (dh (Tz d))) (.str "num")=Op/\_L.eqT (.str (dh (Tz d))) (.str "count")=Op/\_L.inT (.str (dh (Tz d))) [.str "each",.str "pair",.str "pick"]=Op/\_L.inT (.str (dh (Tz d))) [.str "turn",.str "flip",.str "cut",.str "spread"]=On:=by
 cases d<;>first|exact m.elim|exact⟨_,rfl,rfl,rfl,rfl,rfl⟩
noncomputable def yI:Stp->Bool
 |.each .. | .pair .. | .pick ..=>On
 |_=>Op
def JT(m:yI d=On):(Tz d=Tz (.each "" 0)\/Tz d=Tz (.pair "" 0 0)\/Tz d=Tz (.pick 0 0 0))/\_L.eqT (.str (dh (Tz d))) (.str "num")=Op/\_L.eqT (.str (dh (Tz d))) (.str "count")=Op/\_L.inT (.str (dh (Tz d))) [.str "each",.str "pair",.str "pick"]=On/\((ar d).length<=3/\(ag (Vf d) Oo (Om (((Vf d).length:Int)-((((ar d).map λ a:Nat=>(a:Int)).map XV).length:Nat)))).length+((ar d).map λ a=>Th (bN Ts Ss S a)).length<=1000)/\TJ (cu Ts Ss S d)=.tup (ag (Vf d) Oo (Om (((Vf d).length:Int)-((((ar d).map λ a:Nat=>(a:Int)).map XV).length:Nat)))++(ar d).map λ a=>Th (bN Ts Ss S a)):=by
 cases d with
 |each=>exact⟨.inl rfl,rfl,rfl,rfl,⟨bW rfl,bW rfl⟩,rfl⟩
 |pair=>exact⟨.inr (.inl rfl),rfl,rfl,rfl,⟨bW rfl,bW rfl⟩,rfl⟩
 |pick=>exact⟨.inr (.inr rfl),rfl,rfl,rfl,⟨bW rfl,bW rfl⟩,rfl⟩
 |_=>cases m
def yJ(m:Vi d):cu Ts Ss S d=Om (rm (cE (Tg Ss ((ar d).headD 0)) d) (gt Ts ((ar d).headD 0))):=by cases d<;>first|rfl|exact m.elim
def kI:∀x∈[XX "each",.str "pair",.str "pick"],Uo x=On:=ca
def mE:∀x∈[XX "turn",.str "flip",.str "cut",.str "spread"],Uo x=On:=ca
theorem fD:∀t:Tr,LF (Th t)
 |.num n=>by simp[Th,Ud,LF]
 |.idx s ss=>by simp[Th,Ud,LF];exact gq ss
 |.read st s ss=>by simp[Th,Ud,LF];exact gq ss
 |.each w t=>by have h:=fD t;simp[Th,Ud,LF] at *;exact h
 |.pair w a b=>by have h1:=fD a;have h2:=fD b;simp[Th,Ud,LF] at *;exact⟨h1,h2⟩
 |.pick a b c=>by have h1:=fD a;have h2:=fD b;have h3:=fD c;simp[Th,Ud,LF] at *;exact⟨h1,h2,h3⟩
 |.fold w n t=>by have h:=fD t;simp[Th,Ud,LF] at *;exact h
 |.fetch st s r n ss t=>by have h:=fD t;have h2:=gq ss;simp[Th,Ud,LF] at *;exact⟨h2,h⟩
def sX(o:Option Tr):LF (TJ o):=by cases o with|none=>simp[TJ,LF]|some t=>exact fD t
def yK(m:Nat):(Ow ((m:Nat):Int).toNat (Pd TV.fz [XV 0])).flatten=(dz m).map XV:=by
 rw[Ox];unfold dz;rw[sP];exact yz
def sY(ok:Uh Ss S d)(h:Tz d=Tz (.each "" 0)\/Tz d=Tz (.pair "" 0 0)\/Tz d=Tz (.pick 0 0 0)):∀a∈ar d,∃A,Ss[a]?=Om A/\S.take A.length=A:=by
 have tw:∀ {A B C:LI},B.take A.length=A->C.take B.length=B->C.take A.length=A:=λ {A B C} h h2=>by
  have l:A.length<=B.length:=by rw[<- h,aP];lia
  have e:(C.take B.length).take A.length=C.take A.length:=by rw[List.take_take,eI l]
  rw[<- e,h2,h]
 cases d with
 |each w a=>intro b hb;cases aH.mp hb;exact⟨S,ok.1,bQ⟩
 |pair w a b=>
  obtain⟨A,B,ea,eb,_,po,rfl⟩:=ok;have:=su po;intro c hc
  rcases aB.mp hc with rfl|hc
  .exact⟨A,ea,this.1⟩
  .cases aH.mp hc;exact⟨B,eb,this.2⟩
 |pick a b c=>
  obtain⟨A,B,C,ea,eb,ec,po,po2,rfl⟩:=ok;have h1:=su po;have h2:=su po2;intro c' hc
  rcases aB.mp hc with rfl|hc
  .exact⟨A,ea,tw h1.1 h2.1⟩
  .rcases aB.mp hc with rfl|hc
   .exact⟨B,eb,tw h1.2 h2.1⟩
   .cases aH.mp hc;exact⟨C,ec,h2.2⟩
 |_=>rcases h with h|h|h<;>cases h
noncomputable def JU(d:Stp)(p:Int):Bool:=match d with
 |.pair ..=>On|.pick ..=>On|.fetch ..=>decide (p=1)
 |_=>Op
def pz(ds:List Stp)(Ss:LL)(k u:Nat)(p:Int):Bool:=JU (ds.getD u (.num 0)) p&&decide (((Tg Ss k).length:Int)<((Tg Ss u).length:Int))
def gD{ds:List Stp}{a:Nat}(e:ds[a]?=Om d):ds.getD a (.num 0)=d:=by rw[aO,e];rfl
def sZ:∀x∈[XX "pair",.str "pick"],Uo x=On:=ca
def yL:∀x∈[XX "run",.str "join"],Uo x=On:=ca
def Vq(ds:List Stp)(x:LI):Str:=dh (Tz (ds.getD (x.getD 0 0).toNat (.num 0)))
abbrev Wr(ds:List Stp)(us:LL):List TV:=us.map λ x=>.str (Vq ds x)
def mF(ds:List Stp)(x:LI):Bool:=if _L.eqT (XX (Vq ds x)) (.str "fetch")=On then _L.eqT (XV (x.getD 1 0)) (.int 0) else Op
noncomputable def VP:Tr->Str
 |.num _=> "num" |.idx _ _=> "index" |.read _ _ _=> "read" |.each _ _=> "each" |.pair _ _ _=> "pair" |.pick _ _ _=> "pick" |.fold _ _ _=> "fold" |.fetch _ _ _ _ _ _=> "fetch"
noncomputable def tj:Tr->Bool
 |.num _=>On|.idx _ _=>On|.read _ _ _=>On|_=>Op
def trK(t:Tr):TQ (Ud t) 0=Om (.str (VP t)):=by cases t<;>rfl
def tm(ds:List Stp)(Ss:LL)(k:Nat)(t:Tr)(us:LL):Bool:=if tj t=On then Op else if decide (1<(us.length:Int))=On then On else if inT (.str "spread") (Wr ds us)=On then On else (us.map λ x=>pz ds Ss k (x.getD 0 0).toNat (x.getD 1 0)).any id
def mG(ds:List Stp)(Ss:LL)(os:LI)(k:Nat)(t:Tr)(us:LL):Bool:=if inT (.int (k:Nat)) (os.map .int)=On then On else if inT (.str "lay") (Wr ds us)=On then On else if (if (!_L.eqT (XX (VP t)) (.str "read"))=On then (us.map (mF ds)).any id else Op)=On then On else tm ds Ss k t us
def kJ(ds:List Stp)(Ss:LL)(os:LI)(k:Nat)(d:Stp)(o:Option Tr)(us:LL):Bool:=match d with
 |.lay ..=>Op|.run ..=>On|.join ..=>On
 |_=>mG ds Ss os k (o.getD (.num 0)) us
def iM:Stp->Prop
 |.inp ..=>True|.run ..=>True|.join ..=>True
 |_=>False
noncomputable def yM:Stp->Bool
 |.lay .. | .run .. | .join .. | .inp _=>On
 |_=>Op
def JV(h:yM d=Op):¬iM d/\_L.eqT (.str (dh (Tz d))) (.str "lay")=Op/\_L.inT (.str (dh (Tz d))) [.str "run",.str "join"]=Op/\∀ds Ss os k t us,kJ ds Ss os k d (Om t) us=mG ds Ss os k t us:=by
 cases d<;>first|exact Oq h|exact⟨λ z=>z,rfl,rfl,λ _ _ _ _ _ _=>rfl⟩
def yN{α:Type}(f:α->Bool)(l:List α):(l.map λ x=>TV.bl (f x))=(l.map f).map TV.bl:=by rw[bF];rfl
def XA(ds:List Stp)(us:LL):∀x∈Wr ds us,Uo x=On:=λ x hx=>by obtain⟨n,_,rfl⟩:=bq.mp hx;rfl
theorem dB(g:Gf):∀t:Tr,To (rm g t)=To t
 |.num _=>rfl|.idx _ _=>rfl|.read _ _ _=>rfl
 |.each _ t=>by show To (rm g t)+1=_;rw[dB g t];rfl
 |.pair _ a b=>by show max (To (rm g a)) (To (rm g b))+1=_;rw[dB g a,dB g b];rfl
 |.pick a b c=>by show max (To (rm g a)) (max (To (rm g b)) (To (rm g c)))+1=_;rw[dB g a,dB g b,dB g c];rfl
 |.fold _ _ t=>by show To (rm g t)+1=_;rw[dB g t];rfl
 |.fetch _ _ _ _ _ t=>by show To (rm g t)+1=_;rw[dB g t];rfl
theorem gY(g:Gf):∀t:Tr,TH (rm g t)=(TH t).map λ p=>g p.1 p.2
 |.num _=>rfl|.idx _ _=>rfl|.read _ _ _=>rfl
 |.each _ t=>gY g t
 |.pair _ a b=>by show TH (rm g a)++TH (rm g b)=_;rw[gY g a,gY g b,<- aL];rfl
 |.pick a b c=>by show TH (rm g a)++(TH (rm g b)++TH (rm g c))=_;rw[gY g a,gY g b,gY g c,<- aL,<- aL];rfl
 |.fold _ _ t=>gY g t
 |.fetch _ s _ _ ss t=>by show(g s ss)::TH (rm g t)=_;rw[gY g t];rfl
def Vk(S:LI)(m:Nat)(t:Tr):Prop:=∀p∈TH t,S.length<=p.2.length/\p.2.length<=S.length+m
def tq{A S:LI}{m m':Nat}{g:Gf}(h:Vk A m t)(hg:∀s ss,A.length<=ss.length->ss.length<=A.length+m->S.length<=(g s ss).2.length/\(g s ss).2.length<=S.length+m'):Vk S m' (rm g t):=λ p hp=>by
 rw[gY] at hp;obtain⟨q,hq,rfl⟩:=bq.mp hp;exact hg q.1 q.2 (h q hq).1 (h q hq).2
def JW{n m:Nat}{ss:LI}(h:n<=ss.length):(dq n m s ss).2.length=ss.length+m:=by
 show(ss.take n++dz m++ss.drop n).length=_;rw[aF,aF,aP,bL,kA];lia
def yO{A S:LI}(h:Vk A m t)(hp:S.take A.length=A):Vk S m (rm (dq A.length (S.length-A.length)) t):=by
 have le:A.length<=S.length:=by rw[<- hp,aP];lia
 exact tq h λ s ss h1 h2=>by rw[JW h1];lia
def kK{m m':Nat}(h:Vk S m t)(l:m<=m'):Vk S m' t:=λ p hp=>by have:=h p hp;lia
def tu{S:LI}{m:Nat}{a b:List (Int×LI)}(h1:∀p∈a,S.length<=p.2.length/\p.2.length<=S.length+m)(h2:∀p∈b,S.length<=p.2.length/\p.2.length<=S.length+m):∀p∈a++b,S.length<=p.2.length/\p.2.length<=S.length+m:=λ p hp=>(bX.mp hp).elim (h1 p) (h2 p)
def tz(l:LI)(k:Nat)(m:Int):(bC l k m).length=l.length+1:=xS l k m
def yP{k:Nat}{Ts:List (Option Tr)}(ok:Uh Ss S d)(hA:∀a∈ar d,a<k/\∃u A,Ts[a]?=Om (Om u)/\Ss[a]?=Om A/\Vj a A u)(hf:∀a b,d=.fetch a b->iL (gt Ts a))(e:cu Ts Ss S d=Om t):Vj k S t:=by
 have led:(Tz d=Tz (.each "" 0)\/Tz d=Tz (.pair "" 0 0)\/Tz d=Tz (.pick 0 0 0))->∀a∈ar d,To (bN Ts Ss S a)<k/\Vk S (To (bN Ts Ss S a)) (bN Ts Ss S a):=λ h a ha=>by
  obtain⟨al,u,A,eu,eA,wf⟩:=hA a ha;obtain⟨A',eA',hp⟩:=sY ok h a ha;cases eA.symm.trans eA';unfold bN;rw[bG eu,Ul eA,dB];have:=wf.1;exact⟨Z,yO wf.2 hp⟩
 rcases Classical.em (Vi d) with m|m
 .obtain⟨a,ea,_⟩:=yH m;obtain⟨al,u,A,eu,eA,wf⟩:=hA a (by rw[ea];exact bd);have e:=(yJ m).symm.trans e;rw[ea] at e;have e:Om (rm (cE (Tg Ss a) d) (gt Ts a))=Om t:=e;rw[bG eu,Ul eA] at e;cases e;refine⟨by rw[dB];have:=wf.1;lia,?_⟩;rw[dB];refine tq wf.2 λ s ss h1 h2=>?_
  cases d with
  |turn b os=>
   obtain⟨A',eA',tk,rfl⟩:=ok;cases (show[b]=[a] from ea);cases eA.symm.trans eA';have ol:=sJ tk;show(bS A os).length<=(bS ss os++ss.drop A.length).length/\(bS ss os++ss.drop A.length).length<=(bS A os).length+To u;unfold bS;rw[aF,ah,ah,bL];lia
  |flip b s'=>
   obtain⟨eA',_⟩:=ok;cases (show[b]=[a] from ea);cases eA.symm.trans eA';show _<=(ss.set _ _).length/\(ss.set _ _).length<=_;rw[dE];exact⟨h1,h2⟩
  |cut b s' f m' g=>
   obtain⟨A',eA',_,_,_,rfl⟩:=ok;cases (show[b]=[a] from ea);cases eA.symm.trans eA';show _<=(ss.set _ _).length/\(ss.set _ _).length<=_;rw[dE,dE];exact⟨h1,h2⟩
  |spread b s' m'=>
   obtain⟨A',eA',no,_,_,_,rfl⟩:=ok;cases (show[b]=[a] from ea);cases eA.symm.trans eA';show _<=(bC ss _ 0).length/\(bC ss _ 0).length<=_;rw[tz,tz];lia
  |_=>exact m.elim
 cases d with
 |num n=>cases e;exact⟨bP _,λ p hp=>nomatch hp⟩
 |count ms c=>
  cases e;refine⟨bP _,λ p hp=>?_⟩;cases aH.mp hp;show S.length<=(Pd _ _).length/\(Pd _ _).length<=S.length+0;rw[ah,eK];lia
 |each w a=>
  cases e;obtain⟨h1,h2⟩:=led (.inl rfl) a (by simp[ar]);exact⟨h1,kK h2 (Nat.le_succ _)⟩
 |pair w a b=>
  cases e;obtain⟨h1,h2⟩:=led (.inr (.inl rfl)) a (by simp[ar]);obtain⟨h3,h4⟩:=led (.inr (.inl rfl)) b (by simp[ar]);refine⟨by show max _ _+1<=k;lia,?_⟩;show ∀p∈TH _++TH _,_;exact tu (kK h2 (by show _<=max _ _+1;lia)) (kK h4 (by show _<=max _ _+1;lia))
 |pick a b c=>
  cases e;obtain⟨h1,h2⟩:=led (.inr (.inr rfl)) a (by simp[ar]);obtain⟨h3,h4⟩:=led (.inr (.inr rfl)) b (by simp[ar]);obtain⟨h5,h6⟩:=led (.inr (.inr rfl)) c (by simp[ar]);refine⟨by show max _ (max _ _)+1<=k;lia,?_⟩;show ∀p∈TH _++(TH _++TH _),_;exact tu (kK h2 (by show _<=max _ (max _ _)+1;lia)) (tu (kK h4 (by show _<=max _ (max _ _)+1;lia)) (kK h6 (by show _<=max _ (max _ _)+1;lia)))
 |lay a ms=>
  cases e;refine⟨bP _,λ p hp=>?_⟩;cases aH.mp hp;show S.length<=(aI S).length/\(aI S).length<=S.length+0;rw[mB];lia
 |fetch a b=>
  obtain⟨al,u,A,eu,eA,wf⟩:=hA a (by simp[ar]);obtain⟨bl,v,B,ev,eB,wv⟩:=hA b (by simp[ar]);obtain⟨n,r,B',ea,n0,eb,nb,rfl⟩:=ok;cases eA.symm.trans ea;cases eB.symm.trans eb;obtain⟨st,s,ss,er⟩:=hf a b rfl;have e:Om (kH (gt Ts a) (Tg Ss a) (Tg Ss b) (bN Ts Ss (B++r) b))=Om t:=e;cases e;rw[bG eu] at er ⊢;subst er;have lp:(n::r).length<=ss.length/\ss.length<=(n::r).length+0:=wf.2 (s,ss) bd;rw[OQ] at lp;unfold bN;rw[bG ev,Ul eB,Ul eA];have K:=yO (S:=B++r) wv.2 s0g;refine⟨by show To (rm _ v)+1<=k;rw[dB];have:=wv.1;lia,λ p hp=>?_⟩
  rcases aB.mp hp with rfl|hp
  .show(B++r).length<=(dz B.length++ss.drop 1).length/\(dz B.length++ss.drop 1).length<=(B++r).length+_;rw[aF,aF,kA,bL];lia
  .have:=K p hp;show _/\_<=_+(To (rm _ v)+1);rw[dB];lia
 |fold w a side=>
  obtain⟨al,u,A,eu,eA,wf⟩:=hA a (by simp[ar]);obtain⟨A',ea,hw,no,rfl⟩:=ok;cases eA.symm.trans ea;obtain⟨c,rfl,cl⟩:=dI no;have e:Om (Tr.fold w ((Tg Ss a).getD c 0) (rm (cD (Tg Ss a).length c) (gt Ts a)))=Om t:=e;cases e;rw[bG eu,Ul eA];refine⟨by show To (rm _ u)+1<=k;rw[dB];have:=wf.1;lia,?_⟩;show Vk (A.eraseIdx c) (To (rm _ u)+1) (rm (cD A.length c) u);rw[dB];refine tq wf.2 λ s ss h1 h2=>?_;show(A.eraseIdx c).length<=(bC (ss.eraseIdx c) (A.length-1) (ss.getD c 0)).length/\(bC (ss.eraseIdx c) (A.length-1) (ss.getD c 0)).length<=(A.eraseIdx c).length+(To u+1);rw[tz,mH,mH,XT cl,XT Z];lia
 |turn|flip|cut|spread=>exact XU trivial m
 |_=>cases e
def pA(h:¬iM d):∃t,cu Ts Ss S d=Om t:=by
 cases d<;>first|exact⟨_,rfl⟩|exact XU trivial h
def JX{u a p:Nat}{as:List Nat}{U:List (LL)}(h:as[p]?=Om a)(al:a<U.length):[(u:Int),(p:Int)]∈(Ur u as U).getD a []:=by
 have key:∀j,p<j->[(u:Int),(p:Int)]∈(Ur u (as.take j) U).getD a []:=λ j=>by
  induction j with
  |zero=>intro h;lia
  |succ j ih=>
   intro hj
   cases e:as[j]? with
   |none=>
    have h1:=(aX.mp h).1;have h2:=fk.mp e;rw[cj Z,<- cj (l:=as) (i:=j) h2];exact ih Z
   |some b=>
    rw[mD e];have l:(Ur u (as.take j) U).length=U.length:=sV _ _ _;by_cases c:b=a
    .subst c;rw[aO,iP Z];by_cases pj:p=j
     .subst pj;exact bH _ bd
     .exact fG _ (ih Z)
    .rw[aO,jA c,<- aO];exact ih (by rcases pE p j with z|z;exact z;exact XU (by rw[show j=p by lia,h] at e;cases e;rfl) c)
 have:=key as.length (aX.mp h).1
 rwa [bQ] at this
def JY{x:LI}{U:List (LL)}(h:x∈U.getD a []):x∈(Ur u as U).getD a []:=by
 have key:∀j,x∈(Ur u (as.take j) U).getD a []:=λ j=>by
  induction j with
  |zero=>rw[kE];exact h
  |succ j ih=>
   cases e:as[j]? with
   |none=>
    rw[cj (by have:=fk.mp e;lia),<- cj (l:=as) (i:=j) (by have:=fk.mp e;lia)];exact ih
   |some b=>
    rw[mD e];by_cases c:b=a
    .subst c;by_cases l:b<(Ur u (as.take j) U).length
     .rw[aO,iP l];exact fG _ ih
     .rw[yQ Z];exact ih
    .rw[aO,jA c,<- aO];exact ih
 have:=key as.length
 rwa [bQ] at this
def JZ{ds:List Stp}{os:LI}{u p a:Nat}(hu:u∈aU ds os)(h:(ar (ds.getD u (.num 0)))[p]?=Om a)(al:a<ds.length):[(u:Int),(p:Int)]∈(ef ds os).getD a []:=by
 obtain⟨i,ei⟩:=lZ hu
 have key:∀j,i<j->[(u:Int),(p:Int)]∈(UM ds ((aU ds os).take j)).getD a []:=λ j=>by
  induction j with
  |zero=>intro h;lia
  |succ j ih=>
   intro hj
   cases e:(aU ds os)[j]? with
   |none=>
    have h1:=(aX.mp ei).1;have h2:=fk.mp e;rw[cj Z,<- cj (l:=aU ds os) (i:=j) h2];exact ih Z
   |some v=>
    rw[pq e];by_cases c:i=j
    .subst c;rw[ei] at e;cases e;exact JX h (by rw[sW];exact al)
    .exact JY (ih Z)
 have:=key (aU ds os).length (aX.mp ei).1
 rwa [bQ] at this
def Ka{os:LI}:∀x∈(ef ds os).getD a [],∃u p:Nat,x=[(u:Int),(p:Int)]/\u<ds.length:=by
 have inn:∀(u:Nat) (as:List Nat) (U:List (LL)),u<ds.length->(∀a,∀x∈U.getD a [],∃u p:Nat,x=[(u:Int),(p:Int)]/\u<ds.length)->∀j a,∀x∈(Ur u (as.take j) U).getD a [],∃u p:Nat,x=[(u:Int),(p:Int)]/\u<ds.length:=λ u as U ul hU j=>by
  induction j with
  |zero=>rw[kE];exact hU
  |succ j ih=>
   intro a x hx
   cases e:as[j]? with
   |none=>
    rw[cj (by have:=fk.mp e;lia),<- cj (l:=as) (i:=j) (by have:=fk.mp e;lia)] at hx;exact ih a x hx
   |some b=>
    rw[mD e] at hx;by_cases c:b=a
    .subst c;by_cases l:b<(Ur u (as.take j) U).length
     .rw[aO,iP l] at hx
      rcases bX.mp hx with hx|hx
      .exact ih b x hx
      .cases aH.mp hx;exact⟨u,j,rfl,ul⟩
     .rw[yQ Z] at hx;exact ih b x hx
    .rw[aO,jA c,<- aO] at hx;exact ih a x hx
 have key:∀j a,∀x∈(UM ds ((aU ds os).take j)).getD a [],∃u p:Nat,x=[(u:Int),(p:Int)]/\u<ds.length:=λ j=>by
  induction j with
  |zero=>
   intro a x hx;rw[kE] at hx;have hx:x∈(Ow ds.length ([]:LL)).getD a []:=hx;rw[aO,fH] at hx;split at hx<;>cases hx
  |succ j ih=>
   intro a x hx
   cases e:(aU ds os)[j]? with
   |none=>
    rw[cj (by have:=fk.mp e;lia),<- cj (l:=aU ds os) (i:=j) (by have:=fk.mp e;lia)] at hx;exact ih a x hx
   |some u=>
    rw[pq e] at hx;have z:=inn u (ar (ds.getD u (.num 0))) _ (mem_reach.mp (aE e)).1 ih (ar (ds.getD u (.num 0))).length a x;rw[bQ] at z;exact z hx
 have z:=key (aU ds os).length a
 rwa [bQ] at z
def Kb(d:Stp):ym (λ a=>a) d=d:=by cases d<;>rfl
def VQ{Ss:LL}(ok:Uh (Ss.take k) S d):Uh Ss S d:=by
 have z:=Jm (Zs:=Ss) (f:=λ a=>a) ok (λ a ha A e=>by rw[s1b] at e;split at e;exact e;cases e)
 rwa [Kb] at z
theorem tD(k:Int):∀ks:LI,_L.inT (.int k) (ks.map XV)=On ↔ k∈ks
 |[]=>by simp[_L.inT]
 |x::r=>by
  have ih:=tD k r;show(_L.eqT (.int x) (.int k) || _L.inT (.int k) (r.map XV))=On ↔ _;rw[iE,ih,aB];show decide (x=k)=On\/_ ↔ _;rw[da];exact⟨λ h=>h.elim (λ z=>.inl z.symm) .inr,λ h=>h.elim (λ z=>.inl z.symm) .inr⟩
def tE(k:Nat)(ks:List Nat):_L.inT (.int (k:Nat)) (ks.map λ j:Nat=>XV (j:Nat))=decide (k∈ks):=by
 have z:=tD (k:Int) (ks.map λ j:Nat=>(j:Int));rw[bF] at z;have z':_L.inT (.int (k:Nat)) (ks.map λ j:Nat=>XV (j:Nat))=On ↔ (k:Int)∈ks.map λ j:Nat=>(j:Int):=z;rw[kR,z',da];constructor
 .intro h;obtain⟨j,hj,e⟩:=bq.mp h;rw[<- show j=k by lia];exact hj
 .intro h;exact bq.mpr ⟨k,h,rfl⟩
def Kc{s:Str}{l:List Str}(h:s∈l):_L.inT (.str s) (l.map XX)=On:=by
 unfold _L.inT;rw[nS];exact⟨.str s,bq.mpr ⟨s,h,O⟩,by show decide (s=s)=On;exact cB rfl⟩
def bV(ds:List Stp)(Ss:LL)(os:LI)(Ts:List (Option Tr))(k:Nat):Option Tr:=if k∈aU ds os then cu Ts Ss (Tg Ss k) (ds.getD k (.num 0)) else Oo
noncomputable def bO:Stp->Bool
 |.inp _=>On
 |_=>Op
def Uy(ds:List Stp)(Ss:LL)(os:LI)(Ts:List (Option Tr))(k:Nat):Bool:=bO (ds.getD k (.num 0)) || (decide (k∈aU ds os)&&kJ ds Ss os k (ds.getD k (.num 0)) (bV ds Ss os Ts k) ((ef ds os).getD k []))
structure TY where
 Ts:List (Option Tr)
 Bs:List (Option Tr)
 st:List Nat
def Te(ds:List Stp)(Ss:LL)(os:LI):Nat->TY
 |0=>⟨[],[],[]⟩
 |k+1=>
  let p:=Te ds Ss os k
  if Uy ds Ss os p.Ts k=On then ⟨p.Ts++[Om (.read (p.st.length:Nat) 0 (aI (Tg Ss k)))],p.Bs++[bV ds Ss os p.Ts k],p.st++[k]⟩
  else ⟨p.Ts++[bV ds Ss os p.Ts k],p.Bs++[bV ds Ss os p.Ts k],p.st⟩
theorem gv(ds:List Stp)(Ss:LL)(os:LI):∀k,(Te ds Ss os k).Ts.length=k/\(Te ds Ss os k).Bs.length=k/\(Te ds Ss os k).st.length<=k
 |0=>⟨rfl,rfl,ao _⟩
 |k+1=>by
  obtain⟨h1,h2,h3⟩:=gv ds Ss os k;show(if _ then _ else _:TY).Ts.length=_/\(if _ then _ else _:TY).Bs.length=_/\(if _ then _ else _:TY).st.length<=_;split<;>simp[h1,h2]<;>lia
def WO(ds:List Stp)(u p:Nat):Prop:=(∃a ms,ds.getD u (.num 0)=.lay a ms)\/(∃a b,ds.getD u (.num 0)=.fetch a b/\p=0)
def Kd{os:LI}(h:mG ds Ss os k t us=Op):(k:Int) ∉ os/\∀u p:Nat,[(u:Int),(p:Int)]∈us->WO ds u p->iL t:=by
 unfold mG at h;split at h
 .cases h
 .rename_i c1;refine⟨λ z=>c1 ((tD _ _).mpr z),λ u p hu hr=>?_⟩;split at h
  .cases h
  .rename_i c2
   rcases hr with ⟨a,ms,e⟩|⟨a,b,e,rfl⟩
   .refine XU ?_ c2;have z:=Kc (s := "lay") (l:=us.map (Vq ds)) (bq.mpr ⟨_,hu,by show dh (Tz (ds.getD (u:Int).toNat _))=_;rw[Ox,e];rfl⟩);rw[bF] at z;exact z
   .have c3:(us.map (mF ds)).any id=On:=by
     rw[nS];refine⟨On,bq.mpr ⟨_,hu,?_⟩,O⟩;unfold mF;rw[show Vq ds [(u:Int),((0:Nat):Int)]="fetch" by show dh (Tz (ds.getD (u:Int).toNat _))=_;rw[Ox,e];rfl];rfl
    by_cases rd:(!_L.eqT (XX (VP t)) (.str "read"))=On
    .rw[XT rd,XT c3] at h;cases h
    .cases t with
     |read st s ss=>exact⟨st,s,ss,rfl⟩
     |_=>exact XU rfl rd
structure Vr (ds:List Stp)(Ss:LL)(os:LI)(Ts:List (Option Tr))(j:Nat):Prop where
 w:∃t A,Ts[j]?=Om (Om t)/\Ss[j]?=Om A/\Vj j A t
 r:∀u p,u∈aU ds os->(ar (ds.getD u (.num 0)))[p]?=Om j->WO ds u p->iL (gt Ts j)
 o:(j:Int)∈os->iL (gt Ts j)
def yR{Ts:List (Option Tr)}{x:Option Tr}{j:Nat}(h:j<Ts.length):gt (Ts++[x]) j=gt Ts j:=by unfold gt;rw[aO,cI h,<- aO]
def pF{Ts:List (Option Tr)}{x:Option Tr}{k:Nat}(h:Ts.length=k):gt (Ts++[x]) k=x.getD (.num 0):=by subst h;unfold gt;rw[aO,cH (ao _),gP];rfl
def Kf{os:LI}{x:Option Tr}(h:Vr ds Ss os Ts j):Vr ds Ss os (Ts++[x]) j:=by
 obtain⟨t,A,e1,e2,e3⟩:=h.w;have jl:=(aX.mp e1).1;exact⟨⟨t,A,by rw[cI jl];exact e1,e2,e3⟩,by rw[yR jl];exact h.r,by rw[yR jl];exact h.o⟩
def mI{os:LI}{mo:Int}{k:Nat}(gl:eJ mo ds Ss)(k40:k<=40)(h:∀j,j<k->j∈aU ds os->Vr ds Ss os Ts j)(hk:k∈aU ds os):(∀a∈ar (ds.getD k (.num 0)),a<k/\∃u A,Ts[a]?=Om (Om u)/\Ss[a]?=Om A/\Vj a A u)/\py Ts Ss (ds.getD k (.num 0)):=by
 have kl:=(mem_reach.mp hk).1
 have al:∀a∈ar (ds.getD k (.num 0)),a<k/\Vr ds Ss os Ts a:=λ a ha=>by
  have:=pk gl k _ (dZ kl) a ha;exact⟨this,h a this (JP (pk gl) hk ha)⟩
 refine⟨λ a ha=>⟨(al a ha).1,(al a ha).2.w⟩,λ a ha=>?_,λ a ms e=>?_,λ a b e=>?_⟩
 .obtain⟨t,A,e1,e2,e3⟩:=(al a ha).2.w;have:=(al a ha).1;exact⟨t,A,e1,e2,by have:=e3.1;lia,e3.2⟩
 .exact(al a (by rw[e];exact bd)).2.r k 0 hk (by rw[e];rfl) (.inl ⟨a,ms,e⟩)
 .exact(al a (by rw[e];exact bd)).2.r k 0 hk (by rw[e];rfl) (.inr ⟨a,b,e,O⟩)
theorem jy{os:LI}{mo:Int}(gl:eJ mo ds Ss)(d40:ds.length<=40):∀k,k<=ds.length->∀j,j<k->j∈aU ds os->Vr ds Ss os (Te ds Ss os k).Ts j
 |0,_,j,hj,_=>by lia
 |k+1,kl,j,hj,hr=>by
  have ih:=jy (os:=os) gl d40 k Z;have ln:=(gv ds Ss os k).1;by_cases c:j<k
  .have z:=ih j c hr;show Vr ds Ss os (if _ then _ else _:TY).Ts j;split<;>exact Kf z
  .have jk:j=k:=by lia
   subst jk;obtain⟨hA,at'⟩:=mI gl Z ih hr;have ed:=dZ (ds:=ds) (a:=j) Z;have eS:Ss[j]?=Om (Tg Ss j):=by unfold Tg;rw[aO,aZ (by rw[<- gl.1];lia)];rfl
   have ok:=VQ (gl.2.2 j _ _ ed eS);have eb:bV ds Ss os (Te ds Ss os j).Ts j=cu (Te ds Ss os j).Ts Ss (Tg Ss j) (ds.getD j (.num 0)):=XT hr;show Vr ds Ss os (if _ then _ else _:TY).Ts j;split
   .refine⟨⟨_,_,by show(_++[_])[j]?=_;rw[cH Z,ln,gP];rfl,eS,bP _,λ p hp=>?_⟩,λ _ _ _ _ _=>?_,λ _=>?_⟩
    .cases aH.mp hp;show _<=(aI _).length/\(aI _).length<=_;rw[mB];lia
    .rw[pF ln];exact⟨_,_,_,rfl⟩
    .rw[pF ln];exact⟨_,_,_,rfl⟩
   .rename_i nk;unfold Uy at nk;rw[iE,bp,da] at nk;have n1:¬bO (ds.getD j (.num 0))=On:=λ z=>nk (.inl z);have n2:¬kJ ds Ss os j (ds.getD j (.num 0)) (bV ds Ss os (Te ds Ss os j).Ts j) ((ef ds os).getD j [])=On:=λ z=>nk (.inr ⟨hr,z⟩)
    have nt:¬iM (ds.getD j (.num 0)):=by
     generalize ds.getD j (.num 0)=d at n1 n2
     cases d with
     |inp ms=>exact XU rfl n1
     |run w a s|join a b s=>exact XU rfl n2
     |_=>exact λ h=>h
    obtain⟨t,et⟩:=pA (Ts:=(Te ds Ss os j).Ts) (Ss:=Ss) (S:=Tg Ss j) nt;have wf:=yP ok hA at'.2.2 et;rw[eb] at n2 ⊢;rw[et] at n2 ⊢
    have key:iL t\/((j:Int) ∉ os/\∀u p:Nat,[(u:Int),(p:Int)]∈(ef ds os).getD j []->WO ds u p->iL t):=by
     generalize ds.getD j (.num 0)=d at n1 n2 nt et
     cases d with
     |lay a ms=>cases et;exact .inl ⟨_,_,_,rfl⟩
     |inp ms|run w a s|join a b s=>exact XU trivial nt
     |_=>exact .inr (Kd (pG.mpr n2))
    refine⟨⟨t,_,by rw[cH Z,ln,gP];rfl,eS,wf⟩,λ u p hu hp hd=>?_,λ ho=>?_⟩
    .rw[pF ln];exact key.elim id λ z=>z.2 u p (JZ hu hp Z) hd
    .rw[pF ln];exact key.elim id λ z=>XU ho z.1
abbrev WP(p:TY):TV:=.tup [.lst (p.Ts.map TJ),.lst (p.Bs.map TJ),.lst (p.st.map λ k=>.int (k:Nat))]
def tF{α:Type}{f:α->TV}{l:List α}{i:Nat}(h:((l.map f).mapIdx λ i x=>XW [.int (i:Nat),x])[i]?=Om t):∃a,t=.tup [.int (i:Nat),f a]/\l[i]?=Om a:=by
 rw[oa,bh] at h
 cases e:l[i]? with
 |none=>rw[e] at h;cases h
 |some a=>rw[e] at h;cases h;exact⟨a,rfl,rfl⟩
def iN(l:List Nat):∀x∈l.map (λ k:Nat=>XV (k:Nat)),Uo x=On:=λ x hx=>by obtain⟨n,_,rfl⟩:=bq.mp hx;rfl
def gx(d:Stp):_L.eqT (.str (dh (Tz d))) (.str "in")=bO d:=by cases d<;>rfl
def Kg(h:bO d=Op):∀ms,d≠.inp ms:=λ ms e=>by subst e;cases h
def yS(o:Option Tr):(TJ o).nb=On/\(TJ o).fz=TJ o:=by cases o<;>exact⟨rfl,rfl⟩
def Kh{GT:List TV}{K:TV->Prop}(v:TV)(h:wE FT GT e ρ λ t=>t=v)(k:K v):wE FT GT e ρ K:=ax e (λ t e=>by subst e;exact k) h
def Ki{GT:List TV}{K:TV->Prop}(h1:wE FT GT a ρ λ t=>t=.bl x)(h2:x=Op->wE FT GT b ρ λ t=>t=.bl y)(k:K (.bl (x || y))):wE FT GT (.or a b) ρ K:=ax a (λ t e=>by
 subst e;show if x=On then K (.bl On) else wE FT GT b ρ K
 cases x with
 |true=>exact k
 |false=>exact ax b (λ t e=>by subst e;exact k) (h2 rfl)) h1
def Kj{GT:List TV}{K:TV->Prop}(h1:wE FT GT a ρ λ t=>t=.bl x)(h2:x=On->wE FT GT b ρ λ t=>t=.bl y)(k:K (.bl (x && y))):wE FT GT (.and a b) ρ K:=ax a (λ t e=>by
 subst e;show if x=On then wE FT GT b ρ K else K (.bl Op)
 cases x with
 |false=>exact k
 |true=>exact ax b (λ t e=>by subst e;exact k) (h2 rfl)) h1
def yT{GT:List TV}{ρ:En}{j i:Nat}(e1:ρ[j]?=Om (Om (.own xs)))(e2:ρ[i]?=Om (Om (TJ o)))(l:xs.length<Ou)(k:wS FT GT r (ρ.set j (Om (.own (xs++[TJ o])))) nx rt):wS FT GT (.met .append j (.a1 (.v i)) r) ρ nx rt:=by
 have f:fzV (.a1 (.v i)) ρ=ρ:=by show Vp ρ i=ρ;unfold Vp;rw[e2];cases o<;>rfl
 show fP (fzV (.a1 (.v i)) ρ)[j]? _;rw[f,e1];show VG ρ[i]? _;rw[e2];cases o<;>exact⟨rfl,l,k⟩
def XB(ds:List Stp)(Ss:LL)(os:LI)(T B S:List TV)(l:En):En:=Om (.tup [.tup (ds.map Tn),tI os])::Om (.tup (Ss.map tI))::Om (.tup (ds.map Tn))::Om (.lst ((aU ds os).map λ k=>.int (k:Nat)))::Om (.lst ((ef ds os).map λ l=>.lst (l.map kT)))::Om (.own T)::Om (.own B)::Om (.own S)::l
def Vl(w:Str)(st:Int)(A:LI)(k:Nat)(v:TV):TV:=.tup [.str "run",.str w,.int st,tI (A.eraseIdx k),.int (A.getD k 0),.int 0,tI (cD A.length k 0 (aI A)).2,v]
def dL(st:Int)(S:LI)(b:Int)(ss:LI)(v:TV):TV:=.tup [.str "fill",.int st,tI S,.int b,tI ss,v]
def UN(Ss:LL)(Ts:List (Option Tr))(S:LI)(o:Option Tr)(st:Int):Stp->List TV
 |.run w a k=>[Vl w st (Tg Ss a) k.toNat (Th (rm (cD (Tg Ss a).length k.toNat) (gt Ts a)))]
 |.join a b k=>[dL st (Tg Ss a) 0 (aI S) (Th (gt Ts a)),dL st (Tg Ss b) ((Tg Ss a).getD k.toNat 0*(aI S).getD k.toNat 0) (aI S) (Th (gt Ts b))]
 |_=>[dL st S 0 (aI S) (TJ o)]
noncomputable def XC:Stp->Bool
 |.run .. | .join ..=>On
 |_=>Op
def Kk(h:XC d=Op):_L.eqT (.str (dh (Tz d))) (.str "run")=Op/\_L.eqT (.str (dh (Tz d))) (.str "join")=Op/\∀Ss Ts S o st,UN Ss Ts S o st d=[dL st S 0 (aI S) (TJ o)]:=by
 cases d<;>first|exact Oq h|exact⟨rfl,rfl,λ _ _ _ _ _=>rfl⟩
def yU(h:¬Uc A k):(fQ A B k).length=A.length:=by
 obtain⟨c,rfl,cl⟩:=dI h;unfold fQ;simp
theorem tG{os:LI}:∀n,∀k∈(Te ds Ss os n).st,k<n/\(bO (ds.getD k (.num 0))=Op->k∈aU ds os)
 |0,k,h=>nomatch h
 |n+1,k,h=>by
  have ih:=tG (ds:=ds) (Ss:=Ss) (os:=os) n k;have h:k∈(if _ then _ else _:TY).st:=h;split at h
  .rename_i c
   rcases bX.mp h with h|h
   .exact⟨by have:=(ih h).1;lia,(ih h).2⟩
   .cases aH.mp h;refine⟨Z,λ z=>?_⟩;unfold Uy at c;rw[z,jg,bp,da] at c;exact c.1
  .exact⟨by have:=(ih h).1;lia,(ih h).2⟩
def UF(ds:List Stp)(Ss:LL)(p:TY):Nat->List TV
 |0=>[]
 | i+1=>UF ds Ss p i++(match p.st[i]? with
  |some k=>if bO (ds.getD k (.num 0))=On then [] else UN Ss p.Ts (Tg Ss k) (p.Bs.getD k Oo) (i:Nat) (ds.getD k (.num 0))
  |none=>[])
def pH(Ss:LL)(Ts:List (Option Tr))(S:LI)(o:Option Tr)(st:Int)(d:Stp):(UN Ss Ts S o st d).length<=2:=by cases d<;>exact bW rfl
theorem tH(ds:List Stp)(Ss:LL)(p:TY):∀i,(UF ds Ss p i).length<=2*i
 |0=>ao _
 |i+1=>by
  have ih:=tH ds Ss p i;show(UF ds Ss p i++_).length<=_;rw[aF];split
  .split
   .show _+0<=_;lia
   .have:=pH Ss p.Ts (Tg Ss ‹_›) (p.Bs.getD ‹_› Oo) (i:Nat) (ds.getD ‹_› (.num 0));lia
  .show _+0<=_;lia
def fU(ds:List Stp)(p:TY):List Nat:=p.st.filter λ k=>!bO (ds.getD k (.num 0))
abbrev pI(Ss:LL)(Ts:List (Option Tr))(os:LI):TV:=.tup (os.map λ o=>.tup [.int (kG (gt Ts o.toNat)),tI (Tg Ss o.toNat)])
abbrev yV(ds:List Stp)(Ss:LL)(os:LI)(p:TY):TV:=.tup [.tup (p.st.map λ k:Nat=>.tup [.int (k:Nat),.int (ai (Tg Ss k))]),.tup (UF ds Ss p p.st.length),pI Ss p.Ts os]
theorem yW:∀ns:LI,(OE ns.length).map (λ k=>ai (ns.drop (k+1)))=aI ns
 |[]=>rfl
 |n::ns=>by
  rw[OQ,vT,cJ,bF];show ai ns::_=(UB (n::ns) (n::ns).length).reverse;rw[Iv];exact bA (ai ns::·) (yW ns)
def Kl(h:bR ns)(k:Nat):bR (ns.drop k):=λ n hn=>h n (sG hn)
theorem gZ{g:Gf}(h:∀s ss,g s ss=(s,ss)):∀t:Tr,rm g t=t
 |.num _=>rfl
 |.idx s ss=>by show Tr.idx _ _=_;rw[h]
 |.read st s ss=>by show Tr.read _ _ _=_;rw[h]
 |.each w t=>by show Tr.each w (rm g t)=_;rw[gZ h t]
 |.pair w a b=>by show Tr.pair w (rm g a) (rm g b)=_;rw[gZ h a,gZ h b]
 |.pick a b c=>by show Tr.pick (rm g a) (rm g b) (rm g c)=_;rw[gZ h a,gZ h b,gZ h c]
 |.fold w n t=>by show Tr.fold w n (rm g t)=_;rw[gZ h t]
 |.fetch st s r n ss t=>by show Tr.fetch _ _ _ _ _ (rm g t)=_;rw[h,gZ h t]
def Km(n:Nat)(t:Tr):rm (dq n (n-n)) t=t:=gZ (λ s ss=>by rw[gP];show(s,ss.take n++[]++ss.drop n)=_;rw[eE,sC]) t
def Ko{ns:LI}{a b:Nat}(h:b<=ns.length)(h2:a<=b):ag (ns.map XV) (Om (a:Int)) (Om (b:Int))=((ns.drop a).take (b-a)).map XV:=by
 rw[oU];simp only[_H.sIx];rw[XR Z,XR Z,Ox,Ox,eI h,eI (cG h2 h)]
def Kp{ss:LI}{n k:Nat}{v:Int}(h:n<=ss.length)(hk:k<n):ss.take k++(ss.drop (k+1)).take (n-(k+1))++[v]++ss.drop n=bC (ss.eraseIdx k) (n-1) v:=by
 unfold bC;have lt:(ss.take k).length=k:=by rw[aP];lia
 have e1:(ss.take k++ss.drop (k+1)).take (n-1)=ss.take k++(ss.drop (k+1)).take (n-(k+1)):=by
  rw[List.take_append,lt,show n-1-k=n-(k+1) by lia]
  congr 1
  exact cj Z
 have e2:(ss.take k++ss.drop (k+1)).drop (n-1)=ss.drop n:=by
  rw[List.drop_append,lt,List.drop_drop,show k+1+(n-1-k)=n by lia];have z:(ss.take k).drop (n-1)=[]:=yp Z;rw[z,nr]
 rw[jn,e1,e2]
def yX{ss:LI}{c:Nat}{v:Int}(h:c<ss.length):ss.take c++[v]++ss.drop (c+1)=ss.set c v:=by
 rw[oK,XT h,ig];rfl
def yY(A:LI)(k:Nat):A.take k++A.drop (k+1)=A.eraseIdx k:=(jn A k).symm
def Kq(l:LI)(n:Nat)(m:Int)(h:l.length=n):bC l n m=l++[m]:=by subst h;unfold bC;simp
def UX(ds:List Stp)(Ss:LL)(os:LI)(p:TY):Nat->List TV
 |0=>[]
 |k+1=>UX ds Ss os p k++(if k∈fU ds p then UN Ss (Te ds Ss os k).Ts (Tg Ss k) (cu (Te ds Ss os k).Ts Ss (Tg Ss k) (ds.getD k (.num 0))) ((Te ds Ss os k).st.length:Nat) (ds.getD k (.num 0)) else [])
theorem tJ(ds:List Stp)(Ss:LL)(os:LI)(p:TY):∀k,(UX ds Ss os p k).length<=2*k
 |0=>ao _
 |k+1=>by
  have ih:=tJ ds Ss os p k;show(UX ds Ss os p k++_).length<=_;rw[aF];split
  .have:=pH Ss (Te ds Ss os k).Ts (Tg Ss k) (cu (Te ds Ss os k).Ts Ss (Tg Ss k) (ds.getD k (.num 0))) ((Te ds Ss os k).st.length:Nat) (ds.getD k (.num 0));lia
  .show _+0<=_;lia
theorem yZ{os:LI}(k:Nat):∀m,(Te ds Ss os k).Ts <+: (Te ds Ss os (k+m)).Ts/\(Te ds Ss os k).Bs <+: (Te ds Ss os (k+m)).Bs/\(Te ds Ss os k).st <+: (Te ds Ss os (k+m)).st
 |0=>⟨tK _,tK _,tK _⟩
 |m+1=>by
  obtain⟨h1,h2,h3⟩:=yZ (ds:=ds) (Ss:=Ss) (os:=os) k m;show _ <+: (if _ then _ else _:TY).Ts/\_ <+: (if _ then _ else _:TY).Bs/\_ <+: (if _ then _ else _:TY).st;split
  .exact⟨h1.trans (mK _ _),h2.trans (mK _ _),h3.trans (mK _ _)⟩
  .exact⟨h1.trans (mK _ _),h2.trans (mK _ _),h3⟩
def tM{α:Type}{l m:List α}{i:Nat}(h:l <+: m)(hi:i<l.length):m[i]?=l[i]?:=by
 obtain⟨r,e⟩:=h;rw[<- e,cI hi]
def tN{os:LI}{k n:Nat}(h:k<=n):(Te ds Ss os k).Ts <+: (Te ds Ss os n).Ts/\(Te ds Ss os k).Bs <+: (Te ds Ss os n).Bs/\(Te ds Ss os k).st <+: (Te ds Ss os n).st:=by
 have z:=yZ (ds:=ds) (Ss:=Ss) (os:=os) k (n-k)
 rwa [show k+(n-k)=n by lia] at z
def Kr{os:LI}{k n a:Nat}(h:k<=n)(ha:a<k):gt (Te ds Ss os n).Ts a=gt (Te ds Ss os k).Ts a:=by
 unfold gt;rw[aO,aO,tM (tN h).1 (by rw[(gv ds Ss os k).1];exact ha)]
def Ks{os:LI}{k n:Nat}(h:k<n):(Te ds Ss os n).Bs.getD k Oo=bV ds Ss os (Te ds Ss os k).Ts k:=by
 have l:=(gv ds Ss os k).2.1;rw[aO,tM (tN (k:=k+1) h).2.1 (by rw[(gv ds Ss os (k+1)).2.1];lia)];show((if _ then _ else _:TY).Bs[k]?).getD Oo=_;split<;>(show((_++[_])[k]?).getD Oo=_;rw[cH Z,l,gP];rfl)
theorem zb{os:LI}{k:Nat}:∀n,k∈(Te ds Ss os n).st ↔ k<n/\Uy ds Ss os (Te ds Ss os k).Ts k=On
 |0=>⟨λ h=>(nomatch h),λ h=>by lia⟩
 |n+1=>by
  have ih:=zb (ds:=ds) (Ss:=Ss) (os:=os) (k:=k) n;show k∈(if _ then _ else _:TY).st ↔ _;split
  .rename_i c;show k∈_++[n] ↔ _;rw[bX,ih,aH];constructor
   .rintro(⟨h1,h2⟩|rfl)
    .exact⟨Z,h2⟩
    .exact⟨Z,c⟩
   .rintro⟨h1,h2⟩
    rcases pE k n with z|z
    .exact .inl ⟨z,h2⟩
    .exact .inr Z
  .rename_i c;rw[ih];constructor
   .rintro⟨h1,h2⟩;exact⟨Z,h2⟩
   .rintro⟨h1,h2⟩
    rcases pE k n with z|z
    .exact⟨z,h2⟩
    .rw[show k=n by lia] at h2;exact XU h2 c
def kept_iff{ds:List Stp}{os:LI}{k n:Nat}:k∈fU ds (Te ds Ss os n) ↔ (k<n/\Uy ds Ss os (Te ds Ss os k).Ts k=On)/\bO (ds.getD k (.num 0))=Op:=by
 unfold fU;rw[fV,zb,oi]
def Kt{st:Int}{d:Stp}(h:∀a∈ar d,gt Ts a=gt Ts' a):UN Ss Ts S o st d=UN Ss Ts' S o st d:=by
 cases d with
 |run w a k=>show[_]=[_];rw[h a (by simp[ar])]
 |join a b k=>show[_,_]=[_,_];rw[h a (by simp[ar]),h b (by simp[ar])]
 |_=>rfl
theorem ze{os:LI}{mo:Int}(gl:eJ mo ds Ss):∀k,k<=ds.length->UX ds Ss os (Te ds Ss os ds.length) k=UF ds Ss (Te ds Ss os ds.length) (Te ds Ss os k).st.length
 |0,_=>rfl
 |k+1,kl=>by
  have ih:=ze gl (os:=os) k Z;show UX ds Ss os _ k++_=_;rw[ih];by_cases c:Uy ds Ss os (Te ds Ss os k).Ts k=On
  .have es:(Te ds Ss os (k+1)).st=(Te ds Ss os k).st++[k]:=by show(if _ then _ else _:TY).st=_;rw[XT c]
   have ek:(Te ds Ss os ds.length).st[(Te ds Ss os k).st.length]?=Om k:=by
    rw[tM (tN kl).2.2 (by rw[es,aF];show _<_+1;lia),es,cH (ao _),gP];rfl
   rw[es,aF];show _=UF ds Ss _ (_+1);show _=UF ds Ss _ _++_;rw[ek]
   congr 1
   show _=if bO (ds.getD k (.num 0))=On then [] else _;by_cases ci:bO (ds.getD k (.num 0))=On
   .rw[XT ci,XR (λ z=>by have:=(kept_iff.mp z).2;rw[ci] at this;cases this)]
   .rw[XR ci,XT (kept_iff.mpr ⟨⟨Z,c⟩,pG.mpr ci⟩),Ks Z];unfold Uy at c;rw[pG.mpr ci,jg,bp,da] at c;have eb:bV ds Ss os (Te ds Ss os k).Ts k=cu (Te ds Ss os k).Ts Ss (Tg Ss k) (ds.getD k (.num 0)):=XT c.1;rw[eb];exact Kt λ a ha=>(Kr Z (pk gl k _ (dZ Z) a ha)).symm
  .have es:(Te ds Ss os (k+1)).st=(Te ds Ss os k).st:=by show(if _ then _ else _:TY).st=_;rw[XR c]
   rw[es,XR (λ z=>c (kept_iff.mp z).1.2),eE]
def kL{n:Nat}(ns:LI):_L.dp (n+1) (tI ns):=λ x hx=>by obtain⟨m,_,rfl⟩:=bq.mp hx;cases n<;>trivial
theorem fE:∀(t:Tr) (n:Nat),To t+2<=n->_L.dp n (Th t)
 |.num m,n+1,_=>λ x hx=>by
  simp only[Ud,aB,bg,be] at hx
  rcases hx with rfl|rfl<;>simp[_L.dp]
 |.idx s ss,n+2,_=>λ x hx=>by
  simp only[Ud,aB,bg,be] at hx
  rcases hx with rfl|rfl|rfl<;>first|exact kL ss|simp[_L.dp]
 |.read st s ss,n+2,_=>λ x hx=>by
  simp only[Ud,aB,bg,be] at hx
  rcases hx with rfl|rfl|rfl|rfl<;>first|exact kL ss|simp[_L.dp]
 |.each w t,n+1,h=>λ x hx=>by
  have h:To t+1+2<=n+1:=h;simp only[Ud,aB,bg,be] at hx
  rcases hx with rfl|rfl|rfl<;>first|exact fE t n Z|simp[_L.dp]
 |.pair w a b,n+1,h=>λ x hx=>by
  have h:max (To a) (To b)+1+2<=n+1:=h;simp only[Ud,aB,bg,be] at hx
  rcases hx with rfl|rfl|rfl|rfl<;>first|exact fE a n Z|exact fE b n Z|simp[_L.dp]
 |.pick a b c,n+1,h=>λ x hx=>by
  have h:max (To a) (max (To b) (To c))+1+2<=n+1:=h;simp only[Ud,aB,bg,be] at hx
  rcases hx with rfl|rfl|rfl|rfl<;>first|exact fE a n Z|exact fE b n Z|exact fE c n Z|simp[_L.dp]
 |.fold w m t,n+1,h=>λ x hx=>by
  have h:To t+1+2<=n+1:=h;simp only[Ud,aB,bg,be] at hx
  rcases hx with rfl|rfl|rfl|rfl<;>first|exact fE t n Z|simp[_L.dp]
 |.fetch st s r m ss t,n+2,h=>λ x hx=>by
  have h:To t+1+2<=n+2:=h;simp only[Ud,aB,bg,be] at hx
  rcases hx with rfl|rfl|rfl|rfl|rfl|rfl|rfl<;>first|exact kL ss|exact fE t (n+1) Z|simp[_L.dp]
theorem zi{os:LI}{mo:Int}(gl:eJ mo ds Ss)(d40:ds.length<=40):∀k,k<=ds.length->(∀(j:Nat) (t:Tr),(Te ds Ss os k).Ts[j]?=Om (Om t)->To t<=40)/\∀(j:Nat) (t:Tr),(Te ds Ss os k).Bs[j]?=Om (Om t)->To t<=40
 |0,_=>⟨λ j t h=>(nomatch h),λ j t h=>(nomatch h)⟩
 |k+1,kl=>by
  obtain⟨h1,h2⟩:=zi gl d40 (os:=os) k Z;have ih:=jy (os:=os) gl d40 k Z
  have hb:∀t,bV ds Ss os (Te ds Ss os k).Ts k=Om t->To t<=40:=λ t e=>by
   unfold bV at e;split at e
   .rename_i hr;obtain⟨hA,at'⟩:=mI gl Z ih hr;have eS:Ss[k]?=Om (Tg Ss k):=by unfold Tg;rw[aO,aZ (by rw[<- gl.1];lia)];rfl
    have:=(yP (VQ (gl.2.2 k _ _ (dZ Z) eS)) hA at'.2.2 e).1;lia
   .cases e
  have ap:∀(l:List (Option Tr)) (x:Option Tr),(∀(j:Nat) (t:Tr),l[j]?=Om (Om t)->To t<=40)->(∀t,x=Om t->To t<=40)->∀(j:Nat) (t:Tr),(l++[x])[j]?=Om (Om t)->To t<=40:=λ l x a b j t e=>by
   rcases pE j l.length with z|z
   .rw[cI z] at e;exact a j t e
   .rw[cH z] at e;have:=aE e;exact b t (aH.mp this).symm
  have es:Te ds Ss os (k+1)=(if Uy ds Ss os (Te ds Ss os k).Ts k=On then (⟨(Te ds Ss os k).Ts++[Om (.read ((Te ds Ss os k).st.length:Nat) 0 (aI (Tg Ss k)))],(Te ds Ss os k).Bs++[bV ds Ss os (Te ds Ss os k).Ts k],(Te ds Ss os k).st++[k]⟩:TY) else ⟨(Te ds Ss os k).Ts++[bV ds Ss os (Te ds Ss os k).Ts k],(Te ds Ss os k).Bs++[bV ds Ss os (Te ds Ss os k).Ts k],(Te ds Ss os k).st⟩):=rfl;rw[es];split
  .exact⟨ap _ _ h1 λ t e=>by cases e;exact bP _,ap _ _ h2 hb⟩
  .exact⟨ap _ _ h1 hb,ap _ _ h2 hb⟩
def Ku{Ts:List (Option Tr)}(h:∀(j:Nat) (t:Tr),Ts[j]?=Om (Om t)->To t<=40)(a:Nat):To (gt Ts a)<=40:=by
 unfold gt;rw[aO]
 cases e:Ts[a]? with
 |none=>exact bP _
 |some o=>
  cases o with
  |none=>exact bP _
  |some t=>exact h a t e
def Kv{st:Int}(h:To t<=41):_L.dp 98 (Vl w st A k (Th t)):=λ x hx=>by
 simp only[aB,bg,be] at hx
 rcases hx with rfl|rfl|rfl|rfl|rfl|rfl|rfl|rfl<;>first|exact kL _|exact fE t 97 Z|simp[_L.dp]
def tO{st b:Int}(h:_L.dp 97 v):_L.dp 98 (dL st S b ss v):=λ x hx=>by
 simp only[aB,bg,be] at hx
 rcases hx with rfl|rfl|rfl|rfl|rfl|rfl<;>first|exact h|exact kL _|simp[_L.dp]
def Kw{Ss:LL}{S:LI}{o:Option Tr}{st:Int}(h1:∀a,To (gt Ts a)<=40)(h2:∀t,o=Om t->To t<=40):∀x∈UN Ss Ts S o st d,_L.dp 98 x:=by
 have ho:_L.dp 97 (TJ o):=by
  cases o with
  |none=>simp[TJ,_L.dp]
  |some t=>exact fE t 97 (by have:=h2 t rfl;lia)
 cases d with
 |run w a k=>intro x hx;cases aH.mp hx;exact Kv (by rw[dB];have:=h1 a;lia)
 |join a b k=>
  intro x hx
  rcases aB.mp hx with rfl|hx
  .exact tO (fE _ 97 (by have:=h1 a;lia))
  .cases aH.mp hx;exact tO (fE _ 97 (by have:=h1 b;lia))
 |_=>intro x hx;cases aH.mp hx;exact tO ho
theorem zk{ds:List Stp}{Ss:LL}{p:TY}(h1:∀a,To (gt p.Ts a)<=40)(h2:∀(j:Nat) (t:Tr),p.Bs[j]?=Om (Om t)->To t<=40):∀i,∀x∈UF ds Ss p i,_L.dp 98 x
 |0,x,hx=>(nomatch hx)
 |i+1,x,hx=>by
  rcases bX.mp hx with hx|hx
  .exact zk h1 h2 i x hx
  .split at hx
   .split at hx
    .cases hx
    .refine Kw h1 (λ t e=>?_) x hx;rw[aO] at e
     cases e2:p.Bs[‹Nat›]? with
     |none=>rw[e2] at e;cases e
     |some o=>rw[e2] at e;exact h2 _ t (e2.trans (bA Om e))
   .cases hx
def zm(Ss:LL)(Ts:List (Option Tr))(os:LI):_L.dp 99 (pI Ss Ts os):=λ x hx=>by
 obtain⟨o,_,rfl⟩:=bq.mp hx;intro y hy;simp only[aB,bg,be] at hy
 rcases hy with rfl|rfl
 .simp[_L.dp]
 .exact kL _
def clX{FT:List Tc}{f:Nat}{ts:List TV}{K:TV->Prop}(e:FT[f]?=Om S)(h:S (ts.map .fz) K):∃P,(∃S,FT[f]?=Om S/\S (ts.map .fz) P)/\∀t,P t->K t:=⟨K,⟨S,e,h⟩,λ _ h=>h⟩
def tP{st b:Int}(h:LF v):LF (dL st S b ss v):=by
 unfold dL;simp only[LF,aB,bg,be]
 rintro x (rfl|rfl|rfl|rfl|rfl|rfl)<;>first|exact h|exact gq _|simp[LF]
def Kx{st:Int}(h:LF v):LF (Vl w st A k v):=by
 unfold Vl;simp only[LF,aB,bg,be]
 rintro x (rfl|rfl|rfl|rfl|rfl|rfl|rfl|rfl)<;>first|exact h|exact gq _|simp[LF]
def Ky{Ss:LL}{Ts:List (Option Tr)}{S:LI}{st:Int}:∀x∈UN Ss Ts S o st d,LF x:=by
 cases d with
 |run w a k=>intro x hx;cases aH.mp hx;exact Kx (fD _)
 |join a b k=>
  intro x hx
  rcases aB.mp hx with rfl|hx
  .exact tP (fD _)
  .cases aH.mp hx;exact tP (fD _)
 |_=>intro x hx;cases aH.mp hx;exact tP (sX o)
def Kz{os:LI}:(Uy ds Ss os (Te ds Ss os k).Ts k=On->(Te ds Ss os (k+1)).Ts=(Te ds Ss os k).Ts++[Om (.read ((Te ds Ss os k).st.length:Nat) 0 (aI (Tg Ss k)))]/\(Te ds Ss os (k+1)).st.length=(Te ds Ss os k).st.length+1)/\(Uy ds Ss os (Te ds Ss os k).Ts k=Op->(Te ds Ss os (k+1)).Ts=(Te ds Ss os k).Ts++[bV ds Ss os (Te ds Ss os k).Ts k]/\(Te ds Ss os (k+1)).st.length=(Te ds Ss os k).st.length):=by
 constructor
 .intro c;show(if _ then _ else _:TY).Ts=_/\(if _ then _ else _:TY).st.length=_;rw[XT c];exact⟨O,aF⟩
 .intro c;show(if _ then _ else _:TY).Ts=_/\(if _ then _ else _:TY).st.length=_;rw[XR (by rw[c];decide)];exact⟨O,O⟩
def KA{ds:List Stp}{os:LI}{p:TY}{k:Nat}:(k∈fU ds p->UX ds Ss os p (k+1)=UX ds Ss os p k++UN Ss (Te ds Ss os k).Ts (Tg Ss k) (cu (Te ds Ss os k).Ts Ss (Tg Ss k) (ds.getD k (.num 0))) ((Te ds Ss os k).st.length:Nat) (ds.getD k (.num 0)))/\(k ∉ fU ds p->UX ds Ss os p (k+1)=UX ds Ss os p k):=by
 constructor
 .intro c;show _++(if _ then _ else _)=_;rw[XT c]
 .intro c;show _++(if _ then _ else _)=_;rw[XR c,eE]
def zd:DR:=dr "wrapped" ["n"] λ _ _=>False
abbrev zO:Tc:=λ _ _=>False
def WQ:Tc:=λ ts Q=>∃n,ts=[.int n]/\Q (.int (jt n))
def zc0:Ct:=(.ret (.ad (.md (.sb V0 (.g 0)) (.bin .Pow N2 (.n 64))) (.g 0)))
def XD:Tc:=λ ts Q=>∃n:Int,ts=[.int n]/\Q (.int (if n<0 then -1 else if 0<n then 1 else 0))
def zc1:Ct:=(.r (.lt V0 N0) (.neg N1) (.ret (.ite (.gt V0 N0) N1 N0)))
def XG:Tc:=λ ts Q=>∃x y:Int,ts=[.int x,.int y]/\UV x/\UV y/\Q (.int (sn x y))
def zc2:Ct:=(.r (.eq V1 N0) N0 (.ret (.c1 0 (.dv V0 V1))))
def XH:Tc:=λ ts Q=>∃x y:Int,ts=[.int x,.int y]/\Q (.int (so x y))
def zc3:Ct:=(.ret (.ite (.eq V1 N0) V0 (.md V0 V1)))
def XI:Tc:=λ ts Q=>∃(w:Str) (x:Int),ts=[.str w,.int x]/\w∈mi/\Q (.int (xP w x))
def zc4:Ct:=(.r (.es V0 "neg") (.c1 0 (.neg V1)) (.r (.es V0 "abs") (.c1 0 (.b1 .abs V1)) (.r (.es V0 "sign") (.c1 1 V1) (.r (.es V0 "not") (.ite (.eq V1 N0) N1 N0) .never))))
def XJ:Tc:=λ ts Q=>∃(w:Str) (x y:Int),ts=[.str w,.int x,.int y]/\UV x/\UV y/\w∈mj/\Q (.int (xN w x y))
def zc5:Ct:=(.r (.es V0 "add") (.c1 0 (.ad V1 V2)) (.r (.es V0 "sub") (.c1 0 (.sb V1 V2)) (.r (.es V0 "mul") (.c1 0 (.ml V1 V2)) (.r (.es V0 "quo") (.c2 2 V1 V2) (.r (.es V0 "rest") (.c2 3 V1 V2) (.r (.es V0 "max") (.b2 .max V1 V2) (.r (.es V0 "min") (.b2 .min V1 V2) (.r (.es V0 "less") (.ite (.lt V1 V2) N1 N0) (.r (.es V0 "like") (.ite (.eq V1 V2) N1 N0) (.r (.es V0 "and") (.bin .BitAnd V1 V2) (.r (.es V0 "or") (.bin .BitOr V1 V2) (.r (.es V0 "xor") (.bin .BitXor V1 V2) .never))))))))))))
def XM:Tc:=λ ts Q=>∃(w:Str),ts=[.str w]/\Vz w/\Q (.int (dJ w))
def zc6:Ct:=(.r (.cmp .In V0 (.t3 (.w "add") (.w "or") (.w "xor"))) N0 (.r (.es V0 "mul") N1 (.r (.es V0 "max") (.g 0) (.r (.es V0 "min") (.g 1) (.r (.es V0 "and") (.neg N1) .never)))))
def XN:Tc:=λ ts Q=>∃i:Nat,i<15/\ts=[.str (dh i)]/\Q (.lst ((xQ i).map .int))
def zc7:Ct:=(.ret (.compI ["kind","place"] [] [] [0,1] .seq (.a1 (.dk 6 V0)) (.es V0 "step") V1))
def XO:Tc:=λ ts Q=>∃d:Stp,ts=[Tn d]/\Q (tI ((ar d).map λ a:Nat=>(a:Int)))
def zc8:Ct:=(.ret (.b1 .tuple (.comp ["place"] ["step"] [0] [0] .seq (.a1 (.c1 7 (.x 0 0))) (.ix V1 V0))))
def XQ:Tc:=λ ts Q=>∃(t:TV) (ds:List Stp) (es:LI),ts=[t,tI es]/\t=.tup (ds.map Tn)/\ds.length<=40/\(∀e∈es,0<=e/\e<(ds.length:Int))/\(∀d∈ds,∀a∈ar d,a<ds.length)/\Q (.lst ((aU ds es).map λ k=>.int (k:Nat)))
def zc9:Ct:=(.set 2 (.comp ["step"] [] [] [0] .seq (.a1 V0) (.c (.bl Op))) (.for [3] .seq (.a1 V1) (.put 2 V3 (.c (.bl On)) .nil) (.for [4] .rng3 (.a3 (.sb (.ln V0) N1) (.neg N1) (.neg N1)) (.i (.ix V2 V4) (.for [5] .seq (.a1 (.c1 8 (.ix V0 V4))) (.put 2 V5 (.c (.bl On)) .nil) .nil) .nil) (.ret (.compI ["k"] ["reached"] [2] [0] .rng (.a1 (.ln V0)) (.ix V1 V0) V0)))))
def zn:Tc:=λ ts Q=>∃(t:TV),ts=[t]/\∃ns,(t=tI ns\/t=lI ns)/\bR ns/\Q (.int (ai ns))
def KC:Ct:=(.set 1 N1 (.for [2] .seq (.a1 V0) (.set 1 (.ml V1 V2) .nil) (.ret V1)))
def zq:Tc:=λ ts Q=>∃ns,ts=[tI ns]/\bR ns/\ns.length<=63/\Q (.int (ai (ns.map aq)))
def KD:Ct:=(.ret (.c1 10 (.comp ["side"] [] [] [0] .seq (.a1 V0) (.ite (.ne V0 N0) V0 N1))))
def zr:Tc:=λ ts Q=>∃ns,ts=[tI ns]/\bR ns/\ns.length<=63/\¬cS ns/\Q (tI ns)
def KE:Ct:=(.nv (.gt (.ln V0) (.g 2)) (.nv (.gt (.c1 11 V0) (.g 3)) (.ret V0)))
def zu:Tc:=λ ts Q=>∃ns,ts=[tI ns]/\bR ns/\ns.length<=63/\Q (tI (UB ns ns.length).reverse)
def KF:Ct:=(.set 1 .l0 (.set 2 N1 (.for [3] (.rev On) (.a1 V0) (.met .append 1 (.a1 V2) (.set 2 (.ml V2 V3) .nil)) (.ret (.trev Op V1)))))
def zw:Tc:=λ ts Q=>∃(ns:LI) (k:Nat) (m:Int),ts=[tI ns,.int k,.int m]/\ns.length<=63/\k<ns.length/\Q (tI (ns.set k m))
def KG:Ct:=(.ret (.ad (.ad (.st V0 V1) (.t1 V2)) (.sf V0 (.ad V1 N1))))
def zx:Tc:=λ ts Q=>∃(ns:LI) (k:Nat) (m:Int),ts=[tI ns,.int k,.int m]/\ns.length<=63/\Q (tI (bC ns k m))
def KH:Ct:=(.ret (.ad (.ad (.st V0 V1) (.t1 V2)) (.sf V0 V1)))
def zy:Tc:=λ ts Q=>∃(ns:LI) (k:Nat),ts=[tI ns,.int k]/\ns.length<=63/\k<ns.length/\Q (tI (ns.eraseIdx k))
def KJ:Ct:=(.ret (.ad (.st V0 V1) (.sf V0 (.ad V1 N1))))
def zz:Tc:=λ ts Q=>∃(ns:LI) (side:Int),ts=[tI ns,.int side]/\¬Uc ns side/\Q .non
def KL:Ct:=(.nv (.or (.lt V1 N0) (.ge V1 (.ln V0))) .nil)
def zA:Tc:=λ ts Q=>∃(ns os:LI),ts=[tI ns,tI os]/\ns.length<=20/\os.length<=20/\ju ns.length os/\Q (tI (bS ns os))
def KM:Ct:=(.nv (.ne (.b1 .sorted V1) (.lrng Op (.ln V0))) (.ret (.b1 .tuple (.comp ["side"] ["sides"] [0] [0] .seq (.a1 V1) (.ix V1 V0)))))
def zB:Tc:=λ ts Q=>∃(ns:LI) (side:Int),ts=[tI ns,.int side]/\¬Uc ns side/\Q (tI ns)
def KN:Ct:=(.ex (.c2 17 V0 V1) (.ret V0))
def zD:Tc:=λ ts Q=>∃(ns:LI) (side first many step:Int),ts=[tI ns,.int side,.int first,.int many,.int step]/\ns.length<=63/\-100<many/\many<1000000/\¬Uc ns side/\¬Ve ns side first many step/\Q (tI (ns.set side.toNat many))
def KO:Ct:=(.ex (.c2 17 V0 V1) (.nv (.or (.lt V2 N0) (.or (.lt V3 N0) (.lt V4 N1))) (.nv (.and (.gt V3 N0) (.ge (.ad V2 (.ml (.sb V3 N1) V4)) (.ix V0 V1))) (.ret (.c3 14 V0 V1 V3)))))
def zE:Tc:=λ ts Q=>∃(ns:LI) (side many:Int),ts=[tI ns,.int side,.int many]/\bR ns/\ns.length<=20/\many<1000000/\¬jv ns side/\¬many<0/\¬cS (bC ns side.toNat many)/\Q (tI (bC ns side.toNat many))
def KP:Ct:=(.nv (.or (.lt V1 N0) (.gt V1 (.ln V0))) (.nv (.lt V2 N0) (.ret (.c1 12 (.c3 15 V0 V1 V2)))))
def zF:Tc:=λ ts Q=>∃(ns ms:LI),ts=[tI ns,tI ms]/\bR ns/\bR ms/\ms.length<=20/\¬cS ms/\ai ns=ai ms/\Q (tI ms)
def KQ:Ct:=(.ex (.c1 12 V1) (.nv (.ne (.c1 10 V0) (.c1 10 V1)) (.ret V1)))
def zG:Tc:=λ ts Q=>∃(ns ms:LI) (side:Int),ts=[tI ns,tI ms,.int side]/\sm ns/\sm ms/\ns.length<=20/\ns.length=ms.length/\¬Uc ns side/\ns.eraseIdx side.toNat=ms.eraseIdx side.toNat/\¬cS (fQ ns ms side)/\Q (tI (fQ ns ms side))
def KR:Ct:=(.nv (.ne (.ln V0) (.ln V1)) (.ex (.c2 17 V0 V2) (.nv (.ne (.c2 16 V0 V2) (.c2 16 V1 V2)) (.ret (.c1 12 (.c3 14 V0 V2 (.ad (.ix V0 V2) (.ix V1 V2))))))))
def zH:Tc:=λ ts Q=>∃(ns ms:LI),ts=[tI ns,tI ms]/\ms.take ns.length=ns/\Q (tI ms)
def KS:Ct:=(.nv (.ne (.st V1 (.ln V0)) V0) (.ret V1))
def zI:Tc:=λ ts Q=>∃(ns ms:LI),ts=[tI ns,tI ms]/\cq ns ms/\Q (tI (bM ns ms))
def KU:Ct:=(.r (.gt (.ln V0) (.ln V1)) (.c2 24 V1 V0) (.ret (.c2 24 V0 V1)))
def zJ:Tc:=λ ts Q=>∃(ns ms ks:LI),ts=[tI ns,tI ms,tI ks]/\cq ns ms/\cq (bM ns ms) ks/\Q (tI (bM (bM ns ms) ks))
def KW:Ct:=(.ret (.c2 25 (.c2 25 V0 V1) V2))
def zK:Tc:=λ ts Q=>∃(n:Int) (r ms:LI),ts=[tI (n::r),tI ms]/\bR (n::r)/\bR ms/\r.length<20/\ms.length<=20/\n≠0/\¬cS (ms++r)/\Q (tI (ms++r))
def KY:Ct:=(.nv (.eq (.ln V0) N0) (.nv (.eq (.x 0 0) N0) (.ret (.c1 12 (.ad V1 (.sf V0 N1))))))
def zM:Tc:=λ ts Q=>∃(ns:LI) (side:Int),ts=[tI ns,.int side]/\ns.length<=63/\¬Uc ns side/\Q (tI (ns.eraseIdx side.toNat))
def KZ:Ct:=(.ex (.c2 17 V0 V1) (.ret (.c2 16 V0 V1)))
def zN:Tc:=λ ts Q=>∃(ns:LI) (side:Int),ts=[tI ns,.int side]/\bR ns/\ns.length<=20/\¬cS ns/\¬Uc ns side/\Q (tI ns)
def La:Ct:=(.ex (.c1 12 V0) (.ex (.c2 17 V0 V1) (.ret V0)))
def zP:Tc:=λ ts Q=>∃d:Stp,ts=[Tn d]/\yj d/\Q .non
def Lb:Ct:=(.i (.es (.x 0 0) "each") (.ex (.c2 4 (.x 0 1) N0) .nil) (.i (.es (.x 0 0) "pair") (.ex (.c3 5 (.x 0 1) N0 N0) .nil) (.i (.cmp .In (.x 0 0) (.t2 (.w "fold") (.w "run"))) (.ex (.c1 6 (.x 0 1)) .nil) .nil)))
def zQ:Tc:=λ ts Q=>∃(d:Stp) (S:LI) (Ss:LL),ts=[Tn d]/\Tz d<3/\Uh Ss S d/\fit S/\Q (tI S)
def Lc:Ct:=(.r (.es (.x 0 0) "in") (.c1 12 (.x 0 1)) (.r (.es (.x 0 0) "count") (.c2 29 (.x 0 1) (.x 0 2)) (.ret .t0)))
def zR:Tc:=λ ts Q=>∃(d:Stp) (S A:LI) (Ss:LL) (a:Nat),ts=[Tn d,tI A]/\ar d=[a]/\Ss[a]?=Om A/\fit A/\Uh Ss S d/\fit S/\Q (tI S)
def Ld:Ct:=(.set 2 (.x 0 0) (.r (.es V2 "turn") (.c2 18 V1 (.x 0 2)) (.r (.es V2 "flip") (.c2 19 V1 (.x 0 2)) (.r (.es V2 "cut") (.call 20 (.cons V1 (.cons (.x 0 2) (.cons (.x 0 3) (.cons (.x 0 4) (.cons (.x 0 5) .nil)))))) (.r (.es V2 "spread") (.c3 21 V1 (.x 0 2) (.x 0 3)) (.r (.es V2 "lay") (.c2 22 V1 (.x 0 2)) (.r (.es V2 "fold") (.c2 28 V1 (.x 0 3)) (.r (.es V2 "run") (.c2 19 V1 (.x 0 3)) (.ret V1)))))))))
def zU:Tc:=λ ts Q=>∃(t:TV) (d:Stp) (S:LI) (Ss:LL),ts=[Tn d,t]/\t=.lst (Ss.map tI)/\(∀T∈Ss,fit T)/\Uh Ss S d/\fit S/\Q (tI S)
def Le:Ct:=(.ex (.c1 30 V0) (.set 2 (.comp ["number"] ["sides"] [1] [0] .seq (.a1 (.c1 8 V0)) (.ix V1 V0)) (.set 3 (.x 0 0) (.r (.eq (.ln V2) N0) (.c1 31 V0) (.r (.eq (.ln V2) N1) (.c2 32 V0 (.x 2 0)) (.r (.es V3 "pair") (.c2 25 (.x 2 0) (.x 2 1)) (.r (.es V3 "join") (.c3 23 (.x 2 0) (.x 2 1) (.x 0 3)) (.r (.es V3 "fetch") (.c2 27 (.x 2 0) (.x 2 1)) (.ret (.c3 26 (.x 2 0) (.x 2 1) (.x 2 2)))))))))))
def zV:Tc:=λ ts Q=>∃(t:TV) (d:Stp) (S:LI) (Ss:LL),ts=[Tn d,t]/\t=.lst (Ss.map tI)/\(∀T∈Ss,fit T)/\Ss.length<40/\Uh Ss S d/\fit S/\Q (.tup [tI S,.non])
def Lf:Ct:=(.set 2 (.ln V1) (.r (.ge V2 (.g 4)) (.t2 (.c .non) (.w "many")) (.r (.b1 .any (.comp ["number"] ["k"] [2] [0] .seq (.a1 (.c1 8 V0)) (.or (.lt V0 N0) (.ge V0 V1)))) (.t2 (.c .non) (.w "name")) (.tri (.ret (.t2 (.c2 33 V0 V1) (.c .non))) .nil))))
def zW:Tc:=λ ts Q=>∃(ds:List Stp) (Ss:LL) (os:LI) (mo:Int),ts=[.tup [.tup (ds.map Tn),tI os]]/\gR mo ds Ss os/\Q (.tup [.tup (Ss.map tI),.non])
def Lg:Ct:=(.set 1 (.x 0 0) (.set 2 (.x 0 1) (.set 3 .l0 (.for [4] .seq (.a1 V1) (.set 5 (.c2 34 V4 V3) (.r (.cmp .IsNot (.x 5 1) (.c .non)) (.t2 (.b1 .tuple V3) (.t2 (.ln V3) (.x 5 1))) (.met .append 3 (.a1 (.x 5 0)) .nil))) (.r (.or (.not (.cm2 .LtE .LtE N1 (.ln V2) (.g 5))) (.b1 .any (.comp ["out"] ["steps"] [1] [0] .seq (.a1 V2) (.or (.lt V0 N0) (.ge V0 (.ln V1)))))) (.t2 (.b1 .tuple V3) (.t2 (.ln V1) (.w "out"))) (.ret (.t2 (.b1 .tuple V3) (.c .non))))))))
def zX:Tc:=λ ts Q=>∃(ds:List Stp) (Ss:LL) (os:LI) (mo:Int),ts=[.tup [.tup (ds.map Tn),tI os]]/\gR mo ds Ss os/\Q (.tup (Ss.map tI))
def Lh:Ct:=(.set 1 (.c1 35 V0) (.set 2 (.x 1 1) (.nv (.cmp .IsNot V2 (.c .non)) (.ret (.x 1 0)))))
def zY:Tc:=λ ts Q=>∃ns,ts=[tI ns]/\bR ns/\ns.length<=63/\Q (Uf ns 0 (aI ns))
def Li:Ct:=(.ret (.t3 V0 N0 (.c1 13 V0)))
def zZ:Tc:=λ ts Q=>∃(ns ss os:LI) (b:Int),ts=[Uf ns b ss,tI os]/\ns.length<=6/\ns.length<=ss.length/\ss.length<=60/\ju ns.length os/\Q (Uf (bS ns os) b (bS ss os++ss.drop ns.length))
def Lj:Ct:=(.set 2 (.c2 18 (.x 0 0) V1) (.set 3 (.x 0 2) (.set 4 (.b1 .tuple (.comp ["side"] ["strides"] [3] [0] .seq (.a1 V1) (.ix V1 V0))) (.ret (.t3 V2 (.x 0 1) (.ad V4 (.sf V3 (.ln V2))))))))
def Aa:Tc:=λ ts Q=>∃(ns ss:LI) (b:Int) (k:Nat),ts=[Uf ns b ss,.int k]/\ns.length<=6/\ns.length<=ss.length/\ss.length<=60/\k<ns.length/\(∀n∈ns,0<=n/\n<=512)/\Q (Uf ns (b+(ns.getD k 0-1)*ss.getD k 0) (ss.set k (-ss.getD k 0)))
def Lk:Ct:=(.set 2 (.c2 19 (.x 0 0) V1) (.set 3 (.ix (.x 0 2) V1) (.set 4 (.ad (.x 0 1) (.ml (.sb (.ix V2 V1) N1) V3)) (.fz 4 (.ret (.t3 V2 V4 (.c3 14 (.x 0 2) V1 (.neg V3))))))))
def Ab:Tc:=λ ts Q=>∃(ns ss:LI) (b f m g:Int) (k:Nat),ts=[Uf ns b ss,.int k,.int f,.int m,.int g]/\ns.length<=6/\ns.length<=ss.length/\ss.length<=60/\k<ns.length/\(m<=512/\f<=512/\g<=512)/\¬Ve ns k f m g/\Q (Uf (ns.set k m) (b+f*ss.getD k 0) (ss.set k (ss.getD k 0*g)))
def Ll:Ct:=(.set 5 (.call 20 (.cons (.x 0 0) (.cons V1 (.cons V2 (.cons V3 (.cons V4 .nil)))))) (.set 6 (.ix (.x 0 2) V1) (.ret (.t3 V5 (.ad (.x 0 1) (.ml V2 V6)) (.c3 14 (.x 0 2) V1 (.ml V6 V4))))))
def Ac:Tc:=λ ts Q=>∃(ns ss:LI) (b m:Int) (k:Nat),ts=[Uf ns b ss,.int k,.int m]/\bR ns/\ns.length<=6/\ns.length<=ss.length/\ss.length<=60/\k<=ns.length/\0<=m/\m<1000000/\¬cS (bC ns k m)/\Q (Uf (bC ns k m) b (bC ss k 0))
def Lm:Ct:=(.set 3 (.c3 21 (.x 0 0) V1 V2) (.ret (.t3 V3 (.x 0 1) (.c3 15 (.x 0 2) V1 N0))))
def Ad:Tc:=λ ts Q=>∃(ns ms ss:LI) (b:Int),ts=[Uf ns b ss,tI ms]/\ms.take ns.length=ns/\ns.length<=6/\ms.length<=6/\ss.length<=60/\Q (Uf ms b (dq ns.length (ms.length-ns.length) b ss).2)
def Ln:Ct:=(.ex (.c2 24 (.x 0 0) V1) (.set 2 (.ln (.x 0 0)) (.set 3 (.x 0 2) (.set 4 (.ml (.t1 N0) (.sb (.ln V1) V2)) (.ret (.t3 V1 (.x 0 1) (.ad (.ad (.st V3 V2) V4) (.sf V3 V2))))))))
def Ae:Tc:=λ ts Q=>∃(ns ss:LI) (b:Int) (k:Nat),ts=[Uf ns b ss,.int k]/\ns.length<=6/\ns.length<=ss.length/\ss.length<=60/\k<ns.length/\Q (Uf (ns.eraseIdx k) b (cD ns.length k b ss).2)
def Lo:Ct:=(.set 2 (.c2 28 (.x 0 0) V1) (.set 3 (.x 0 2) (.ret (.t3 V2 (.x 0 1) (.c3 15 (.c2 16 V3 V1) (.ln V2) (.ix V3 V1))))))
def Af:Tc:=λ ts Q=>∃(d:Stp) (A S ss:LI) (b:Int) (Ss:LL),ts=[Tn d,Uf A b ss]/\Vi d/\Ss[(ar d).headD 0]?=Om A/\fit A/\Uh Ss S d/\A.length<=ss.length/\ss.length<=60/\Q (Uf S (cE A d b ss).1 (cE A d b ss).2)
def Lp:Ct:=(.r (.es (.x 0 0) "turn") (.c2 38 V1 (.x 0 2)) (.r (.es (.x 0 0) "flip") (.c2 39 V1 (.x 0 2)) (.r (.es (.x 0 0) "cut") (.call 40 (.cons V1 (.cons (.x 0 2) (.cons (.x 0 3) (.cons (.x 0 4) (.cons (.x 0 5) .nil)))))) (.ret (.c3 41 V1 (.x 0 2) (.x 0 3))))))
def Ag:Tc:=λ ts Q=>∃t:Tr,ts=[Th t]/\Q (.bl (match t with|.num _=>On|.idx _ _=>On|.read _ _ _=>On|_=>Op))
def Lq:Ct:=(.ret (.cmp .In (.x 0 0) (.t3 (.w "num") (.w "index") (.w "read"))))
def Ah:Tc:=λ ts Q=>∃t:Tr,ts=[Th t]/\Q (.tup ((Vh t).map Th))
def Lr:Ct:=(.set 1 (.x 0 0) (.r (.es V1 "pick") (.sf V0 N1) (.r (.cmp .In V1 (.t2 (.w "each") (.w "pair"))) (.sf V0 N2) (.r (.es V1 "fold") (.sf V0 N3) (.r (.es V1 "fetch") (.sf V0 N6) (.ret .t0))))))
def Ai:Tc->Tc:=λ Φ ts Q=>∃(t:Tr) (g:Gf),ts=[Th t]/\Xy Φ g (WN t)/\Q (.tup (Wq (rm g t)))
def Lu:Ct:=(.set 2 (.x 0 0) (.r (.es V2 "index") (.ad (.t1 (.w "index")) (.ap 1 47 (.a2 (.x 0 1) (.x 0 2)))) (.r (.es V2 "read") (.ad (.t2 (.w "read") (.x 0 1)) (.ap 1 47 (.a2 (.x 0 2) (.x 0 3)))) (.i (.es V2 "fetch") (.set 3 (.ap 1 47 (.a2 (.x 0 2) (.x 0 5))) (.ret (.tup (.cons (.w "fetch") (.cons (.x 0 1) (.cons (.x 3 0) (.cons (.x 0 3) (.cons (.x 0 4) (.cons (.x 3 1) .nil))))))))) (.ret (.st V0 (.sb (.ln V0) (.ln (.c1 46 V0)))))))))
def mL:Nat->Tc->Tc:=λ d=>match d with|0=>λ _ _ _=>False|d+1=>λ Φ ts Q=>∃(t:Tr) (g:Gf),ts=[Th t]/\To t<=d/\Xy Φ g (TH t)/\Q (Th (rm g t))
def Lv:Ct:=(.set 2 .l0 (.for [3] .seq (.a1 (.c1 46 V0)) (.met .append 2 (.a1 (.cf 1 48 "remade" V3)) .nil) (.ret (.ad (.cf 1 48 "root_remade" V0) (.b1 .tuple V2)))))
def Aj:Tc:=λ ts Q=>∃(ds:List Stp) (Ss:LL) (os:LI) (mo:Int),ts=[.tup [.tup (ds.map Tn),tI os]]/\gR mo ds Ss os/\Q (.lst ((aU ds os).map λ k=>.int (k:Nat)))
def Lw:Ct:=(.ret (.c2 9 (.x 0 0) (.x 0 1)))
def Ak:Tc:=λ ts Q=>∃(ds:List Stp) (Ss:LL) (os:LI) (mo:Int),ts=[.tup [.tup (ds.map Tn),tI os]]/\gR mo ds Ss os/\Q (.lst ((ef ds os).map λ l=>.lst (l.map kT)))
def Lx:Ct:=(.set 1 (.x 0 0) (.nl 2 ["step"] .seq (.a1 V1) (.for [3] .seq (.a1 (.c1 91 V0)) (.for [4,5] (.enum On) (.a1 (.c1 8 (.ix V1 V3))) (.pu 2 5 (.t2 V3 V4) .nil) .nil) (.fu 2 (.ret V2)))))
def pJ:Tc->Tc:=λ Φ ts Q=>∃(t:Tr) (S:LI) (h:Gf),ts=[Th t,tI S]/\To t<=41/\isM Φ S h (TH t)/\Q (Th (rm h t))
def Ly:Cd:=(.a1 V0)
def Lz:Cd:=(.sf (.ap 3 46 (.a1 (.t3 V2 V0 V1))) N1)
def Al:Tc:=λ ts Q=>∃(t:Tr) (S L:LI),ts=[Th t,tI S,tI L]/\To t<=41/\fT S.length t/\L.take S.length=S/\S.length<=6/\L.length<=6/\Q (Th (rm (dq S.length (L.length-S.length)) t))
noncomputable def LB:Ct:=.nil
def LC:Cd:=(.a2 V0 V1)
def LD:Cd:=(.c2 42 V0 V1)
def Am:Tc:=λ ts Q=>∃(t:Tr) (S:LI) (k:Nat),ts=[Th t,tI S,.int k]/\To t<=41/\fT S.length t/\S.length<=6/\k<S.length/\Q (Th (rm (cD S.length k) t))
noncomputable def LG:Ct:=.nil
def LH:Cd:=(.a2 V0 V1)
def LJ:Cd:=(.c2 43 V0 V1)
def Ao:Tc:=λ ts Q=>∃(st:Int) (S:LI),ts=[.int st,tI S]/\bR S/\S.length<=63/\Q (Th (.read st 0 (aI S)))
def LK:Ct:=(.ret (.tup (.cons (.w "read") (.cons V0 (.cons N0 (.cons (.c1 13 V1) .nil))))))
def Ap:Tc:=λ ts Q=>∃(a b:Nat) (n:Int) (r B S ss:LI) (st s:Int) (t:Tr) (Ss:LL) (Ts:List (Option Tr)),ts=[Tn (.fetch a b),tI S,.tup (Ss.map tI),.lst (Ts.map TJ)]/\Ss[a]?=Om (n::r)/\Ss[b]?=Om B/\Ts[a]?=Om (Om (.read st s ss))/\Ts[b]?=Om (Om t)/\0<ss.length/\ss.length<=60/\B.length<=6/\S.length<=6/\S.take B.length=B/\To t<=41/\fT B.length t/\Q (Th (kH (.read st s ss) (n::r) B (rm (dq B.length (S.length-B.length)) t)))
def LM:Ct:=(.set 4 (.ix V3 (.x 0 1)) (.set 5 (.ix V2 (.x 0 2)) (.set 6 (.ad (.ml (.t1 N0) (.ln V5)) (.sf (.x 4 3) N1)) (.set 7 (.c3 94 (.ix V3 (.x 0 2)) V5 V1) (.fz 6 (.ret (.tup (.cons (.w "fetch") (.cons (.x 4 1) (.cons (.x 4 2) (.cons (.ix (.x 4 3) N0) (.cons (.ix (.ix V2 (.x 0 1)) N0) (.cons V6 (.cons V7 .nil))))))))))))))
def Aq:Tc:=λ ts Q=>∃(d:Stp) (S:LI) (Ss:LL) (Ts:List (Option Tr)),ts=[Tn d,tI S,.tup (Ss.map tI),.lst (Ts.map TJ)]/\Uh Ss S d/\(∀T∈Ss,fit T)/\fit S/\py Ts Ss d/\Q (TJ (cu Ts Ss S d))
def LN:Ct:=(.set 4 (.x 0 0) (.set 5 (.c1 8 V0) (.r (.es V4 "num") V0 (.r (.es V4 "count") (.t3 (.w "index") N0 (.b1 .tuple (.comp ["side"] ["step"] [0] [0] .rng (.a1 (.ln V1)) (.ite (.eq V0 (.x 1 2)) N1 N0)))) (.i (.cmp .In V4 (.t3 (.w "each") (.w "pair") (.w "pick"))) (.set 6 (.st V0 (.sb (.ln V0) (.ln V5))) (.ret (.ad V6 (.b1 .tuple (.comp ["number"] ["own","trees","sides"] [1,3,2] [0] .seq (.a1 V5) (.c3 94 (.ix V2 V0) (.ix V3 V0) V1)))))) .nil)))))
def LP:Cd:=(.a2 (.ix V3 (.x 5 0)) (.ix V2 (.x 5 0)))
def Ar:Cd:=(.c2 44 V1 V0)
def LQ:Cd:=(.cmp .In V4 (.tup (.cons (.w "turn") (.cons (.w "flip") (.cons (.w "cut") (.cons (.w "spread") .nil))))))
def LR:Ct:=(.r (.es V4 "lay") (.c2 96 (.ix (.ix V3 (.x 5 0)) N1) V1) (.r (.es V4 "fetch") (.call 97 (.cons V0 (.cons V1 (.cons V2 (.cons V3 .nil))))) (.i (.es V4 "fold") (.set 7 (.ix V2 (.x 5 0)) (.ret (.tup (.cons (.w "fold") (.cons (.x 0 1) (.cons (.ix V7 (.x 0 3)) (.cons (.c3 95 (.ix V3 (.x 5 0)) V7 (.x 0 3)) .nil))))))) (.ret (.c .non)))))
def As:Tc:=λ ts Q=>∃(ds:List Stp) (Ss:LL) (k u:Nat) (p:Int) (d:Stp) (S A:LI),ts=[.int k,kT [(u:Int),p],.tup (ds.map Tn),.tup (Ss.map tI)]/\ds[u]?=Om d/\Ss[u]?=Om A/\Ss[k]?=Om S/\Q (.bl (pz ds Ss k u p))
def LS:Ct:=(.set 4 (.ix (.ix V2 (.x 1 0)) N0) (.set 5 (.or (.cmp .In V4 (.t2 (.w "pair") (.w "pick"))) (.and (.es V4 "fetch") (.eq (.x 1 1) N1))) (.ret (.and V5 (.gt (.ln (.ix V3 (.x 1 0))) (.ln (.ix V3 V0)))))))
def At:Tc:=λ ts Q=>∃(ds:List Stp) (Ss:LL) (os:LI) (k:Nat) (d:Stp) (o:Option Tr) (us:LL) (S:LI),ts=[.int k,TJ o,.tup [.tup (ds.map Tn),tI os],.tup (Ss.map tI),.lst (us.map kT)]/\ds[k]?=Om d/\Ss[k]?=Om S/\ds.length=Ss.length/\(∀x∈us,∃u p:Nat,x=[(u:Int),(p:Int)]/\u<ds.length)/\us.length<=900/\(¬iM d->∃t,o=Om t)/\(∀ms,d≠.inp ms)/\Q (.bl (kJ ds Ss os k d o us))
def LU:Ct:=(.set 5 (.x 2 0) (.r (.es (.ix (.ix V5 V0) N0) "lay") (.c (.bl Op)) (.r (.or (.cmp .In (.ix (.ix V5 V0) N0) (.t2 (.w "run") (.w "join"))) (.cmp .In V0 (.x 2 1))) (.c (.bl On)) (.set 6 (.comp ["use"] ["steps"] [5] [0] .seq (.a1 V4) (.ix (.ix V1 (.x 0 0)) N0)) (.r (.cmp .In (.w "lay") V6) (.c (.bl On)) (.r (.and (.ne (.x 1 0) (.w "read")) (.b1 .any (.comp ["use"] ["steps"] [5] [0] .seq (.a1 V4) (.and (.es (.ix (.ix V1 (.x 0 0)) N0) "fetch") (.eq (.x 0 1) N0))))) (.c (.bl On)) (.r (.c1 45 V1) (.c (.bl Op)) (.ret (.or (.gt (.ln V4) N1) (.or (.cmp .In (.w "spread") V6) (.b1 .any (.comp ["use"] ["k","steps","sides"] [0,5,3] [0] .seq (.a1 V4) (.call 99 (.cons V1 (.cons V0 (.cons V2 (.cons V3 .nil)))))))))))))))))
def Au:Tc:=λ ts Q=>∃(ds:List Stp) (Ss:LL) (os:LI) (mo:Int),ts=[.tup [.tup (ds.map Tn),tI os],.tup (Ss.map tI)]/\gR mo ds Ss os/\Q (WP (Te ds Ss os ds.length))
def LW:Ct:=(.set 2 (.x 0 0) (.set 3 (.c1 91 V0) (.set 4 (.c1 92 V0) (.set 5 .l0 (.set 6 .l0 (.set 7 .l0 (.for [8,9] (.enum On) (.a1 V2) (.set 10 (.ite (.cmp .In V8 V3) (.call 98 (.cons V9 (.cons (.ix V1 V8) (.cons V1 (.cons V5 .nil))))) (.c .non)) (.met .append 6 (.a1 Uu) (.i (.or (.es (.x 9 0) "in") (.and (.cmp .In V8 V3) (.call 100 (.cons V8 (.cons Uu (.cons V0 (.cons V1 (.cons (.ix V4 V8) .nil)))))))) (.set 10 (.c2 96 (.ln V7) (.ix V1 V8)) (.met .append 7 (.a1 V8) .nil)) (.met .append 5 (.a1 Uu) .nil)))) (.fz 7 (.fz 6 (.fz 5 (.ret (.t3 V5 V6 V7))))))))))))
def Av:Tc:=λ ts Q=>∃(w:Str) (a k:Nat) (st:Int) (A:LI) (t:Tr) (Ss:LL) (Ts:List (Option Tr)),ts=[Tn (.run w a k),.int st,.tup (Ss.map tI),.lst (Ts.map TJ)]/\Ss[a]?=Om A/\Ts[a]?=Om (Om t)/\fit A/\k<A.length/\To t<=41/\fT A.length t/\Q (Vl w st A k (Th (rm (cD A.length k) t)))
def LX:Ct:=(.set 4 (.ix V2 (.x 0 2)) (.set 5 (.x 0 3) (.set 6 (.c2 43 (.c1 37 V4) V5) (.set 7 (.c3 95 (.ix V3 (.x 0 2)) V4 V5) (.ret (.tup (.cons (.w "run") (.cons (.x 0 1) (.cons V1 (.cons (.x 6 0) (.cons (.ix V4 V5) (.cons (.x 6 1) (.cons (.x 6 2) (.cons V7 .nil))))))))))))))
def Aw:Tc:=λ ts Q=>∃(a b k:Nat) (st:Int) (A B S:LI) (ta tb:Tr) (Ss:LL) (Ts:List (Option Tr)),ts=[Tn (.join a b k),.int st,tI S,.tup (Ss.map tI),.lst (Ts.map TJ)]/\Ss[a]?=Om A/\Ss[b]?=Om B/\Ts[a]?=Om (Om ta)/\Ts[b]?=Om (Om tb)/\fit A/\fit S/\k<A.length/\S.length=A.length/\Q (.lst [dL st A 0 (aI S) (Th ta),dL st B (A.getD k 0*(aI S).getD k 0) (aI S) (Th tb)])
def LY:Ct:=(.set 5 (.x 0 1) (.set 6 (.x 0 2) (.set 7 (.c1 13 V2) (.set 8 (.ml (.ix (.ix V3 V5) (.x 0 3)) (.ix V7 (.x 0 3))) (.fz 8 (.ret (.lst (.a2 (.tup (.cons (.w "fill") (.cons V1 (.cons (.ix V3 V5) (.cons N0 (.cons V7 (.cons (.ix V4 V5) .nil))))))) (.tup (.cons (.w "fill") (.cons V1 (.cons (.ix V3 V6) (.cons V8 (.cons V7 (.cons (.ix V4 V6) .nil)))))))))))))))
def Ax:Tc:=λ ts Q=>∃(ds:List Stp) (Ss:LL) (os:LI) (mo:Int) (k:Nat) (st:Int),ts=[.int k,.int st,.tup [.tup (ds.map Tn),tI os],.tup (Ss.map tI),WP (Te ds Ss os ds.length)]/\gR mo ds Ss os/\k∈aU ds os/\bO (ds.getD k (.num 0))=Op/\Q (.lst (UN Ss (Te ds Ss os ds.length).Ts (Tg Ss k) ((Te ds Ss os ds.length).Bs.getD k Oo) st (ds.getD k (.num 0))))
def LZ:Ct:=(.set 5 (.ix (.x 2 0) V0) (.set 6 (.x 4 0) (.r (.es (.x 5 0) "run") (.lst (.a1 (.call 102 (.cons V5 (.cons V1 (.cons V3 (.cons V6 .nil))))))) (.r (.es (.x 5 0) "join") (.call 103 (.cons V5 (.cons V1 (.cons (.ix V3 V0) (.cons V3 (.cons V6 .nil)))))) (.ret (.lst (.a1 (.tup (.cons (.w "fill") (.cons V1 (.cons (.ix V3 V0) (.cons N0 (.cons (.c1 13 (.ix V3 V0)) (.cons (.ix (.x 4 1) V0) .nil))))))))))))))
def Ay:Tc:=λ ts Q=>∃(ds:List Stp) (Ss:LL) (os:LI) (mo:Int),ts=[.tup [.tup (ds.map Tn),tI os]]/\gR mo ds Ss os/\Q (.lst ((fU ds (Te ds Ss os ds.length)).map λ k=>.int (k:Nat)))
def Ma:Ct:=(.set 1 (.ix (.c2 101 V0 (.c1 36 V0)) N2) (.ret (.compI ["k"] ["program"] [0] [0] .seq (.a1 V1) (.ne (.ix (.ix (.x 1 0) V0) N0) (.w "in")) V0)))
def Az:Tc:=λ ts Q=>∃(ds:List Stp) (Ss:LL) (os:LI) (mo:Int),ts=[.tup [.tup (ds.map Tn),tI os]]/\gR mo ds Ss os/\Q (yV ds Ss os (Te ds Ss os ds.length))
def Mb:Ct:=(.set 1 (.c1 36 V0) (.set 2 (.c2 101 V0 V1) (.set 3 (.x 2 2) (.set 4 .l0 (.for [5,6] (.enum Op) (.a1 V3) (.i (.ne (.ix (.ix (.x 0 0) V6) N0) (.w "in")) (.met (.extend Op) 4 (.a1 (.call 104 (.cons V6 (.cons V5 (.cons V0 (.cons V1 (.cons V2 .nil))))))) .nil) .nil) (.set 7 (.b1 .tuple (.comp ["k"] ["sides"] [1] [0] .seq (.a1 V3) (.t2 V0 (.c1 10 (.ix V1 V0))))) (.set 8 (.b1 .tuple (.comp ["out"] ["sides","spun_trees"] [1,2] [0] .seq (.a1 (.x 0 1)) (.t2 (.ix (.ix (.x 2 0) V0) N1) (.ix V1 V0)))) (.ret (.t3 V7 (.b1 .tuple V4) V8)))))))))
def AA:Tc:=λ ts Q=>∃(t:TV) (ns:LI),ts=[t]/\(t=tI ns\/t=lI ns)/\bR ns/\Q (.int (ai ns))
def Mc:Ct:=(.set 1 N1 (.for [2] .seq (.a1 V0) (.set 1 (.ml V1 V2) .nil) (.ret V1)))
def AB:Tc:=λ ts Q=>∃ns:LI,ts=[tI ns]/\bR ns/\ns.length<=500/\Q (.int (ai (ns.map aq)))
def Me:Ct:=(.ret (.c1 107 (.comp ["_law_length"] [] [] [0] .seq (.a1 V0) (.b2 .max N1 V0))))
def AC:Tc:=λ ts Q=>∃n:Int,ts=[.int n]/\Q (.int (mh n))
def Mf:Ct:=(.r (.eq (.md V0 (.n 17)) N5) (.ix (.lst (.cons (.neg (.bin .Pow N2 (.n 63))) (.cons (.sb (.bin .Pow N2 (.n 63)) N1) (.cons (.neg N1) (.cons (.bin .Pow N2 (.n 62)) .nil))))) (.md (.dv V0 (.n 17)) N4)) (.ret (.sb (.md (.ad V0 (.bin .Pow N2 (.n 63))) (.bin .Pow N2 (.n 64))) (.bin .Pow N2 (.n 63)))))
def AD:Tc:=λ ts Q=>∃(ks:LI) (d:Int),ts=[lI ks,.int d]/\0<ks.length/\ks.length<1000000/\∀k∈ks,Q (.int k)
def Mg:Ct:=(.r (.eq (.md V1 N3) N0) (.ix V0 (.md (.dv V1 N3) (.ln V0))) (.ret (.ix V0 (.sb (.sb (.ln V0) N1) (.md (.dv V1 N3) (.b2 .min N3 (.ln V0)))))))
def AE:Tc:=λ ts Q=>∃kd n cell mo:Int,ts=[.int kd,.int n,.int cell,.int mo]/\dn mo/\∀d S,(∀Ss,Uh Ss S d)->aR mo S->Q (Vg d S)
def Mh:Ct:=(.r (.eq V0 N1) (.t2 (.t2 (.w "num") (.c1 109 V2)) .t0) (.set 4 .t0 (.set 5 (.dv V1 (.n 15)) (.for [6] .rng (.a1 (.md V5 N5)) (.set 5 (.dv V5 N5) (.set 7 (.dv V3 (.c1 108 V4)) (.set 8 (.b2 .min (.ix (.lst (.cons N2 (.cons N3 (.cons N1 (.cons N4 (.cons N2 (.cons N3 (.cons N0 .nil)))))))) (.md V5 N7)) V7) (.i (.eq (.md V5 Wk) VM) (.set 8 V7 .nil) (.set 4 (.ad V4 (.t1 V8)) .nil))))) (.i (.eq V0 N0) (.fz 4 (.ret (.t2 (.t2 (.w "in") V4) V4))) (.i (.eq V4 .t0) (.set 4 (.t1 (.b2 .min N3 V3)) .nil) (.fz 4 (.ret (.t2 (.t3 (.w "count") V4 (.md (.dv V1 (.n 15)) (.ln V4))) V4)))))))))
def AF:Tc:=λ ts Q=>∃(ns ms:LI),ts=[tI ns,tI ms]/\∀b,(b=On ↔ cq ns ms)->Q (.bl b)
def Mi:Ct:=(.set 2 (.b2 .min (.ln V0) (.ln V1)) (.ret (.eq (.st V0 V2) (.st V1 V2))))
def AG:Tc:=λ ts Q=>∃(kd d0 d1 d2 mo:Int) (Ss:LL),ts=[.int kd,lI [d0,d1,d2],.lst (Ss.map tI)]/\0<Ss.length/\Ss.length<=40/\(∀S∈Ss,aR mo S)/\∀d S,Uh Ss S d->aR mo S->Q (Vg d S)
def Mj:Ct:=(.set 3 (.lrng Op (.ln V2)) (.set 4 (.c2 110 V3 (.x 1 0)) (.r (.eq V0 N3) (.t2 (.t3 (.w "each") (.ix (.lst (.cons (.w "neg") (.cons (.w "abs") (.cons (.w "sign") (.cons (.w "not") .nil))))) (.md (.x 1 2) N4)) V4) (.ix V2 V4)) (.set 5 (.compI ["_law_k"] ["_law_sides","_law_a"] [2,4] [0] .seq (.a1 V3) (.c2 112 (.ix V1 V2) (.ix V1 V0)) V0) (.set 6 (.c2 110 V5 (.x 1 1)) (.set 7 (.mxl (.ix V2 V4) (.ix V2 V6)) (.i (.eq V0 N4) (.set 8 (.lst (.cons (.w "add") (.cons (.w "sub") (.cons (.w "mul") (.cons (.w "quo") (.cons (.w "rest") (.cons (.w "max") (.cons (.w "min") (.cons (.w "less") (.cons (.w "like") (.cons (.w "and") (.cons (.w "or") (.cons (.w "xor") .nil))))))))))))) (.ret (.t2 (.tup (.cons (.w "pair") (.cons (.ix V8 (.md (.x 1 2) (.n 12))) (.cons V4 (.cons V6 .nil))))) V7))) (.set 5 (.compI ["_law_k"] ["_law_sides","_law_b"] [2,6] [0] .seq (.a1 V5) (.c2 112 (.ix V1 V2) (.ix V1 V0)) V0) (.set 9 (.c2 110 V5 (.x 1 2)) (.ret (.t2 (.tup (.cons (.w "pick") (.cons V4 (.cons V6 (.cons V9 .nil))))) (.mxl V7 (.ix V2 V9)))))))))))))
def AH:Tc:=λ ts Q=>∃(ns:LI) (d mo:Int),ts=[tI ns,.int d]/\aR mo ns/\dn mo/\Q (tI (jw ns d))
def Ml:Ct:=(.set 2 (.c1 107 V0) (.r (.eq (.md V1 N4) N1) (.t1 V2) (.r (.and (.eq (.md V1 N4) N2) (.lt (.ln V0) N6)) (.ad (.t1 N1) V0) (.r (.and (.eq (.md V1 N4) N3) (.eq (.md V2 N2) N0)) (.t2 (.dv V2 N2) N2) (.ret (.trev On V0))))))
def AI:Tc:=λ ts Q=>∃(kd d0 d1 d2 mo:Int) (a:Nat) (A:LI) (Ss:LL),ts=[.int kd,lI [d0,d1,d2],.int a,tI A,.int mo]/\Ss[a]?=Om A/\aR mo A/\dn mo/\∀d S,Uh Ss S d->aR mo S->Q (Vg d S)
def Mm:Ct:=(.i (.eq V0 N6) (.set 5 .l0 (.set 6 (.x 1 2) (.for [7] .rng (.a1 (.ln V3)) (.met .insert 5 (.a2 (.md V6 (.ad V7 N1)) V7) (.set 6 (.dv V6 (.ad V7 N1)) .nil)) (.ret (.t2 (.t3 (.w "turn") V2 (.b1 .tuple V5)) (.b1 .tuple (.comp ["_law_k"] ["_law_own"] [3] [0] .seq (.a1 V5) (.ix V1 V0)))))))) (.r (.eq V0 VM) (.t2 (.t3 (.w "lay") V2 (.c2 114 V3 (.x 1 2))) (.c2 114 V3 (.x 1 2))) (.i (.or (.eq V3 .t0) (.and (.eq V0 N9) (.lt (.ln V3) N6))) (.set 8 (.md (.x 1 1) (.ad (.ln V3) N1)) (.set 9 (.ad N1 (.md (.x 1 2) (.b2 .min N4 (.dv V4 (.c1 108 V3))))) (.i (.eq (.md (.x 1 2) N9) N8) (.set 9 N0 .nil) (.fz 9 (.fz 8 (.ret (.t2 (.tup (.cons (.w "spread") (.cons V2 (.cons V8 (.cons V9 .nil))))) (.ad (.ad (.st V3 V8) (.t1 V9)) (.sf V3 V8))))))))) (.set 10 (.md (.x 1 1) (.ln V3)) (.i (.ne V0 N8) (.fz 10 (.ret (.t2 (.t3 (.w "flip") V2 Uu) V3))) (.set 11 (.ad N1 (.md (.x 1 2) N3)) (.set 12 (.md (.dv (.x 1 2) N3) (.b2 .max N1 (.ix V3 Uu))) (.set 13 (.b2 .max N0 (.sb (.ad (.dv (.sb (.sb (.ix V3 Uu) N1) (.v 12)) Vd) N1) (.md (.dv (.x 1 2) (.n 300)) N3))) (.fz 11 (.fz 12 (.fz 10 (.ret (.t2 (.tup (.cons (.w "cut") (.cons V2 (.cons Uu (.cons (.v 12) (.cons (.v 13) (.cons Vd .nil))))))) (.ad (.ad (.st V3 Uu) (.t1 (.v 13))) (.sf V3 (.ad Uu N1))))))))))))))))
def AJ:Tc:=λ ts Q=>∃(A B:LI) (k:Nat),ts=[tI A,tI B,.int k]/\k<A.length/\A.length<=6/\B.length<=6/\Q (tI (fg A B k))
def Mn:Ct:=(.r (.or (.ne (.ln V0) (.ln V1)) (.ne (.ad (.st V0 V2) (.sf V0 (.ad V2 N1))) (.ad (.st V1 V2) (.sf V1 (.ad V2 N1))))) .t0 (.ret (.ad (.ad (.st V0 V2) (.t1 (.ad (.ix V0 V2) (.ix V1 V2)))) (.sf V0 (.ad V2 N1)))))
def AK:Tc:=λ ts Q=>∃(kd d0 d1 d2 mo:Int) (Ss:LL),ts=[.int kd,lI [d0,d1,d2],.lst (Ss.map tI),.int mo]/\(∃S∈Ss,0<S.length)/\11<=kd/\kd<=14/\Ss.length<=40/\(∀S∈Ss,aR mo S)/\dn mo/\∀d S,Uh Ss S d->aR mo S->Q (Vg d S)
def Mp:Ct:=(.set 4 (.compI ["_law_k"] ["_law_sides"] [2] [0] .rng (.a1 (.ln V2)) (.ne (.ix V1 V0) .t0) V0) (.set 5 (.c2 110 V4 (.x 1 0)) (.set 6 (.ix V2 V5) (.set 7 (.md (.x 1 1) (.ln V6)) (.set 8 (.lst (.cons (.w "add") (.cons (.w "mul") (.cons (.w "max") (.cons (.w "min") (.cons (.w "and") (.cons (.w "or") (.cons (.w "xor") .nil)))))))) (.i (.eq V0 (.n 13)) (.fz 7 (.ret (.t2 (.tup (.cons (.w "fold") (.cons (.ix V8 (.md (.x 1 2) N7)) (.cons V5 (.cons V7 .nil))))) (.ad (.st V6 V7) (.sf V6 (.ad V7 N1)))))) (.i (.eq V0 (.n 14)) (.fz 7 (.ret (.t2 (.tup (.cons (.w "run") (.cons (.ix V8 (.md (.x 1 2) N7)) (.cons V5 (.cons V7 .nil))))) V6))) (.set 9 (.lst (.a1 .t0)) (.ite (.eq V0 Wk) (.set 9 (.comp ["_law_other"] ["_law_own","_law_side"] [6,7] [0] .seq (.a1 V2) (.c3 116 V1 V0 V2)) .nil) (.i (.gt (.x 6 0) N0) (.set 9 (.comp ["_law_other"] ["_law_own"] [6] [0] .seq (.a1 V2) (.ad V0 (.sf V1 N1))) .nil) .nil) (.set 10 (.compI ["_law_k"] ["_law_kind","_law_made","_law_own"] [0,9,6] [0] .rng (.a1 (.ln V9)) (.or (.and (.eq V1 (.n 12)) (.gt (.x 3 0) N0)) (.ne (.ix V2 V0) .t0)) V0) (.set 10 (.compI ["_law_k"] ["_law_most","_law_made"] [3,9] [0] .seq (.a1 Uu) (.and (.cmp .LtE (.ln (.ix V2 V0)) N6) (.cmp .LtE (.c1 108 (.ix V2 V0)) V1)) V0) (.i (.eq (.ln Uu) N0) (.fz 7 (.ret (.t2 (.t3 (.w "flip") V5 V7) V6))) (.set 11 (.c2 110 Uu (.x 1 2)) (.i (.eq V0 Wk) (.fz 7 (.ret (.t2 (.tup (.cons (.w "join") (.cons V5 (.cons Vd (.cons V7 .nil))))) (.ix V9 Vd)))) (.ret (.t2 (.t3 (.w "fetch") V5 Vd) (.ix V9 Vd)))))))))))))))))
def AL:Tc:=λ ts Q=>∃(cell mo:Int) (Ss:LL),ts=[.int cell,.lst (Ss.map tI),.int mo]/\Ss.length<=40/\(∀S∈Ss,aR mo S)/\dn mo/\∀d S,Uh Ss S d->aR mo S->Q (Vg d S)
def Mq:Ct:=(.set 3 (.md (.ml V0 (.n 48271)) (.n 2147483647)) (.set 4 (.md V3 (.n 15)) (.set 5 (.lst (.a3 (.md (.dv V3 (.n 15)) (.n 120)) (.md (.dv V3 (.n 1800)) (.n 120)) (.dv V3 (.n 216000)))) (.r (.or (.eq (.ln V1) N0) (.lt V4 N3)) (.call 111 (.cons (.md V4 N3) (.cons V3 (.cons V0 (.cons V2 .nil))))) (.r (.lt V4 N6) (.c3 113 V4 V5 V1) (.r (.and (.gt V4 VM) (.gt (.b1 .max (.comp ["_law_own"] [] [] [0] .seq (.a1 V1) (.ln V0))) N0)) (.call 117 (.cons V4 (.cons V5 (.cons V1 (.cons V2 .nil))))) (.set 6 (.c2 110 (.lrng Op (.ln V1)) (.x 5 0)) (.ret (.call 115 (.cons (.b2 .min V4 (.sb VM (.b1 .int (.gt V4 VM)))) (.cons V5 (.cons V6 (.cons (.ix V1 V6) (.cons V2 .nil))))))))))))))
def AM:Tc:=λ ts Q=>∃(cs:LI) (mo:Int),ts=[lI cs,.int mo]/\cs.length<=40/\dn mo/\∀ds Ss os,gR mo ds Ss os->Q (.tup [.tup (ds.map Tn),tI os,.lst (Ss.map tI)])
def Mr:Ct:=(.set 2 .l0 (.set 3 .l0 (.for [4] .seq (.a1 V0) (.set 5 (.c3 118 V4 V3 V1) (.met .append 2 (.a1 (.x 5 0)) (.met .append 3 (.a1 (.x 5 1)) .nil))) (.i (.eq (.ln V2) N0) (.met .append 2 (.a1 (.t2 (.w "num") N0)) (.met .append 3 (.a1 .t0) .nil)) (.set 6 .l0 (.set 7 (.md (.ml (.b1 .sum V0) (.n 16807)) (.n 2147483647)) (.for [8] .rng (.a1 (.ix (.lst (.cons N1 (.cons N2 (.cons N3 (.cons N2 (.cons N1 (.cons N8 .nil))))))) (.md V7 N6))) (.set 7 (.md (.ad (.ml V7 (.n 48271)) Wk) (.n 2147483647)) (.met .append 6 (.a1 (.md (.dv V7 (.n 16)) (.ln V2))) .nil)) (.put 6 (.md V7 (.ln V6)) (.sb (.ln V2) N1) (.fz 3 (.ret (.t3 (.b1 .tuple V2) (.b1 .tuple V6) V3)))))))))))
def AN:Tc:=λ ts Q=>∃ns,ts=[tI ns]/\bR ns/\ns.length<=63/\Q (tI (aI ns))
def Mt:Ct:=(.ret (.b1 .tuple (.comp ["_law_k"] ["_law_sides"] [0] [0] .rng (.a1 (.ln V0)) (.c1 107 (.sf V1 (.ad V0 N1))))))
def AO:Tc:=λ ts Q=>∃(t:Tr) (S L:LI),ts=[Th t,tI S,tI L]/\To t<=41/\fT S.length t/\L.take S.length=S/\S.length<=6/\L.length<=6/\Q (Th (rm (dq S.length (L.length-S.length)) t))
def Mu:Ct:=(.set 3 (.sb (.ln V2) (.ln V1)) .nil)
def Mv:Cd:=(.a1 V0)
def Mw:Cd:=(.t2 V0 (.ad (.ad (.st V1 (.ln V2)) (.ml (.t1 N0) V3)) (.sf V1 (.ln V2))))
def AQ:Tc:=λ ts Q=>∃(t:Tr) (S:LI) (k:Nat),ts=[Th t,tI S,.int k]/\To t<=41/\fT S.length t/\S.length<=6/\k<S.length/\Q (Th (rm (cD S.length k) t))
def Mx:Cd:=(.a1 V0)
def Mz:Ct:=(.set 4 (.sf V1 (.ln V2)) (.ret (.t2 V0 (.ad (.ad (.ad (.st V1 V3) (.sl V1 (.ad V3 N1) (.ln V2))) (.t1 (.ix V1 V3))) V4))))
def AR:Tc:=λ ts Q=>∃(d:Stp) (A S:LI) (t:Tr) (Ss:LL),ts=[Tn d,Th t,tI A]/\Vi d/\Ss[(ar d).headD 0]?=Om A/\fit A/\Uh Ss S d/\To t<=41/\fT A.length t/\Q (Th (rm (cE A d) t))
def MA:Cd:=(.a1 V1)
def MB:Ct:=(.set 4 (.x 2 2) (.r (.es (.x 2 0) "turn") (.t2 V0 (.ad (.b1 .tuple (.comp ["_law_side"] ["_law_strides_here"] [1] [0] .seq (.a1 (.x 2 2)) (.ix V1 V0))) (.sf V1 (.ln V3)))) (.r (.es (.x 2 0) "flip") (.t2 (.ad V0 (.ml (.sb (.ix V3 V4) N1) (.ix V1 V4))) (.ad (.ad (.st V1 V4) (.t1 (.neg (.ix V1 V4)))) (.sf V1 (.ad V4 N1)))) (.r (.es (.x 2 0) "cut") (.t2 (.ad V0 (.ml (.x 2 3) (.ix V1 V4))) (.ad (.ad (.st V1 V4) (.t1 (.ml (.x 2 5) (.ix V1 V4)))) (.sf V1 (.ad V4 N1)))) (.ret (.t2 V0 (.ad (.ad (.st V1 V4) (.t1 N0)) (.sf V1 V4))))))))
def AS:Tc:=λ ts Q=>∃(a b:Nat) (n:Int) (r B S ss:LI) (st s:Int) (t:Tr) (Ss:LL) (Ts:List (Option Tr)),ts=[Tn (.fetch a b),.lst (Ts.map TJ),.lst (Ss.map tI),tI S]/\Ss[a]?=Om (n::r)/\Ss[b]?=Om B/\Ts[a]?=Om (Om (.read st s ss))/\Ts[b]?=Om (Om t)/\0<ss.length/\ss.length<=60/\B.length<=6/\S.length<=6/\S.take B.length=B/\To t<=41/\fT B.length t/\Q (Th (kH (.read st s ss) (n::r) B (rm (dq B.length (S.length-B.length)) t)))
def MC:Ct:=(.sets [4,5,6,7] (.ix V1 (.x 0 1)) (.set 8 (.ad (.ml (.t1 N0) (.ln (.ix V2 (.x 0 2)))) (.sf V7 N1)) (.set 9 (.c3 121 (.ix V1 (.x 0 2)) (.ix V2 (.x 0 2)) V3) (.fz 8 (.ret (.tup (.cons (.w "fetch") (.cons V5 (.cons V6 (.cons (.x 7 0) (.cons (.ix (.ix V2 (.x 0 1)) N0) (.cons V8 (.cons V9 .nil)))))))))))))
def AT:Tc:=λ ts Q=>∃(d:Stp) (S:LI) (Ss:LL) (Ts:List (Option Tr)),ts=[Tn d,.lst (Ts.map TJ),.lst (Ss.map tI),tI S]/\Uh Ss S d/\(∀T∈Ss,fit T)/\fit S/\py Ts Ss d/\¬iM d/\Q (TJ (cu Ts Ss S d))
def MD:Ct:=(.set 4 (.x 0 0) (.r (.es V4 "num") (.t2 (.w "num") (.x 0 1)) (.r (.es V4 "count") (.t3 (.w "index") N0 (.b1 .tuple (.comp ["_law_k"] ["_law_step_here"] [0] [0] .rng (.a1 (.ln V3)) (.b1 .int (.eq V0 (.x 1 2)))))) (.r (.es V4 "each") (.t3 (.w "each") (.x 0 1) (.ix V1 (.x 0 2))) (.r (.es V4 "pair") (.ad (.t2 (.w "pair") (.x 0 1)) (.b1 .tuple (.comp ["_law_a"] ["_law_mine","_law_trees","_law_sides"] [3,1,2] [0] .seq (.a1 (.sf V0 N2)) (.c3 121 (.ix V2 V0) (.ix V3 V0) V1)))) (.r (.es V4 "pick") (.ad (.t1 (.w "pick")) (.b1 .tuple (.comp ["_law_a"] ["_law_mine","_law_trees","_law_sides"] [3,1,2] [0] .seq (.a1 (.sf V0 N1)) (.c3 121 (.ix V2 V0) (.ix V3 V0) V1)))) (.i (.es V4 "fold") (.set 5 (.ix V2 (.x 0 2)) (.ret (.tup (.cons (.w "fold") (.cons (.x 0 1) (.cons (.ix V5 (.x 0 3)) (.cons (.c3 122 (.ix V1 (.x 0 2)) V5 (.x 0 3)) .nil))))))) (.r (.es V4 "fetch") (.call 124 (.cons V0 (.cons V1 (.cons V2 (.cons V3 .nil))))) (.r (.es V4 "lay") (.tup (.cons (.w "read") (.cons (.ix (.ix V1 (.x 0 1)) N1) (.cons N0 (.cons (.c1 120 V3) .nil))))) (.ret (.c3 123 V0 (.ix V1 (.x 0 1)) (.ix V2 (.x 0 1)))))))))))))
def AU:Tc:=λ ts Q=>∃(d:Stp) (S:LI) (st:Int) (Ss:LL) (Ts:List (Option Tr)),ts=[Tn d,.int st,.lst (Ts.map TJ),.lst (Ss.map tI),tI S]/\Uh Ss S d/\(∀T∈Ss,fit T)/\fit S/\py Ts Ss d/\bO d=Op/\Q (.lst (UN Ss Ts S (cu Ts Ss S d) st d))
def ME:Ct:=(.set 5 (.c1 120 V4) (.i (.es (.x 0 0) "run") (.set 6 (.x 0 3) (.set 7 (.ad (.st V4 V6) (.sf V4 (.ad V6 N1))) (.set 8 (.c3 122 (.ix V2 (.x 0 2)) V4 V6) (.fz 7 (.ret (.lst (.a1 (.tup (.cons (.w "run") (.cons (.x 0 1) (.cons V1 (.cons V7 (.cons (.ix V4 V6) (.cons N0 (.cons (.ad (.ad (.st V5 V6) (.sf V5 (.ad V6 N1))) (.t1 (.ix V5 V6))) (.cons V8 .nil)))))))))))))))) (.i (.es (.x 0 0) "join") (.set 9 (.ml (.ix (.ix V3 (.x 0 1)) (.x 0 3)) (.ix V5 (.x 0 3))) (.set 10 (.tup (.cons (.w "fill") (.cons V1 (.cons (.ix V3 (.x 0 1)) (.cons N0 (.cons V5 (.cons (.ix V2 (.x 0 1)) .nil))))))) (.fz 9 (.ret (.lst (.a2 Uu (.tup (.cons (.w "fill") (.cons V1 (.cons (.ix V3 (.x 0 2)) (.cons V9 (.cons V5 (.cons (.ix V2 (.x 0 2)) .nil))))))))))))) (.ret (.lst (.a1 (.tup (.cons (.w "fill") (.cons V1 (.cons V4 (.cons N0 (.cons V5 (.cons (.call 125 (.cons V0 (.cons V2 (.cons V3 (.cons V4 .nil))))) .nil)))))))))))))
def AW:Tc:=rR
def MF:Ct:=(.sets [1,2,3] (.c2 119 (.st V0 (.n 39)) (.n 24)) (.set 4 (.c1 105 (.t2 V1 V2)) (.set 5 (.c1 91 (.t2 V1 V2)) (.set 6 (.c1 106 (.t2 V1 V2)) (.set 7 .l0 (.set 8 .l0 (.set 9 N0 (.for [10,11] (.enum On) (.a1 V1) (.set 12 (.c .non) (.ite (.cmp .In Uu V4) (.xl 8 126 (.cons Vd (.cons V9 (.cons V7 (.cons V3 (.cons (.ix V3 Uu) .nil))))) .nil) (.i (.and (.cmp .In Uu V5) (.ne (.x 11 0) (.w "in"))) (.set 12 (.call 125 (.cons Vd (.cons V7 (.cons V3 (.cons (.ix V3 Uu) .nil))))) .nil) .nil) (.i (.or (.cmp .In Uu V4) (.es (.x 11 0) "in")) (.fz 9 (.set 12 (.tup (.cons (.w "read") (.cons V9 (.cons N0 (.cons (.c1 120 (.ix V3 Uu)) .nil))))) (.set 9 (.ad V9 N1) .nil))) (.met .append 7 (.a1 (.v 12)) .nil)))) (.r (.ne (.x 6 1) (.b1 .tuple V8)) (.c (.bl Op)) (.ret (.eq (.x 6 2) (.b1 .tuple (.comp ["_law_out"] ["_law_sides","_law_trees"] [3,7] [0] .seq (.a1 V2) (.t2 (.ix (.ix V2 V0) N1) (.ix V1 V0)))))))))))))))
def DL:List DR:=[Tk 11 1 WQ,Tk 12 1 XD,Tk 13 2 XG,Tk 14 2 XH,Tk 15 2 XI,Tk 16 3 XJ,Tk 17 1 XM,Tk 22 1 XN,Tk 23 1 XO,Tk 24 2 XQ,Tk 28 1 zn,Tk 29 1 zq,Tk 30 1 zr,Tk 31 1 zu,Tk 32 3 zw,Tk 33 3 zx,Tk 34 2 zy,Tk 36 2 zz,Tk 37 2 zA,Tk 38 2 zB,Tk 39 5 zD,Tk 40 3 zE,Tk 41 2 zF,Tk 42 3 zG,Tk 43 2 zH,Tk 44 2 zI,Tk 45 3 zJ,Tk 46 2 zK,Tk 47 2 zM,Tk 48 2 zN,Tk 50 1 zP,Tk 51 1 zQ,Tk 52 2 zR,Tk 53 2 zU,Tk 54 2 zV,Tk 55 1 zW,Tk 56 1 zX,Tk 58 1 zY,Tk 59 2 zZ,Tk 60 2 Aa,Tk 61 5 Ab,Tk 62 3 Ac,Tk 63 2 Ad,Tk 64 2 Ae,Tk 65 2 Af,Tk 67 1 Ag,Tk 68 1 Ah,Tk 69 2 zO,Tk 70 2 zO,zd,zd,zd,zd,zd,zd,zd,zd,zd,zd,zd,zd,zd,zd,zd,zd,zd,zd,zd,zd,zd,zd,zd,zd,zd,zd,zd,zd,zd,zd,zd,zd,zd,zd,zd,zd,zd,zd,zd,zd,zd,zd,Tk 72 1 Aj,Tk 73 1 Ak,Tk 74 3 zO,Tk 75 3 Al,Tk 76 3 Am,Tk 77 2 Ao,Tk 78 4 Ap,Tk 79 4 Aq,Tk 80 4 As,Tk 81 5 At,Tk 82 2 Au,Tk 83 4 Av,Tk 84 5 Aw,Tk 85 5 Ax,Tk 86 1 Ay,Tk 87 1 Az,Tk 89 1 AA,Tk 90 1 AB,Tk 91 1 AC,Tk 92 2 AD,Tk 93 4 AE,Tk 94 2 AF,Tk 95 3 AG,Tk 96 2 AH,Tk 97 5 AI,Tk 98 3 AJ,Tk 99 4 AK,Tk 100 3 AL,Tk 101 2 AM,Tk 102 1 AN,Tk 103 3 AO,Tk 104 3 AQ,Tk 105 3 AR,Tk 106 4 AS,Tk 107 4 AT,Tk 108 5 AU,Tk 109 1 AW]
noncomputable def gs:List Str:=["LOW","HIGH","MOST_SIDES","MOST_BREADTH","MOST_STEPS","MOST_OUTS","PARTS"]
noncomputable def GT:List TV:=[.int (-9223372036854775808),.int 9223372036854775807,.int 6,.int 512,.int 40,.int 8,.bor [.tup [.str "in",.tup [.tup [.str "sides",.int 1]]],.tup [.str "num",.tup [.tup [.str "number",.int 1]]],.tup [.str "count",.tup [.tup [.str "small",.int 2],.tup [.str "sides",.int 1]]],.tup [.str "each",.tup [.tup [.str "word",.int 1],.tup [.str "step",.int 2]]],.tup [.str "pair",.tup [.tup [.str "word",.int 1],.tup [.str "step",.int 2],.tup [.str "step",.int 3]]],.tup [.str "pick",.tup [.tup [.str "step",.int 1],.tup [.str "step",.int 2],.tup [.str "step",.int 3]]],.tup [.str "turn",.tup [.tup [.str "step",.int 1],.tup [.str "sides",.int 2]]],.tup [.str "flip",.tup [.tup [.str "step",.int 1],.tup [.str "small",.int 2]]],.tup [.str "cut",.tup [.tup [.str "step",.int 1],.tup [.str "small",.int 2],.tup [.str "small",.int 3],.tup [.str "small",.int 4],.tup [.str "small",.int 5]]],.tup [.str "spread",.tup [.tup [.str "step",.int 1],.tup [.str "small",.int 2],.tup [.str "small",.int 3]]],.tup [.str "lay",.tup [.tup [.str "step",.int 1],.tup [.str "sides",.int 2]]],.tup [.str "join",.tup [.tup [.str "step",.int 1],.tup [.str "step",.int 2],.tup [.str "small",.int 3]]],.tup [.str "fetch",.tup [.tup [.str "step",.int 1],.tup [.str "step",.int 2]]],.tup [.str "fold",.tup [.tup [.str "word",.int 1],.tup [.str "step",.int 2],.tup [.str "small",.int 3]]],.tup [.str "run",.tup [.tup [.str "word",.int 1],.tup [.str "step",.int 2],.tup [.str "small",.int 3]]]]]
abbrev Ft(j:Nat):List Tc:=Uj DL j
abbrev Ws(j i:Nat)(N:List Str)(n p:Nat)(S:Tc)(c:Ct):Prop:=WI DL GT gs j (top i) N n p S c
abbrev ZX(j i n p:Nat)(S:Tc)(c:Ct):Prop:=Ws j i (UE i) n p S c
abbrev ZF(j:Nat)(HC:List (Str×(Tc->Tc)))(i:Nat)(N:List Str)(n p:Nat)(SF:Tc->Tc)(c:Ct):Prop:=Xn DL GT gs j HC (top i) N n p SF c
abbrev ZG(j:Nat)(HC:List (Str×(Tc->Tc)))(x:Str)(i:Nat)(N:List Str)(n p:Nat)(SS:Nat->Tc->Tc)(c:Ct):Prop:=Xo DL GT gs j HC x (top i) N n p SS c
abbrev ZH(jj j i:Nat)(N N' Tw:List Str)(js:List Nat)(n n2 p:Nat)(SF SG:Tc->Tc)(l k:Cd):Prop:=Xp DL GT gs jj j (top i) N N' Tw js n n2 p SF SG l k
abbrev ZM(jj j i:Nat)(N N' Tw:List Str)(js:List Nat)(n n2 p:Nat)(SF:Tc->Tc)(S:Tc)(c:Ct)(l k:Cd):Prop:=Xq DL GT gs jj j (top i) N N' Tw js n n2 p SF S c l k
abbrev ZN(jj j m i:Nat)(N N' Tw:List Str)(js:List Nat)(n n2 p:Nat)(SF:Tc->Tc)(S:Tc)(c:Ct)(l k q:Cd)(c':Ct):Prop:=Xr DL GT gs jj j m (top i) N N' Tw js n n2 p SF S c l k q c'
abbrev ZJ(jj j i:Nat)(N N' Tw:List Str)(js:List Nat)(h n n2 p:Nat)(SF:Tc->Tc)(S:Tc)(l:Cd)(ci:Ct):Prop:=Xu DL GT gs jj j (top i) N N' Tw js h n n2 p SF S l ci
def zw0:ZX 0 11 1 1 WQ zc0:=av <| by
 rintro ts Q ⟨n,rfl,q⟩;exact⟨O,Xv,ca,O,q⟩
def zw1:ZX 1 12 1 1 XD zc1:=av <| by
 rintro ts Q ⟨n,rfl,q⟩;refine⟨O,?_⟩;exact s3 (λ h=>⟨O,by rw[XT h] at q;exact q⟩) (λ h=>s3 (λ h2=>⟨O,by rw[XR h,XT h2] at q;exact q⟩) (λ h2=>⟨O,by rw[XR h,XR h2] at q;exact q⟩))
def zw2:ZX 2 13 2 2 XG zc2:=av <| by
 rintro ts Q ⟨x,y,rfl,hx,hy,q⟩;refine⟨O,?_⟩;unfold UV at hx hy;unfold sn at q;exact⟨pv,sN (λ h=>⟨O,by rw[XT h] at q;exact q⟩) (λ h=>⟨⟨h,Z,Z⟩,cl rfl ⟨_,O,O,by rw[XR h] at q;rw[yn];exact q⟩ rfl⟩)⟩
def zw3:ZX 3 14 2 2 XH zc3:=av <| by
 rintro ts Q ⟨x,y,rfl,q⟩;refine⟨O,?_⟩;unfold so at q;exact⟨pv,sN (λ h=>⟨O,by rw[XT h] at q;exact q⟩) (λ h=>⟨h,O,by rw[XR h,<- Jr] at q;exact q⟩)⟩
def zw4:ZX 4 15 2 2 XI zc4:=av <| by
 rintro ts Q ⟨wd,x,rfl,hw,q⟩;refine⟨O,?_⟩;unfold xP xO at q;refine⟨pv,sE (λ c=>?_) (λ c0=>?_)⟩
 .rw[XT c] at q;exact cl rfl ⟨_,rfl,rfl,q⟩ rfl
 rw[XR c0] at q;refine⟨pv,sE (λ c=>?_) (λ c1=>?_)⟩
 .rw[XT c] at q;exact cl rfl ⟨_,rfl,rfl,q⟩ rfl
 rw[XR c1] at q;refine⟨pv,sE (λ c=>?_) (λ c2=>?_)⟩
 .rw[XT c] at q;exact cl rfl ⟨_,rfl,rfl,q⟩ rfl
 rw[XR c2] at q;refine⟨pv,sE (λ c=>?_) (λ c3=>?_)⟩
 .exact⟨pv,sN (λ h=>⟨O,by rw[XT h] at q;exact q⟩) (λ h=>⟨O,by rw[XR h] at q;exact q⟩)⟩
 simp only[mi,aB,bg,be] at hw;exact XU hw (by simp only[c0,c1,c2,c3,or_self,not_false_eq_true])
def zw5:ZX 5 16 3 3 XJ zc5:=av <| by
 rintro ts Q ⟨wd,x,y,rfl,hx,hy,hw,q⟩;refine⟨O,?_⟩;unfold xN at q;have hx':=hx;unfold UV at hx';refine⟨pv,sE (λ c=>?_) (λ c0=>?_)⟩
 .rw[XT c] at q;exact cl rfl ⟨_,rfl,rfl,q⟩ rfl
 rw[XR c0] at q;refine⟨pv,sE (λ c=>?_) (λ c1=>?_)⟩
 .rw[XT c] at q;exact cl rfl ⟨_,rfl,rfl,q⟩ rfl
 rw[XR c1] at q;refine⟨pv,sE (λ c=>?_) (λ c2=>?_)⟩
 .rw[XT c] at q;exact⟨gU Z Z,cl rfl ⟨_,rfl,rfl,q⟩ rfl⟩
 rw[XR c2] at q;refine⟨pv,sE (λ c=>?_) (λ c3=>?_)⟩
 .rw[XT c] at q;exact cl rfl ⟨x,y,rfl,hx,hy,rfl,q⟩ rfl
 rw[XR c3] at q;refine⟨pv,sE (λ c=>?_) (λ c4=>?_)⟩
 .rw[XT c] at q;exact cl rfl ⟨x,y,rfl,rfl,q⟩ rfl
 rw[XR c4] at q;refine⟨pv,sE (λ c=>?_) (λ c5=>?_)⟩
 .rw[XT c] at q;exact⟨rfl,q⟩
 rw[XR c5] at q;refine⟨pv,sE (λ c=>?_) (λ c6=>?_)⟩
 .rw[XT c] at q;exact⟨rfl,q⟩
 rw[XR c6] at q;refine⟨pv,sE (λ c=>?_) (λ c7=>?_)⟩
 .rw[XT c] at q;exact s3 (λ h=>⟨rfl,by rw[XT h] at q;exact q⟩) (λ h=>⟨rfl,by rw[XR h] at q;exact q⟩)
 rw[XR c7] at q;refine⟨pv,sE (λ c=>?_) (λ c8=>?_)⟩
 .rw[XT c] at q;exact⟨trivial,sN (λ h=>⟨rfl,by rw[XT h] at q;exact q⟩) (λ h=>⟨rfl,by rw[XR h] at q;exact q⟩)⟩
 rw[XR c8] at q;refine⟨pv,sE (λ c=>?_) (λ c9=>?_)⟩
 .rw[XT c] at q;exact⟨rfl,q⟩
 rw[XR c9] at q;refine⟨pv,sE (λ c=>?_) (λ c10=>?_)⟩
 .rw[XT c] at q;exact⟨rfl,q⟩
 rw[XR c10] at q;refine⟨pv,sE (λ c=>?_) (λ c11=>?_)⟩
 .exact⟨O,q⟩
 simp only[mj,aB,bg,be] at hw;exact XU hw (by simp only[c0,c1,c2,c3,c4,c5,c6,c7,c8,c9,c10,c11,or_self,not_false_eq_true])
def zw6:ZX 6 17 1 1 XM zc6:=av <| by
 rintro ts Q ⟨wd,rfl,hw,q⟩;refine⟨O,?_⟩;have fl:∀x∈[XX "add",XX "or",XX "xor"],Uo x=On:=ca;unfold Vz at hw;simp only[fw,aB,bg,be] at hw;refine⟨O,TR,O,fl,s2 (λ h=>⟨O,?_⟩) (λ h=>⟨pv,sE (λ c=>⟨O,?_⟩) (λ c0=>⟨pv,sE (λ c=>⟨O,?_⟩) (λ c1=>⟨pv,sE (λ c=>⟨O,?_⟩) (λ c2=>⟨pv,sE (λ c=>⟨O,?_⟩) (λ c3=>?_)⟩)⟩)⟩)⟩)⟩
 .have h:(decide (ON "add"=wd) || (decide (ON "or"=wd) || (decide (ON "xor"=wd) || Op)))=On:=h;simp only[iE,da,lK,be] at h
  rcases h with rfl|rfl|rfl
  .rw[Iy] at q;exact q
  .rw[ID] at q;exact q
  .rw[IE] at q;exact q
 .subst c;rw[Iz] at q;exact q
 .subst c;rw[IA] at q;exact q
 .subst c;rw[IB] at q;exact q
 .subst c;rw[IC] at q;exact q
 .have h:(decide (ON "add"=wd) || (decide (ON "or"=wd) || (decide (ON "xor"=wd) || Op)))=Op:=h;simp only[Bool.or_eq_false_iff,wx,and_true] at h
  rcases hw with z|z|z|z|z|z|z
  .exact XU z.symm h.1
  .exact XU z c0
  .exact XU z c1
  .exact XU z c2
  .exact XU z c3
  .exact XU z.symm h.2.1
  .exact XU z.symm h.2.2
def zw7:ZX 7 22 1 1 XN zc7:=av <| by
 rintro ts Q ⟨i,hi,rfl,q⟩;refine⟨O,?_⟩;have sl:∀n:Nat,n<=9->n<Ou:=λ n h=>aN Z
 match i,hi with
 |0,_=>exact⟨_,rfl,sl 1 ca,trivial,rfl,q⟩
 |1,_=>exact⟨_,rfl,sl 1 ca,trivial,rfl,q⟩
 |2,_=>exact⟨_,rfl,sl 2 ca,trivial,trivial,rfl,q⟩
 |3,_=>exact⟨_,rfl,sl 2 ca,trivial,trivial,rfl,rfl,q⟩
 |4,_=>exact⟨_,rfl,sl 3 ca,trivial,trivial,rfl,trivial,rfl,rfl,q⟩
 |5,_=>exact⟨_,rfl,sl 3 ca,trivial,rfl,trivial,rfl,trivial,rfl,rfl,q⟩
 |6,_=>exact⟨_,rfl,sl 2 ca,trivial,rfl,trivial,rfl,q⟩
 |7,_=>exact⟨_,rfl,sl 2 ca,trivial,rfl,trivial,rfl,q⟩
 |8,_=>exact⟨_,rfl,sl 5 ca,trivial,rfl,trivial,trivial,trivial,trivial,rfl,q⟩
 |9,_=>exact⟨_,rfl,sl 3 ca,trivial,rfl,trivial,trivial,rfl,q⟩
 |10,_=>exact⟨_,rfl,sl 2 ca,trivial,rfl,trivial,rfl,q⟩
 |11,_=>exact⟨_,rfl,sl 3 ca,trivial,rfl,trivial,rfl,trivial,rfl,q⟩
 |12,_=>exact⟨_,rfl,sl 2 ca,trivial,rfl,trivial,rfl,rfl,q⟩
 |13,_=>exact⟨_,rfl,sl 3 ca,trivial,trivial,rfl,trivial,rfl,q⟩
 |14,_=>exact⟨_,rfl,sl 3 ca,trivial,trivial,rfl,trivial,rfl,q⟩
 |i+15,h=>lia
def zw8:ZX 8 23 1 1 XO zc8:=av <| by
 rintro ts Q ⟨d,rfl,q⟩;refine⟨O,?_⟩;have sl:∀n:Nat,n<=3->n<Ou:=λ n h=>aN Z;have k15:Tz d<15:=by cases d<;>exact bW rfl
 refine⟨_,dA d,cl rfl ⟨Tz d,k15,O,?_⟩ rfl⟩;rw[Jy _ k15]
 cases d<;>first|exact⟨sl 0 ca,rfl,q⟩|exact⟨sl 1 ca,_,rfl,rfl,rfl,q⟩|exact⟨sl 2 ca,_,rfl,rfl,_,rfl,rfl,rfl,q⟩|exact⟨sl 3 ca,_,rfl,rfl,_,rfl,rfl,_,rfl,rfl,rfl,q⟩
def zw9:ZX 9 24 6 2 XQ zc9:=av <| by
 rintro ts Q ⟨t,ds,es,rfl,rfl,l40,he,ha,q⟩;refine⟨O,?_⟩;have e0:ds.map (λ _=>TV.bl Op)=(cF ds.length (es.take 0)).map .bl:=by unfold cF;rw[kE,List.foldl_nil,sP,List.map_const']
 refine⟨by rw[ah];exact aN Z,bZ Tn (λ _=>.bl Op) ds (λ d _=>⟨O,O⟩) ⟨O,O,cN (λ i ρ=>∃y,ρ=[Om (.tup (ds.map Tn)),Om (tI es),Om (.own ((cF ds.length (es.take i)).map .bl)),y,Oo,Oo]) ⟨_,by rw[<- e0];rfl⟩ (λ i u ρ hu h=>?_) (λ ρ h=>?_)⟩⟩
 .obtain⟨y,rfl⟩:=h;obtain⟨e,rfl,hn⟩:=iK hu;have b:=he e (aE hn);obtain⟨k,rfl⟩:∃k:Nat,e=k:=⟨e.toNat,Z⟩;exact⟨O,k,si (by rw[ah,mC];lia),_,by rw[JL hn,s1k];rfl⟩
 .obtain⟨y,rfl⟩:=h;rw[ah,bQ];obtain⟨r1,r2⟩:=JN l40;have lm:(((ds.map Tn).length:Nat):Int)=ds.length:=by rw[ah]
  refine⟨O,⟨ca,ca,by rw[lm];exact r1⟩,cN (λ i ρ=>∃y4 y5,ρ=[Om (.tup (ds.map Tn)),Om (tI es),Om (.own ((cr ds ds.length i (cF ds.length es)).map .bl)),y,y4,y5]) ⟨_,_,O⟩ (λ i u ρ hu h=>?_) (λ ρ h=>?_)⟩
  .obtain⟨y4,y5,rfl⟩:=h;rw[lm,r2] at hu;obtain⟨il,rfl⟩:=oS hu;have il:i<ds.length:=Z;obtain⟨k,ek⟩:∃k:Nat,(ds.length:Int)-1+(i:Int)*(-1)=k:=⟨ds.length-1-i,Z⟩;have kk:ds.length-1-i=k:=Z;have kl:k<ds.length:=Z;rw[ek];have lR:(cr ds ds.length i (cF ds.length es)).length=ds.length:=by rw[pi,mC]
   have st:cr ds ds.length (i+1) (cF ds.length es)=gX ds k (cr ds ds.length i (cF ds.length es)):=by rw[cr,kk]
   rw[st];generalize cr ds ds.length i (cF ds.length es)=R at *;refine⟨_,Xz Z,s2 (λ h=>?_) (λ h=>⟨_,_,by unfold gX;rw[XR (by rw[h];decide)];rfl⟩)⟩;have ed:=dZ kl;have rs:gX ds k R=(ar (ds.getD k (.num 0))).foldl (λ R a=>R.set a On) R:=by unfold gX;rw[XT h]
   rw[rs];have hd:=ha _ (aE ed);generalize ds.getD k (.num 0)=d at ed hd;refine⟨Tn d,ak ed,cl rfl ⟨d,O,O,cN (λ j ρ=>∃y5,ρ=[Om (.tup (ds.map Tn)),Om (tI es),Om (.own ((((ar d).take j).foldl (λ R a=>R.set a On) R).map .bl)),y,Om (.int k),y5]) ⟨_,O⟩ (λ j u ρ hu h=>?_) (λ ρ h=>?_)⟩ rfl⟩
   .obtain⟨y5,rfl⟩:=h;obtain⟨n,rfl,hn⟩:=iK hu;rw[bh] at hn
    cases ea:(ar d)[j]? with
    |none=>rw[ea] at hn;cases hn
    |some a=>
     rw[ea] at hn;cases hn;have al:=hd a (aE ea);exact⟨O,a,si (by rw[ah,yA];lia),_,by rw[jr,ea,kz];show _=[_,_,Om (TV.own (Pd TV.bl ((((ar d).take j).foldl (λ R a=>R.set a On) R).set a On))),_,_,_];rw[s1k];rfl⟩
   .obtain⟨y5,rfl⟩:=h;rw[ah,ah,bQ];exact⟨_,_,O⟩
  .obtain⟨y4,y5,rfl⟩:=h;have ll:((OE (OJ ((((ds.map Tn).length:Nat):Int)-1) (-1) (-1)).toNat).map λ k:Nat=>XV ((((ds.map Tn).length:Nat):Int)-1+(k:Int) * -1)).length=ds.length:=by rw[ah,eK,lm,r2];lia
   rw[ll];have lR:(cr ds ds.length ds.length (cF ds.length es)).length=ds.length:=by rw[pi,mC]
   refine⟨⟨Z,by rw[ah];lia⟩,by rw[ah,eK,ah];exact aN Z,gW (λ k:Nat=>.int (k:Nat)) (λ k:Nat=>.int (k:Nat)) (λ k=>(cr ds ds.length ds.length (cF ds.length es)).getD k Op) (OE ds.length) (by rw[ah];rfl) (λ k hk=>⟨_,Xz (by rw[lR];exact jz.mp hk),O,λ _=>⟨O,O⟩⟩) ⟨O,q⟩⟩
def MG:ZX 10 28 3 1 zn KC:=av <| by
 rintro ts Q ⟨t,rfl,ns,ht,sd,q⟩;refine⟨O,?_⟩
 rcases ht with rfl|rfl
 .refine⟨O,O,cN (λ i ρ=>∃y,ρ=[Om (tI ns),Om (.int (ai (ns.take i))),y]) ⟨_,O⟩ (λ i u ρ hu ⟨y,e⟩=>?_) (λ ρ ⟨y,e⟩=>?_)⟩
  .subst e;obtain⟨n,rfl,hn⟩:=iK hu;have b:=sd n (aE hn);exact⟨gS Z Z,O,Om (.int n),by rw[mf hn];rfl⟩
  .subst e;rw[af,bQ];exact⟨O,q⟩
 .refine⟨O,O,cN (λ i ρ=>∃y,ρ=[Om (lI ns),Om (.int (ai (ns.take i))),y]) ⟨_,O⟩ (λ i u ρ hu ⟨y,e⟩=>?_) (λ ρ ⟨y,e⟩=>?_)⟩
  .subst e;obtain⟨n,rfl,hn⟩:=iK hu;have b:=sd n (aE hn);exact⟨gS Z Z,O,Om (.int n),by rw[mf hn];rfl⟩
  .subst e;rw[af,bQ];exact⟨O,q⟩
def MH:ZX 11 29 1 1 zq KD:=av <| by
 rintro ts Q ⟨ns,rfl,sd,l,q⟩;refine⟨O,by rw[af];exact aN Z,bZ .int (λ n=>.int (aq n)) ns (λ n _=>?_) (cl rfl ⟨_,O,ns.map aq,.inr (by unfold lI;rw[bF];rfl),xH sd,O,q⟩ rfl)⟩;refine⟨pv,s2 (λ h=>⟨O,?_⟩) (λ h=>⟨O,?_⟩)⟩
 .rw[Jo h];rfl
 .rw[Jp h];rfl
def MI:ZX 12 30 1 1 zr KE:=av <| by
 rintro ts Q ⟨ns,rfl,sd,l,nb,q⟩;refine⟨O,?_⟩;unfold cS at nb;exact sF (bD (show ¬((6:Int)<((ns.map XV).length:Nat)) by rw[af];lia)) (cl rfl ⟨ns,O,sd,l,sF (bD (show ¬((512:Int)<ai (ns.map aq)) by lia)) ⟨O,q⟩⟩ rfl)
def MJ:ZX 13 31 4 1 zu KF:=av <| by
 rintro ts Q ⟨ns,rfl,sd,l,q⟩;refine⟨O,O,bP _,O,O,O,?_⟩;refine cN (λ i ρ=>∃y,ρ=[Om (tI ns),Om (.own ((UB ns i).map .int)),Om (.int (US ns i)),y]) ⟨_,O⟩ (λ i u ρ hu ⟨y,e⟩=>?_) (λ ρ ⟨y,e⟩=>?_)
 .subst e;obtain⟨hi,n,rfl,hn⟩:=Jn hu;have b:=sd n (aE hn);refine⟨O,by rw[af,UB,ah,eK];exact aN Z,gS Z Z,O,Om (.int n),?_⟩;rw[Il hi hn,xI,aL];rfl
 .subst e;rw[jc,af];refine⟨O,?_⟩;show Q (.tup ((UB ns ns.length).map XV).reverse);rw[<- Rn];exact q
def MK:ZX 14 32 3 3 zw KG:=av <| by
 rintro ts Q ⟨ns,k,m,rfl,l,kl,q⟩;refine⟨O,?_⟩;have e1:=cV ns k;have e2:ag (ns.map XV) (Om ((k:Int)+1)) Oo=(ns.drop (k+1)).map XV:=by rw[show(k:Int)+1=((k+1:Nat):Int) by lia];exact ce ns (k+1)
 have e3:(ag (ns.map XV) Oo (Om (k:Int))++[XV m])++ag (ns.map XV) (Om ((k:Int)+1)) Oo=(ns.set k m).map XV:=by rw[e1,e2,oK,XT kl];simp
 have l1:(ag (ns.map XV) Oo (Om (k:Int))).length<=63:=by rw[e1,af,aP];lia
 have l2:(ag (ns.map XV) (Om ((k:Int)+1)) Oo).length<=63:=by rw[e2,af,bL];lia
 unfold tI at q;rw[<- e3] at q;exact⟨O,Ua,aG (show(ag (ns.map XV) Oo (Om (k:Int))).length+1<=1000 by lia),aG (show(ag (ns.map XV) Oo (Om (k:Int))++[XV m]).length+(ag (ns.map XV) (Om ((k:Int)+1)) Oo).length<=1000 by rw[aF,gF];lia),O,q⟩
def ML:ZX 15 33 3 3 zx KH:=av <| by
 rintro ts Q ⟨ns,k,m,rfl,l,q⟩;refine⟨O,?_⟩;have e1:=cV ns k;have e2:=ce ns k;have e3:(ag (ns.map XV) Oo (Om (k:Int))++[XV m])++ag (ns.map XV) (Om (k:Int)) Oo=(bC ns k m).map XV:=by rw[e1,e2];unfold bC;simp
 have l1:(ag (ns.map XV) Oo (Om (k:Int))).length<=63:=by rw[e1,af,aP];lia
 have l2:(ag (ns.map XV) (Om (k:Int)) Oo).length<=63:=by rw[e2,af,bL];lia
 unfold tI at q;rw[<- e3] at q;exact⟨O,Ua,aG (show(ag (ns.map XV) Oo (Om (k:Int))).length+1<=1000 by lia),aG (show(ag (ns.map XV) Oo (Om (k:Int))++[XV m]).length+(ag (ns.map XV) (Om (k:Int)) Oo).length<=1000 by rw[aF,gF];lia),O,q⟩
def MN:ZX 16 34 2 2 zy KJ:=av <| by
 rintro ts Q ⟨ns,k,rfl,l,kl,q⟩;refine⟨O,?_⟩;have e1:=cV ns k;have e2:ag (ns.map XV) (Om ((k:Int)+1)) Oo=(ns.drop (k+1)).map XV:=by rw[show(k:Int)+1=((k+1:Nat):Int) by lia];exact ce ns (k+1)
 have e3:ag (ns.map XV) Oo (Om (k:Int))++ag (ns.map XV) (Om ((k:Int)+1)) Oo=(ns.eraseIdx k).map XV:=by rw[e1,e2,jn,aL]
 have l1:(ag (ns.map XV) Oo (Om (k:Int))).length<=63:=by rw[e1,af,aP];lia
 have l2:(ag (ns.map XV) (Om ((k:Int)+1)) Oo).length<=63:=by rw[e2,af,bL];lia
 unfold tI at q;rw[<- e3] at q;exact⟨aG (show(ag (ns.map XV) Oo (Om (k:Int))).length+(ag (ns.map XV) (Om ((k:Int)+1)) Oo).length<=1000 by lia),O,q⟩
def MO:ZX 17 36 2 2 zz KL:=av <| by
 rintro ts Q ⟨ns,side,rfl,no,q⟩;refine⟨O,?_⟩;unfold Uc at no;exact sF (bD (show ¬side<0 by lia)) (sF (bD (show ¬((ns.map XV).length:Int)<=side by rw[af];lia)) q)
def MP:ZX 18 37 2 2 zA KM:=av <| by
 rintro ts Q ⟨ns,os,rfl,l1,l2,tk,q⟩;refine⟨O,os,O,Z,λ ss pm pw=>?_⟩;have c:=(IH (n:=ns.length) pm pw).mpr tk;refine⟨⟨Z,by rw[af];lia⟩,dpL _,sF ?_ ?_⟩
 .show(!_L.eqT (TV.lst (ss.map XV)) (TV.lst ((OE (((ns.map XV).length:Nat):Int).toNat).map λ i:Nat=>XV (i:Nat))))=Op;rw[show((OE (((ns.map XV).length:Nat):Int).toNat).map λ i:Nat=>XV (i:Nat))=(TC ns.length).map XV by rw[af];unfold TC;rw[bF];rfl,Jq,c];simp
 .refine⟨by rw[af];exact aN Z,bZ .int (λ o:Int=>.int (ns.getD o.toNat 0)) os (λ o ho=>?_) ⟨O,by unfold tI bS at q;rw[bF] at q;exact q⟩⟩;have om:=up_mem.mp (tk.subset ho);exact⟨_,oT om.1 om.2,O,O⟩
def MQ:ZX 19 38 2 2 zB KN:=av <| by
 rintro ts Q ⟨ns,side,rfl,no,q⟩;refine⟨O,?_⟩;exact cl rfl ⟨ns,side,O,no,O,q⟩ rfl
def MR:ZX 20 39 5 5 zD KO:=av <| by
 rintro ts Q ⟨ns,side,f,m,g,rfl,l,m0,m1,no,nb,q⟩;refine⟨O,?_⟩;refine cl rfl ⟨ns,side,O,no,?_⟩ rfl;obtain⟨k,rfl,hk⟩:=dI no;unfold Ve at nb;simp only[Ox] at nb q;refine sF (bD λ z=>nb (.inl z)) (sF (bD λ z=>nb (.inr (.inl z))) (sF (bD λ z=>nb (.inr (.inr (.inl z)))) ?_));refine s3 (λ c=>?_) (λ c=>cl rfl ⟨ns,k,m,O,l,hk,O,q⟩ rfl);exact⟨gU Z Z,_,bv hk,sF (bD λ z=>nb (.inr (.inr (.inr ⟨c,z⟩)))) (cl rfl ⟨ns,k,m,O,l,hk,O,q⟩ rfl)⟩
def MS:ZX 21 40 3 3 zE KP:=av <| by
 rintro ts Q ⟨ns,side,m,rfl,sd,l,m1,no,mn,nb,q⟩;refine⟨O,?_⟩;unfold jv at no;obtain⟨k,rfl⟩:∃k:Nat,side=k:=⟨side.toNat,Z⟩;simp only[Ox] at nb q;have il:=xS ns k m;refine sF (bD (show ¬((ns.map XV).length:Int)<k by rw[af];lia)) (sF (bD mn) (cl rfl ⟨ns,k,m,O,Z,cl rfl ⟨bC ns k m,O,λ n hn=>?_,Z,nb,O,q⟩ rfl⟩ rfl));unfold bC at hn;simp only[bX,aH] at hn
 rcases hn with (h|h)|h
 .exact sd n (s0b h)
 .lia
 .exact sd n (sG h)
def MT:ZX 22 41 2 2 zF KQ:=av <| by
 rintro ts Q ⟨ns,ms,rfl,sd,sm',l,nb,e,q⟩;refine⟨O,?_⟩;exact cl rfl ⟨ms,O,sm',Z,nb,cl rfl ⟨_,O,ns,.inl rfl,sd,cl rfl ⟨_,O,ms,.inl rfl,sm',pv,sF (Wn e) ⟨O,q⟩⟩ rfl⟩ rfl⟩ rfl
def MU:ZX 23 42 3 3 zG KR:=av <| by
 rintro ts Q ⟨ns,ms,side,rfl,hn,hm,l,ll,no,c,nb,q⟩;refine⟨O,pv,sF (Wn (by rw[af,af,ll])) (cl rfl ⟨ns,side,O,no,?_⟩ rfl)⟩;obtain⟨k,rfl,hk⟩:=dI no;simp only[Ox] at c;have n1:=hn _ (getD_mem hk);have n2:=hm _ (getD_mem (ns:=ms) (k:=k) Z);refine cl rfl ⟨ns,k,O,Z,hk,cl rfl ⟨ms,k,O,Z,Z,UZ _,sF ?_ ?_⟩ rfl⟩ rfl
 .show(!_L.eqT (XW ((ns.eraseIdx k).map XV)) (XW ((ms.eraseIdx k).map XV)))=Op;rw[my,c];simp
 .refine⟨_,bv hk,_,bv (ns:=ms) Z,cl rfl ⟨ns,k,_,O,Z,hk,cl rfl ⟨_,O,λ n hn'=>?_,by rw[dE];lia,nb,O,q⟩ rfl⟩ rfl⟩
  rcases mx hn' with z|z
  .exact Iu hn n z
  .lia
def MV:ZX 24 43 2 2 zH KS:=av <| by
 rintro ts Q ⟨ns,ms,rfl,c,q⟩;refine⟨O,?_⟩;have e1:ag (ms.map XV) Oo (Om (((ns.map XV).length:Nat):Int))=ns.map XV:=by rw[af,cV,c]
 exact⟨by show _L.dp 99 (XW (ag (ms.map XV) Oo (Om (((ns.map XV).length:Nat):Int))));rw[e1];exact UZ ns,sF (by show(!_L.eqT (XW (ag (ms.map XV) Oo (Om (((ns.map XV).length:Nat):Int)))) (XW (ns.map XV)))=Op;rw[e1,my];simp) ⟨O,q⟩⟩
def MW:ZX 25 44 2 2 zI KU:=av <| by
 rintro ts Q ⟨ns,ms,rfl,c,q⟩;refine⟨O,?_⟩;unfold cq at c;unfold bM at q;refine s2 (λ h=>?_) (λ h=>?_)
 .have h:(((ms.map XV).length:Nat):Int)<((ns.map XV).length:Nat):=aC h;rw[af,af] at h;rw[XT Z] at c q;exact cl rfl ⟨ms,ns,O,c,O,q⟩ rfl
 .have h:¬(((ms.map XV).length:Nat):Int)<((ns.map XV).length:Nat):=gz h;rw[af,af] at h;rw[XR Z] at c q;exact cl rfl ⟨ns,ms,O,c,O,q⟩ rfl
def MX:ZX 26 45 3 3 zJ KW:=av <| by
 rintro ts Q ⟨ns,ms,ks,rfl,c1,c2,q⟩;refine⟨O,?_⟩;exact cl rfl ⟨ns,ms,O,c1,cl rfl ⟨_,ks,O,c2,O,q⟩ rfl⟩ rfl
def MY:ZX 27 46 2 2 zK KY:=av <| by
 rintro ts Q ⟨n,r,ms,rfl,sd,sm',l1,l2,n0,nb,q⟩;refine⟨O,?_⟩;have e1:ag ((n::r).map XV) (Om 1) Oo=r.map XV:=ce (n::r) 1;have lc:(ag ((n::r).map XV) (Om 1) Oo).length<=20:=by rw[e1,af];lia
 refine⟨pv,.int n,jI (j:=0) rfl,pv,sN (λ h=>XU h n0) (λ _=>⟨aG (show(ms.map XV).length+(ag ((n::r).map XV) (Om 1) Oo).length<=1000 by rw[af];lia),cl rfl ⟨ms++r,?_,λ x hx=>?_,by rw[aF];lia,nb,O,q⟩ rfl⟩)⟩
 .show[XW (ms.map XV++ag ((n::r).map XV) (Om 1) Oo)]=[tI (ms++r)];rw[e1,<- aL];rfl
 .rcases bX.mp hx with h|h
  .exact sm' x h
  .exact sd x (aV _ h)
def MZ:ZX 28 47 2 2 zM KZ:=av <| by
 rintro ts Q ⟨ns,side,rfl,l,no,q⟩;refine⟨O,?_⟩;refine cl rfl ⟨ns,side,O,no,?_⟩ rfl;obtain⟨k,rfl,hk⟩:=dI no;simp only[Ox] at q;exact cl rfl ⟨ns,k,O,l,hk,O,q⟩ rfl
def Na:ZX 29 48 2 2 zN La:=av <| by
 rintro ts Q ⟨ns,side,rfl,sd,l,nb,no,q⟩;refine⟨O,?_⟩;exact cl rfl ⟨ns,O,sd,Z,nb,cl rfl ⟨ns,side,O,no,O,q⟩ rfl⟩ rfl
def Nb:ZX 30 50 1 1 zP Lb:=av <| by
 rintro ts Q ⟨d,rfl,hw,q⟩;refine⟨O,?_⟩
 cases d with
 |each w a=>exact⟨_,rfl,trivial,_,rfl,cl rfl ⟨w,0,rfl,hw,_,rfl,trivial,_,rfl,rfl,Tv,rfl,Wo,q⟩ rfl⟩
 |pair w a b=>exact⟨_,rfl,trivial,_,rfl,trivial,_,rfl,cl rfl ⟨w,0,0,rfl,⟨ca,ca⟩,⟨ca,ca⟩,hw,_,rfl,rfl,Tv,rfl,Wo,q⟩ rfl⟩
 |fold w a s|run w a s=>exact⟨_,rfl,trivial,_,rfl,trivial,_,rfl,rfl,Tv,rfl,Wo,_,rfl,cl rfl ⟨w,rfl,hw,q⟩ rfl⟩
 |_=>exact⟨_,rfl,trivial,_,rfl,trivial,_,rfl,rfl,Tv,rfl,Wo,q⟩
def Nc:ZX 31 51 1 1 zQ Lc:=av <| by
 rintro ts Q ⟨d,S,Ss,rfl,k3,ok,fs,q⟩;refine⟨O,?_⟩;have sd:=cU fs;have s6:=fs.2.1
 cases d with
 |inp ms=>obtain⟨rfl,nb⟩:=ok;exact⟨_,rfl,trivial,_,rfl,cl rfl ⟨S,rfl,sd,Z,nb,rfl,q⟩ rfl⟩
 |count ms k=>obtain⟨rfl,nb,no⟩:=ok;exact⟨_,rfl,trivial,_,rfl,trivial,_,rfl,_,rfl,cl rfl ⟨S,k,rfl,sd,Z,nb,no,rfl,q⟩ rfl⟩
 |num n=>obtain⟨rfl,_⟩:=ok;exact⟨_,rfl,trivial,_,rfl,trivial,rfl,Ui,rfl,q⟩
 |_=>exact XU k3 (gz rfl)
def Nd:ZX 32 52 3 2 zR Ld:=av <| by
 rintro ts Q ⟨d,S,A,Ss,a,rfl,ha,ea,fA,ok,fs,q⟩;refine⟨O,?_⟩;have sd:=cU fs;have Tg:=cU fA;have s6:=fs.2.1;have a6:=fA.2.1
 cases d with
 |each w a=>
  cases ha;cases ok.1.symm.trans ea;exact⟨_,O,O,pv,pv,pv,pv,pv,pv,pv,O,q⟩
 |turn a os=>
  cases ha;obtain⟨A',ea',tk,rfl⟩:=ok;cases ea'.symm.trans ea;exact⟨_,O,O,pv,_,O,cl rfl ⟨A,os,O,Z,by rw[tk.length_eq,fc];lia,tk,O,q⟩ rfl⟩
 |flip a s=>
  cases ha;obtain⟨ea',no⟩:=ok;cases ea'.symm.trans ea;exact⟨_,O,O,pv,pv,_,O,cl rfl ⟨S,s,O,no,O,q⟩ rfl⟩
 |cut a s f m g=>
  cases ha;obtain⟨A',ea',no,nb,m5,rfl⟩:=ok;cases ea'.symm.trans ea;exact⟨_,O,O,pv,pv,pv,_,O,_,O,_,O,_,O,cl rfl ⟨A,s,f,m,g,O,Z,by unfold Ve at nb;lia,Z,no,nb,O,q⟩ rfl⟩
 |spread a s m=>
  cases ha;obtain⟨A',ea',no,nm,m5,nb,rfl⟩:=ok;cases ea'.symm.trans ea;exact⟨_,O,O,pv,pv,pv,pv,_,O,_,O,cl rfl ⟨A,s,m,O,Tg,Z,Z,no,nm,nb,O,q⟩ rfl⟩
 |lay a ms=>
  cases ha;obtain⟨A',ea',nb,e,rfl⟩:=ok;cases ea'.symm.trans ea;exact⟨_,O,O,pv,pv,pv,pv,pv,_,O,cl rfl ⟨A,S,O,Tg,sd,Z,nb,e,O,q⟩ rfl⟩
 |fold w a s=>
  cases ha;obtain⟨A',ea',hw,no,rfl⟩:=ok;cases ea'.symm.trans ea;exact⟨_,O,O,pv,pv,pv,pv,pv,pv,_,O,cl rfl ⟨A,s,O,Z,no,O,q⟩ rfl⟩
 |run w a s=>
  cases ha;obtain⟨ea',hw,no⟩:=ok;cases ea'.symm.trans ea;exact⟨_,O,O,pv,pv,pv,pv,pv,pv,pv,_,O,cl rfl ⟨S,s,O,no,O,q⟩ rfl⟩
 |_=>cases ha
def Nf:ZX 33 53 4 2 zU Le:=av <| by
 rintro ts Q ⟨t,d,S,Ss,rfl,ht,fS,ok,fs,q⟩;refine⟨O,?_⟩;subst ht
 cases d with
 |pair w a b=>
  obtain⟨A,B,ea,eb,hw,po,rfl⟩:=ok;exact cl rfl ⟨(Stp.pair w a b),O,hw,cl rfl ⟨(Stp.pair w a b),O,UW (bW rfl),tI A,ak ea,O,tI B,ak eb,O,O,_,O,O,pv,pv,pv,_,O,_,O,cl rfl ⟨A,B,O,po,O,q⟩ rfl⟩ rfl⟩ rfl
 |join a b s=>
  obtain⟨A,B,ea,eb,ll,no,ee,nb,rfl⟩:=ok;have fA:=fS _ (aE ea);have fB:=fS _ (aE eb);have a6:=fA.2.1;exact cl rfl ⟨(Stp.join a b s),O,pv,cl rfl ⟨(Stp.join a b s),O,UW (bW rfl),tI A,ak ea,O,tI B,ak eb,O,O,_,O,O,pv,pv,pv,pv,_,O,_,O,_,O,cl rfl ⟨A,B,s,O,yl fA,yl fB,Z,ll,no,ee,nb,O,q⟩ rfl⟩ rfl⟩ rfl
 |fetch a b=>
  obtain⟨n,r,B,ea,n0,eb,nb,rfl⟩:=ok;have fA:=fS _ (aE ea);have fB:=fS _ (aE eb);have a6:=fA.2.1;have b6:=fB.2.1;rw[OQ] at a6;exact cl rfl ⟨(Stp.fetch a b),O,pv,cl rfl ⟨(Stp.fetch a b),O,UW (bW rfl),tI (n::r),ak ea,O,tI B,ak eb,O,O,_,O,O,pv,pv,pv,pv,pv,_,O,_,O,cl rfl ⟨n,r,B,O,cU fA,cU fB,Z,Z,n0,nb,O,q⟩ rfl⟩ rfl⟩ rfl
 |pick a b c=>
  obtain⟨A,B,C,ea,eb,ec,p1,p2,rfl⟩:=ok;exact cl rfl ⟨(Stp.pick a b c),O,pv,cl rfl ⟨(Stp.pick a b c),O,UW (bW rfl),tI A,ak ea,O,tI B,ak eb,O,tI C,ak ec,O,O,_,O,O,pv,pv,pv,pv,pv,_,O,_,O,_,O,cl rfl ⟨A,B,C,O,p1,p2,O,q⟩ rfl⟩ rfl⟩ rfl
 |_=>first|exact cl rfl ⟨_,rfl,sH ok,cl rfl ⟨_,rfl,UW (bW rfl),rfl,_,rfl,rfl,trivial,cl rfl ⟨_,S,Ss,rfl,bW rfl,ok,fs,rfl,q⟩ rfl⟩ rfl⟩ rfl|exact cl rfl ⟨_,rfl,sH ok,cl rfl ⟨_,rfl,UW (bW rfl),tI S,ak ok.1,rfl,rfl,_,rfl,rfl,trivial,trivial,_,rfl,cl rfl ⟨_,S,S,Ss,_,rfl,rfl,ok.1,fS _ (aE ok.1),ok,fs,rfl,q⟩ rfl⟩ rfl⟩ rfl|(obtain⟨A,ea,_⟩:=id ok;exact cl rfl ⟨_,rfl,sH ok,cl rfl ⟨_,rfl,UW (bW rfl),tI A,ak ea,rfl,rfl,_,rfl,rfl,trivial,trivial,_,rfl,cl rfl ⟨_,S,A,Ss,_,rfl,rfl,ea,fS _ (aE ea),ok,fs,rfl,q⟩ rfl⟩ rfl⟩ rfl)
def Ng:ZX 34 54 3 2 zV Lf:=av <| by
 rintro ts Q ⟨t,d,S,Ss,rfl,ht,fS,l40,ok,fs,q⟩;refine⟨O,?_⟩;have al:=yk ok;have a3:=Jl d;subst ht;refine⟨O,sF (bD (show ¬(40:Int)<=((Ss.map tI).length:Nat) by rw[ah];lia)) (cl rfl ⟨d,O,by rw[ah,ah];exact UW a3,oR (l:=ar d) (f:=λ a:Nat=>.int (a:Int)) (by rw[bF];rfl) (λ _=>.bl Op) (λ a ha=>?_) ⟨(ar d).map λ _=>Op,by rw[bF];rfl,sF on (cl rfl ⟨_,d,S,Ss,O,O,fS,ok,fs,O,Tv,O,q⟩ rfl)⟩⟩ rfl)⟩;refine⟨O,?_⟩;have:=al a ha;show TV.bl (decide (((Ss.map tI).length:Nat)<=(a:Int)))=TV.bl Op;rw[ah,bD Z]
def Nh:ZX 35 55 6 1 zW Lg:=av <| by
 rintro ts Q ⟨ds,Ss,os,mo,rfl,gd,q⟩;refine⟨O,?_⟩;obtain⟨hmo,gl,d0,d40,o0,o8,ho⟩:=gd;refine⟨_,O,O,_,O,O,O,bP _,O,O,?_⟩;refine cN (λ i ρ=>∃y z,ρ=[Om (.tup [.tup (ds.map Tn),tI os]),Om (.tup (ds.map Tn)),Om (tI os),Om (.own ((Ss.take i).map tI)),y,z]) ⟨_,_,O⟩ (λ i u ρ hu ⟨y,z,e⟩=>?_) (λ ρ ⟨y,z,e⟩=>?_)
 .subst e;obtain⟨d,rfl,ed⟩:=Js hu;have idl:=(aX.mp ed).1;have il:i<Ss.length:=by rw[<- gl.1];exact idl
  have eS:=aZ il;generalize Ss[i]=S at eS;have ok:=gl.2.2 i d S ed eS;have fs:=gl.2.1 S (aE eS);exact UL rfl ⟨_,d,S,Ss.take i,O,O,λ T hT=>iI (gl.2.1 T (s0b hT)) hmo,by rw[aP];lia,ok,iI fs hmo,LF2 S,O,_,O,O,_,O,O,by rw[ah,aP];exact aN Z,_,_,by rw[jr,eS,aL];rfl⟩
 .subst e;rw[ah,cj (by rw[gl.1];exact ao _)];refine sT (cB (show(1:Int)<=((os.map XV).length:Nat) by rw[af];lia)) (sF (by rw[cB (show(((os.map XV).length:Nat):Int)<=8 by rw[af];lia)];rfl) ⟨by rw[af];exact aN Z,bZ .int (λ _=>.bl Op) os (λ o ho'=>?_) ⟨os.map λ _=>Op,by rw[bF];rfl,sF on ⟨O,Tv,O,q⟩⟩⟩);have b:=ho o ho';refine sF (bD (show ¬o<0 by lia)) ⟨O,?_⟩;show TV.bl (decide (((ds.map Tn).length:Nat)<=o))=TV.bl Op;rw[ah,bD Z]
def Ni:ZX 36 56 3 1 zX Lh:=av <| by
 rintro ts Q ⟨ds,Ss,os,mo,rfl,gd,q⟩;refine⟨O,?_⟩;exact cl rfl ⟨ds,Ss,os,mo,O,gd,O,_,O,O,O,_,O,O,q⟩ rfl
def Nj:ZX 37 58 1 1 zY Li:=av <| by
 rintro ts Q ⟨ns,rfl,sd,l,q⟩;refine⟨O,?_⟩;exact cl rfl ⟨ns,O,sd,l,O,TR,O,q⟩ rfl
def Nk:ZX 38 59 5 2 zZ Lj:=av <| by
 rintro ts Q ⟨ns,ss,os,b,rfl,l,sl,s6,t,q⟩;refine⟨O,?_⟩;have ol:=sJ t;have tl:(bS ns os).length=ns.length:=by unfold bS;rw[ah,ol]
 refine⟨_,O,cl rfl ⟨ns,os,O,Z,Z,t,O,?_⟩ rfl⟩;have om:∀o∈os,0<=o/\o<(ns.length:Int):=λ o ho=>up_mem.mp (t.subset ho);have e1:ag (ss.map XV) (Om (((bS ns os).map XV).length:Nat)) Oo=(ss.drop ns.length).map XV:=by rw[af,tl,ce]
 refine⟨_,O,O,by rw[af];exact aN Z,bZ XV (λ o:Int=>.int (ss.getD o.toNat 0)) os (λ o ho=>?_) ⟨O,_,O,?_⟩⟩
 .have:=om o ho;exact⟨.int (ss.getD o.toNat 0),oT Z Z,O,O⟩
 have z:(os.map λ o:Int=>XV (ss.getD o.toNat 0))=(bS ss os).map XV:=by unfold bS;rw[bF];rfl
 refine⟨?_,O,TR,O,?_⟩
 .show(os.map λ o:Int=>XV (ss.getD o.toNat 0)).length+(ag (ss.map XV) (Om (((bS ns os).map XV).length:Nat)) Oo).length<=Ou;rw[e1,ah,af,bL];exact aG Z
 .show Q (.tup [tI (bS ns os),.int b,.tup ((os.map λ o:Int=>XV (ss.getD o.toNat 0))++ag (ss.map XV) (Om (((bS ns os).map XV).length:Nat)) Oo)]);rw[e1,z,<- aL];exact q
def Nl:ZX 39 60 5 2 Aa Lk:=av <| by
 rintro ts Q ⟨ns,ss,b,k,rfl,l,sl,s6,kl,nb,q⟩;refine⟨O,?_⟩;have n5:=nb (ns.getD k 0) (gQ kl);refine⟨_,O,cl rfl ⟨ns,(k:Int),O,by unfold Uc;lia,O,?_⟩ rfl⟩;refine⟨_,O,.int (ss.getD k 0),bv Z,O,_,O,.int (ns.getD k 0),bv kl,gU Z Z,O,_,O,?_⟩;exact cl rfl ⟨ss,k,_,O,Z,Z,O,TR,O,q⟩ rfl
def Nm:ZX 40 61 7 5 Ab Ll:=av <| by
 rintro ts Q ⟨ns,ss,b,f,m,g,k,rfl,l,sl,s6,kl,m5,nb,q⟩;refine⟨O,?_⟩;have nb':=nb;unfold Ve at nb';refine⟨_,O,cl rfl ⟨ns,(k:Int),f,m,g,O,Z,Z,Z,by unfold Uc;lia,nb,O,?_⟩ rfl⟩;rw[Ox];refine⟨_,O,.int (ss.getD k 0),bv Z,O,_,O,gU Z Z,_,O,gS Z Z,?_⟩;exact cl rfl ⟨ss,k,_,O,Z,Z,O,TR,O,q⟩ rfl
def Nn:ZX 41 62 4 3 Ac Lm:=av <| by
 rintro ts Q ⟨ns,ss,b,m,k,rfl,sd,l,sl,s6,kl,m0,m1,nb,q⟩;refine⟨O,_,O,cl rfl ⟨ns,(k:Int),m,O,sd,Z,m1,by unfold jv;lia,Z,by rw[Ox];exact nb,O,?_⟩ rfl⟩;rw[Ox];exact⟨_,O,_,O,cl rfl ⟨ss,k,0,O,Z,O,TR,O,q⟩ rfl⟩
def No:ZX 42 63 5 2 Ad Ln:=av <| by
 rintro ts Q ⟨ns,ms,ss,b,rfl,hp,nl,ml,sl,q⟩;refine⟨O,?_⟩;have le:ns.length<=ms.length:=by rw[<- hp,aP];lia
 have e1:(ag (ss.map XV) Oo (Om (((ns.map XV).length:Nat):Int)))=(ss.take ns.length).map XV:=by rw[af,cV]
 have e2:(ag (ss.map XV) (Om (((ns.map XV).length:Nat):Int)) Oo)=(ss.drop ns.length).map XV:=by rw[af,ce]
 have e3:(Ow ((((ms.map XV).length:Nat):Int)-(((ns.map XV).length:Nat):Int)).toNat (Pd TV.fz [XV 0])).flatten=(dz (ms.length-ns.length)).map XV:=by rw[af,af];exact yw _ _
 have l1:(ss.take ns.length).length<=60:=by rw[aP];lia
 have l2:(ss.drop ns.length).length<=60:=by rw[bL];lia
 have l3:(dz (ms.length-ns.length)).length<=6:=by rw[kA];lia
 refine⟨_,O,cl rfl ⟨ns,ms,O,hp,?_⟩ rfl⟩;refine⟨_,O,O,_,O,O,O,Ua,on,⟨by rw[af,af];lia,by rw[af,af];lia⟩,?_,O,_,O,?_,?_,O,TR,O,?_⟩
 .rw[af,af];exact aG (by show 1*_<=1000;lia)
 .rw[e1,e3,af,af];exact aG Z
 .rw[e1,e2,e3,aF,af,af,af];exact aG Z
 .show Q (.tup [tI ms,.int b,.tup (ag (ss.map XV) Oo (Om (((ns.map XV).length:Nat):Int))++(Ow ((((ms.map XV).length:Nat):Int)-(((ns.map XV).length:Nat):Int)).toNat (Pd TV.fz [XV 0])).flatten++ag (ss.map XV) (Om (((ns.map XV).length:Nat):Int)) Oo)]);rw[e1,e2,e3,<- aL,<- aL];exact q
def Np:ZX 43 64 4 2 Ae Lo:=av <| by
 rintro ts Q ⟨ns,ss,b,k,rfl,l,sl,s6,kl,q⟩;refine⟨O,?_⟩;have el:(ns.eraseIdx k).length=ns.length-1:=by rw[mH,XT kl]
 refine⟨_,O,cl rfl ⟨ns,(k:Int),O,Z,by unfold Uc;lia,?_⟩ rfl⟩;rw[Ox];refine⟨O,_,O,O,_,O,cl rfl ⟨ss,k,O,Z,Z,?_⟩ rfl⟩;exact⟨.int (ss.getD k 0),bv Z,cl rfl ⟨ss.eraseIdx k,ns.length-1,_,by rw[af,el];rfl,by rw[mH];split<;>lia,O,TR,O,q⟩ rfl⟩
def Nq:ZX 44 65 2 2 Af Lp:=av <| by
 rintro ts Q ⟨d,A,S,ss,b,Ss,rfl,m4,ea,fA,ok,sl,s6,q⟩;refine⟨O,?_⟩;have sd:=cU fA;have l6:=fA.2.1
 cases d with
 |turn a os=>
  obtain⟨A',e2,tk,rfl⟩:=ok;cases bw (ea.symm.trans e2);exact⟨_,O,pv,_,O,cl rfl ⟨A,ss,os,b,O,l6,sl,s6,tk,O,q⟩ rfl⟩
 |flip a s=>
  obtain⟨e2,no⟩:=ok;cases bw (ea.symm.trans e2);obtain⟨k,rfl,kl⟩:=dI no;exact⟨_,O,pv,_,O,pv,_,O,cl rfl ⟨A,ss,b,k,O,l6,sl,s6,kl,fA.1,O,q⟩ rfl⟩
 |cut a s f m g=>
  obtain⟨A',e2,no,nb,m5,rfl⟩:=ok;cases bw (ea.symm.trans e2);obtain⟨k,rfl,kl⟩:=dI no;exact⟨_,O,pv,_,O,pv,_,O,pv,_,O,_,O,_,O,_,O,cl rfl ⟨A,ss,b,f,m,g,k,O,l6,sl,s6,kl,m5,nb,O,q⟩ rfl⟩
 |spread a s m=>
  obtain⟨A',e2,no,m0,m5,nb,rfl⟩:=ok;cases bw (ea.symm.trans e2);unfold jv at no;obtain⟨k,rfl⟩:∃k:Nat,s=k:=⟨s.toNat,Z⟩;exact⟨_,O,pv,_,O,pv,_,O,pv,_,O,_,O,cl rfl ⟨A,ss,b,m,k,O,sd,l6,sl,s6,Z,Z,Z,nb,O,q⟩ rfl⟩
 |_=>exact m4.elim
def Nr:ZX 45 67 1 1 Ag Lq:=av <| by
 rintro ts Q ⟨t,rfl,q⟩;refine⟨O,?_⟩;cases t<;>exact⟨_,rfl,rfl,TR,rfl,JI,rfl,q⟩
def Nt:ZX 46 68 2 1 Ah Lr:=av <| by
 rintro ts Q ⟨t,rfl,q⟩;refine⟨O,?_⟩
 cases t with
 |pick a b c=>exact⟨_,rfl,rfl,trivial,rfl,q⟩
 |each w t|pair w a b=>exact⟨_,rfl,rfl,trivial,rfl,Tv,rfl,ph,rfl,q⟩
 |fold w n t=>exact⟨_,rfl,rfl,trivial,rfl,Tv,rfl,ph,trivial,rfl,q⟩
 |fetch st s r n ss t=>exact⟨_,rfl,rfl,trivial,rfl,Tv,rfl,ph,trivial,trivial,rfl,q⟩
 |_=>exact⟨_,rfl,rfl,trivial,rfl,Tv,rfl,ph,trivial,trivial,rfl,Ui,rfl,q⟩
def Nu:ZF 47 [] 69 (UE 69) 4 2 Ai Lu:=by
 refine⟨by kernel_rfl,?_⟩;rintro Φ fa ts P' ⟨t,g,rfl,hg,q⟩;refine⟨O,?_⟩;have ap:∀(p:Int×LI) (Q:TV->Prop),p∈WN t->Q (.tup [.int (g p.1 p.2).1,tI (g p.1 p.2).2])->∃P1,(∃S,(Ft 47++[UR [] Φ fa])[47]?=Om S/\S (.str "" :: .obj (.fn fa)::[.int p.1,tI p.2]) P1)/\∀t,P1 t->Q t:=λ p Q hp hq=>⟨Q,⟨_,rfl,.inl ⟨_,rfl,hg p hp Q hq⟩⟩,λ _ h=>h⟩
 cases t with
 |idx s ss=>exact⟨_,rfl,rfl,trivial,rfl,Ua,rfl,_,rfl,_,rfl,rfl,ap (s,ss) _ bd ⟨aG (show 1+2<=1000 by decide),rfl,q⟩⟩
 |read st s ss=>exact⟨_,rfl,rfl,trivial,trivial,_,rfl,rfl,Tv,rfl,_,rfl,_,rfl,rfl,ap (s,ss) _ bd ⟨aG (show 2+2<=1000 by decide),rfl,q⟩⟩
 |fetch st s r n ss t=>exact⟨_,rfl,rfl,trivial,trivial,trivial,rfl,_,rfl,_,rfl,rfl,ap (s,ss) _ bd ⟨rfl,_,rfl,_,rfl,_,rfl,_,rfl,_,rfl,rfl,Va,rfl,q⟩⟩
 |_=>exact⟨_,rfl,rfl,trivial,trivial,trivial,cl rfl ⟨_,rfl,rfl,q⟩ rfl⟩
def Nv:Ws 47 69 (UE 69) 4 2 zO .never:=⟨by kernel_rfl,λ _ _ h=>h.elim⟩
def Nw:ZG 48 [("root_remade",Ai)] "remade" 70 (UE 70) 4 2 mL Lv:=by
 refine⟨by kernel_rfl,λ _ _ _ (h:False)=>h,?_⟩;rintro d Φ fa ts P' ⟨t,g,rfl,hd,hg,q⟩;refine⟨O,?_⟩;refine⟨O,Ui,O,cl rfl ⟨t,O,O,?_⟩ rfl⟩;refine cN (λ i ρ=>∃y,ρ=[Om (Th t),Om (.obj (.fn fa)),Om (.own (((Vh t).take i).map λ b=>Th (rm g b))),y]) ⟨_,O⟩ (λ i u ρ hu h=>?_) (λ ρ h=>?_)
 .obtain⟨y,rfl⟩:=h;rw[bh] at hu;obtain⟨b,eb,rfl⟩:=kt.mp hu;have mb:=aE eb;have db:=JE mb;obtain⟨d,rfl⟩:∃d',d=d' + 1:=⟨d-1,Z⟩;have bl:=yv t;refine⟨⟨_,O,.inr ⟨"remade",_,ca,O,.inl rfl⟩⟩,O,_,⟨_,O,.inr ⟨"remade",_,ca,O,.inr ⟨_,O,b,g,O,Z,λ p hp=>hg p (JF mb p hp),O,?_,Om (Th b),?_⟩⟩⟩,λ _ h=>h⟩
  .rw[ah,aP];exact aN Z
  .show[Om (Th t),Om (.obj (.fn fa)),Om (TV.own (((Vh t).take i).map (λ b=>Th (rm g b))++[Th (rm g b)])),Om (Th b)]=_;rw[jr,eb,aL];rfl
 .obtain⟨y,rfl⟩:=h;rw[ah,bQ];have bl:=yv t;have rl:=JJ (rm g t);refine⟨⟨_,O,.inr ⟨"root_remade",_,ca,O,.inl rfl⟩⟩,O,_,⟨_,O,.inr ⟨"root_remade",_,ca,O,.inr ⟨_,O,t,g,O,λ p hp=>hg p (JG p hp),?_,O,?_⟩⟩⟩,λ _ h=>h⟩
  .rw[ah];exact aG Z
  .show P' (.tup (Wq (rm g t)++(Vh t).map λ b=>Th (rm g b)));rw[JD];exact q
def Nx:Ws 48 70 (UE 70) 4 2 zO .never:=⟨by kernel_rfl,λ _ _ h=>h.elim⟩
def Ny:ZX 91 72 1 1 Aj Lw:=av <| by
 rintro ts Q ⟨ds,Ss,os,mo,rfl,gd,q⟩;refine⟨O,?_⟩;obtain⟨_,gl,d0,d40,o0,o8,ob⟩:=gd;exact⟨_,O,_,O,cl rfl ⟨_,ds,os,O,O,d40,ob,yD gl,O,q⟩ rfl⟩
def Nz:ZX 92 73 6 1 Ak Lx:=av <| by
 rintro ts Q ⟨ds,Ss,os,mo,rfl,gd,q⟩;refine⟨O,?_⟩;obtain⟨_,gl,d0,d40,o0,o8,ob⟩:=id gd;have rl:=yG ds os;refine⟨_,O,O,O,by rw[ah];exact aN Z,λ as nd al=>?_⟩;rw[ah] at al;rw[al];refine cl rfl ⟨ds,Ss,os,mo,O,gd,O,?_⟩ rfl;refine cN (λ i ρ=>∃y3 y4 y5,ρ=[Om (.tup [.tup (ds.map Tn),tI os]),Om (.tup (ds.map Tn)),Om (.obj (.lls as (UM ds ((aU ds os).take i)))),y3,y4,y5]) ⟨_,_,_,O⟩ (λ i t ρ ht h=>?_) (λ ρ h=>?_)
 .obtain⟨y3,y4,y5,rfl⟩:=h;obtain⟨u,rfl,eu⟩:=JR ht;have ul:=(mem_reach.mp (aE eu)).1;have ed:=dZ ul;have st:=pq (ds:=ds) eu;have ui:=(aX.mp eu).1;have bu:=px (ds:=ds) (live:=aU ds os) i;have lu:=sW ds ((aU ds os).take i);rw[st];have hd:=yD gl _ (aE ed);generalize ds.getD u (.num 0)=d at ed hd;generalize UM ds ((aU ds os).take i)=U at *;refine⟨Tn d,ak ed,cl rfl ⟨d,O,O,?_⟩ rfl⟩;refine cN (λ j ρ=>∃y4 y5,ρ=[Om (.tup [.tup (ds.map Tn),tI os]),Om (.tup (ds.map Tn)),Om (.obj (.lls as (Ur u ((ar d).take j) U))),Om (.int u),y4,y5]) ⟨_,_,O⟩ (λ j t ρ ht h=>?_) (λ ρ h=>?_)
  .obtain⟨y4,y5,rfl⟩:=h;obtain⟨c,rfl,ec⟩:=Ju ht;rw[bh] at ec;obtain⟨a,ea,rfl⟩:=kt.mp ec;have al':=hd a (aE ea);have jl:=(aX.mp ea).1;have a3:=yF d;have ll:(Ur u ((ar d).take j) U).length=ds.length:=by rw[sV,lu]
   have bb:=pr (u:=u) (as:=ar d) bu j;have eg:(Ur u ((ar d).take j) U)[a]?=Om ((Ur u ((ar d).take j) U).getD a []):=by rw[aO,aZ Z];rfl
   have lb:=bb _ (aE eg);exact⟨a,_,O,eg,Z,O,Tv,[(u:Int),(j:Int)],O,_,_,by rw[mD ea];rfl⟩
  .obtain⟨y4,y5,rfl⟩:=h;rw[pK,ah,ah,bQ];exact⟨_,_,_,O⟩
 .obtain⟨y3,y4,y5,rfl⟩:=h;rw[ah,bQ];exact⟨O,q⟩
def NA:ZH 46 93 74 (UE 74) ["start","strides","sides","move"] ["start","strides"] [1,2] 3 4 3 (mL 42) pJ Ly Lz:=by
 refine⟨by kernel_rfl,?_⟩;rintro Φ fa ts P' ⟨t,S,h,rfl,hd,hm,q⟩;refine⟨O,?_⟩;refine⟨O,[tI S,.obj (.fn fa)],λ args Q=>∃p∈TH t,args=[.int p.1,tI p.2]/\Q (.tup [.int (h p.1 p.2).1,tI (h p.1 p.2).2]),_,O,λ u hu=>?_,⟨t,h,O,hd,λ p hp Q hq=>⟨p,hp,O,hq⟩,O⟩,?_,λ t e=>e ▸ q⟩
 .rcases aB.mp hu with rfl|hu
  .exact .inl (gq S)
  .cases aH.mp hu;exact .inr ⟨fa,rfl⟩
 .rintro args P'' ⟨p,hp,rfl,hq⟩;obtain⟨S',hφ⟩:=hm p hp;exact⟨O,O,O,TR,O,_,⟨_,O,.inl ⟨_,O,hφ _ ⟨O,hq⟩⟩⟩,λ _ h=>h⟩
def NB:Ws 93 74 (UE 74) 3 3 zO .never:=⟨by kernel_rfl,λ _ _ h=>h.elim⟩
def NC:ZM 45 94 75 (UE 75) ["view","longer"] ["view"] [2] 3 2 3 pJ Al LB LC LD:=av <| by
 rintro ts Q ⟨t,S,L,rfl,hd,hl,hp,s6,l6,q⟩;refine⟨O,O,[tI L],λ args Q=>∃p∈TH t,args=[Uf S p.1 p.2]/\Q (Uf L p.1 (dq S.length (L.length-S.length) p.1 p.2).2),_,O,λ u hu=>?_,⟨t,S,dq S.length (L.length-S.length),O,hd,λ p hp=>⟨L,λ Q hq=>⟨p,hp,O,hq⟩⟩,O⟩,?_,λ t e=>e ▸ q⟩
 .cases aH.mp hu;exact .inl (gq L)
 .rintro args P'' ⟨p,hp',rfl,hq⟩;exact⟨O,cl rfl ⟨S,L,p.2,p.1,O,hp,s6,l6,(hl p hp').2,O,hq⟩ rfl⟩
def ND:ZM 45 95 76 (UE 76) ["view","side"] ["view"] [2] 3 2 3 pJ Am LG LH LJ:=av <| by
 rintro ts Q ⟨t,S,k,rfl,hd,hl,s6,kl,q⟩;refine⟨O,O,[.int k],λ args Q=>∃p∈TH t,args=[Uf S p.1 p.2]/\Q (Uf (S.eraseIdx k) p.1 (cD S.length k p.1 p.2).2),_,O,λ u hu=>?_,⟨t,S,cD S.length k,O,hd,λ p hp=>⟨S.eraseIdx k,λ Q hq=>⟨p,hp,O,hq⟩⟩,O⟩,?_,λ t e=>e ▸ q⟩
 .cases aH.mp hu;exact .inl (by simp[LF])
 .rintro args P'' ⟨p,hp',rfl,hq⟩;exact⟨O,cl rfl ⟨S,p.2,p.1,k,O,s6,(hl p hp').1,(hl p hp').2,kl,O,hq⟩ rfl⟩
def NE:ZX 96 77 2 2 Ao LK:=av <| by
 rintro ts Q ⟨st,S,rfl,sd,l,q⟩;refine⟨O,?_⟩;exact cl rfl ⟨S,O,sd,l,O,Uq,O,q⟩ rfl
def NF:ZX 97 78 8 4 Ap LM:=av <| by
 rintro ts Q ⟨a,b,n,r,B,S,ss,st,s,t,Ss,Ts,rfl,ea,eb,eta,etb,s0,s6,b6,S6,hp,hd,hl,q⟩;refine⟨O,?_⟩;have e1:ag (ss.map XV) (Om 1) Oo=(ss.drop 1).map XV:=ce ss 1;have e3:(Ow (((B.map XV).length:Nat):Int).toNat (Pd TV.fz [XV 0])).flatten=(dz B.length).map XV:=by rw[af];exact yK _
 refine⟨_,O,Th (.read st s ss),ak eta,O,_,O,tI B,ak eb,O,O,Ua,on,⟨by rw[af];lia,by rw[af];lia⟩,by rw[af];exact aG (by show 1*_<=1000;lia),_,O,?_,O,_,O,Th t,ak etb,?_⟩
 .rw[e3,e1,af,af,kA,bL];exact aG Z
 .refine cl rfl ⟨t,B,S,O,hd,hl,hp,b6,S6,O,_,O,_,O,_,O,_,(show TQ (ss.map XV) 0=Om (.int (ss.getD 0 0)) from bv (k:=0) s0),_,O,tI (n::r),ak ea,.int n,bv (ns:=n::r) (k:=0) on,O,Wp,O,?_⟩ rfl;show Q (.tup [.str "fetch",.int st,.int s,.int (ss.getD 0 0),.int n,.tup ((Ow (((B.map XV).length:Nat):Int).toNat (Pd TV.fz [XV 0])).flatten++ag (ss.map XV) (Om 1) Oo),Th (rm (dq B.length (S.length-B.length)) t)]);rw[e3,e1,<- aL];exact q
def NG:ZN 45 98 5 79 (UE 79) ["view","step"] ["view"] [0] 8 2 4 pJ Aq LN LP Ar LQ LR:=av <| by
 rintro ts Q ⟨d,S,Ss,Ts,rfl,ok,fS,fs,⟨hA,hlay,hfet⟩,q⟩;refine⟨O,?_⟩;have S6:=fs.2.1;have sd:=cU fs
 rcases Bool.eq_false_or_eq_true (yI d) with hl|n
 .obtain⟨m,c1,c2,c3,a3,e⟩:=JT (Ts:=Ts) (Ss:=Ss) (S:=S) hl;rw[e] at q;refine⟨_,dA d,O,cl rfl ⟨d,O,O,pv,sF c1 ⟨pv,sF c2 ⟨O,TR,O,kI,sT c3 ⟨O,by rw[ah,ah];exact aN Z,oR (l:=ar d) (f:=λ a:Nat=>XV (a:Int)) (bF ..) (λ a=>Th (bN Ts Ss S a)) (λ a ha=>?_) ⟨aG a3.2,O,q⟩⟩⟩⟩⟩ rfl⟩;obtain⟨t,A,et,eA,wf⟩:=hA a ha;obtain⟨A',eA',hp⟩:=sY ok m a ha;cases eA.symm.trans eA';have a6:=(fS A (aE eA)).2.1;have w:=gu wf a6 (ao _);exact⟨Th t,ak et,tI A,ak eA,cl rfl ⟨t,A,S,O,w.1,w.2,hp,a6,S6,O,by unfold bN;rw[bG et,Ul eA];rfl⟩ rfl⟩
 have mvd:Vi d->∀q':Q (TJ (cu Ts Ss S d)),∀t A,Ts[(ar d).headD 0]?=Om (Om t)->Ss[(ar d).headD 0]?=Om A->Vj 40 A t->Q (Th (rm (cE A d) t))/\fit A/\To t<=41/\∀(args:List TV) (P'':TV->Prop),(∃p∈TH t,args=[Uf A p.1 p.2]/\P'' (Uf S (cE A d p.1 p.2).1 (cE A d p.1 p.2).2))->args.length=1/\wE (Uj DL 45) GT Ar (TM 2 (args++[Tn d])) λ u=>u.pl=On/\P'' u:=λ m q' t A et eA wf=>by
  have fA:=fS A (aE eA);have w:=gu wf fA.2.1 (ao _);refine⟨?_,fA,w.1,?_⟩
  .rw[yJ m,bG et,Ul eA] at q';exact q'
  .rintro args P'' ⟨p,hp,rfl,hq⟩;have lp:=w.2 p hp;exact⟨O,cl rfl ⟨d,A,S,p.2,p.1,Ss,O,m,eA,fA,ok,lp.1,lp.2,O,hq⟩ rfl⟩
 rcases Classical.em (Vi d) with m|m
 .obtain⟨a,ea,c1,c2,c3,c4⟩:=yH m;obtain⟨t,A,et,eA,wf⟩:=hA a (by rw[ea];exact bd);obtain⟨q',fA,hd,hw⟩:=mvd m q t A (by rw[ea];exact et) (by rw[ea];exact eA) wf;have u0:TQ (((ar d).map λ a:Nat=>(a:Int)).map XV) 0=Om (.int a):=by rw[ea];rfl
  exact⟨_,dA d,O,cl rfl ⟨d,O,O,pv,sF c1 ⟨pv,sF c2 ⟨O,TR,O,kI,sF c3 ⟨O,Uq,O,mE,sT c4 ⟨_,u0,Th t,ak et,_,u0,tI A,ak eA,O,[Tn _],λ args Q=>∃p∈TH t,args=[Uf A p.1 p.2]/\Q (Uf S (cE A _ p.1 p.2).1 (cE A _ p.1 p.2).2),_,O,λ u hu=>by cases aH.mp hu;exact .inl (sO _),⟨t,A,cE A _,O,hd,λ p hp=>⟨S,λ Q hq=>⟨p,hp,O,hq⟩⟩,O⟩,hw,λ t e=>e ▸ q'⟩⟩⟩⟩⟩ rfl⟩
 cases d with
 |num n=>exact⟨_,rfl,rfl,cl rfl ⟨_,rfl,rfl,trivial,rfl,q⟩ rfl⟩
 |count ms k=>
  refine⟨_,O,O,cl rfl ⟨_,O,O,pv,pv,⟨by rw[af];lia,by rw[af];lia⟩,by rw[ah,eK,af,Ox];exact aN Z,bZ (λ i:Nat=>.int (i:Nat)) (λ j:Nat=>.int (if (j:Int)=k then 1 else 0)) (OE (((S.map XV).length:Nat):Int).toNat) (λ j hj=>⟨_,O,pv,sN (λ h=>⟨O,by rw[XT h];rfl⟩) (λ h=>⟨O,by rw[XR h];rfl⟩)⟩) ⟨O,TR,O,?_⟩⟩ rfl⟩;have e:(OE (((S.map XV).length:Nat):Int).toNat).map (λ j:Nat=>XV (if (j:Int)=k then 1 else 0))=((OE S.length).map λ j:Nat=>if (j:Int)=k then (1:Int) else 0).map XV:=by rw[af,Ox,bF];rfl
  show Q (.tup [.str "index",.int 0,.tup _]);rw[e];exact q
 |each|pair|pick=>cases n
 |turn|flip|cut|spread=>exact XU trivial m
 |lay a ms=>
  obtain⟨t,A,et,eA,wf⟩:=hA a (by simp[ar]);obtain⟨st,s,ss,e⟩:=hlay a ms rfl;rw[bG et] at e;subst e;refine⟨_,O,O,cl rfl ⟨_,O,O,pv,pv,O,TR,O,kI,O,Uq,O,mE,pv,_,O,Th (.read st s ss),ak et,_,O,cl rfl ⟨st,S,O,sd,Z,O,?_⟩ rfl⟩ rfl⟩;have z:Q (Th (.read (kG (gt Ts a)) 0 (aI S))):=q;rw[bG et] at z;exact z
 |fetch a b=>
  obtain⟨t,A,et,eA,wf⟩:=hA a (by simp[ar]);obtain⟨t',B,et',eB,wf'⟩:=hA b (by simp[ar]);obtain⟨n,r,B',ea,n0,eb,nb,rfl⟩:=ok;cases eB.symm.trans eb;cases eA.symm.trans ea;obtain⟨st,s,ss,e⟩:=hfet a b rfl;rw[bG et] at e;subst e;have a6:(n::r).length<=6:=(fS _ (aE eA)).2.1;have b6:=(fS B (aE eB)).2.1;have lp:=wf.2 (s,ss) bd;have w':=gu wf' b6 (ao _);have l1:(n::r).length<=ss.length/\ss.length<=(n::r).length+0:=lp;rw[OQ] at l1 a6;refine⟨_,O,O,cl rfl ⟨_,O,O,pv,pv,O,TR,O,kI,O,Uq,O,mE,pv,pv,cl rfl ⟨a,b,n,r,B,_,ss,st,s,t',Ss,Ts,O,eA,eB,et,et',Z,Z,b6,S6,s0g,w'.1,w'.2,O,?_⟩ rfl⟩ rfl⟩;have z:Q (Th (kH (gt Ts a) (Tg Ss a) (Tg Ss b) (bN Ts Ss (B++r) b))):=q;unfold bN at z;rw[bG et,bG et',Ul eA,Ul eB] at z;exact z
 |fold w a side=>
  obtain⟨t,A,et,eA,wf⟩:=hA a (by simp[ar]);obtain⟨A',ea,hw,no,rfl⟩:=ok;cases eA.symm.trans ea;obtain⟨k,rfl,kl⟩:=dI no;have a6:=(fS A (aE eA)).2.1;have w':=gu wf a6 (ao _);refine⟨_,O,O,cl rfl ⟨_,O,O,pv,pv,O,TR,O,kI,O,Uq,O,mE,pv,pv,pv,_,O,tI A,ak eA,O,_,O,_,O,.int (A.getD k 0),bv kl,_,O,Th t,ak et,_,O,cl rfl ⟨t,A,k,O,w'.1,w'.2,a6,kl,O,Uq,O,?_⟩ rfl⟩ rfl⟩;have z:Q (Th (.fold w ((Tg Ss a).getD k 0) (rm (cD (Tg Ss a).length k) (gt Ts a)))):=q;rw[bG et,Ul eA] at z;exact z
 |_=>exact⟨_,rfl,rfl,cl rfl ⟨_,rfl,rfl,trivial,trivial,rfl,TR,rfl,kI,rfl,Uq,rfl,mE,trivial,trivial,trivial,rfl,q⟩ rfl⟩
def NH:ZX 99 80 6 4 As LS:=av <| by
 rintro ts Q ⟨ds,Ss,k,u,p,d,S,A,rfl,ed,eA,eS,q⟩;refine⟨O,?_⟩;unfold pz at q;rw[gD ed,Ul eA,Ul eS] at q;have fin:Q (.bl (decide ((((S.map XV).length:Nat):Int)<(((A.map XV).length:Nat):Int))))->Q (.bl (decide ((S.length:Int)<(A.length:Int)))):=λ z=>by rw[af,af] at z;exact z
 have fin':Q (.bl (decide ((S.length:Int)<(A.length:Int))))->Q (.bl (decide ((((S.map XV).length:Nat):Int)<(((A.map XV).length:Nat):Int)))):=λ z=>by rw[af,af];exact z
 cases d with
 |pair w a b|pick a b c=>exact⟨_,rfl,Tn _,ak ed,_,rfl,rfl,rfl,Tv,rfl,sZ,rfl,_,rfl,tI A,ak eA,tI S,ak eS,rfl,fin' q⟩
 |fetch a b=>
  have q:Q (.bl (decide (p=1)&&decide ((S.length:Int)<(A.length:Int)))):=q;refine⟨_,O,Tn _,ak ed,_,O,O,O,Tv,O,sZ,pv,_,O,pv,O,?_⟩;refine s2 (λ h=>?_) (λ h=>?_)
  .have h:decide (p=1)=On:=h;rw[h] at q;exact⟨_,O,tI A,ak eA,tI S,ak eS,O,fin' q⟩
  .have h:decide (p=1)=Op:=h;rw[h] at q;exact⟨O,q⟩
 |_=>exact⟨_,rfl,Tn _,ak ed,_,rfl,rfl,rfl,Tv,rfl,sZ,trivial,rfl,rfl,q⟩
def NI:ZX 100 81 7 5 At LU:=av <| by
 rintro ts Q ⟨ds,Ss,os,k,d,o,us,S,rfl,ed,eS,lS,hu,u9,ho,ni,q⟩;refine⟨O,?_⟩
 cases hk:yM d with
 |true=>
  cases d with
  |inp ms=>exact XU rfl (ni ms)
  |lay a ms=>
   obtain⟨t,rfl⟩:=ho (λ h=>h);exact⟨_,O,O,Tn _,ak ed,_,O,pv,O,q⟩
  |run w a s|join a b s=>cases o<;>exact⟨_,rfl,rfl,Tn _,ak ed,_,rfl,trivial,Tn _,ak ed,_,rfl,rfl,Tv,rfl,yL,rfl,q⟩
  |_=>exact Oq hk
 |false=>
  obtain⟨nt,c1,c2,e1⟩:=JV hk;obtain⟨t,rfl⟩:=ho nt;rw[e1] at q;unfold mG at q;refine⟨_,O,O,Tn _,ak ed,_,dA d,pv,sF c1 ⟨Tn _,ak ed,_,dA d,O,Tv,O,yL,sF c2 ⟨_,O,O,flI os,s2 (λ h=>⟨O,by rw[XT h] at q;exact q⟩) (λ h=>?_)⟩⟩⟩;rw[XR (by rw[h];decide)] at q;refine⟨by rw[ah];exact aN Z,bZ kT (λ x=>.str (Vq ds x)) us (λ x hx=>?_) ⟨O,?_⟩⟩
  .obtain⟨u,p,rfl,ul⟩:=hu x hx;exact⟨_,O,Tn _,ak (dZ ul),_,dA _,O,O⟩
  refine⟨O,XA ds us,s2 (λ h=>⟨O,by rw[XT h] at q;exact q⟩) (λ h=>?_)⟩;rw[XR (by rw[h];decide)] at q
  have fin:Q (.bl (tm ds Ss k t us))->wS (Uj DL 100) GT ((.r (.c1 45 V1) (.c (.bl Op)) (.ret (.or (.gt (.ln V4) N1) (.or (.cmp .In (.w "spread") V6) (.b1 .any (.comp ["use"] ["k","steps","sides"] [0,5,3] [0] .seq (.a1 V4) (.call 99 (.cons V1 (.cons V0 (.cons V2 (.cons V3 .nil)))))))))))) [Om (.int k),Om (Th t),Om (.tup [.tup (ds.map Tn),tI os]),Om (.tup (Ss.map tI)),Om (.lst (us.map kT)),Om (.tup (ds.map Tn)),Om (.own (Wr ds us))] (λ _=>Q .non) Q:=λ q=>by
   unfold tm at q;refine cl rfl ⟨t,O,s2 (λ h=>⟨O,?_⟩) (λ h=>?_)⟩ rfl
   .have h:tj t=On:=by cases t<;>exact h
    rw[XT h] at q;exact q
   have h:tj t=Op:=by cases t<;>exact h
   rw[XR (by rw[h];decide)] at q;refine s2 (λ h=>⟨O,?_⟩) (λ h=>?_)
   .have h:decide (1<(us.length:Int))=On:=by rw[<- ah (f:=kT)];exact h
    rw[XT h] at q;exact q
   have h:decide (1<(us.length:Int))=Op:=by rw[<- ah (f:=kT)];exact h
   rw[XR (by rw[h];decide)] at q;refine⟨O,XA ds us,s2 (λ h=>⟨O,by rw[XT h] at q;exact q⟩) (λ h=>?_)⟩;rw[XR (by rw[h];decide)] at q;refine⟨by rw[ah];exact aN Z,bZ kT (λ x=>.bl (pz ds Ss k (x.getD 0 0).toNat (x.getD 1 0))) us (λ x hx=>?_) ⟨_,yN _ us,O,q⟩⟩;obtain⟨u,p,rfl,ul⟩:=hu x hx;exact cl rfl ⟨ds,Ss,k,u,p,_,S,_,O,dZ ul,aZ Z,eS,O,O⟩ rfl
  refine⟨_,trK t,pv,s2 (λ h=>?_) (λ h=>fin (by rw[XR (by rw[XR (by rw[show(!_L.eqT (XX (VP t)) (.str "read"))=Op from h];decide)];decide)] at q;exact q))⟩;rw[XT (show(!_L.eqT (XX (VP t)) (.str "read"))=On from h)] at q;refine⟨by rw[ah];exact aN Z,bZ kT (λ x=>.bl (mF ds x)) us (λ x hx=>?_) ⟨_,yN _ us,s2 (λ h=>⟨O,by rw[XT h] at q;exact q⟩) (λ h=>fin (by rw[XR (by rw[h];decide)] at q;exact q))⟩⟩;obtain⟨u,p,rfl,ul⟩:=hu x hx;unfold mF;refine⟨_,O,Tn _,ak (dZ ul),_,dA _,pv,s2 (λ h=>?_) (λ h=>?_)⟩
  .rw[XT (show _L.eqT (XX (Vq ds [(u:Int),(p:Int)])) (.str "fetch")=On from h)];exact⟨_,O,pv,O,O⟩
  .rw[XR (by rw[show _L.eqT (XX (Vq ds [(u:Int),(p:Int)])) (.str "fetch")=Op from h];decide)];exact⟨O,O⟩
def NJ:ZX 101 82 11 2 Au LW:=av <| by
 rintro ts Q ⟨ds,Ss,os,mo,rfl,gd,q⟩;refine⟨O,?_⟩;obtain⟨hmo,gl,d0,d40,o0,o8,ob⟩:=id gd;have fS:=oQ gl hmo;refine⟨_,O,O,cl rfl ⟨ds,Ss,os,mo,O,gd,O,cl rfl ⟨ds,Ss,os,mo,O,gd,O,O,Ui,O,O,Ui,O,O,Ui,O,O,?_⟩ rfl⟩ rfl⟩;refine cN (λ i ρ=>∃y8 y9 y10,ρ=XB ds Ss os ((Te ds Ss os i).Ts.map TJ) ((Te ds Ss os i).Bs.map TJ) ((Te ds Ss os i).st.map λ k=>.int (k:Nat)) [y8,y9,y10]) ⟨_,_,_,O⟩ (λ i t ρ ht h=>?_) (λ ρ h=>?_)
 .obtain⟨y8,y9,y10,rfl⟩:=h;obtain⟨d,rfl,ed⟩:=tF ht;have il:=(aX.mp ed).1;have eS:Ss[i]?=Om (Tg Ss i):=by unfold Tg;rw[aO,aZ (by rw[<- gl.1];exact il)];rfl
  have sz:∀n:Nat,n<=50->n<Ou:=λ n h=>aN Z;have fi:fit (Tg Ss i):=fS _ (aE eS);have inl:=tE i (aU ds os);have ih:=jy (os:=os) gl d40 i Z;obtain⟨l1,l2,l3⟩:=gv ds Ss os i;have st:Te ds Ss os (i+1)=if Uy ds Ss os (Te ds Ss os i).Ts i=On then ⟨(Te ds Ss os i).Ts++[Om (.read ((Te ds Ss os i).st.length:Nat) 0 (aI (Tg Ss i)))],(Te ds Ss os i).Bs++[bV ds Ss os (Te ds Ss os i).Ts i],(Te ds Ss os i).st++[i]⟩ else ⟨(Te ds Ss os i).Ts++[bV ds Ss os (Te ds Ss os i).Ts i],(Te ds Ss os i).Bs++[bV ds Ss os (Te ds Ss os i).Ts i],(Te ds Ss os i).st⟩:=rfl;generalize Te ds Ss os i=p at st ih l1 l2 l3 ⊢;have kp:Uy ds Ss os p.Ts i=(bO d || (decide (i∈aU ds os)&&kJ ds Ss os i d (bV ds Ss os p.Ts i) ((ef ds os).getD i []))):=by unfold Uy;rw[gD ed]
  have hB:i∈aU ds os->bV ds Ss os p.Ts i=cu p.Ts Ss (Tg Ss i) d:=λ hr=>by unfold bV;rw[XT hr,gD ed]
  have hN:i ∉ aU ds os->bV ds Ss os p.Ts i=Oo:=λ hr=>XR hr;generalize bV ds Ss os p.Ts i=o at st kp hB hN;rw[kp] at st;refine Kh (TJ o) ⟨O,iN _,s2 (λ h=>?_) (λ h=>by rw[hN (gz (inl.symm.trans h))];rfl)⟩ ⟨(yS _).1,yT rfl rfl (by rw[ah,l2];exact sz _ Z) ?_⟩
  .have hr:=aC (inl.symm.trans h);have at':=(mI gl Z ih hr).2;rw[gD ed] at at';exact⟨tI (Tg Ss i),ak eS,UL rfl ⟨d,_,Ss,p.Ts,O,VQ (gl.2.2 i _ _ ed eS),fS,fi,at',sX _,by rw[hB hr]⟩⟩
  refine pf (λ ρ=>∃o' S',Te ds Ss os (i+1)=⟨p.Ts++[o'],p.Bs++[o],S'⟩/\ρ=XB ds Ss os (p.Ts.map TJ) (p.Bs.map TJ++[TJ o]) (S'.map λ k=>.int (k:Nat)) [Om (.int i),Om (Tn d),Om (TJ o')]) (Ki ⟨_,dA d,pv,bA TV.bl (gx d)⟩ (λ hi=>Kj ⟨O,iN _,bA TV.bl inl⟩ (λ hr=>?_) rfl) (s2 (λ h=>?_) (λ h=>⟨o,p.st,by rw[st,XR (by rw[h];decide)],O⟩))) (λ ρ' h=>?_)
  .have hr:=aC hr;have ul:i<(ef ds os).length:=by rw[show ef ds os=UM ds (aU ds os) from rfl,sW];exact il
   have ub:((ef ds os).getD i []).length<=900:=by
    have z:=px (ds:=ds) (live:=aU ds os) (aU ds os).length;rw[bQ] at z;have rl:=yG ds os;have:=z ((ef ds os).getD i []) (by rw[aO,aZ ul];exact jV _);lia
   have hn:¬iM d->∃t,o=Om t:=λ h=>by rw[hB hr];exact pA h
   cases o<;>exact⟨.lst (((ef ds os).getD i []).map kT),ak (f:=λ l:LL=>TV.lst (l.map kT)) (by rw[aO,aZ ul];rfl),cl rfl ⟨ds,Ss,os,i,d,_,_,Tg Ss i,rfl,ed,eS,gl.1,Ka,ub,hn,Kg hi,rfl⟩ rfl⟩
  .exact⟨tI (Tg Ss i),ak eS,cl rfl ⟨_,_,O,cU fi,by have:=fi.2.1;lia,O,O,by rw[ah];exact sz _ Z,_,_,by rw[st,XT h],by rw[aL,ah];rfl⟩ rfl⟩
  obtain⟨o',S',e,rfl⟩:=h;exact yT rfl rfl (by rw[ah,l1];exact sz _ Z) ⟨_,_,_,by rw[e,aL,aL];rfl⟩
 obtain⟨y8,y9,y10,rfl⟩:=h;rw[pK,ah];exact⟨O,TR,O,q⟩
def NK:ZX 102 83 8 4 Av LX:=av <| by
 rintro ts Q ⟨w,a,k,st,A,t,Ss,Ts,rfl,eA,et,fA,kl,hd,hl,q⟩;refine⟨O,?_⟩;have sl:=mB A;have a6:=fA.2.1;refine⟨_,O,tI A,ak eA,O,_,O,O,cl rfl ⟨A,O,cU fA,Z,cl rfl ⟨A,aI A,0,k,O,a6,Z,Z,kl,O,_,O,Th t,ak et,cl rfl ⟨t,A,k,O,hd,hl,a6,kl,O,_,O,_,O,.int (A.getD k 0),bv kl,_,O,_,O,O,aG (bW rfl),O,q⟩ rfl⟩ rfl⟩ rfl⟩
def NL:ZX 103 84 9 5 Aw LY:=av <| by
 rintro ts Q ⟨a,b,k,st,A,B,S,ta,tb,Ss,Ts,rfl,eA,eB,eta,etb,fA,fS,kl,lS,q⟩;refine⟨O,?_⟩;have sl:(UB S S.length).reverse.length=S.length:=mB S;have s6:=fS.2.1;have n5:=fA.1 (A.getD k 0) (gQ kl);refine⟨_,O,O,_,O,O,cl rfl ⟨S,O,cU fS,Z,O,tI A,ak eA,_,O,.int (A.getD k 0),bv kl,_,O,.int ((aI S).getD k 0),bv Z,gU Z Z,O,tI A,ak eA,Th ta,ak eta,O,Va,tI B,ak eB,Th tb,ak etb,O,Va,O,Tv,O,q⟩ rfl⟩
def NM:ZX 104 85 7 5 Ax LZ:=av <| by
 rintro ts Q ⟨ds,Ss,os,mo,k,st,rfl,gd,hk,hi,q⟩;refine⟨O,?_⟩;obtain⟨hmo,gl,d0,d40,o0,o8,ob⟩:=id gd;have fS:=oQ gl hmo;have kl:=(mem_reach.mp hk).1;have ed:=dZ kl;have eS:Ss[k]?=Om (Tg Ss k):=by unfold Tg;rw[aO,aZ (by rw[<- gl.1];exact kl)];rfl
 have fi:fit (Tg Ss k):=fS _ (aE eS);have hA:=(mI gl Z (λ j hj hr=>jy gl d40 ds.length (ao _) j Z hr) hk).2.1;have ok:=VQ (gl.2.2 k _ _ ed eS);obtain⟨l1,l2,l3⟩:=gv ds Ss os ds.length;generalize Te ds Ss os ds.length=p at *;have eB:p.Bs[k]?=Om (p.Bs.getD k Oo):=by rw[aO,aZ Z];rfl
 generalize ds.getD k (.num 0)=d at *;have s6:=fi.2.1
 cases hk:XC d with
 |true=>
  cases d with
  |run w a s=>
   obtain⟨t,A,et,eA,wf⟩:=hA a (by simp[ar]);obtain⟨eA',hw,no⟩:=ok;obtain⟨c,rfl,cl'⟩:=dI no;cases eA.symm.trans eA';have wf':=gu wf s6 (ao _);have q:Q (.lst [Vl w st (Tg Ss a) c (Th (rm (cD (Tg Ss a).length c) (gt p.Ts a)))]):=q;rw[Ul eA,bG et] at q;exact⟨_,O,Tn _,ak ed,O,_,O,O,_,O,pv,cl rfl ⟨w,a,c,st,_,t,Ss,p.Ts,O,eA,et,fi,cl',wf'.1,wf'.2,O,Ua,O,q⟩ rfl⟩
  |join a b s=>
   obtain⟨ta,A,eta,eA,wfa⟩:=hA a (by simp[ar]);obtain⟨tb,B,etb,eB',wfb⟩:=hA b (by simp[ar]);obtain⟨A',B',ea,eb,lAB,no,er,nb,e⟩:=ok;cases eA.symm.trans ea;cases eB'.symm.trans eb;have jl:(Tg Ss k).length=A.length:=by rw[e];exact yU no
   obtain⟨c,rfl,cl'⟩:=dI no;have q:Q (.lst [dL st (Tg Ss a) 0 (aI (Tg Ss k)) (Th (gt p.Ts a)),dL st (Tg Ss b) ((Tg Ss a).getD c 0*(aI (Tg Ss k)).getD c 0) (aI (Tg Ss k)) (Th (gt p.Ts b))]):=q;rw[Ul eA,Ul eB',bG eta,bG etb] at q;exact⟨_,O,Tn _,ak ed,O,_,O,O,_,O,pv,_,O,pv,tI _,ak eS,cl rfl ⟨a,b,c,st,A,B,_,ta,tb,Ss,p.Ts,O,eA,eB',eta,etb,fS _ (aE eA),fi,cl',jl,O,q⟩ rfl⟩
  |_=>exact Oq hk
 |false=>
  obtain⟨c1,c2,e1⟩:=Kk hk;rw[e1] at q;refine⟨_,O,Tn _,ak ed,O,_,O,O,_,dA d,pv,sF c1 ⟨_,dA d,pv,sF c2 ⟨tI _,ak eS,tI _,ak eS,cl rfl ⟨_,O,cU fi,Z,_,O,TJ (p.Bs.getD k Oo),ak eB,?_⟩ rfl⟩⟩⟩;generalize p.Bs.getD k Oo=o at *;cases o<;>exact⟨rfl,Va,rfl,Ua,rfl,q⟩
def NN:ZX 105 86 2 1 Ay Ma:=av <| by
 rintro ts Q ⟨ds,Ss,os,mo,rfl,gd,q⟩;refine⟨O,?_⟩;obtain⟨hmo,gl,d0,d40,o0,o8,ob⟩:=id gd;have hst:=tG (ds:=ds) (Ss:=Ss) (os:=os) ds.length;obtain⟨l1,l2,l3⟩:=gv ds Ss os ds.length;refine cl rfl ⟨ds,Ss,os,mo,O,gd,cl rfl ⟨ds,Ss,os,mo,O,gd,?_⟩ rfl⟩ rfl;generalize Te ds Ss os ds.length=p at *;refine⟨_,O,O,by rw[ah];exact aN Z,gW (λ k:Nat=>.int (k:Nat)) (λ k:Nat=>.int (k:Nat)) (λ k=>!bO (ds.getD k (.num 0))) p.st rfl (λ k hk=>?_) ⟨O,q⟩⟩;have kl:=(hst k hk).1;refine⟨_,O,Tn _,ak (dZ kl),_,dA _,pv,?_,λ _=>⟨O,O⟩⟩;exact bA (λ b=>TV.bl (!b)) (gx _)
def NO:ZX 106 87 9 1 Az Mb:=av <| by
 rintro ts Q ⟨ds,Ss,os,mo,rfl,gd,q⟩;refine⟨O,?_⟩;obtain⟨hmo,gl,d0,d40,o0,o8,ob⟩:=id gd;have fS:=oQ gl hmo;have hst:=tG (ds:=ds) (Ss:=Ss) (os:=os) ds.length;obtain⟨l1,l2,l3⟩:=gv ds Ss os ds.length;have inv:=λ o h=>jy (os:=os) gl d40 ds.length (ao _) o h;have eSk:∀k,k<ds.length->Ss[k]?=Om (Tg Ss k):=λ k kl=>by unfold Tg;rw[aO,aZ (by rw[<- gl.1];exact kl)];rfl
 refine cl rfl ⟨ds,Ss,os,mo,O,gd,O,cl rfl ⟨ds,Ss,os,mo,O,gd,O,_,O,O,O,Ui,O,O,?_⟩ rfl⟩ rfl;generalize hp:Te ds Ss os ds.length=p at *;refine cN (λ i ρ=>∃y5 y6,ρ=[Om (.tup [.tup (ds.map Tn),tI os]),Om (.tup (Ss.map tI)),Om (WP p),Om (.lst (p.st.map λ k=>.int (k:Nat))),Om (.own (UF ds Ss p i)),y5,y6,Oo,Oo]) ⟨_,_,O⟩ (λ i t ρ ht h=>?_) (λ ρ h=>?_)
 .obtain⟨y5,y6,rfl⟩:=h;obtain⟨k,rfl,ek⟩:=tF (f:=λ k:Nat=>XV (k:Nat)) ht;obtain⟨kl,hl⟩:=hst k (aE ek);have il:=(aX.mp ek).1;have ll:=tH ds Ss p i;have e:UF ds Ss p (i+1)=UF ds Ss p i++(if bO (ds.getD k (.num 0))=On then [] else UN Ss p.Ts (Tg Ss k) (p.Bs.getD k Oo) (i:Nat) (ds.getD k (.num 0))):=by show _++_=_;rw[ek]
  rw[e];refine⟨_,O,Tn _,ak (dZ kl),_,dA _,pv,s2 (λ h=>?_) (λ h=>?_)⟩
  .have h:bO (ds.getD k (.num 0))=Op:=by rw[<- gx];exact oi _ |>.mp h
   rw[XR (by rw[h];decide)];have l2':=pH Ss p.Ts (Tg Ss k) (p.Bs.getD k Oo) (i:Nat) (ds.getD k (.num 0));refine cl rfl ⟨ds,Ss,os,mo,k,(i:Nat),by rw[hp];rfl,gd,hl h,h,?_⟩ rfl;rw[hp];exact⟨O,aG Z,_,_,O⟩
  .have h:bO (ds.getD k (.num 0))=On:=by rw[<- gx];exact(s1d _).mp h
   rw[XT h,eE];exact⟨_,_,O⟩
 obtain⟨y5,y6,rfl⟩:=h;rw[pK,ah];have ll:=tH ds Ss p p.st.length;refine⟨by rw[ah];exact aN Z,bZ (λ k:Nat=>.int (k:Nat)) (λ k:Nat=>.tup [.int (k:Nat),.int (ai (Tg Ss k))]) p.st (λ k hk=>?_) ⟨O,_,O,by rw[af];exact aN Z,bZ XV (λ o:Int=>.tup [.int (kG (gt p.Ts o.toNat)),tI (Tg Ss o.toNat)]) os (λ o ho=>?_) ⟨O,O,TR,O,q⟩⟩⟩
 .obtain⟨kl,_⟩:=hst k hk;have eS:=eSk k kl;exact⟨tI _,ak eS,cl rfl ⟨_,O,Tg Ss k,.inl rfl,cU (fS _ (aE eS)),O,Tv,O,O⟩ rfl⟩
 .obtain⟨b0,b1⟩:=ob o ho;obtain⟨k,rfl⟩:∃k:Nat,o=k:=⟨o.toNat,Z⟩;have I:=inv k Z (yC ob ho);obtain⟨t,A,e1,e2,_⟩:=I.w;obtain⟨st,s,ss,e⟩:=I.o ho;rw[Ox,e];rw[bG e1] at e;subst e;exact⟨_,O,Th (.read st s ss),ak e1,_,O,tI _,ak (eSk k Z),O,Tv,O,O⟩
def NP:ZX 107 89 3 1 AA Mc:=av <| by
 rintro ts Q ⟨t,ns,rfl,ht,sd,q⟩;refine⟨O,?_⟩
 rcases ht with rfl|rfl
 .refine⟨O,O,cN (λ i ρ=>∃y,ρ=[Om (tI ns),Om (.int (ai (ns.take i))),y]) ⟨_,O⟩ (λ i u ρ hu ⟨y,e⟩=>?_) (λ ρ ⟨y,e⟩=>?_)⟩
  .subst e;obtain⟨n,rfl,hn⟩:=iK hu;have b:=sd n (aE hn);exact⟨gS Z Z,O,Om (.int n),by rw[mf hn];rfl⟩
  .subst e;rw[af,bQ];exact⟨O,q⟩
 .refine⟨O,O,cN (λ i ρ=>∃y,ρ=[Om (lI ns),Om (.int (ai (ns.take i))),y]) ⟨_,O⟩ (λ i u ρ hu ⟨y,e⟩=>?_) (λ ρ ⟨y,e⟩=>?_)⟩
  .subst e;obtain⟨n,rfl,hn⟩:=iK hu;have b:=sd n (aE hn);exact⟨gS Z Z,O,Om (.int n),by rw[mf hn];rfl⟩
  .subst e;rw[af,bQ];exact⟨O,q⟩
def NQ:ZX 108 90 1 1 AB Me:=av <| by
 rintro ts Q ⟨ns,rfl,sd,l,q⟩;refine⟨O,by rw[af];exact aN Z,bZ .int (λ n=>.int (aq n)) ns (λ n hn=>⟨O,?_⟩) (cl rfl ⟨_,ns.map aq,O,.inr (by unfold lI;rw[bF];rfl),xH sd,O,q⟩ rfl)⟩;rw[<- sv (sd n hn).1];rfl
def NR:ZX 109 91 1 1 AC Mf:=av <| by
 rintro ts Q ⟨n,rfl,q⟩;refine⟨O,?_⟩;have m17:aQ n 17=n%17:=XT ca;unfold mh at q;refine⟨ca,pv,sN (λ h=>?_) (λ h=>?_)⟩
 .rw[m17] at h;rw[XT h] at q;have e:aQ (bc n 17) 4=n/17%4:=by rw[show bc n 17=n/17 from XT ca];exact XT ca
  exact⟨Wm,Wm,p62,O,Uq,⟨ca,ca,ca⟩,ca,.int _,(by rw[e];exact Jv Z Z),O,q⟩
 .rw[m17] at h;rw[XR h] at q;exact⟨Wm,Xv,ca,Wm,O,q⟩
def NS:ZX 110 92 2 2 AD Mg:=av <| by
 rintro ts Q ⟨ks,d,rfl,l,l2,q⟩;refine⟨O,ca,pv,sN (λ h=>?_) (λ h=>?_)⟩
 .obtain⟨k,e,kl⟩:=oX (bc d 3) l;exact⟨⟨ca,ca,ca⟩,by rw[af];lia,.int (ks.getD k 0),by rw[e];exact bv kl,O,q _ (gQ kl)⟩
 .obtain⟨m,em,m0,m1⟩:∃m:Nat,(if (((ks.map XV).length:Nat):Int)<3 then (((ks.map XV).length:Nat):Int) else 3)=m/\0<m/\m<=ks.length:=if c:(ks.length:Int)<3 then ⟨_,by rw[af,XT c],l,ao _⟩ else ⟨3,by rw[af,XR c];rfl,ca,Z⟩;obtain⟨k,e,kl⟩:=mz (bc d 3) m0;exact⟨⟨ca,ca,ca⟩,by rw[em];lia,.int (ks.getD (ks.length-1-k) 0),by rw[em,e,af,show(ks.length:Int)-1-k=((ks.length-1-k:Nat):Int) by lia];exact bv Z,O,q _ (gQ Z)⟩
def NT:ZX 111 93 9 4 AE Mh:=av <| by
 rintro ts Q ⟨kd,n,cell,mo,rfl,hmo,q⟩;refine⟨O,?_⟩;have m2:=hmo.1;have m3:=hmo.2;refine⟨pv,sN (λ c=>cl rfl ⟨cell,O,O,Tv,O,Ui,O,Tv,O,q (.num (mh cell)) [] (λ _=>⟨O,Ix cell⟩) (oO hmo)⟩ rfl) (λ c=>?_)⟩;have b5:0<=aQ (bc n 15) 5/\aQ (bc n 15) 5<5:=by rw[cW ca];lia
 refine⟨O,Ui,O,⟨ca,ca,ca⟩,O,ca,O,⟨Z,Z⟩,?_⟩;refine cN (λ i ρ=>∃(ms:LI) (pt:Int) (y6 y7 y8:Option TV),aR mo ms/\ms.length=i/\ρ=[Om (.int kd),Om (.int n),Om (.int cell),Om (.int mo),Om (tI ms),Om (.int pt),y6,y7,y8]) ⟨[],_,_,_,_,oO hmo,O,O⟩ (λ i t ρ ht h=>?_) (λ ρ h=>?_)
 .obtain⟨ms,pt,y6,y7,y8,hf,ml,rfl⟩:=h;obtain⟨il,rfl⟩:=oS ht;have sdm:bR ms:=λ n hn=>by have:=hf.1 n hn;exact⟨Z,Z⟩
  have pb:=hf.2.2;have d1:1<=mo/ai (ms.map aq):=sw pb.1 pb.2;have dv:bc mo (ai (ms.map aq))=mo/ai (ms.map aq):=yq Z;have fs:=λ n=>sB (n:=n) hf Z;obtain⟨x,hx,x0⟩:=Jz (aQ (bc pt 5) 7) (by rw[cW ca];lia) (by rw[cW ca];lia);refine⟨⟨ca,ca,ca⟩,O,cl rfl ⟨ms,O,sdm,Z,⟨Z,Z,Z⟩,O,O,Wp,ca,.int x,hx,O,?_⟩ rfl⟩;rw[dv];generalize mo/ai (ms.map aq)=fr at *
  have fin:∀x:Int,0<=x->x<=fr->(ms.map XV).length + [XV x].length<=Ou/\(XW (ms.map XV++[XV x])).nb=On/\∃(ms':LI) (pt':Int) (y6 y7 y8:Option TV),aR mo ms'/\ms'.length=i+1/\[Om (XV kd),Om (.int n),Om (.int cell),Om (.int mo),Om (XW (ms.map XV++[XV x])),Om (.int (bc pt 5)),Om (.int (i:Nat)),Om (.int fr),Om (.int x)]=[Om (.int kd),Om (.int n),Om (.int cell),Om (.int mo),Om (tI ms'),Om (.int pt'),y6,y7,y8]:=λ x x0 x1=>
   ⟨aG (show(ms.map XV).length+1<=1000 by rw[af];lia),rfl,ms++[x],_,_,_,_,fs x x0 x1,by rw[aF,ml];rfl,by unfold tI;rw[aL];rfl⟩
  exact⟨ca,pv,sN (λ _=>⟨O,O,Ua,fin fr Z (jS _)⟩) (λ _=>⟨O,Ua,fin _ (by split<;>lia) (by split<;>lia)⟩)⟩
 .obtain⟨ms,pt,y6,y7,y8,hf,ml,rfl⟩:=h;refine⟨pv,sN (λ _=>⟨O,Tv,O,Tv,O,q (.inp ms) ms (λ _=>⟨O,oM (iI hf hmo)⟩) hf⟩) (λ _=>⟨O,Ui,UZ ms,?_⟩)⟩
  have fin:∀ns:LI,aR mo ns->0<ns.length->((15:Int)≠0/\-18446744073709551616<(15:Int)/\(15:Int)<1606938044258990275541962092341162602522202993782792835301376)/\(((ns.map XV).length:Nat):Int)≠0/\[XX "count",tI ns,XV (aQ (bc n 15) ((ns.map XV).length:Nat))].all TV.nb=On/\3<=Ou/\[XW [XX "count",tI ns,XV (aQ (bc n 15) ((ns.map XV).length:Nat))],tI ns].all TV.nb=On/\2<=Ou/\On=On/\Q (.tup [XW [XX "count",tI ns,XV (aQ (bc n 15) ((ns.map XV).length:Nat))],tI ns]):=λ ns hf l0=>by
   refine⟨⟨ca,ca,ca⟩,by rw[af];lia,O,TR,O,Tv,O,?_⟩;rw[af,cW Z];have f0:=oV (bc n 15) (show(ns.length:Int)≠0 by lia);have f1:=oW (bc n 15) (show(0:Int)<ns.length by lia);exact q (.count ns (bc n 15%ns.length)) ns (λ _=>⟨O,oM (iI hf hmo),λ z=>by unfold Uc at z;lia⟩) hf
  by_cases c0:ms=[]
  .have x0:0<=(if mo<3 then mo else 3)/\(if mo<3 then mo else 3)<=mo:=by split<;>lia
   exact sT ((kD ms).trans (cB c0)) ⟨O,Ua,O,fin [if mo<3 then mo else 3] (sB (ns:=[]) (oO hmo) ca x0.1 (by show _<=mo/1;rw[SH];exact x0.2)) (nU _)⟩
  .exact sF ((kD ms).trans (bD c0)) (fin ms hf (pL.mpr c0))
def NU:ZX 112 94 3 2 AF Mi:=av <| by
 rintro ts Q ⟨ns,ms,rfl,q⟩;refine⟨O,?_⟩;have hm:(if (((ms.map XV).length:Nat):Int)<(((ns.map XV).length:Nat):Int) then (((ms.map XV).length:Nat):Int) else (((ns.map XV).length:Nat):Int))=((if ms.length<ns.length then ms.length else ns.length:Nat):Int):=by rw[af,af];split<;>split<;>lia
 refine⟨O,?_⟩;rw[hm];generalize hL:(if ms.length<ns.length then ms.length else ns.length)=L;have e1:=cV ns L;have e2:=cV ms L;refine⟨by show _L.dp 99 (XW (ag (ns.map XV) Oo (Om (L:Int))));rw[e1];exact UZ _,O,?_⟩;show Q (.bl (_L.eqT (XW (ag (ns.map XV) Oo (Om (L:Int)))) (XW (ag (ms.map XV) Oo (Om (L:Int))))));rw[e1,e2,my];refine q _ ?_;rw[da];unfold cq;subst hL;by_cases c:ms.length<ns.length
 .rw[XT c,XT c,bQ]
 .rw[XR c,XR c,bQ];exact eq_comm
def NV:ZX 113 95 10 3 AG Mj:=av <| by
 rintro ts Q ⟨kd,d0,d1,d2,mo,Ss,rfl,n0,n4,hS,q⟩;refine⟨O,⟨Z,by rw[ah];lia⟩,O,?_⟩;rw[ah,oZ];refine⟨_,O,UL rfl ⟨TC Ss.length,d0,O,by rw[fc];exact n0,by rw[fc];lia,λ k hk=>?_⟩⟩;obtain⟨a,rfl,al⟩:=fR hk;have eA:=fj al;generalize Ss.getD a []=A at eA;have fA:=hS _ (aE eA);obtain⟨w4,hw4,wm4⟩:=sM mi (k:=aQ d2 4) (by rw[cW ca];lia) (by rw[cW ca];show d2%4<((4:Nat):Int);lia);refine⟨by simp[LF],O,pv,sN (λ _=>⟨O,Uq,_,O,ca,.str w4,hw4,O,TR,tI A,ak eA,O,Tv,O,q (.each w4 a) A ⟨eA,wm4⟩ fA⟩) (λ _=>?_)⟩;refine⟨by rw[af,fc];exact aN Z,gW XV XV (pB Ss A) (TC Ss.length) rfl (λ k hk=>?_) ?_⟩
 .obtain⟨j,rfl,jl⟩:=fR hk;exact⟨tI A,ak eA,tI (Ss.getD j []),ak (fj jl),cl rfl ⟨A,Ss.getD j [],O,λ b hb=>⟨by rw[yr hb (pd (k:=(j:Int)))],λ _=>⟨O,O⟩⟩⟩ rfl⟩
 generalize hks:(TC Ss.length).filter (pB Ss A)=ks;have km:∀k,k∈ks ↔ k∈TC Ss.length/\cq A (Ss.getD k.toNat []):=λ k=>by rw[<- hks,fV,pd]
 have kl:ks.length<=40:=by rw[<- hks];exact cG (kF _ _) (by rw[fc];exact n4)
 have kpos:0<ks.length:=tQ ((km a).mpr ⟨xY al,by rw[Ox,aO,eA];exact xU A⟩);refine⟨O,_,O,UL rfl ⟨ks,d1,O,kpos,Z,λ k hk=>?_⟩⟩;obtain⟨ku,pB'⟩:=(km k).mp hk;obtain⟨b,rfl,bl⟩:=fR ku;have eB:=fj bl;rw[Ox] at pB';generalize Ss.getD b []=B at eB pB';have fB:=hS _ (aE eB);have fL:aR mo (bM A B):=xX fA fB;obtain⟨w,hw,wm⟩:=sM mj (k:=aQ d2 12) (by rw[cW ca];lia) (by rw[cW ca];show d2%12<((12:Nat):Int);lia);refine⟨by simp[LF],O,tI A,ak eA,tI B,ak eB,O,?_⟩;rw[Xx pB'];refine⟨pv,sN (λ _=>⟨O,Jw,O,_,O,ca,.str w,hw,O,Uq,O,Tv,O,q (.pair w a b) (bM A B) ⟨A,B,eA,eB,wm,pB',O⟩ fL⟩) (λ _=>?_)⟩;refine⟨by rw[af];exact aN Z,gW XV XV (pB Ss B) ks rfl (λ k hk=>?_) ?_⟩
 .obtain⟨j,rfl,jl⟩:=fR ((km k).mp hk).1;exact⟨tI B,ak eB,tI (Ss.getD j []),ak (fj jl),cl rfl ⟨B,Ss.getD j [],O,λ b hb=>⟨by rw[yr hb (pd (k:=(j:Int)))],λ _=>⟨O,O⟩⟩⟩ rfl⟩
 generalize hls:ks.filter (pB Ss B)=ls;have lm:∀k,k∈ls ↔ k∈ks/\cq B (Ss.getD k.toNat []):=λ k=>by rw[<- hls,fV,pd]
 have ll:ls.length<=40:=by rw[<- hls];exact cG (kF _ _) kl
 have lpos:0<ls.length:=tQ ((lm b).mpr ⟨hk,by rw[Ox,aO,eB];exact xU B⟩);refine⟨O,_,O,UL rfl ⟨ls,d2,O,lpos,Z,λ k hk2=>?_⟩⟩;obtain⟨kk,pC⟩:=(lm k).mp hk2;obtain⟨ku2,pAC⟩:=(km k).mp kk;obtain⟨c,rfl,cl'⟩:=fR ku2;have eC:=fj cl';rw[Ox] at pC pAC;generalize Ss.getD c []=C at eC pC pAC;have fC:=hS _ (aE eC)
 have pLC:cq (bM A B) C:=by
  by_cases z:A.length<B.length
  .rw[xW z];exact pC
  .rw[xV pB' Z];exact pAC
 have z:Q (.tup [Tn (.pick a b c),XW (if ((bM A B).map XV).length<(C.map XV).length then C.map XV else (bM A B).map XV)]):=by rw[Xx pLC];exact q (.pick a b c) (bM (bM A B) C) ⟨A,B,C,eA,eB,eC,pB',pLC,rfl⟩ (xX fL fC)
 exact⟨by simp[LF],O,O,Uq,tI C,ak eC,O,Tv,O,z⟩
def NW:ZX 114 96 3 2 AH Ml:=av <| by
 rintro ts Q ⟨ns,d,mo,rfl,ft,mk,q⟩;refine⟨O,?_⟩;have fA:=iI ft mk;have sd:=cU fA;have l6:=fA.2.1;have m4:aQ d 4=d%4:=XT ca;unfold jw at q;refine cl rfl ⟨_,ns,O,.inl rfl,sd,O,ca,pv,sN (λ h=>?_) (λ h=>⟨ca,pv,?_⟩)⟩ rfl
 .rw[m4] at h;rw[XT h] at q;exact⟨O,Ua,O,q⟩
 rw[m4] at h;rw[XR h] at q;have v2:bc (ai ns) 2=ai ns/2:=XT ca;have w2:aQ (ai ns) 2=ai ns%2:=XT ca;have rv:Q (tI ns.reverse)->Q (XW (ns.map XV).reverse):=λ q=>by rw[<- Rn];exact q
 refine sN (λ h2=>?_) (λ h2=>?_)
 .rw[m4] at h2;refine s2 (λ h3=>?_) (λ h3=>?_)
  .have h3:(((ns.map XV).length:Nat):Int)<6:=aC h3;rw[af] at h3;rw[XT ⟨h2,Z⟩] at q;exact⟨O,Ua,aG (show 1+(ns.map XV).length<=1000 by rw[af];lia),O,q⟩
  .have h3:¬(((ns.map XV).length:Nat):Int)<6:=gz h3;rw[af] at h3;rw[XR Z,XR Z] at q;exact⟨ca,pv,sN (λ h4=>by rw[m4] at h4;lia) (λ h4=>⟨O,rv q⟩)⟩
 .rw[m4] at h2;rw[XR (λ z=>h2 z.1)] at q;refine⟨ca,pv,sN (λ h4=>⟨ca,pv,sN (λ h5=>?_) (λ h5=>⟨O,rv ?_⟩)⟩) (λ h4=>⟨O,rv ?_⟩)⟩
  .rw[m4] at h4;rw[w2] at h5;rw[XT ⟨h4,h5⟩,<- v2] at q;exact⟨⟨ca,ca,ca⟩,O,Tv,O,q⟩
  .rw[w2] at h5
   rwa [XR (λ z=>h5 z.2)] at q
  .rw[m4] at h4
   rwa [XR (λ z=>h4 z.1)] at q
def NX:ZX 115 97 14 5 AI Mm:=av <| by
 rintro ts Q ⟨kd,d0,d1,d2,mo,a,A,Ss,rfl,ea,hf,hmo,q⟩;refine⟨O,?_⟩;have a6:=hf.2.1;have sd:=IS hf hmo;have m1:=hmo.1;have m2:=hmo.2;have pb:=hf.2.2;refine⟨pv,sN (λ _=>?_) (λ _=>?_)⟩
 .refine⟨O,Ui,O,_,O,O,O,⟨Z,by rw[af];lia⟩,?_⟩;refine cN (λ i ρ=>∃(os:LI) (n:Int) (y:Option TV),os.Perm (TC i)/\ρ=[Om (.int kd),Om (lI [d0,d1,d2]),Om (.int a),Om (tI A),Om (.int mo),Om (.own (os.map .int)),Om (.int n),y,Oo,Oo,Oo,Oo,Oo,Oo]) ⟨[],_,_,List.Perm.refl _,O⟩ (λ i t ρ ht h=>?_) (λ ρ h=>?_)
  .obtain⟨os,n,y,pm,rfl⟩:=h;obtain⟨il,rfl⟩:=oS ht;rw[af] at il;have ol:os.length=i:=by rw[pm.length_eq,fc]
   obtain⟨k,mp,f1⟩:∃k:Nat,aQ n ((i:Int)+1)=k/\k<i+1:=mz n (Nat.succ_pos i);refine⟨show(i:Int)+1≠0 by lia,O,⟨by rw[mp];lia,by rw[mp,af,ol];lia⟩,by rw[af];exact aN Z,⟨show(i:Int)+1≠0 by lia,show -18446744073709551616<(i:Int)+1 by lia,show(i:Int)+1<_ by lia⟩,O,os.take (aQ n ((i:Int)+1)).toNat++(i:Int)::os.drop (aQ n ((i:Int)+1)).toNat,bc n ((i:Int)+1),Om (.int (i:Nat)),IV pm,by rw[aL,cJ,Sk,Sj];rfl⟩
  .obtain⟨os,n,y,pm,rfl⟩:=h;rw[ah,eK,af,Ox] at pm;have ol:os.length=A.length:=by rw[pm.length_eq,fc]
   have om:∀z∈os,0<=z/\z<(A.length:Int):=λ z hz=>up_mem.mp (pm.subset hz);refine⟨O,TR,by rw[af];exact aN Z,bZ .int (λ z:Int=>.int (A.getD z.toNat 0)) os (λ z hz=>⟨_,oT (om z hz).1 (om z hz).2,O,O⟩) ⟨O,Tv,O,?_⟩⟩;have z:=q (.turn a os) (bS A os) ⟨A,ea,pm,rfl⟩ (IW hf pm);unfold Vg Tn Vf tI bS at z;rw[bF] at z;exact z
 have lo:=IT (d:=d2) hf hmo;refine⟨pv,sN (λ _=>⟨_,O,cl rfl ⟨A,d2,mo,O,hf,hmo,O,TR,_,O,cl rfl ⟨A,d2,mo,O,hf,hmo,O,Tv,O,q (.lay a (jw A d2)) (jw A d2) ⟨A,ea,oM (iI lo.1 hmo),lo.2.symm,O⟩ lo.1⟩ rfl⟩ rfl⟩) (λ _=>?_)⟩;refine⟨O,Ui,UZ A,or3 (λ sp=>?_) (λ ne=>?_)⟩
 .have l6:A.length<6:=by
   rcases sp with z|⟨_,z⟩
   .have z:=aC ((kD A).symm.trans z);rw[z];decide
   .have z:(((A.map XV).length:Nat):Int)<6:=aC z;rw[af] at z;lia
  obtain⟨k,mp,f1⟩:∃k:Nat,aQ d1 ((((A.map XV).length:Nat):Int)+1)=k/\k<A.length+1:=by rw[af];exact mz d1 (Nat.succ_pos _)
  refine⟨_,O,show(((A.map XV).length:Nat):Int)+1≠0 by rw[af];lia,O,?_⟩;rw[mp];have dv:=sw pb.1 pb.2;have de:bc mo (ai (A.map aq))=mo/ai (A.map aq):=yq Z;refine⟨_,O,cl rfl ⟨A,O,sd,Z,⟨Z,Z,Z⟩,?_⟩ rfl⟩;rw[de];have fi:=λ x=>IZ (x:=x) (k:=k) hf l6;have fm:mo/ai (A.map aq)<=mo:=Rm _ Z;generalize mo/ai (A.map aq)=fr at *;have c4:0<(if fr<4 then fr else 4)/\(if fr<4 then fr else 4)<=fr:=by split<;>lia
  have me:aQ d2 (if fr<4 then fr else 4)=d2%(if fr<4 then fr else 4):=cW c4.1;have g0:=oV d2 (show(if fr<4 then fr else 4)≠0 by lia);have g1:=oW d2 c4.1
  have fin:∀x:Int,0<=x->x<=fr->Q (.tup [.tup [.str "spread",.int a,.int k,.int x],.tup ((ag (A.map XV) Oo (Om (k:Int))++[XV x])++ag (A.map XV) (Om (k:Int)) Oo)]):=λ x x0 x1=>by
   rw[JA];exact q (.spread a k x) (bC A k x) ⟨A,ea,by unfold jv;lia,Z,Z,oM (iI (fi x x0 x1) hmo),O⟩ (fi x x0 x1)
  have la:=jx (a:=Oo) (b:=Om (k:Int)) a6;have lb:=jx (a:=Om (k:Int)) (b:=Oo) a6;have l2:∀x,(ag (A.map XV) Oo (Om (k:Int))++[XV x]).length+(ag (A.map XV) (Om (k:Int)) Oo).length<=Ou:=λ x=>aG (by rw[aF,gF];lia);have l1:(ag (A.map XV) Oo (Om (k:Int))).length+1<=Ou:=aG Z;exact⟨show(if fr<4 then fr else 4)≠0 by lia,O,_,O,ca,pv,sN (λ _=>⟨O,O,Uq,O,Ua,l1,l2 _,O,Tv,O,fin 0 Z Z⟩) (λ _=>⟨O,Uq,O,Ua,l1,l2 _,O,Tv,O,fin _ (by rw[me];lia) (by rw[me];lia)⟩)⟩
 .have A0:0<A.length:=pL.mpr (gz ((kD A).symm.trans ne));obtain⟨k,mp,kl⟩:=oX d1 A0;refine⟨_,O,show(((A.map XV).length:Nat):Int)≠0 by rw[af];lia,O,?_⟩;rw[mp];refine⟨pv,s2 (λ _=>⟨O,TR,O,Tv,O,q (.flip a k) A ⟨ea,by unfold Uc;lia⟩ hf⟩) (λ _=>?_)⟩;have an:=(hf.1 _ (gQ kl)).1;have am:=(hf.1 _ (gQ kl)).2;have o1:=iH an;have ge:aQ d2 3=d2%3:=cW ca;have fe:aQ (bc d2 3) (if A.getD k 0 > 1 then A.getD k 0 else 1)=bc d2 3%aq (A.getD k 0):=by rw[sv an];exact cW Z
  have h0:=oV (bc d2 3) (show aq (A.getD k 0)≠0 by lia);have h1:=oW (bc d2 3) (show 0<aq (A.getD k 0) by lia);have o2:aq (A.getD k 0)<=512:=by have:=hmo.2;unfold aq;split<;>lia
  have g1:1<=1+aQ d2 3/\1+aQ d2 3<=3:=by rw[ge];lia
  refine⟨_,O,ca,O,_,O,⟨ca,ca,ca⟩,_,bv kl,show(if A.getD k 0 > 1 then A.getD k 0 else 1)≠0 by rw[sv an];lia,O,?_⟩;rw[fe];generalize bc d2 3%aq (A.getD k 0)=f at *;generalize 1+aQ d2 3=g at *;have e3:0<=aQ (bc d2 300) 3:=by rw[cW ca];lia
  have cm:=Jf (e:=aQ (bc d2 300) 3) an h0 g1.1 e3;rw[<- yn] at cm;have la:=jx (a:=Oo) (b:=Om (k:Int)) a6;have lb:=jx (a:=Om ((k:Int)+1)) (b:=Oo) a6;have l2:∀x,(ag (A.map XV) Oo (Om (k:Int))++[XV x]).length+(ag (A.map XV) (Om ((k:Int)+1)) Oo).length<=Ou:=λ x=>aG (by rw[aF,gF];lia);refine⟨_,bv kl,⟨Z,Z,Z⟩,_,O,⟨ca,ca,ca⟩,ca,O,?_⟩;generalize (if bc (A.getD k 0-1-f) g+1-aQ (bc d2 300) 3 > 0 then bc (A.getD k 0-1-f) g+1-aQ (bc d2 300) 3 else 0)=m at *;refine⟨O,Va,O,Ua,aG (by show(ag (A.map XV) Oo (Om (k:Int))).length+1<=1000;lia),l2 m,O,Tv,O,?_⟩;show Q (.tup [.tup [.str "cut",.int a,.int k,.int f,.int m,.int g],.tup ((ag (A.map XV) Oo (Om (k:Int))++[XV m])++ag (A.map XV) (Om ((k:Int)+1)) Oo)]);rw[JB kl];exact q (.cut a k f m g) (A.set k m) ⟨A,ea,by unfold Uc;lia,by unfold Ve;rw[Ox];exact λ z=>z.elim Z λ z=>z.elim Z λ z=>z.elim Z cm.2.2,⟨Z,Z,Z⟩,by rw[Ox]⟩ (Jd hf cm.1 cm.2.1)
def NY:ZX 116 98 3 3 AJ Mn:=av <| by
 rintro ts Q ⟨A,B,k,rfl,kl,a6,b6,q⟩;refine⟨O,?_⟩
 have ct:∀L:LI,L.length<=6->ag (L.map XV) Oo (Om (k:Int))++ag (L.map XV) (Om ((k:Int)+1)) Oo=(L.eraseIdx k).map XV/\(ag (L.map XV) Oo (Om (k:Int))).length<=6/\(ag (L.map XV) (Om ((k:Int)+1)) Oo).length<=6:=λ L hL=>by
  have e1:=cV L k;have e2:ag (L.map XV) (Om ((k:Int)+1)) Oo=(L.drop (k+1)).map XV:=by rw[show(k:Int)+1=((k+1:Nat):Int) by lia];exact ce L (k+1)
  refine⟨by rw[e1,e2,jn,aL],by rw[e1,af,aP];lia,by rw[e2,af,bL];lia⟩
 obtain⟨ea,la,lb⟩:=ct A a6;obtain⟨eb,lc,ld⟩:=ct B b6;unfold fg at q;have nl:∀a b:Nat,a<=6->b<=6->a+b<=Ou:=λ a b h1 h2=>aG Z;have dpA:_L.dp 99 (XW (ag (A.map XV) Oo (Om (k:Int))++ag (A.map XV) (Om ((k:Int)+1)) Oo)):=by rw[ea];exact UZ _
 have eq1:_L.eqT (XW (ag (A.map XV) Oo (Om (k:Int))++ag (A.map XV) (Om ((k:Int)+1)) Oo)) (XW (ag (B.map XV) Oo (Om (k:Int))++ag (B.map XV) (Om ((k:Int)+1)) Oo))=decide (A.eraseIdx k=B.eraseIdx k):=by rw[ea,eb,my]
 by_cases c1:A.length=B.length
 .by_cases c2:A.eraseIdx k=B.eraseIdx k
  .rw[XT ⟨c1,c2⟩] at q;have e1:=cV A k;have e2:ag (A.map XV) (Om ((k:Int)+1)) Oo=(A.drop (k+1)).map XV:=by rw[show(k:Int)+1=((k+1:Nat):Int) by lia];exact ce A (k+1)
   have e3:(ag (A.map XV) Oo (Om (k:Int))++[XV (A.getD k 0+B.getD k 0)])++ag (A.map XV) (Om ((k:Int)+1)) Oo=(fQ A B k).map XV:=by unfold fQ;rw[Ox,e1,e2,oK,XT kl];simp
   unfold tI at q;rw[<- e3] at q;exact⟨pv,sF (Wn (by rw[af,af,c1])) ⟨nl _ _ la lb,nl _ _ lc ld,dpA,sF (by show(!_L.eqT (XW _) (XW _))=Op;rw[eq1,cB c2];rfl) ⟨_,bv kl,_,bv Z,O,Ua,nl _ 1 la ca,aG (show(ag (A.map XV) Oo (Om (k:Int))++[XV (A.getD k 0+B.getD k 0)]).length+(ag (A.map XV) (Om ((k:Int)+1)) Oo).length<=1000 by rw[aF,gF];lia),O,q⟩⟩⟩
  .rw[XR (λ z=>c2 z.2)] at q;exact⟨pv,sF (Wn (by rw[af,af,c1])) ⟨nl _ _ la lb,nl _ _ lc ld,dpA,sT (by show(!_L.eqT (XW _) (XW _))=On;rw[eq1,bD c2];rfl) ⟨O,Ui,O,q⟩⟩⟩
 .rw[XR (λ z=>c1 z.1)] at q;exact⟨pv,sT (neT (by rw[af,af];lia)) ⟨O,Ui,O,q⟩⟩
def NZ:ZX 117 99 12 4 AK Mp:=av <| by
 rintro ts Q ⟨kd,d0,d1,d2,mo,Ss,rfl,⟨S0,S0m,S0l⟩,k11,k14,n4,hS,hmo,q⟩;refine⟨O,?_⟩;obtain⟨j0,j0l,j0e⟩:=List.mem_iff_getElem.mp S0m;refine⟨⟨Z,by rw[ah];lia⟩,by rw[ah,eK,ah];exact aN Z,gW XV XV (λ k:Int=>!decide (Ss.getD k.toNat []=[])) (TC Ss.length) (by rw[ah];exact oZ _) (λ k hk=>?_) ?_⟩
 .obtain⟨j,rfl,jl⟩:=fR hk;exact⟨tI (Ss.getD j []),ak (fj jl),O,Ui,UZ _,by rw[Ox,<- kD];rfl,λ _=>⟨O,O⟩⟩
 generalize hks:(TC Ss.length).filter (λ k:Int=>!decide (Ss.getD k.toNat []=[]))=ks;have km:∀k,k∈ks ↔ k∈TC Ss.length/\Ss.getD k.toNat []≠[]:=λ k=>by rw[<- hks,fV];simp
 have kl:ks.length<=40:=by rw[<- hks];exact cG (kF _ _) (by rw[fc];exact n4)
 have kpos:0<ks.length:=tQ ((km j0).mpr ⟨xY j0l,by rw[Ox,aO,aZ j0l,j0e];exact pL.mp S0l⟩);refine⟨O,_,O,UL rfl ⟨ks,d0,O,kpos,Z,λ k hk=>?_⟩⟩;obtain⟨ku,An⟩:=(km k).mp hk;obtain⟨a,rfl,al⟩:=fR ku;have eA:=fj al;rw[Ox] at An;generalize Ss.getD a []=A at eA An;have A0:=pL.mpr An;have fA:=hS _ (aE eA);have a6:=fA.2.1;obtain⟨k,mp,kl⟩:=oX d1 A0;refine⟨by simp[LF],O,tI A,ak eA,O,_,O,show(((A.map XV).length:Nat):Int)≠0 by rw[af];lia,O,?_⟩;rw[mp];obtain⟨w,hw,wm⟩:=sM fw (k:=aQ d2 7) (by rw[cW ca];lia) (by rw[cW ca];show d2%7<((7:Nat):Int);lia);have la:=jx (a:=Oo) (b:=Om (k:Int)) a6;have lb:=jx (a:=Om ((k:Int)+1)) (b:=Oo) a6;have er:ag (A.map XV) Oo (Om (k:Int))++ag (A.map XV) (Om ((k:Int)+1)) Oo=(A.eraseIdx k).map XV:=by rw[show(k:Int)+1=((k+1:Nat):Int) by lia,cV,ce,jn,aL]
 have qf:Q (.tup [.tup [.str "fold",.str w,.int a,.int k],.tup (ag (A.map XV) Oo (Om (k:Int))++ag (A.map XV) (Om ((k:Int)+1)) Oo)]):=by
  rw[er];exact q (.fold w a k) (A.eraseIdx k) ⟨A,eA,wm,by unfold Uc;lia,by rw[Ox]⟩ (Je fA)
 refine⟨O,Wp,O,pv,sN (λ _=>⟨_,O,ca,.str w,hw,O,Uq,aG (by show(ag (A.map XV) Oo (Om (k:Int))).length+(ag (A.map XV) (Om ((k:Int)+1)) Oo).length<=1000;lia),O,Tv,O,qf⟩) (λ n13=>?_)⟩;refine⟨pv,sN (λ _=>⟨_,O,ca,.str w,hw,O,Uq,O,Tv,O,q (.run w a k) A ⟨eA,wm,by unfold Uc;lia⟩ fA⟩) (λ n14=>?_)⟩;refine⟨O,Ui,O,Ua,O,?_⟩;refine pf (λ ρ=>∃Ms:LL,Md kd A k Ss Ms/\ρ=[Om (.int kd),Om (lI [d0,d1,d2]),Om (.lst (Ss.map tI)),Om (.int mo),Om (.own (ks.map .int)),Om (.int a),Om (tI A),Om (.int k),Om (.own (fw.map .str)),Om (.own (Ms.map tI)),Oo,Oo]) ?_ (λ ρ' ⟨Ms,hM,e⟩=>?_)
 .refine⟨pv,sN (λ c11=>⟨by rw[ah];exact aN Z,bZ tI (λ B=>tI (fg A B k)) Ss (λ B hB=>cl rfl ⟨A,B,k,O,kl,a6,(hS B hB).2.1,O,O⟩ rfl) ⟨O,Ss.map (λ B=>fg A B k),.inl ⟨c11,O⟩,by rw[bF];rfl⟩⟩) (λ c11=>⟨_,yt A0,s3 (λ cA=>⟨by rw[ah];exact aN Z,bZ tI (λ B=>tI (B++A.drop 1)) Ss (λ B hB=>?_) ⟨O,Ss.map (λ B=>B++A.drop 1),.inr (.inl ⟨Z,cA,O⟩),by rw[bF];rfl⟩⟩) (λ cA=>⟨[[]],.inr (.inr ⟨c11,cA,O⟩),O⟩)⟩)⟩;have e1:ag (A.map XV) (Om 1) Oo=(A.drop 1).map XV:=ce A 1;have b6:=(hS B hB).2.1;have lc:=jx (a:=Om 1) (b:=Oo) a6;refine⟨aG (by show(B.map XV).length+(ag (A.map XV) (Om 1) Oo).length<=1000;rw[af];lia),O,?_⟩;show XW (B.map XV++ag (A.map XV) (Om 1) Oo)=tI (B++A.drop 1);rw[e1,<- aL];rfl
 subst e;have ml:=Jg hM n4;have mb:=Jh hM fA hS hmo;refine⟨⟨Z,by rw[ah];lia⟩,by rw[ah,eK,ah];exact aN Z,gW XV XV (λ k:Int=>(decide (kd=12)&&decide (0<A.getD 0 0)) || !decide (Ms.getD k.toNat []=[])) (TC Ms.length) (by rw[ah];exact oZ _) (λ k hk=>?_) ?_⟩
 .obtain⟨j,rfl,jl⟩:=fR hk;have nn:(!_L.eqT (tI (Ms.getD j [])).fz (XW []).fz)=!decide (Ms.getD ((j:Int).toNat) []=[]):=by rw[Ox,<- kD];rfl
  refine⟨pv,sN (λ c12=>⟨_,yt A0,s3 (λ cA=>?_) (λ cA=>?_)⟩) (λ c12=>?_)⟩
  .exact⟨by rw[cB c12,cB cA];rfl,λ _=>⟨O,O⟩⟩
  .exact⟨tI (Ms.getD j []),ak (fj jl),O,Ui,UZ _,by rw[bD cA,lN,jg,<- nn];rfl,λ _=>⟨O,O⟩⟩
  .exact⟨tI (Ms.getD j []),ak (fj jl),O,Ui,UZ _,by rw[bD c12,s0c,jg,<- nn];rfl,λ _=>⟨O,O⟩⟩
 generalize hks1:(TC Ms.length).filter (λ k:Int=>(decide (kd=12)&&decide (0<A.getD 0 0)) || !decide (Ms.getD k.toNat []=[]))=ks1;have km1:∀k,k∈ks1 ↔ k∈TC Ms.length/\((kd=12/\0<A.getD 0 0)\/Ms.getD k.toNat []≠[]):=λ k=>by rw[<- hks1,fV];simp
 have kl1:ks1.length<=40:=by rw[<- hks1];exact cG (kF _ _) (by rw[fc];exact ml)
 refine⟨O,by rw[af];exact aN Z,gW XV XV (λ k:Int=>decide ((Ms.getD k.toNat []).length<=6)&&decide (ai ((Ms.getD k.toNat []).map aq)<=mo)) ks1 rfl (λ k hk=>?_) ?_⟩
 .obtain⟨j,rfl,jl⟩:=fR ((km1 k).mp hk).1;rw[Ox];have eM:=fj jl;generalize Ms.getD j []=M at *;refine⟨tI M,ak eM,s2 (λ c6=>?_) (λ c6=>?_)⟩
  .have c6:(((M.map XV).length:Nat):Int)<=6:=aC c6;rw[af] at c6;exact⟨tI M,ak eM,cl rfl ⟨M,O,Ji (mb M (aE eM)),Z,by rw[cB (show M.length<=6 by lia),Sh],λ _=>⟨O,O⟩⟩ rfl⟩
  .have c6:¬(((M.map XV).length:Nat):Int)<=6:=gz c6;rw[af] at c6;exact⟨by rw[bD (show ¬M.length<=6 by lia),s0c],λ _=>⟨O,O⟩⟩
 generalize hls:ks1.filter (λ k:Int=>decide ((Ms.getD k.toNat []).length<=6)&&decide (ai ((Ms.getD k.toNat []).map aq)<=mo))=ls;have lm:∀k,k∈ls ↔ k∈ks1/\(Ms.getD k.toNat []).length<=6/\ai ((Ms.getD k.toNat []).map aq)<=mo:=λ k=>by rw[<- hls,fV,bp,da,da]
 have ll:ls.length<=40:=by rw[<- hls];exact cG (kF _ _) kl1
 refine⟨O,pv,sN (λ _=>⟨O,TR,O,Tv,O,q (.flip a k) A ⟨eA,by unfold Uc;lia⟩ fA⟩) (λ lne=>?_)⟩;have lne:ls.length≠0:=λ z=>lne (by rw[af,z];rfl);refine⟨_,O,UL rfl ⟨ls,d2,O,Z,Z,λ x hx=>?_⟩⟩;obtain⟨xm,m6,mw⟩:=(lm x).mp hx;obtain⟨xu,hb⟩:=(km1 x).mp xm;obtain⟨b,rfl,bl⟩:=fR xu;rw[Ox] at m6 mw hb;have eM:=fj bl;generalize Ms.getD b []=M at *;have nb:=Jj hmo m6 mw;have fM:=sD (λ n hn=>(mb M (aE eM) n hn).1) m6 mw;refine⟨by simp[LF],O,pv,sN (λ c11=>?_) (λ n11=>?_)⟩
 .have mne:¬M=[]:=hb.elim (λ z=>by lia) id
  obtain⟨B,eB,rfl⟩:∃B,Ss[b]?=Om B/\M=fg A B k:=by
   rcases hM with ⟨_,rfl⟩|⟨z,_⟩|⟨z,_⟩
   .rw[bh] at eM
    cases hx:Ss[b]? with
    |none=>rw[hx] at eM;cases eM
    |some B=>rw[hx] at eM;cases eM;exact⟨B,rfl,rfl⟩
   .lia
   .exact XU c11 z
  obtain⟨j1,j2,j3⟩:=yh mne;exact⟨O,Uq,tI (fg A B k),ak eM,O,Tv,O,q (.join a b k) (fg A B k) ⟨A,B,eA,eB,j1,by unfold Uc;lia,by rw[Ox];exact j2,by rw[<- j3];exact nb,j3⟩ fM⟩
 have k12:kd=12:=Z
 obtain⟨n,r,rfl⟩:∃n r,A=n::r:=by
  match A,A0 with
  |n::r,_=>exact⟨n,r,rfl⟩
 obtain⟨B,n0,eB,rfl⟩:∃B,0<n/\Ss[b]?=Om B/\M=B++r:=by
  rcases hM with ⟨z,_⟩|⟨_,z,rfl⟩|⟨_,z,rfl⟩
  .exact XU z n11
  .rw[bh] at eM
   cases hx:Ss[b]? with
   |none=>rw[hx] at eM;cases eM
   |some B=>rw[hx] at eM;cases eM;exact⟨B,z,rfl,rfl⟩
  .rcases hb with y|y
   .exact XU y.2 z
   .match b,eM with
    |0,eM=>cases eM;exact XU rfl y
 exact⟨O,TR,tI (B++r),ak eM,O,Tv,O,q (.fetch a b) (B++r) ⟨n,r,B,eA,Z,eB,nb,O⟩ fM⟩
def Oa:ZX 118 100 7 3 AL Mq:=av <| by
 rintro ts Q ⟨cell,mo,Ss,rfl,n4,hS,hmo,q⟩;refine⟨O,gS ca ca,ca,O,?_⟩;generalize aQ (cell*48271) 2147483647=n;refine⟨ca,O,?_⟩;obtain⟨kd,ek⟩:∃kd,aQ n 15=kd:=⟨_,rfl⟩;have kb:0<=kd/\kd<15:=by rw[<- ek,cW ca];lia
 rw[ek];refine⟨⟨ca,ca,ca⟩,ca,⟨ca,ca,ca⟩,ca,⟨ca,ca,ca⟩,O,TR,O,?_⟩;generalize aQ (bc n 15) 120=d0;generalize aQ (bc n 1800) 120=d1;generalize bc n 216000=d2;refine⟨pv,s2 (λ _=>⟨ca,cl rfl ⟨_,n,cell,mo,O,hmo,λ d S ok fs=>⟨O,q d S (ok Ss) fs⟩⟩ rfl⟩) (λ h0=>s3 (λ _=>⟨ca,cl rfl ⟨_,n,cell,mo,O,hmo,λ d S ok fs=>⟨O,q d S (ok Ss) fs⟩⟩ rfl⟩) (λ k3=>?_))⟩
 have n0:0<Ss.length:=by
  have h0:¬(((Ss.map tI).length:Nat):Int)=0:=gz h0;rw[ah] at h0;lia
 refine s3 (λ _=>UL rfl ⟨kd,d0,d1,d2,mo,Ss,O,n0,n4,hS,λ d S ok fs=>⟨oY d S,O,q d S ok fs⟩⟩) (λ k6=>?_);refine pf (λ ρ=>ρ=[Om (.int cell),Om (.lst (Ss.map tI)),Om (.int mo),Om (.int n),Om (.int kd),Om (.own [.int d0,.int d1,.int d2]),Oo]) ?_ (λ ρ' e=>?_)
 .refine s3 (λ h10=>⟨by rw[ah];exact aN Z,bZ tI (λ S=>.int ((S.map XV).length:Nat)) Ss (λ S _=>⟨O,O⟩) ⟨Ss.map (λ S=>(S.length:Int)),by rw[bF];exact rC λ S _=>by rw[af];rfl,by rw[ah];exact n0,λ M hM _=>s3 (λ hM0=>?_) (λ _=>rfl)⟩⟩) (λ h10=>rfl);exact UL rfl ⟨kd,d0,d1,d2,mo,Ss,O,Jk hM Z,Z,Z,n4,hS,hmo,λ d S ok fs=>⟨oY d S,O,q d S ok fs⟩⟩
 subst e;refine⟨⟨Z,by rw[ah];lia⟩,_,O,cl rfl ⟨TC Ss.length,d0,by show[TV.lst ((OE (((Ss.map tI).length:Nat):Int).toNat).map λ i:Nat=>XV (i:Nat)),XV d0]=_;rw[ah,oZ];rfl,by rw[fc];exact n0,by rw[fc];lia,λ k hk=>?_⟩ rfl⟩;obtain⟨a,rfl,al⟩:=fR hk;have eA:=fj al;generalize Ss.getD a []=A at eA;exact⟨O,tI A,ak eA,UL rfl ⟨_,d0,d1,d2,mo,a,A,Ss,O,eA,hS _ (aE eA),hmo,λ d S ok fs=>⟨oY d S,O,q d S ok fs⟩⟩⟩
def Ob:ZX 119 101 9 2 AM Mr:=av <| by
 rintro ts Q ⟨cs,mo,rfl,c40,hmo,q⟩;refine⟨O,O,Ui,O,O,Ui,O,O,?_⟩;refine cN (λ i ρ=>∃(ds:List Stp) (Ss:LL) (y4 y5:Option TV),eJ mo ds Ss/\ds.length=i/\ρ=[Om (lI cs),Om (.int mo),Om (.own (ds.map Tn)),Om (.own (Ss.map tI)),y4,y5,Oo,Oo,Oo]) ⟨[],[],_,_,yg mo,O,O⟩ (λ i t ρ ht h=>?_) (λ ρ h=>?_)
 .obtain⟨ds,Ss,y4,y5,gl,dl,rfl⟩:=h;obtain⟨c,rfl,hc⟩:=iK ht;have il:=(aX.mp hc).1;have Sl:Ss.length=i:=by rw[<- gl.1,dl]
  exact UL rfl ⟨c,mo,Ss,O,Z,gl.2.1,hmo,λ d S ok fs=>⟨oY d S,O,_,O,O,by rw[ah,dl];exact aN Z,_,O,O,by rw[ah,Sl];exact aN Z,ds++[d],Ss++[S],_,_,xZ gl ok fs,by rw[aF,dl];rfl,by rw[aL,aL];rfl⟩⟩
 obtain⟨ds,Ss,y4,y5,gl,dl,rfl⟩:=h;rw[ah] at dl;refine pf (λ ρ=>∃(ds:List Stp) (Ss:LL),eJ mo ds Ss/\0<ds.length/\ds.length<=40/\ρ=[Om (lI cs),Om (.int mo),Om (.own (ds.map Tn)),Om (.own (Ss.map tI)),y4,y5,Oo,Oo,Oo]) ?_ (λ ρ' h=>?_)
 .refine⟨pv,sN (λ z=>?_) (λ z=>⟨ds,Ss,gl,by rw[ah] at z;lia,Z,O⟩)⟩;rw[ah] at z;have e1:ds=[]:=AX.mp Z;have e2:Ss=[]:=AX.mp (by rw[<- gl.1,e1];rfl);subst e1 e2;exact⟨O,Tv,O,UW (n:=0) ca,O,Ui,O,UW (n:=0) ca,[.num 0],[[]],xZ (yg mo) (d:=.num 0) (S:=[]) ⟨O,by unfold UV;decide⟩ (oO hmo),ca,ca,O⟩
 obtain⟨ds,Ss,gl,d0,d40,rfl⟩:=h;refine⟨O,Ui,O,cs,O,gS ca ca,ca,O,?_⟩;generalize aQ (cs.sum*16807) 2147483647=n;obtain⟨x,hx,x1,x8⟩:=JC (aQ n 6) (by rw[cW ca];lia) (by rw[cW ca];lia);refine⟨O,Va,ca,.int x,hx,O,⟨Z,Z⟩,?_⟩;refine cN (λ i ρ=>∃(os:LI) (n:Int) (y8:Option TV),os.length=i/\(∀o∈os,0<=o/\o<(ds.length:Int))/\ρ=[Om (lI cs),Om (.int mo),Om (.own (ds.map Tn)),Om (.own (Ss.map tI)),y4,y5,Om (.own (os.map .int)),Om (.int n),y8]) ⟨[],n,_,O,(λ o ho=>nomatch ho),O⟩ (λ i t ρ ht h=>?_) (λ ρ h=>?_)
 .obtain⟨os,n,y8,ol,ob,rfl⟩:=h;obtain⟨il,rfl⟩:=oS ht;obtain⟨k,em,kl⟩:∃k:Nat,aQ (bc (aQ (n*48271+11) 2147483647) 16) (((ds.map Tn).length:Nat):Int)=k/\k<ds.length:=by rw[ah];exact mz _ d0
  refine⟨gS ca ca,ca,O,⟨ca,ca,ca⟩,by rw[ah];lia,O,by rw[af,ol];exact aN Z,os++[(k:Int)],aQ (n*48271+11) 2147483647,Om (.int (i:Nat)),by rw[aF,ol];rfl,λ o ho=>?_,by rw[em,aL];rfl⟩
  rcases bX.mp ho with z|z
  .exact ob o z
  .cases aH.mp z;lia
 obtain⟨os,n,y8,ol,ob,rfl⟩:=h;rw[ah,eK] at ol;obtain⟨k,hk,f1⟩:=oX n (A:=os) Z;refine⟨O,by rw[af];lia,k,by rw[hk,af];exact si f1,O,TR,O,?_⟩
 have z:=q ds Ss (os.set k ((ds.length:Int) - 1)) ⟨hmo,gl,d0,d40,by rw[dE];lia,by rw[dE];lia,λ o ho=>by
  rcases mx ho with z|z
  .exact ob o z
  .lia⟩
 unfold tI at z;rw[s1k] at z;show Q (.tup [.tup (ds.map Tn),.tup ((os.map XV).set k (.int (((ds.map Tn).length:Nat)-1))),.lst (Ss.map tI)]);rw[ah];exact z
def Oc:ZX 120 102 1 1 AN Mt:=av <| by
 rintro ts Q ⟨ns,rfl,sd,l,q⟩;refine⟨O,?_⟩;have e:(OE (((ns.map XV).length:Nat):Int).toNat).map (λ k:Nat=>XV (ai (ns.drop (k+1))))=(aI ns).map XV:=by rw[af,Ox,<- yW,bF];rfl
 refine⟨⟨by rw[af];lia,by rw[af];lia⟩,by rw[ah,eK,af,Ox];exact aN Z,bZ (λ i:Nat=>.int (i:Nat)) (λ k:Nat=>.int (ai (ns.drop (k+1)))) (OE (((ns.map XV).length:Nat):Int).toNat) (λ k hk=>?_) ⟨O,by rw[e];exact q⟩⟩;exact cl rfl ⟨_,ns.drop (k+1),O,.inl (bA XW (ce ns (k+1))),Kl sd _,O,O⟩ rfl
def Od:ZM 46 121 103 (UE 103) ["_law_start","_law_strides_here","_law_own","_law_many"] ["_law_start","_law_strides_here"] [1,3] 4 4 3 (mL 42) AO Mu Mv Mw:=av <| by
 rintro ts Q ⟨t,S,L,rfl,hd,hl,hp,s6,l6,q⟩;refine⟨O,?_⟩;have le:S.length<=L.length:=by rw[<- hp,aP];lia
 refine⟨O,O,[tI S,.int (((L.map XV).length:Nat)-((S.map XV).length:Nat):Int)],λ args Q=>∃p∈TH t,args=[.int p.1,tI p.2]/\Q (.tup [.int (dq S.length (L.length-S.length) p.1 p.2).1,tI (dq S.length (L.length-S.length) p.1 p.2).2]),_,O,λ u hu=>?_,⟨t,dq S.length (L.length-S.length),O,hd,λ p hp Q hq=>⟨p,hp,O,hq⟩,O⟩,?_,λ t e=>e ▸ q⟩
 .rcases aB.mp hu with rfl|hu
  .exact .inl (gq S)
  .cases aH.mp hu;exact .inl (by simp[LF])
 .rintro args P'' ⟨p,hp',rfl,hq⟩;have lp:=hl p hp';have e1:ag (p.2.map XV) Oo (Om (((S.map XV).length:Nat):Int))=(p.2.take S.length).map XV:=by rw[af,cV]
  have e2:ag (p.2.map XV) (Om (((S.map XV).length:Nat):Int)) Oo=(p.2.drop S.length).map XV:=by rw[af,ce]
  have e3:(Ow ((((L.map XV).length:Nat):Int)-(((S.map XV).length:Nat):Int)).toNat (Pd TV.fz [XV 0])).flatten=(dz (L.length-S.length)).map XV:=by rw[af,af];exact yw _ _
  have l1:(p.2.take S.length).length<=60:=by rw[aP];lia
  have l2:(p.2.drop S.length).length<=60:=by rw[bL];lia
  have l3:(dz (L.length-S.length)).length<=6:=by rw[kA];lia
  refine⟨O,O,Ua,on,⟨by rw[af,af];lia,by rw[af,af];lia⟩,?_,?_,?_,O,Tv,O,?_⟩
  .rw[af,af];exact aG (by show 1*_<=1000;lia)
  .rw[e1,e3,af,af];exact aG Z
  .rw[e1,e2,e3,aF,af,af,af];exact aG Z
  .show P'' (.tup [.int p.1,.tup (ag (p.2.map XV) Oo (Om (((S.map XV).length:Nat):Int))++(Ow ((((L.map XV).length:Nat):Int)-(((S.map XV).length:Nat):Int)).toNat (Pd TV.fz [XV 0])).flatten++ag (p.2.map XV) (Om (((S.map XV).length:Nat):Int)) Oo)]);rw[e1,e2,e3,<- aL,<- aL];exact hq
def Oe:ZJ 46 122 104 (UE 104) ["_law_start","_law_strides_here","_law_own","_law_k","_law_rest"] ["_law_start","_law_strides_here"] [1,2] 3 4 5 3 (mL 42) AQ Mx Mz:=av <| by
 rintro ts Q ⟨t,S,k,rfl,hd,hl,s6,kl,q⟩;refine⟨O,(λ u z=>by cases z),O,[tI S,.int k],λ args Q=>∃p∈TH t,args=[.int p.1,tI p.2]/\Q (.tup [.int (cD S.length k p.1 p.2).1,tI (cD S.length k p.1 p.2).2]),_,O,λ u hu=>?_,⟨t,cD S.length k,O,hd,λ p hp Q hq=>⟨p,hp,O,hq⟩,O⟩,?_,λ t e=>e ▸ q⟩
 .rcases aB.mp hu with rfl|hu
  .exact .inl (gq S)
  .cases aH.mp hu;exact .inl (by simp[LF])
 .rintro args P'' ⟨p,hp',rfl,hq⟩;obtain⟨lp,lq⟩:=hl p hp';have e1:ag (p.2.map XV) Oo (Om (k:Int))=(p.2.take k).map XV:=cV _ _;have e2:ag (p.2.map XV) (Om (((S.map XV).length:Nat):Int)) Oo=(p.2.drop S.length).map XV:=by rw[af,ce]
  have e3:ag (p.2.map XV) (Om ((k:Int)+1)) (Om (((S.map XV).length:Nat):Int))=((p.2.drop (k+1)).take (S.length-(k+1))).map XV:=by rw[af];exact Ko (a:=k+1) lp Z
  have l1:(p.2.take k).length<=60:=by rw[aP];lia
  have l2:(p.2.drop S.length).length<=60:=by rw[bL];lia
  have l3:((p.2.drop (k+1)).take (S.length-(k+1))).length<=60:=by rw[aP,bL];lia
  refine⟨O,O,?_,.int (p.2.getD k 0),bv Z,O,Ua,?_,?_,O,Tv,O,?_⟩
  .rw[e1,e3,af,af];exact aG Z
  .rw[e1,e3,aF,af,af];exact aG (by show _+1<=1000;lia)
  .rw[e1,e2,e3,aF,aF,af,af,af];exact aG (by show _+_+1+_<=1000;lia)
  .show P'' (.tup [.int p.1,.tup (ag (p.2.map XV) Oo (Om (k:Int))++ag (p.2.map XV) (Om ((k:Int)+1)) (Om (((S.map XV).length:Nat):Int))++[.int (p.2.getD k 0)]++ag (p.2.map XV) (Om (((S.map XV).length:Nat):Int)) Oo)]);rw[e1,e2,e3,show[XV (p.2.getD k 0)]=[p.2.getD k 0].map XV from rfl,<- aL,<- aL,<- aL,Kp lp kl];exact hq
def Of:ZJ 46 123 105 (UE 105) ["_law_start","_law_strides_here","_law_step_here","_law_own","_law_k"] ["_law_start","_law_strides_here"] [0,2] 3 4 5 3 (mL 42) AR MA MB:=av <| by
 rintro ts Q ⟨d,A,S,t,Ss,rfl,m4,ea,fA,ok,hd,hl,q⟩;refine⟨O,?_⟩;have l6:=fA.2.1;refine⟨(λ u z=>by cases z),O,[Tn d,tI A],λ args Q=>∃p∈TH t,args=[.int p.1,tI p.2]/\Q (.tup [.int (cE A d p.1 p.2).1,tI (cE A d p.1 p.2).2]),_,O,λ u hu=>?_,⟨t,cE A d,O,hd,λ p hp Q hq=>⟨p,hp,O,hq⟩,O⟩,?_,λ t e=>e ▸ q⟩
 .rcases aB.mp hu with rfl|hu
  .exact .inl (sO _)
  .cases aH.mp hu;exact .inl (gq A)
 .rintro args P'' ⟨p,hp',rfl,hq⟩;obtain⟨lp,lq⟩:=hl p hp';have e2:∀c:Nat,ag (p.2.map XV) Oo (Om (c:Int))=(p.2.take c).map XV:=λ c=>cV _ _;have e3:∀c:Nat,ag (p.2.map XV) (Om ((c:Int)+1)) Oo=(p.2.drop (c+1)).map XV:=λ c=>ce _ (c+1);have e4:∀c:Nat,ag (p.2.map XV) (Om (c:Int)) Oo=(p.2.drop c).map XV:=λ c=>ce _ c;have l1:∀c:Nat,(p.2.take c).length<=60:=λ c=>by rw[aP];lia
  have l2:∀c:Nat,(p.2.drop c).length<=60:=λ c=>by rw[bL];lia
  cases d with
  |flip a s=>
   obtain⟨e5,no⟩:=ok;cases bw (ea.symm.trans e5);obtain⟨c,rfl,kl⟩:=dI no;have n5:=fA.1 (A.getD c 0) (gQ kl);have m1:=l1 c;have m2:=l2 (c+1);refine⟨O,_,O,O,_,O,pv,_,O,pv,.int (A.getD c 0),bv kl,.int (p.2.getD c 0),bv Z,gU Z Z,.int (p.2.getD c 0),bv Z,O,Ua,?_,?_,O,Tv,O,?_⟩
   .rw[e2,af];exact aG (by show _+1<=1000;lia)
   .rw[e2,e3,aF,af,af];exact aG (by show _+1+_<=1000;lia)
   .show P'' (.tup [.int (p.1+(A.getD c 0-1)*p.2.getD c 0),.tup (ag (p.2.map XV) Oo (Om (c:Int))++[.int (-p.2.getD c 0)]++ag (p.2.map XV) (Om ((c:Int)+1)) Oo)]);rw[e2,e3,show[XV (-p.2.getD c 0)]=[-p.2.getD c 0].map XV from rfl,<- aL,<- aL,yX Z];exact hq
  |cut a s f m g=>
   obtain⟨A',e5,no,nb,m5,rfl⟩:=ok;cases bw (ea.symm.trans e5);obtain⟨c,rfl,kl⟩:=dI no;have nb':=nb;unfold Ve at nb';have m1:=l1 c;have m2:=l2 (c+1);refine⟨O,_,O,O,_,O,pv,_,O,pv,_,O,pv,_,O,.int (p.2.getD c 0),bv Z,gU Z Z,_,O,.int (p.2.getD c 0),bv Z,gU Z Z,O,Ua,?_,?_,O,Tv,O,?_⟩
   .rw[e2,af];exact aG (by show _+1<=1000;lia)
   .rw[e2,e3,aF,af,af];exact aG (by show _+1+_<=1000;lia)
   .show P'' (.tup [.int (p.1+f*p.2.getD c 0),.tup (ag (p.2.map XV) Oo (Om (c:Int))++[.int (g*p.2.getD c 0)]++ag (p.2.map XV) (Om ((c:Int)+1)) Oo)]);rw[e2,e3,oH g,show[XV (p.2.getD c 0*g)]=[p.2.getD c 0*g].map XV from rfl,<- aL,<- aL,yX Z];exact hq
  |spread a s m=>
   obtain⟨A',e5,no,m0,m5,nb,rfl⟩:=ok;cases bw (ea.symm.trans e5);unfold jv at no;obtain⟨c,rfl⟩:∃k:Nat,s=k:=⟨s.toNat,Z⟩;have m1:=l1 c;have m2:=l2 c;refine⟨O,_,O,O,_,O,pv,_,O,pv,_,O,pv,O,Ua,?_,?_,O,Tv,O,?_⟩
   .rw[e2,af];exact aG (by show _+1<=1000;lia)
   .rw[e2,e4,aF,af,af];exact aG (by show _+1+_<=1000;lia)
   .show P'' (.tup [.int p.1,.tup (ag (p.2.map XV) Oo (Om (c:Int))++[.int 0]++ag (p.2.map XV) (Om (c:Int)) Oo)]);rw[e2,e4,show[XV 0]=[(0:Int)].map XV from rfl,<- aL,<- aL];exact hq
  |turn a os=>
   obtain⟨A',e5,tk,rfl⟩:=ok;cases bw (ea.symm.trans e5);have ol:=sJ tk;have om:∀o∈os,0<=o/\o<(A.length:Int):=λ o ho=>up_mem.mp (tk.subset ho);have z:(os.map λ o:Int=>XV (p.2.getD o.toNat 0))=(bS p.2 os).map XV:=by unfold bS;rw[bF];rfl
   have e6:ag (p.2.map XV) (Om (((A.map XV).length:Nat):Int)) Oo=(p.2.drop A.length).map XV:=by rw[af,ce]
   have m2:=l2 A.length;refine⟨O,_,O,O,_,O,pv,_,O,by rw[af];exact aN Z,bZ XV (λ o:Int=>.int (p.2.getD o.toNat 0)) os (λ o ho=>?_) ⟨?_,O,Tv,O,?_⟩⟩
   .have:=om o ho;exact⟨.int (p.2.getD o.toNat 0),oT Z Z,O,O⟩
   .show(os.map λ o:Int=>XV (p.2.getD o.toNat 0)).length+(ag (p.2.map XV) (Om (((A.map XV).length:Nat):Int)) Oo).length<=Ou;rw[e6,ah,af];exact aG Z
   .show P'' (.tup [.int p.1,.tup ((os.map λ o:Int=>XV (p.2.getD o.toNat 0))++ag (p.2.map XV) (Om (((A.map XV).length:Nat):Int)) Oo)]);rw[e6,z,<- aL];exact hq
  |_=>exact m4.elim
def Og:ZX 124 106 10 4 AS MC:=av <| by
 rintro ts Q ⟨a,b,n,r,B,S,ss,st,s,t,Ss,Ts,rfl,ea,eb,eta,etb,s0,s6,b6,S6,hp,hd,hl,q⟩;refine⟨O,?_⟩;have e1:ag (ss.map XV) (Om 1) Oo=(ss.drop 1).map XV:=ce ss 1;have e3:(Ow (((B.map XV).length:Nat):Int).toNat (Pd TV.fz [XV 0])).flatten=(dz B.length).map XV:=by rw[af];exact yK _
 refine⟨_,O,Th (.read st s ss),ak eta,O,Ua,_,O,tI B,ak eb,on,⟨by rw[af];lia,by rw[af];lia⟩,by rw[af];exact aG (by show 1*_<=1000;lia),?_,O,_,O,Th t,ak etb,_,O,tI B,ak eb,?_⟩
 .rw[e3,e1,af,af,kA,bL];exact aG Z
 .refine cl rfl ⟨t,B,S,O,hd,hl,hp,b6,S6,O,.int (ss.getD 0 0),bv (k:=0) s0,_,O,tI (n::r),ak ea,.int n,bv (ns:=n::r) (k:=0) on,O,Wp,O,?_⟩ rfl;show Q (.tup [.str "fetch",.int st,.int s,.int (ss.getD 0 0),.int n,.tup ((Ow (((B.map XV).length:Nat):Int).toNat (Pd TV.fz [XV 0])).flatten++ag (ss.map XV) (Om 1) Oo),Th (rm (dq B.length (S.length-B.length)) t)]);rw[e3,e1,<- aL];exact q
def Oh:ZX 125 107 6 4 AT MD:=av <| by
 rintro ts Q ⟨d,S,Ss,Ts,rfl,ok,fS,fs,⟨hA,hlay,hfet⟩,nt,q⟩;refine⟨O,?_⟩;have S6:=fs.2.1;have sd:=cU fs
 have led:(Tz d=Tz (.each "" 0)\/Tz d=Tz (.pair "" 0 0)\/Tz d=Tz (.pick 0 0 0))->∀a∈ar d,∃t A,Ts[a]?=Om (Om t)/\Ss[a]?=Om A/\(To t<=41/\fT A.length t)/\A.length<=6/\S.take A.length=A/\rm (dq A.length (S.length-A.length)) t=bN Ts Ss S a:=λ h a ha=>by
  obtain⟨t,A,et,eA,wf⟩:=hA a ha;obtain⟨A',eA',hp⟩:=sY ok h a ha;cases eA.symm.trans eA';have a6:=(fS A (aE eA)).2.1;exact⟨t,A,et,eA,gu wf a6 (ao _),a6,hp,by unfold bN;rw[bG et,Ul eA]⟩
 have mvd:Vi d->Q (TJ (cu Ts Ss S d))->∀t A,Ts[(ar d).headD 0]?=Om (Om t)->Ss[(ar d).headD 0]?=Om A->Vj 40 A t->Q (Th (rm (cE A d) t))/\fit A/\To t<=41/\fT A.length t:=λ m q' t A et eA wf=>by
  have fA:=fS A (aE eA);have w:=gu wf fA.2.1 (ao _);refine⟨?_,fA,w.1,w.2⟩
  have e:cu Ts Ss S d=Om (rm (cE (Tg Ss ((ar d).headD 0)) d) (gt Ts ((ar d).headD 0))):=by cases d<;>first|rfl|exact m.elim
  rw[e,bG et,Ul eA] at q';exact q'
 cases d with
 |num n=>exact⟨_,rfl,rfl,trivial,_,rfl,rfl,Tv,rfl,q⟩
 |count ms k=>
  refine⟨_,O,O,pv,pv,⟨by rw[af];lia,by rw[af];lia⟩,by rw[ah,eK,af,Ox];exact aN Z,bZ (λ i:Nat=>.int (i:Nat)) (λ j:Nat=>.int (if (j:Int)=k then 1 else 0)) (OE (((S.map XV).length:Nat):Int).toNat) (λ j hj=>⟨_,O,pv,?_⟩) ⟨O,TR,O,?_⟩⟩
  .refine⟨O,?_⟩;show XV (if decide ((j:Int)=k)=On then 1 else 0)=_;by_cases h:(j:Int)=k
   .rw[XT h,cB h];rfl
   .rw[XR h,bD h];rfl
  .have e:(OE (((S.map XV).length:Nat):Int).toNat).map (λ j:Nat=>XV (if (j:Int)=k then 1 else 0))=((OE S.length).map λ j:Nat=>if (j:Int)=k then (1:Int) else 0).map XV:=by rw[af,Ox,bF];rfl
   show Q (.tup [.str "index",.int 0,.tup _]);rw[e];exact q
 |each w a=>
  obtain⟨t,A,et,eA,⟨h1,h2⟩,a6,hp,e⟩:=led (.inl rfl) a (by simp[ar])
  have eS:A=S:=by
   have z:=ok.1;rw[eA] at z;cases z;rfl
  subst eS;rw[Km] at e;refine⟨_,O,O,pv,pv,pv,_,O,_,O,Th t,ak et,O,TR,O,?_⟩;have q:Q (Th (.each w (bN Ts Ss A a))):=q;rw[<- e] at q;exact q
 |pair w a b'=>
  refine⟨_,O,O,pv,pv,pv,pv,_,O,O,Tv,aN (by show 2<=1000;decide),oR (l:=[a,b']) (f:=λ a:Nat=>XV (a:Int)) rfl (λ a=>Th (bN Ts Ss S a)) (λ b hb=>?_) ⟨aG (bW rfl),O,q⟩⟩;obtain⟨t,A,et,eA,⟨h1,h2⟩,a6,hp,e⟩:=led (.inr (.inl rfl)) b hb;exact⟨Th t,ak et,tI A,ak eA,cl rfl ⟨t,A,S,O,h1,h2,hp,a6,S6,O,bA Th e⟩ rfl⟩
 |pick a b' c=>
  refine⟨_,O,O,pv,pv,pv,pv,pv,O,Ua,aN (by show 3<=1000;decide),oR (l:=[a,b',c]) (f:=λ a:Nat=>XV (a:Int)) rfl (λ a=>Th (bN Ts Ss S a)) (λ b hb=>?_) ⟨aG (bW rfl),O,q⟩⟩;obtain⟨t,A,et,eA,⟨h1,h2⟩,a6,hp,e⟩:=led (.inr (.inr rfl)) b hb;exact⟨Th t,ak et,tI A,ak eA,cl rfl ⟨t,A,S,O,h1,h2,hp,a6,S6,O,bA Th e⟩ rfl⟩
 |fold w a side=>
  obtain⟨t,A,et,eA,wf⟩:=hA a (by simp[ar]);obtain⟨A',ea,hw,no,rfl⟩:=ok;cases eA.symm.trans ea;obtain⟨k,rfl,kl⟩:=dI no;have a6:=(fS A (aE eA)).2.1;have w':=gu wf a6 (ao _);refine⟨_,O,O,pv,pv,pv,pv,pv,pv,_,O,tI A,ak eA,O,_,O,_,O,.int (A.getD k 0),bv kl,_,O,Th t,ak et,_,O,cl rfl ⟨t,A,k,O,w'.1,w'.2,a6,kl,O,Uq,O,?_⟩ rfl⟩;have z:Q (Th (.fold w ((Tg Ss a).getD k 0) (rm (cD (Tg Ss a).length k) (gt Ts a)))):=q;rw[bG et,Ul eA] at z;exact z
 |fetch a b=>
  obtain⟨t,A,et,eA,wf⟩:=hA a (by simp[ar]);obtain⟨t',B,et',eB,wf'⟩:=hA b (by simp[ar]);obtain⟨n,r,B',ea,n0,eb,nb,rfl⟩:=ok;cases eB.symm.trans eb;cases eA.symm.trans ea;obtain⟨st,s,ss,e⟩:=hfet a b rfl;rw[bG et] at e;subst e;have a6:(n::r).length<=6:=(fS _ (aE eA)).2.1;have b6:=(fS B (aE eB)).2.1;have w':=gu wf' b6 (ao _);have l1:(n::r).length<=ss.length/\ss.length<=(n::r).length+0:=wf.2 (s,ss) bd;rw[OQ] at l1 a6;refine⟨_,O,O,pv,pv,pv,pv,pv,pv,pv,cl rfl ⟨a,b,n,r,B,_,ss,st,s,t',Ss,Ts,O,eA,eB,et,et',Z,Z,b6,S6,s0g,w'.1,w'.2,O,?_⟩ rfl⟩;have z:Q (Th (kH (gt Ts a) (Tg Ss a) (Tg Ss b) (bN Ts Ss (B++r) b))):=q;unfold bN at z;rw[bG et,bG et',Ul eA,Ul eB] at z;exact z
 |lay a ms=>
  obtain⟨t,A,et,eA,wf⟩:=hA a (by simp[ar]);obtain⟨st,s,ss,e⟩:=hlay a ms rfl;rw[bG et] at e;subst e;refine⟨_,O,O,pv,pv,pv,pv,pv,pv,pv,pv,_,O,Th (.read st s ss),ak et,_,O,cl rfl ⟨S,O,sd,Z,O,Uq,O,?_⟩ rfl⟩;have z:Q (Th (.read (kG (gt Ts a)) 0 (aI S))):=q;rw[bG et] at z;exact z
 |turn a os|flip a k|cut a k f m g|spread a k m=>
  obtain⟨t,A,et,eA,wf⟩:=hA a (by simp[ar]);obtain⟨q',fA,hd,hl⟩:=mvd trivial q t A et eA wf;exact⟨_,O,O,pv,pv,pv,pv,pv,pv,pv,pv,_,O,Th t,ak et,_,O,tI A,ak eA,cl rfl ⟨_,A,S,t,Ss,O,pv,eA,fA,ok,hd,hl,O,q'⟩ rfl⟩
 |_=>exact XU trivial nt
def Oi:ZX 126 108 11 5 AU ME:=av <| by
 rintro ts Q ⟨d,S,st,Ss,Ts,rfl,ok,fS,fs,hA,ni,q⟩;refine⟨O,?_⟩;have S6:=fs.2.1;have sd:=cU fs;have sl:(aI S).length=S.length:=mB S
 have oth:∀(h1:¬iM d) (q:Q (.lst [dL st S 0 (aI S) (TJ (cu Ts Ss S d))])),∃t,cu Ts Ss S d=Om t/\Q (.lst [dL st S 0 (aI S) (Th t)]):=λ h1 q=>by
  obtain⟨t,et⟩:=pA (Ts:=Ts) (Ss:=Ss) (S:=S) h1;rw[et] at q;exact⟨t,et,q⟩
 cases d with
 |inp ms=>cases ni
 |run w a s=>
  obtain⟨t,A,et,eA,wf⟩:=hA.1 a (by simp[ar]);obtain⟨eA',hw,no⟩:=ok;obtain⟨c,rfl,cl'⟩:=dI no;cases eA.symm.trans eA';have wf':=gu wf S6 (ao _);have q:Q (.lst [Vl w st (Tg Ss a) c (Th (rm (cD (Tg Ss a).length c) (gt Ts a)))]):=q;rw[Ul eA,bG et] at q;have e1:ag (S.map XV) Oo (Om (c:Int))=(S.take c).map XV:=cV S c;have e2:ag (S.map XV) (Om ((c:Int)+1)) Oo=(S.drop (c+1)).map XV:=ce S (c+1);have e3:ag ((aI S).map XV) Oo (Om (c:Int))=((aI S).take c).map XV:=cV _ c;have e4:ag ((aI S).map XV) (Om ((c:Int)+1)) Oo=((aI S).drop (c+1)).map XV:=ce _ (c+1)
  have ee:(cD S.length c 0 (aI S)).2=(aI S).take c++(aI S).drop (c+1)++[(aI S).getD c 0]:=by
   show bC ((aI S).eraseIdx c) (S.length-1) _=_;rw[Kq _ _ _ (by rw[mH,XT Z,sl]),yY]
  refine cl rfl ⟨S,O,sd,Z,O,_,O,pv,_,O,O,?_,O,_,O,Th t,ak et,cl rfl ⟨t,S,c,O,wf'.1,wf'.2,S6,cl',O,?_⟩ rfl⟩ rfl
  .rw[e1,e2,af,af,aP,bL];exact aG Z
  .refine⟨_,O,.int (S.getD c 0),bv cl',?_,.int ((aI S).getD c 0),bv Z,O,Ua,?_,O,aG (bW rfl),O,Ua,O,?_⟩
   .rw[e3,e4,af,af,aP,bL];exact aG Z
   .rw[e3,e4,aF,af,af,aP,bL];exact aG (by show _+1<=1000;lia)
   .show Q (.lst [.tup [.str "run",.str w,.int st,.tup (ag (S.map XV) Oo (Om (c:Int))++ag (S.map XV) (Om ((c:Int)+1)) Oo),.int (S.getD c 0),.int 0,.tup (ag ((aI S).map XV) Oo (Om (c:Int))++ag ((aI S).map XV) (Om ((c:Int)+1)) Oo++[.int ((aI S).getD c 0)]),Th (rm (cD S.length c) t)]]);unfold Vl at q;rw[ee] at q;rw[e1,e2,e3,e4,<- aL,yY,<- aL,show[XV ((aI S).getD c 0)]=[(aI S).getD c 0].map XV from rfl,<- aL];exact q
 |join a b s=>
  obtain⟨ta,A,eta,eA,wfa⟩:=hA.1 a (by simp[ar]);obtain⟨tb,B,etb,eB',wfb⟩:=hA.1 b (by simp[ar]);obtain⟨A',B',ea,eb,lAB,no,er,nb,e⟩:=ok;cases eA.symm.trans ea;cases eB'.symm.trans eb;have jl:S.length=A.length:=by rw[e];exact yU no
  obtain⟨c,rfl,cl'⟩:=dI no;have n5:=(fS A (aE eA)).1 (A.getD c 0) (gQ cl');have q:Q (.lst [dL st (Tg Ss a) 0 (aI S) (Th (gt Ts a)),dL st (Tg Ss b) ((Tg Ss a).getD c 0*(aI S).getD c 0) (aI S) (Th (gt Ts b))]):=q;rw[Ul eA,Ul eB',bG eta,bG etb] at q;exact cl rfl ⟨S,O,sd,Z,O,_,O,pv,_,O,pv,_,O,tI A,ak eA,_,O,.int (A.getD c 0),bv cl',_,O,.int ((aI S).getD c 0),bv Z,gU Z Z,O,_,O,tI A,ak eA,_,O,Th ta,ak eta,O,Va,O,_,O,tI B,ak eB',_,O,Th tb,ak etb,O,Va,O,Tv,O,q⟩ rfl
 |_=>
  obtain⟨t,et,q⟩:=oth (λ h=>h) q;exact cl rfl ⟨S,O,sd,Z,O,_,O,pv,_,O,pv,cl rfl ⟨_,S,Ss,Ts,O,ok,fS,fs,hA,λ h=>h,by rw[et];exact⟨O,Va,O,Ua,O,q⟩⟩ rfl⟩ rfl
def Oj:ZX 127 109 13 1 AW MF:=av <| by
 rintro ts Q ⟨ns,rfl,h63,q⟩;refine⟨O,?_⟩;have e39:ag (ns.map XV) Oo (Om (39:Int))=(ns.take 39).map XV:=cV ns 39;refine cl rfl ⟨ns.take 39,24,by show[TV.lst (ag (ns.map XV) Oo (Om (39:Int))),XV 24]=_;rw[e39];rfl,by rw[aP];lia,⟨ca,ca⟩,λ ds Ss os gd=>⟨O,Tv,cl rfl ⟨ds,Ss,os,24,O,gd,O,O,Tv,cl rfl ⟨ds,Ss,os,24,O,gd,O,O,Tv,cl rfl ⟨ds,Ss,os,24,O,gd,O,O,Ui,O,O,Ui,O,O,O,?_⟩ rfl⟩ rfl⟩ rfl⟩⟩ rfl;obtain⟨hmo,gl,d0,d40,o0,o8,ob⟩:=id gd;have fS:=oQ gl hmo;have eSk:∀k,k<ds.length->Ss[k]?=Om (Tg Ss k):=λ k kl=>by unfold Tg;rw[aO,aZ (by rw[<- gl.1];exact kl)];rfl
 refine cN (λ i ρ=>∃y10 y11 y12,ρ=[Om (lI ns),Om (.tup (ds.map Tn)),Om (tI os),Om (.lst (Ss.map tI)),Om (.lst ((fU ds (Te ds Ss os ds.length)).map λ k=>.int (k:Nat))),Om (.lst ((aU ds os).map λ k=>.int (k:Nat))),Om (yV ds Ss os (Te ds Ss os ds.length)),Om (.own ((Te ds Ss os i).Ts.map TJ)),Om (.own (UX ds Ss os (Te ds Ss os ds.length) i)),Om (.int ((Te ds Ss os i).st.length:Nat)),y10,y11,y12]) ⟨_,_,_,O⟩ (λ i t ρ ht h=>?_) (λ ρ h=>?_)
 .obtain⟨y10,y11,y12,rfl⟩:=h;obtain⟨d,rfl,ed⟩:=tF ht;have il:=(aX.mp ed).1;have eS:=eSk i il;have ih:=jy (os:=os) gl d40 i Z;obtain⟨l1,l2,l3⟩:=gv ds Ss os i;have gd':=gD ed;have sz:∀n:Nat,n<=50->n<Ou:=λ n h=>aN Z;have fi:fit (Tg Ss i):=fS _ (aE eS);have ok:=VQ (gl.2.2 i _ _ ed eS);have inl:=tE i (aU ds os);have ink:=tE i (fU ds (Te ds Ss os ds.length));have ki:=kept_iff (ds:=ds) (Ss:=Ss) (os:=os) (k:=i) (n:=ds.length);have ll:=tJ ds Ss os (Te ds Ss os ds.length) i;obtain⟨lw1,lw2⟩:=KA (ds:=ds) (Ss:=Ss) (os:=os) (p:=Te ds Ss os ds.length) (k:=i);obtain⟨s1',s2'⟩:=Kz (ds:=ds) (Ss:=Ss) (os:=os) (k:=i);have at':=λ hr=>(mI gl Z ih hr).2;have kb:Uy ds Ss os (Te ds Ss os i).Ts i=(bO (ds.getD i (.num 0)) || (decide (i∈aU ds os)&&kJ ds Ss os i (ds.getD i (.num 0)) (bV ds Ss os (Te ds Ss os i).Ts i) ((ef ds os).getD i []))):=rfl;have bo:bV ds Ss os (Te ds Ss os i).Ts i=if i∈aU ds os then cu (Te ds Ss os i).Ts Ss (Tg Ss i) (ds.getD i (.num 0)) else Oo:=rfl;rw[gd'] at ki lw1 at' kb bo;have nk:i ∉ fU ds (Te ds Ss os ds.length)->bO d=Op->Uy ds Ss os (Te ds Ss os i).Ts i=Op:=λ h1 h2=>pG.mpr λ z=>h1 (ki.mpr ⟨⟨il,z⟩,h2⟩);generalize hP:Te ds Ss os i=p at *;refine⟨O,O,iN _,s2 (λ h=>?_) (λ h=>?_)⟩
  .have hk:i∈fU ds (Te ds Ss os ds.length):=aC (ink.symm.trans h);obtain⟨⟨_,kp⟩,ni⟩:=ki.mp hk;obtain⟨eT,eN⟩:=s1' kp;rw[kb,ni,jg,bp,da] at kp;have hr:=kp.1;rw[lw1 hk,eT,eN];have l2':=pH Ss p.Ts (Tg Ss i) (cu p.Ts Ss (Tg Ss i) d) (p.st.length:Nat) d;refine⟨tI (Tg Ss i),ak eS,clX rfl ⟨d,Tg Ss i,(p.st.length:Nat),Ss,p.Ts,O,ok,fS,fi,at' hr,ni,_,O,Ky,aG Z,O,iN _,s2 (λ _=>?_) (λ h'=>XU hk (gz (ink.symm.trans h')))⟩⟩;exact⟨tI (Tg Ss i),ak eS,cl rfl ⟨_,O,cU fi,by have:=fi.2.1;lia,O,Uq,O,O,O,by rw[ah,l1];exact sz _ Z,_,_,_,by rw[aL];rfl⟩ rfl⟩
  .have hk:i ∉ fU ds (Te ds Ss os ds.length):=gz (ink.symm.trans h);rw[lw2 hk];have inp:bO d=On->Uy ds Ss os p.Ts i=On:=λ z=>by rw[kb,z];rfl
   refine⟨O,iN _,s2 (λ hl=>?_) (λ hl=>?_)⟩
   .have hr:i∈aU ds os:=aC (inl.symm.trans hl);refine⟨_,dA d,pv,s2 (λ hi=>?_) (λ hi=>?_)⟩
    .have hi:bO d=Op:=by rw[<- gx];exact oi _ |>.mp hi
     have kf:=nk hk hi;obtain⟨eT,eN⟩:=s2' kf;rw[kb,hi,cB hr,jg,Sh] at kf
     have nt:¬iM d:=by
      cases d with
      |inp ms=>cases hi
      |run w a s|join a b s=>cases kf
      |_=>exact λ h=>h
     obtain⟨t,et⟩:=pA (Ts:=p.Ts) (Ss:=Ss) (S:=Tg Ss i) nt;rw[eT,eN,bo,XT hr,et];refine⟨tI (Tg Ss i),ak eS,UL rfl ⟨d,Tg Ss i,Ss,p.Ts,O,ok,fS,fi,at' hr,nt,sX _,(yS _).1,?_⟩⟩;rw[et];exact⟨O,iN _,s2 (λ h'=>XU (aC (ink.symm.trans h')) hk) (λ _=>⟨_,dA d,pv,s2 (λ h'=>by rw[show bO d=On from (gx d).symm.trans h'] at hi;cases hi) (λ _=>⟨O,by rw[ah,l1];exact sz _ Z,_,_,_,by rw[aL];rfl⟩)⟩)⟩
    .have hi:bO d=On:=by rw[<- gx];exact(s1d _).mp hi
     obtain⟨eT,eN⟩:=s1' (inp hi);rw[eT,eN];refine⟨O,iN _,s2 (λ h'=>XU (aC (ink.symm.trans h')) hk) (λ _=>⟨_,dA d,pv,s2 (λ _=>?_) (λ h'=>by rw[show bO d=Op from (gx d).symm.trans h'] at hi;cases hi)⟩)⟩;exact⟨tI (Tg Ss i),ak eS,cl rfl ⟨_,O,cU fi,by have:=fi.2.1;lia,O,Uq,O,O,O,by rw[ah,l1];exact sz _ Z,_,_,_,by rw[aL];rfl⟩ rfl⟩
   .have hr:i ∉ aU ds os:=gz (inl.symm.trans hl);refine⟨O,iN _,s2 (λ h'=>XU (aC (ink.symm.trans h')) hk) (λ _=>⟨_,dA d,pv,s2 (λ h'=>?_) (λ h'=>?_)⟩)⟩
    .have hi:bO d=On:=(gx d).symm.trans h';obtain⟨eT,eN⟩:=s1' (inp hi);rw[eT,eN];exact⟨tI (Tg Ss i),ak eS,cl rfl ⟨_,O,cU fi,by have:=fi.2.1;lia,O,Uq,O,O,O,by rw[ah,l1];exact sz _ Z,_,_,_,by rw[aL];rfl⟩ rfl⟩
    .have hi:bO d=Op:=(gx d).symm.trans h';obtain⟨eT,eN⟩:=s2' (nk hk hi);rw[eT,eN,bo,XR hr];exact⟨O,by rw[ah,l1];exact sz _ Z,_,_,_,by rw[aL];rfl⟩
 obtain⟨y10,y11,y12,rfl⟩:=h;rw[pK,ah];obtain⟨dp1,dp2⟩:=zi gl d40 (os:=os) ds.length (ao _);have lw:=ze (os:=os) gl ds.length (ao _);have dl:_L.dp 99 (.tup (UF ds Ss (Te ds Ss os ds.length) (Te ds Ss os ds.length).st.length)):=zk (Ku dp1) dp2 _;have ll:=tJ ds Ss os (Te ds Ss os ds.length) ds.length;have inv:=λ o h=>jy (os:=os) gl d40 ds.length (ao _) o h;rw[lw];generalize hp:Te ds Ss os ds.length=p at *;refine⟨_,O,dl,s2 (λ h=>?_) (λ _=>?_)⟩
 .have h:(!_L.eqT (XW (UF ds Ss p p.st.length)) (XW (UF ds Ss p p.st.length)))=On:=h;rw[qP dl] at h;cases h
 refine⟨_,O,by rw[af];exact aN Z,bZ XV (λ o:Int=>.tup [.int (kG (gt p.Ts o.toNat)),tI (Tg Ss o.toNat)]) os (λ o ho=>?_) ⟨zm Ss p.Ts os,O,?_⟩⟩
 .obtain⟨b0,b1⟩:=ob o ho;obtain⟨k,rfl⟩:∃k:Nat,o=k:=⟨o.toNat,Z⟩;have I:=inv k Z (yC ob ho);obtain⟨t,A,e1,e2,_⟩:=I.w;obtain⟨st,s,ss,e⟩:=I.o ho;rw[Ox,e];rw[bG e1] at e;subst e;exact⟨Th (.read st s ss),ak e1,_,O,tI _,ak (eSk k Z),O,Tv,O,O⟩
 show Q (.bl (_L.eqT (pI Ss p.Ts os) (pI Ss p.Ts os)));rw[qP (zm Ss p.Ts os)];exact q
def glt_ex{K:FG}{st:OC}{oc:Value}{od an:OA}{osl:AV}{kV doc pm ct:Value}{oc2:Value}{od2:OA}{vs:Array Value}{sl2:AV}(a:W.nsIn K OG x=Om (Om (.ref f)))(l:K.lookup f=Om ⟨oc,od,.func (W.fnOf x x (gi st) (aK st) (aD st) .none kV doc pm an (.ref c) ct),osl⟩)(q:W.codeIn K (.ref c) x=On)(k:W.keepIn K (.ref f)=On)(h4:K.lookup c=Om ⟨oc2,od2,.fields vs,sl2⟩)(h5:vs[11]?=Om (.ref T)):∃f fd c,TZ K x st f fd c T:=⟨_,_,_,⟨uZ l q k,a⟩,rfl,FB a l rfl h4 h5⟩
def pM(K:FG)(ts:List Os):Sp:=λ vs H Q _=>∃(a:Os) (ns:LI),vs=[.ref a]/\SqL K H a (ns.map V.int)/\ns.length<=63/\(∀T∈ts,H T=Om (.tbl #[]))/\∀H',Q (.bl On) H'
def fx{α:Type}{p:α->Prop}{a:α}{l:List α}(h:p a)(t:∀n∈l,p n):∀n∈a::l,p n:=λ n hn=>by
 rcases aB.mp hn with rfl|z
 .exact h
 .exact t n z
def fx0{α:Type}{p:α->Prop}:∀n∈([]:List α),p n:=λ _ h=>nomatch h
noncomputable def pT(p:Str×List (Str×Int)):TV:=.tup [.str p.1,.tup (p.2.map λ q=>.tup [.str q.1,.int q.2])]
theorem AY{K:FG}:∀ {fs:List (Str×Int)}{xs:List V},se K fs xs->RpL K F H (fs.map λ q=>.tup [.str q.1,.int q.2]) xs
 |[],[],_=>rfl
 |[],_::_,h=>h.elim
 |_::_,[],h=>h.elim
 |f::fs,y::ys,⟨⟨a,e,k⟩,h2⟩=>⟨y,ys,rfl,⟨a,_,e,k.sq,_,_,rfl,rfl,_,_,rfl,rfl,rfl⟩,AY h2⟩
theorem AZ{K:FG}:∀ {fs:List (Str×List (Str×Int))}{kvs:LA},sg K fs kvs->∀y t,VF (fs.map pT) y=Om t->∃a,kvs.lookup y=Om a/\∀F H,Rp K F H t (.ref a)
 |[],_,_,y,t,e=>nomatch e
 |_::_,[],h,_,_,_=>h.elim
 |(g,gs)::fs,(p,pa)::ps,h,y,t,e=>by
  obtain⟨⟨e1,xs,k1,k2⟩,h2⟩:=h;cases (show p=g from e1);have e:(if decide (g=y)=On then Om (XW (gs.map λ q=>.tup [.str q.1,.int q.2])) else VF (fs.map pT) y)=Om t:=e;rw[dS];by_cases c:g=y
  .subst c;rw[XT (cB rfl)] at e;cases e;rw[show(g == g)=On from jO g];exact⟨pa,O,λ F H=>⟨pa,xs,O,k1.sq,AY k2⟩⟩
  .rw[XR (by rw[bD c];decide)] at e;rw[show(y == g)=Op from pO.mpr λ z=>c z.symm];exact AZ h2 y t e
def kts{K:FG}{sl:AV}(h:K.lookup a=Om ⟨.type "tuple",Oo,.seq #[.str x t,.int i u] n,sl⟩):KTup K a [.str x,.int i]:=ma h (small (show(2:Nat)<=1000 by decide)) (.cons ⟨_,rfl⟩ (.cons ⟨_,rfl⟩ .nil))
def ktr1{K:FG}{sl:AV}(h:K.lookup a=Om ⟨.type "tuple",Oo,.seq #[.ref a0] n,sl⟩):KTup K a [.ref a0]:=ma h (small (show(1:Nat)<=1000 by decide)) (.cons rfl (.nil))
def ktr2{K:FG}{sl:AV}(h:K.lookup a=Om ⟨.type "tuple",Oo,.seq #[.ref a0,.ref a1] n,sl⟩):KTup K a [.ref a0,.ref a1]:=ma h (small (show(2:Nat)<=1000 by decide)) (.cons rfl (.cons rfl (.nil)))
def ktr3{K:FG}{sl:AV}(h:K.lookup a=Om ⟨.type "tuple",Oo,.seq #[.ref a0,.ref a1,.ref a2] n,sl⟩):KTup K a [.ref a0,.ref a1,.ref a2]:=ma h (small (show(3:Nat)<=1000 by decide)) (.cons rfl (.cons rfl (.cons rfl (.nil))))
def ktr5{K:FG}{a a0 a1 a2 a3 a4:Os}{sl:AV}(h:K.lookup a=Om ⟨.type "tuple",Oo,.seq #[.ref a0,.ref a1,.ref a2,.ref a3,.ref a4] n,sl⟩):KTup K a [.ref a0,.ref a1,.ref a2,.ref a3,.ref a4]:=ma h (small (show(5:Nat)<=1000 by decide)) (.cons rfl (.cons rfl (.cons rfl (.cons rfl (.cons rfl (.nil))))))
theorem pt_mk{w:OB}{K:FG}{t0 t1 t2 t3 t4 t5 t6 t7 t8 t9 t10 t11 t12 t13 t14:Tok}{a0 a1 a2 a3 a4 a5 a6 a7 a8 a9 a10 a11 a12 a13 a14:Os}
  (gPT:W.nsIn K OG "PARTS"=Om (Om (.ref dPT))) (dPT0:(dPT == Qz)=Op)
  (lPT:K.lookup dPT=Om { cls:=.type "dict",data:=.dict #[⟨OR w.params "in",.str "in" t0,.ref a0⟩,⟨OR w.params "num",.str "num" t1,.ref a1⟩,⟨OR w.params "count",.str "count" t2,.ref a2⟩,⟨OR w.params "each",.str "each" t3,.ref a3⟩,⟨OR w.params "pair",.str "pair" t4,.ref a4⟩,⟨OR w.params "pick",.str "pick" t5,.ref a5⟩,⟨OR w.params "turn",.str "turn" t6,.ref a6⟩,⟨OR w.params "flip",.str "flip" t7,.ref a7⟩,⟨OR w.params "cut",.str "cut" t8,.ref a8⟩,⟨OR w.params "spread",.str "spread" t9,.ref a9⟩,⟨OR w.params "lay",.str "lay" t10,.ref a10⟩,⟨OR w.params "join",.str "join" t11,.ref a11⟩,⟨OR w.params "fetch",.str "fetch" t12,.ref a12⟩,⟨OR w.params "fold",.str "fold" t13,.ref a13⟩,⟨OR w.params "run",.str "run" t14,.ref a14⟩] nPT })(l0:KTup K a0 [.ref a0_0])
  (l0_0:KTup K a0_0 [.str "sides",.int 1])(l1:KTup K a1 [.ref a1_0])
  (l1_0:KTup K a1_0 [.str "number",.int 1])(l2:KTup K a2 [.ref a2_0,.ref a2_1])
  (l2_0:KTup K a2_0 [.str "small",.int 2])
  (l2_1:KTup K a2_1 [.str "sides",.int 1])(l3:KTup K a3 [.ref a3_0,.ref a3_1])
  (l3_0:KTup K a3_0 [.str "word",.int 1])
  (l3_1:KTup K a3_1 [.str "step",.int 2])(l4:KTup K a4 [.ref a4_0,.ref a4_1,.ref a4_2])
  (l4_0:KTup K a4_0 [.str "word",.int 1])
  (l4_1:KTup K a4_1 [.str "step",.int 2])
  (l4_2:KTup K a4_2 [.str "step",.int 3])(l5:KTup K a5 [.ref a5_0,.ref a5_1,.ref a5_2])
  (l5_0:KTup K a5_0 [.str "step",.int 1])
  (l5_1:KTup K a5_1 [.str "step",.int 2])
  (l5_2:KTup K a5_2 [.str "step",.int 3])(l6:KTup K a6 [.ref a6_0,.ref a6_1])
  (l6_0:KTup K a6_0 [.str "step",.int 1])
  (l6_1:KTup K a6_1 [.str "sides",.int 2])(l7:KTup K a7 [.ref a7_0,.ref a7_1])
  (l7_0:KTup K a7_0 [.str "step",.int 1])
  (l7_1:KTup K a7_1 [.str "small",.int 2])(l8:KTup K a8 [.ref a8_0,.ref a8_1,.ref a8_2,.ref a8_3,.ref a8_4])
  (l8_0:KTup K a8_0 [.str "step",.int 1])
  (l8_1:KTup K a8_1 [.str "small",.int 2])
  (l8_2:KTup K a8_2 [.str "small",.int 3])
  (l8_3:KTup K a8_3 [.str "small",.int 4])
  (l8_4:KTup K a8_4 [.str "small",.int 5])(l9:KTup K a9 [.ref a9_0,.ref a9_1,.ref a9_2])
  (l9_0:KTup K a9_0 [.str "step",.int 1])
  (l9_1:KTup K a9_1 [.str "small",.int 2])
  (l9_2:KTup K a9_2 [.str "small",.int 3])(l10:KTup K a10 [.ref a10_0,.ref a10_1])
  (l10_0:KTup K a10_0 [.str "step",.int 1])
  (l10_1:KTup K a10_1 [.str "sides",.int 2])(l11:KTup K a11 [.ref a11_0,.ref a11_1,.ref a11_2])
  (l11_0:KTup K a11_0 [.str "step",.int 1])
  (l11_1:KTup K a11_1 [.str "step",.int 2])
  (l11_2:KTup K a11_2 [.str "small",.int 3])(l12:KTup K a12 [.ref a12_0,.ref a12_1])
  (l12_0:KTup K a12_0 [.str "step",.int 1])
  (l12_1:KTup K a12_1 [.str "step",.int 2])(l13:KTup K a13 [.ref a13_0,.ref a13_1,.ref a13_2])
  (l13_0:KTup K a13_0 [.str "word",.int 1])
  (l13_1:KTup K a13_1 [.str "step",.int 2])
  (l13_2:KTup K a13_2 [.str "small",.int 3])(l14:KTup K a14 [.ref a14_0,.ref a14_1,.ref a14_2])
  (l14_0:KTup K a14_0 [.str "word",.int 1])
  (l14_1:KTup K a14_1 [.str "step",.int 2])
  (l14_2:KTup K a14_2 [.str "small",.int 3]):∃d,W.nsIn K OG "PARTS"=Om (Om (.ref d))/\xG P w K d:=⟨_,gPT,⟨_,KTab.mk (l:=[("in",t0,a0),("num",t1,a1),("count",t2,a2),("each",t3,a3),("pair",t4,a4),("pick",t5,a5),("turn",t6,a6),("flip",t7,a7),("cut",t8,a8),("spread",t9,a9),("lay",t10,a10),("join",t11,a11),("fetch",t12,a12),("fold",t13,a13),("run",t14,a14)]) dPT0 lPT rfl (show(["in","num","count","each","pair","pick","turn","flip","cut","spread","lay","join","fetch","fold","run"]:List Str).Nodup by decide +kernel),⟨⟨rfl,_,l0,⟨⟨_,rfl,l0_0⟩,trivial⟩⟩,⟨⟨rfl,_,l1,⟨⟨_,rfl,l1_0⟩,trivial⟩⟩,⟨⟨rfl,_,l2,⟨⟨_,rfl,l2_0⟩,⟨⟨_,rfl,l2_1⟩,trivial⟩⟩⟩,⟨⟨rfl,_,l3,⟨⟨_,rfl,l3_0⟩,⟨⟨_,rfl,l3_1⟩,trivial⟩⟩⟩,⟨⟨rfl,_,l4,⟨⟨_,rfl,l4_0⟩,⟨⟨_,rfl,l4_1⟩,⟨⟨_,rfl,l4_2⟩,trivial⟩⟩⟩⟩,⟨⟨rfl,_,l5,⟨⟨_,rfl,l5_0⟩,⟨⟨_,rfl,l5_1⟩,⟨⟨_,rfl,l5_2⟩,trivial⟩⟩⟩⟩,⟨⟨rfl,_,l6,⟨⟨_,rfl,l6_0⟩,⟨⟨_,rfl,l6_1⟩,trivial⟩⟩⟩,⟨⟨rfl,_,l7,⟨⟨_,rfl,l7_0⟩,⟨⟨_,rfl,l7_1⟩,trivial⟩⟩⟩,⟨⟨rfl,_,l8,⟨⟨_,rfl,l8_0⟩,⟨⟨_,rfl,l8_1⟩,⟨⟨_,rfl,l8_2⟩,⟨⟨_,rfl,l8_3⟩,⟨⟨_,rfl,l8_4⟩,trivial⟩⟩⟩⟩⟩⟩,⟨⟨rfl,_,l9,⟨⟨_,rfl,l9_0⟩,⟨⟨_,rfl,l9_1⟩,⟨⟨_,rfl,l9_2⟩,trivial⟩⟩⟩⟩,⟨⟨rfl,_,l10,⟨⟨_,rfl,l10_0⟩,⟨⟨_,rfl,l10_1⟩,trivial⟩⟩⟩,⟨⟨rfl,_,l11,⟨⟨_,rfl,l11_0⟩,⟨⟨_,rfl,l11_1⟩,⟨⟨_,rfl,l11_2⟩,trivial⟩⟩⟩⟩,⟨⟨rfl,_,l12,⟨⟨_,rfl,l12_0⟩,⟨⟨_,rfl,l12_1⟩,trivial⟩⟩⟩,⟨⟨rfl,_,l13,⟨⟨_,rfl,l13_0⟩,⟨⟨_,rfl,l13_1⟩,⟨⟨_,rfl,l13_2⟩,trivial⟩⟩⟩⟩,⟨⟨rfl,_,l14,⟨⟨_,rfl,l14_0⟩,⟨⟨_,rfl,l14_1⟩,⟨⟨_,rfl,l14_2⟩,trivial⟩⟩⟩⟩,trivial⟩⟩⟩⟩⟩⟩⟩⟩⟩⟩⟩⟩⟩⟩⟩⟩⟩
abbrev ay(K:FG)(x:Str)(i:Nat):Prop:=Gx K x (top i)
abbrev nB(K:FG)(x:Str):Prop:=W.nsIn K OG x=Om Oo
structure Sv (P:Oz)(w:OB)(K:FG)(T93 T94 T95 T98 T121 T122 T123:Os):Prop where
 g0:ay K "wrapped" 11
 g1:ay K "sign_of" 12
 g2:ay K "quotient" 13
 g3:ay K "remainder" 14
 g4:ay K "once" 15
 g5:ay K "twice" 16
 g6:ay K "neutral" 17
 g7:ay K "arg_places" 22
 g8:ay K "args_of" 23
 g9:ay K "reached_from" 24
 g10:ay K "amount" 28
 g11:ay K "breadth" 29
 g12:ay K "allowed" 30
 g13:ay K "strides_of" 31
 g14:ay K "changed_at" 32
 g15:ay K "added_at" 33
 g16:ay K "dropped_at" 34
 g17:ay K "ask_side" 36
 g18:ay K "turned_sides" 37
 g19:ay K "flipped_sides" 38
 g20:ay K "cut_sides" 39
 g21:ay K "spread_sides" 40
 g22:ay K "laid_sides" 41
 g23:ay K "joined_sides" 42
 g24:ay K "led_sides" 43
 g25:ay K "paired_sides" 44
 g26:ay K "picked_sides" 45
 g27:ay K "fetched_sides" 46
 g28:ay K "folded_sides" 47
 g29:ay K "counted_sides" 48
 g30:ay K "ask_word" 50
 g31:ay K "first_sides" 51
 g32:ay K "moved_sides" 52
 g33:ay K "step_sides" 53
 g34:ay K "step_told" 54
 g35:ay K "program_told" 55
 g36:ay K "checked" 56
 g37:ay K "plain_view" 58
 g38:ay K "turned_view" 59
 g39:ay K "flipped_view" 60
 g40:ay K "cut_view" 61
 g41:ay K "spread_view" 62
 g42:ay K "led_view" 63
 g43:ay K "inner_view" 64
 g44:ay K "moved_view" 65
 g45:ay K "is_free" 67
 g46:ay K "branches_of" 68
 g47:ay K "root_remade" 69
 g48:ay K "remade" 70
 g91:ay K "live_steps" 72
 g92:ay K "uses_of" 73
 g96:ay K "read_of" 77
 g97:ay K "fetched_tree" 78
 g99:ay K "is_led" 80
 g100:ay K "is_kept" 81
 g101:ay K "spun" 82
 g102:ay K "run_loop" 83
 g103:ay K "join_loops" 84
 g104:ay K "step_loops" 85
 g105:ay K "kept_steps" 86
 g106:ay K "woven" 87
 g107:ay K "_law_size" 89
 g108:ay K "_law_wide" 90
 g109:ay K "_law_number" 91
 g110:ay K "_law_recent" 92
 g111:ay K "_law_begun" 93
 g112:ay K "_law_led" 94
 g113:ay K "_law_lifted" 95
 g114:ay K "_law_laid" 96
 g115:ay K "_law_moved" 97
 g116:ay K "_law_both" 98
 g117:ay K "_law_met" 99
 g118:ay K "_law_step" 100
 g119:ay K "_law_program" 101
 g120:ay K "_law_strides" 102
 g124:ay K "_law_by_fetch" 106
 g125:ay K "_law_tree" 107
 g126:ay K "_law_loops" 108
 g127:ay K "law" 109
 g93:∃f fd c,TZ K "seen_as" (top 74) f fd c T93
 g94:∃f fd c,TZ K "led_tree" (top 75) f fd c T94
 g95:∃f fd c,TZ K "inner_tree" (top 76) f fd c T95
 g98:∃f fd c,TZ K "bare_tree" (top 79) f fd c T98
 g121:∃f fd c,TZ K "_law_led_to" (top 103) f fd c T121
 g122:∃f fd c,TZ K "_law_inner" (top 104) f fd c T122
 g123:∃f fd c,TZ K "_law_by_move" (top 105) f fd c T123
 nd:[T93,T94,T95,T98,T121,T122,T123].Nodup
 blen:nB K "len"
 btuple:nB K "tuple"
 blist:nB K "list"
 bsum:nB K "sum"
 bmax:nB K "max"
 bmin:nB K "min"
 babs:nB K "abs"
 bint:nB K "int"
 bstr:nB K "str"
 bsorted:nB K "sorted"
 bany:nB K "any"
 ball:nB K "all"
 bisinstance:nB K "isinstance"
 bbool:nB K "bool"
 brange:nB K "range"
 bzip:nB K "zip"
 benumerate:nB K "enumerate"
 breversed:nB K "reversed"
 bset:nB K "set"
 bdict:nB K "dict"
 qLOW:∃t,W.nsIn K OG "LOW"=Om (Om (.int (-9223372036854775808) t))
 qHIGH:∃t,W.nsIn K OG "HIGH"=Om (Om (.int 9223372036854775807 t))
 qMOST_SIDES:∃t,W.nsIn K OG "MOST_SIDES"=Om (Om (.int 6 t))
 qMOST_BREADTH:∃t,W.nsIn K OG "MOST_BREADTH"=Om (Om (.int 512 t))
 qMOST_STEPS:∃t,W.nsIn K OG "MOST_STEPS"=Om (Om (.int 40 t))
 qMOST_OUTS:∃t,W.nsIn K OG "MOST_OUTS"=Om (Om (.int 8 t))
 qPT:∃d,W.nsIn K OG "PARTS"=Om (Om (.ref d))/\xG P w K d
def tL(T93 T94 T95 T98 T121 T122 T123:Os):List (Os×Pos×Str):=[(T93,(TW ((aK (top 74)).headD (.Pass ⟨0,0,0,0⟩))).p,"seen_as.<locals>.<lambda>"),(T94,(TW ((aK (top 75)).getLastD (.Pass ⟨0,0,0,0⟩))).p,"led_tree.<locals>.<lambda>"),(T95,(TW ((aK (top 76)).getLastD (.Pass ⟨0,0,0,0⟩))).p,"inner_tree.<locals>.<lambda>"),(T98,(TW (UJ 5 (top 79)).2.1).p,"bare_tree.<locals>.<lambda>"),(T121,(TW ((aK (top 103)).getLastD (.Pass ⟨0,0,0,0⟩))).p,"_law_led_to.<locals>.<lambda>"),(T122,(TX (top 104)).p,"_law_inner.<locals>._law_change"),(T123,(TX (top 105)).p,"_law_by_move.<locals>._law_change")]
def Ol{K:FG}{L:List (Os×Pos×Str)}{ts:List Os}(e:L.map (·.1)=ts)(F:FnOk P w K mg base Tp k f fd ps (rV K (TbJ L))):FnOk P w K mg base Tp k f fd ps (pM K ts):=F.imp λ vs H Q E ⟨a,ns,e1,sq,l,hT,q⟩=>⟨a,ns,e1,sq,l,λ x hx=>⟨#[],hT _ (by rw[<- e];exact List.mem_map_of_mem hx),trivial,.inl rfl⟩,q⟩
def all_mk{l:W.OpenLaw}{K:FG}(X:K.In h)(G:h.Ns OG mg)(hfa:mg "law"=Om (.ref fa))(S:Sv l.prog w K T93 T94 T95 T98 T121 T122 T123):∃(fd:OT) (tbs:List (Str×Os×Os)),(∀p∈tbs,W.tabIn K p.1=Om p.2/\p.1∈(["seen_as","led_tree","inner_tree","bare_tree","_law_led_to","_law_inner","_law_by_move"]:List Str))/\(∀(s:Ot) (v:Value),QL s fd ⟨[v],[]⟩ [("_law_script",v)])/\∀base:OH,K.In base->base.Ns OG mg->(∀p∈tbs,TL base mg p.2.1 p.2.2)->FnOk l.prog w K mg base Tp 128 fa fd ["_law_script"] (pM K (tbs.map λ p=>p.2.2)):=by
 have hm:∀ {x:Str}{v:Option Value},W.nsIn K OG x=Om v->mg x=v:=λ {x v} z=>by cases v with|none=>exact W.mg_none_of X G z|some u=>exact W.mg_of X G z
 obtain⟨f,fd,gL⟩:=S.g127;have e:=hfa.symm.trans (hm gL.a);cases e;obtain⟨_,_,kVL,dcL,pmL,anL,cdL,ctL,_,eL,_,_⟩:=gL.F.ex;obtain⟨f93,d93,c93,t93⟩:=S.g93;obtain⟨f94,d94,c94,t94⟩:=S.g94;obtain⟨f95,d95,c95,t95⟩:=S.g95;obtain⟨f98,d98,c98,t98⟩:=S.g98;obtain⟨f121,d121,c121,t121⟩:=S.g121;obtain⟨f122,d122,c122,t122⟩:=S.g122;obtain⟨f123,d123,c123,t123⟩:=S.g123;refine⟨fd,[("seen_as",c93,T93),("led_tree",c94,T94),("inner_tree",c95,T95),("bare_tree",c98,T98),("_law_led_to",c121,T121),("_law_inner",c122,T122),("_law_by_move",c123,T123)],(fx ⟨t93.tb,on⟩ (fx ⟨t94.tb,on⟩ (fx ⟨t95.tb,on⟩ (fx ⟨t98.tb,on⟩ (fx ⟨t121.tb,on⟩ (fx ⟨t122.tb,on⟩ (fx ⟨t123.tb,on⟩ fx0))))))),λ s v=>by rw[eL];exact .of_eq rfl,λ base KB GB tf=>?_⟩;have M:MOk l.prog w K mg (TbJ (tL T93 T94 T95 T98 T121 T122 T123)) GT gs:=⟨TbJ.js,λ g x t h1 h2 nb=>?_,λ g x t h1 h2=>?_,λ x hx=>?_⟩
 .have C:CM l.prog w K mg base (TbJ (tL T93 T94 T95 T98 T121 T122 T123)) GT gs DL 0:=⟨Cals.z,M,hm⟩
  replace C:=C |>.d S.g0 zw0 |>.d S.g1 zw1 |>.d S.g2 zw2 |>.d S.g3 zw3 |>.d S.g4 zw4 |>.d S.g5 zw5 |>.d S.g6 zw6 |>.d S.g7 zw7 |>.d S.g8 zw8 |>.d S.g9 zw9 |>.d S.g10 MG |>.d S.g11 MH |>.d S.g12 MI |>.d S.g13 MJ |>.d S.g14 MK |>.d S.g15 ML |>.d S.g16 MN |>.d S.g17 MO |>.d S.g18 MP |>.d S.g19 MQ |>.d S.g20 MR |>.d S.g21 MS |>.d S.g22 MT |>.d S.g23 MU |>.d S.g24 MV |>.d S.g25 MW |>.d S.g26 MX |>.d S.g27 MY |>.d S.g28 MZ |>.d S.g29 Na |>.d S.g30 Nb |>.d S.g31 Nc |>.d S.g32 Nd |>.d S.g33 Nf |>.d S.g34 Ng |>.d S.g35 Nh |>.d S.g36 Ni |>.d S.g37 Nj |>.d S.g38 Nk |>.d S.g39 Nl
  replace C:=C |>.d S.g40 Nm |>.d S.g41 Nn |>.d S.g42 No |>.d S.g43 Np |>.d S.g44 Nq |>.d S.g45 Nr |>.d S.g46 Nt
  have H47:=C.fn (kf:=47) S.g47 Nu ca hc0;replace C:=C.d S.g47 Nv;have H48:=C.fr (kf:=47) S.g48 Nw ca (hc1 (H47.mono ca));replace C:=C.d S.g48 Nx;replace C:=C.pad (i0:=0) (S0:=WQ) (z:=zd) 42 (λ _ _ h=>h) ca rfl rfl
  replace C:=C |>.d S.g91 Ny |>.d S.g92 Nz
  have H93:=C.fh (kf:=46) t93 (tf ("seen_as",c93,T93) on) bd S.nd NA ((H48 42).mono ca) ca;replace C:=C.d ⟨_,_,t93.toGl'⟩ NB;replace C:=C.ml t94 (tf ("led_tree",c94,T94) on) (aV _ bd) S.nd NC (H93.mono ca) ca;replace C:=C.ml t95 (tf ("inner_tree",c95,T95) on) (aV _ (aV _ bd)) S.nd ND (H93.mono ca) ca
  replace C:=C |>.d S.g96 NE |>.d S.g97 NF
  replace C:=C.mm t98 (tf ("bare_tree",c98,T98) on) (aV _ (aV _ (aV _ bd))) S.nd NG (H93.mono ca) ca
  replace C:=C |>.d S.g99 NH |>.d S.g100 NI |>.d S.g101 NJ |>.d S.g102 NK |>.d S.g103 NL |>.d S.g104 NM |>.d S.g105 NN |>.d S.g106 NO |>.d S.g107 NP |>.d S.g108 NQ |>.d S.g109 NR |>.d S.g110 NS |>.d S.g111 NT |>.d S.g112 NU |>.d S.g113 NV |>.d S.g114 NW |>.d S.g115 NX |>.d S.g116 NY |>.d S.g117 NZ |>.d S.g118 Oa |>.d S.g119 Ob |>.d S.g120 Oc
  replace C:=C.ml t121 (tf ("_law_led_to",c121,T121) on) (aV _ (aV _ (aV _ (aV _ bd)))) S.nd Od ((H48 42).mono ca) ca;replace C:=C.md t122 (tf ("_law_inner",c122,T122) on) (aV _ (aV _ (aV _ (aV _ (aV _ bd))))) S.nd Oe ((H48 42).mono ca) ca;replace C:=C.md t123 (tf ("_law_by_move",c123,T123) on) (aV _ (aV _ (aV _ (aV _ (aV _ (aV _ bd)))))) S.nd Of ((H48 42).mono ca) ca
  replace C:=C |>.d S.g124 Og |>.d S.g125 Oh |>.d S.g126 Oi
  exact Ol rfl (C.law gL Oj)
 .match g,h1,h2 with
  |0,h1,h2=>cases h1;cases h2;obtain⟨t,q⟩:=S.qLOW;exact⟨.int (-9223372036854775808),_,hm q,⟨t,rfl⟩,λ F H=>rfl⟩
  |1,h1,h2=>cases h1;cases h2;obtain⟨t,q⟩:=S.qHIGH;exact⟨.int 9223372036854775807,_,hm q,⟨t,rfl⟩,λ F H=>rfl⟩
  |2,h1,h2=>cases h1;cases h2;obtain⟨t,q⟩:=S.qMOST_SIDES;exact⟨.int 6,_,hm q,⟨t,rfl⟩,λ F H=>rfl⟩
  |3,h1,h2=>cases h1;cases h2;obtain⟨t,q⟩:=S.qMOST_BREADTH;exact⟨.int 512,_,hm q,⟨t,rfl⟩,λ F H=>rfl⟩
  |4,h1,h2=>cases h1;cases h2;obtain⟨t,q⟩:=S.qMOST_STEPS;exact⟨.int 40,_,hm q,⟨t,rfl⟩,λ F H=>rfl⟩
  |5,h1,h2=>cases h1;cases h2;obtain⟨t,q⟩:=S.qMOST_OUTS;exact⟨.int 8,_,hm q,⟨t,rfl⟩,λ F H=>rfl⟩
  |6,h1,h2=>cases h1;cases h2;cases nb
  |n+7,h1,h2=>cases h1
 .match g,h1,h2 with
  |0,h1,h2=>cases h2
  |1,h1,h2=>cases h2
  |2,h1,h2=>cases h2
  |3,h1,h2=>cases h2
  |4,h1,h2=>cases h2
  |5,h1,h2=>cases h2
  |6,h1,h2=>cases h1;cases h2;obtain⟨d,e,kvs,TK,PA⟩:=S.qPT;exact⟨d,kvs,hm e,TK,AZ PA⟩
  |n+7,h1,h2=>cases h1
 .simp only[BN,aB,bg,be] at hx
  rcases hx with rfl|rfl|rfl|rfl|rfl|rfl|rfl|rfl|rfl|rfl|rfl|rfl|rfl|rfl|rfl|rfl|rfl|rfl|rfl|rfl
  .exact hm S.blen
  .exact hm S.btuple
  .exact hm S.blist
  .exact hm S.bsum
  .exact hm S.bmax
  .exact hm S.bmin
  .exact hm S.babs
  .exact hm S.bint
  .exact hm S.bstr
  .exact hm S.bsorted
  .exact hm S.bany
  .exact hm S.ball
  .exact hm S.bisinstance
  .exact hm S.bbool
  .exact hm S.brange
  .exact hm S.bzip
  .exact hm S.benumerate
  .exact hm S.breversed
  .exact hm S.bset
  .exact hm S.bdict
open PySem.W in
theorem walk{l:W.OpenLaw}{YP:OB->OH->Prop}{d:DefRec}{K:Params->FG}(hn:l.most=Om 63)(hdf:d.params.defaults=[])
  (hY:∀(w:OB) (h:OH),YP w h->(K w.params).In h) (hK0:∀w:OB,noTabs (K w.params)=On) (hrec:∀x∈(["seen_as","led_tree","inner_tree","bare_tree","_law_led_to","_law_inner","_law_by_move"]:List Str),((recsOf q).find? λ e=>e.name == x).isSome=On)
  (F:∀(w:OB) (mg:SV) (fa:Os) (h:OH),(K w.params).In h->h.Ns OG mg->mg d.name=Om (.ref fa) ->
   ∃(fd:OT) (tbs:List (Str×Os×Os)),(∀p∈tbs,tabIn (K w.params) p.1=Om p.2/\p.1∈(["seen_as","led_tree","inner_tree","bare_tree","_law_led_to","_law_inner","_law_by_move"]:List Str))/\(∀(s:Ot) (u:Value),QL s fd ⟨[u],[]⟩ [("_law_script",u)])/\∀base:OH,(K w.params).In base->base.Ns OG mg->(∀p∈tbs,TL base mg p.2.1 p.2.2)->FnOk l.prog w (K w.params) mg base Tp 128 fa fd ["_law_script"] (pM (K w.params) (tbs.map λ p=>p.2.2))) :
  W.WalkO q loose XP YP l.row.toRowW d [] (λ f vs=>RH f vs) :=
 _L.walk_ofT (n:=63) (k:=128) (x := "_law_script") (CX:=λ _=>Tp) (sp:=λ w ts=>pM (K w.params) ts) hn ca hdf ⟨rfl,ca,ca⟩ hY hK0 (λ w mg fa h a b c=>by
  obtain⟨fd,tbs,h1,h2⟩:=F w mg fa h a b c
  exact⟨fd,tbs,λ p hp=>⟨(h1 p hp).1,hrec _ (h1 p hp).2⟩,h2⟩) (λ _ _ a ns ts hl hT hS=>⟨a,ns,O,hS,hl,hT,λ _=>rfl⟩) λ _ _ _ _ _ z=>z
end _M
end
end
open PySem PySem.W PyProof.Rows
set_option maxRecDepth 100000 in
set_option maxHeartbeats 0 in
theorem PySem.Challenge.cw_sideloom_k68_woven_trees_holds : PySem.Challenge.rw_sideloom_k68_woven_trees.Holds := by
 w_on;o_law;k_head;(case hw=>w_witness2)
 k_fill
 refine _M.walk (l:=PySem.Challenge.rw_sideloom_k68_woven_trees) rfl rfl (λ w h Y=>W.km_in_of Y) ?K0 ?rec ?F
 case K0=>intro w;kernel_rfl
 case rec=>exact(_M.fx (by kernel_rfl) (_M.fx (by kernel_rfl) (_M.fx (by kernel_rfl) (_M.fx (by kernel_rfl) (_M.fx (by kernel_rfl) (_M.fx (by kernel_rfl) (_M.fx (by kernel_rfl) _M.fx0)))))))
 case F=>
  intro w mg fa h KX G hmg
  refine' _M.all_mk KX G hmg ?S
  case S=>
   constructor
   iterate 79 (refine' _L.gl_ex ?ya ?yb ?yc ?yd;(case ya=>k_is);(case yb=>k_is);(case yc=>k_is);(case yd=>k_is))
   iterate 7 (refine' _M.glt_ex ?ya ?yb ?yc ?yd ?ye ?yf;(case ya=>k_is);(case yb=>k_is);(case yc=>k_is);(case yd=>k_is);(case ye=>k_is);(case yf=>rfl))
   .decide
   iterate 20 (unfold _M.nB;k_is)
   iterate 6 (refine' _L.gx_int ?ya;(case ya=>k_is))
   .refine' _M.pt_mk ?gPT ?dPT0 ?lPT ?l0 ?l0_0 ?l1 ?l1_0 ?l2 ?l2_0 ?l2_1 ?l3 ?l3_0 ?l3_1 ?l4 ?l4_0 ?l4_1 ?l4_2 ?l5 ?l5_0 ?l5_1 ?l5_2 ?l6 ?l6_0 ?l6_1 ?l7 ?l7_0 ?l7_1 ?l8 ?l8_0 ?l8_1 ?l8_2 ?l8_3 ?l8_4 ?l9 ?l9_0 ?l9_1 ?l9_2 ?l10 ?l10_0 ?l10_1 ?l11 ?l11_0 ?l11_1 ?l11_2 ?l12 ?l12_0 ?l12_1 ?l13 ?l13_0 ?l13_1 ?l13_2 ?l14 ?l14_0 ?l14_1 ?l14_2
    (case gPT=>k_is)
    (case dPT0=>first|decide +kernel|rfl)
    (case lPT=>k_is)
    (case l0=>refine' _M.ktr1 ?ya;(case ya=>k_is))
    (case l1=>refine' _M.ktr1 ?ya;(case ya=>k_is))
    (case l2=>refine' _M.ktr2 ?ya;(case ya=>k_is))
    (case l3=>refine' _M.ktr2 ?ya;(case ya=>k_is))
    (case l4=>refine' _M.ktr3 ?ya;(case ya=>k_is))
    (case l5=>refine' _M.ktr3 ?ya;(case ya=>k_is))
    (case l6=>refine' _M.ktr2 ?ya;(case ya=>k_is))
    (case l7=>refine' _M.ktr2 ?ya;(case ya=>k_is))
    (case l8=>refine' _M.ktr5 ?ya;(case ya=>k_is))
    (case l9=>refine' _M.ktr3 ?ya;(case ya=>k_is))
    (case l10=>refine' _M.ktr2 ?ya;(case ya=>k_is))
    (case l11=>refine' _M.ktr3 ?ya;(case ya=>k_is))
    (case l12=>refine' _M.ktr2 ?ya;(case ya=>k_is))
    (case l13=>refine' _M.ktr3 ?ya;(case ya=>k_is))
    (case l14=>refine' _M.ktr3 ?ya;(case ya=>k_is))
    iterate 37 (refine' _M.kts ?ya;(case ya=>k_is))
