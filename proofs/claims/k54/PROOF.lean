import PyProof.Rows.All
import Wide.All
import OpenK.AllK
import Wide.FinOn
import Lean
import PyProof.EqAt
import PyProof.EqKinds
import PyProof.TupleCall
import PySem.Challenge.RW_sideloom_k54_whole_no_call_twice
set_option Elab.async false
set_option linter.all false
set_option autoImplicit true
set_option maxRecDepth 100000
def O{a:α}:a=a:=rfl
def ca{p:Prop}(h:p:=by lia):p:=h
def on{p:Prop}(h:p:=by decide):p:=h
def pv{p:Prop}(h:p:=by simp):p:=h
def BT:True:=trivial
def m8:=@absurd
def m7:=@if_pos
def k9:=@if_neg
def A1{p:Prop}(h:p:=by first|exact .inl rfl|exact .inr rfl|assumption):p:=h
def A2{p:Prop}(h:p:=by repeat' (first|rfl|(refine λ _=>?_))):p:=h
def A3{p:Prop}(h:p:=by with_unfolding_all rfl):p:=h
def A4{p:Prop}(h:p:=by intro _;rfl):p:=h
def A5{p:Prop}(h:p:=by intros;rfl):p:=h
def A6{p:Prop}(h:p:=by kernel_rfl):p:=h
def A7{p:Prop}(h:p:=by intro;rfl):p:=h
def A8{p:Prop}(h:p:=by rfl):p:=h
set_option tactic.hygienic false
abbrev VS:=PySem.Value->PySem.Shared->Prop
abbrev LL:=List (List Int)
abbrev LI:=List Int
abbrev LO:=List (PySem.Addr×PySem.Obj)
abbrev LA:=List (PySem.Str×PySem.Addr)
abbrev SV:=PySem.Str->Option PySem.Value
abbrev LV:=List PySem.Value
abbrev FG:=PySem.W.Frag
abbrev AV:=Array (Option PySem.Value)
abbrev OA:=Option PySem.Addr
open PySem.Builtin.Range renaming rangeSize->Rg,small->RF
open PySem.Str renaming ofString->Rh
open Pure renaming pure->Rj
open PySem.Value renaming ref->Rk,none->Ry,type->RL,bool->RY,int->TB,isStrOf->US,str->Vt
open PySem.PyData renaming keyHash->Rl
open PySem.Builtin.Tuple renaming tupleExact->Rm,tupleItemsOf->SR,tupleTooMany->SU,tupleIsExact->UO
open PySem.NameKind renaming free->Rv,cell->UR
open PySem.Builtin.List renaming listExtendWith->Rw,listTooLong->Rz,listSameRef->RD,listFitsIndex->RH,listLengthHint->SM,listItems->Vr
open False renaming elim->RA
open Sum renaming inr->RC,inl->SE
open PySem.Builtin.Slice renaming slicePlaces->RJ,sliceAdjust->Sb,sliceApplied->SQ,slicePartIndex->Uy,sliceFields->Vb
open PySem.Builtin.SmallTypes renaming nextOf->RK,newRecord->Uz
open MonadExcept renaming tryCatch->Se
open PySem.SeqAt renaming EqAt->Sh
open ForInStep renaming yield->Sz
open ToString renaming toString->SJ
open List renaming getD_eq_getElem?_getD->aA,length_map->ag,mem_of_getElem?->aC,getElem?_eq_getElem->aL,getElem?_eq_some_iff->aN,mem_singleton->aJ,length_append->aK,mem_cons->aH,mem_cons_self->bc,getElem?_map->aW,mem_cons_of_mem->bg,size_toArray->aY,getElem?_append_right->cu,getElem?_append_left->cx,mem_append_right->bR,take_of_length_le->ce,length_take->bh,length_range->bL,take_length->bG,map_append->bD,getElem?_eq_none_iff->dM,mem_map->bn,getElem?_replicate->dH,not_mem_nil->cn,mem_append->cr,length_replicate->dO,getElem?_set->cV,length_set->cF,getElem?_eq_none->eI,length_drop->da,map_map->cg,getElem?_set_self->gc,replicate_succ->fH,mem_append_left->fZ,getElem?_set_ne->gh,lookup_cons->eh,map_cons->dg,all_cons->dh,length_singleton->gQ,eraseIdx_eq_take_drop_succ->lM,take_add_one->gA,append_nil->fF,getElem?_range->iB,flatten_cons->gP,getElem?_of_mem->jq,length_mapIdx->iQ,foldl_cons->gk,map_const'->gF,all_eq_true->gU,eq_nil_of_length_eq_zero->nr,map_congr_left->jp,foldl_append->iD,nodup_cons->gM,mem_or_eq_of_mem_set->nS,mem_filter->hW,length_filter_le->lW,any_eq_true->iZ,mem_range->hZ,append_assoc->jK,length_reverse->lE,getElem?_reverse->mY,set_eq_take_append_cons_drop->uw,take_zero->jB,length_eraseIdx->oi,getElem?_take_of_lt->oW,filter_cons_of_pos->qm,filter_cons_of_neg->qo,getElem_mem->lw,length_pos_of_mem->qW,pairwise_cons->nq,map_replicate->nY,prefix_append->oA,getElem?_toArray->pz,mem_iff_getElem?->pJ,getElem?_mapIdx->pU,drop_eq_getElem_cons->tQ,cons_append->nc,length_pos_iff->qZ,set_eq_of_length_le->uT,map_set->kG,forIn_cons->ng,range_succ->nL,flatten_replicate_singleton->zR,reverse_cons->oZ,eraseIdxIfInBounds_toArray->wB,ext_getElem?->qt,take_append_drop->uz,take_append_of_le_length->zy,any_cons->mP,filterMap_cons->rk,of_mem_zip->oT,perm_append_singleton->zi,filter_append->uZ,getElem?_zip_eq_some->xR,mem_of_mem_eraseIdx->zm,length_eq_zero_iff->CG,drop_length->tR,isEmpty_iff->tS,prefix_refl->vc,nil_append->si,dropLast_eq_take->s0a,any_append->s0e,getElem_toArray->s0m,mem_of_mem_drop->s0p,mem_of_mem_take->s0q,take_left->s0t,mem_filterMap->s1c,zip_cons_cons->s1n,getElem?_take->s1o,replicate->QT,range->QW,length_cons->Rs,map->RE,length->RO,lookup->RT,foldl->Tt,take_sublist->TM,map_reverse->TZ,perm_middle->Ua,length_nil->Uj,drop_zero->UA,map_drop->UP,map_take->UQ,all_map->Vh,map_nil->Vi,zipWith->Vj
open PySem renaming wpAny_bind->ae,wpAny_pure->ay,wpAny_newObj_type->dB,mem_of_lookup->dZ,builtinLookup_eq_fast->fJ,typeLookup_type->fI,wpAny_call_entry->gi,wpAny_truthy_bool->gI,wpAny_callSpecial?_slot->jJ,wpAny_mono->cU,wpAny_holding->fE,wpAny_field->dP,plainId_quiet->gp,codeAny_builtin->iq,wpAny_of_eq->fK,wpAny_specialOf->iY,wpAny_Call_Name_kw->kN,call_meets->gm,isSubtype_type->jN,wpAny_seqItems->jO,wpAny_typeOf->iT,wpAny_updateSeq->kS,wpAny_tryCatch->kZ,wpAny_isInstance->mV,wpAny_passesOwn->mE,wpAny_pyIter_tuple->pF,wpAny_pyIter_enum->pG,wpAny_setField->mX,codeAny_extend_loopS->sC,wpAny_standAt->mB,wpAny_attempt->mW,wpAny_execs_nil->oG,sizeLine_eq->kM,wpAny_letOwnedTupleGo_enum->xc,codeAny_mono->mK,wpAny_binaryOp_repeat_ref->wD,wpAny_pyNext_enum_itemD->xa,noFill_tuple_add->rQ,wpAny_pyNext_range_end->vN,wpAny_pyIter_rangeiter->vO,wpAny_storeName_local->vB,name_of_addr->oV,concat_meets->oX,typeIs_int->s0h,wpAny_rule->s0i,wpAny_storeName_cell->s0j,fitsIndex_both->s0r,wpAny_letGo->s0x,wpAny_pyIter_range->s1b,seq_tuple_add->s1e,nums_intItems->s1l,wpAny_load->s1p,seqIndex_neg->s1r,seqIndex_of->s1v,numAt_eq->s1y,Addr->QO,Shared->QP,sizeLine->QR,wpAny->QS,model->QU,Program->QX,World->QY,Around->QZ,Stmt->Ra,NameKind->Rb,mainGlobals->Rc,Heap->Re,starEach->Rf,cellsFrom->Ri,FuncData->Rn,rawInt->Ro,compareOp->Ru,binaryOp->Rx,pyNext->RI,typeLookup->RM,Arguments->RN,codeAny->RP,backTo->RQ,cLine->RR,letOwnedTupleGo->RS,bindArgs->RU,Paired->RV,bootBuiltins->RW,holding->RX,closureFor->RZ,sliceBounds->Sa,wpAny_loadPart'->Sc,seqItems?->Sd,updateSeq->Sf,builtinsNs->Si,defaultsOf->Sj,getItem->Sk,relabel->Sm,IsPart->Sn,bindC->So,bindL->Sq,InCallC->Su,swapsWith->Sy,assign->SB,assignEach->SC,GenState->SD,callerA->SH,firstArgMember->SI,CmpOp->SK,TriplesOk->SN,behindInMarks->SX,foldedSetIterable->SZ,sysModules->Ta,Keyword->Tb,argsOk->Te,seqIndex?->Ti,storeName->Tj,IsRangeIter->Tk,subscripted->Tl,BindsTo->Tn,ItemsOf->To,standAt->Tp,IntMulOk->Tq,Operator->Tu,ExceptHandler->Tv,swappedStores->Tw,swapsWithSole->Tx,Result->Tz,WalksS->TC,cellOf->TD,execs->TH,field->TJ,newList->TL,list_append->TQ,init_tuple_lookup->TR,object_init_meets->TU,wpAny_pyIter_list->TW,wpAny_sequenceKey->TX,seqSlot_of->Uc,checkBuiltinCall->Ud,entryFor_of_tree->Ue,rule->Uf,wpAny_execs_cons->Ug,BoolOp->Uh,Meets->Uk,Moved->Ul,call->Uo,again->Uq,codeAny_of_tree->Ur,pushCells_keeps->Us,pyIter->Ut,theTreesLotGoes->Uu,typeIs_str->Uv,wpAny_Name->Uw,wpAny_call->Ux,callType_codes->UC,collect->UD,isSubtype_stop->UE,madeHere_tuple->UF,newFunctionEnv->UG,recursionLimit->UH,sub_tuple_self->UJ,wpAny_runValue->UK,lastMarks->UL,noteFrame->UM,attributeBase->UT,call_list_seq->UU,comprehension->UV,evalPart_none->UW,intBits_le_64->UY,wpAny_handled->Va,Drawn->Vc,IsEnum->Vg,compEnvC->Vk,compPost->Vl,entryFor->Vm,newExc->Vn,newTuple->Vo,revObj->Vp
open PySem.Heap renaming get?_push_of_some->aV,get?_push_size->bF,lt_size->aP,get?_update_other->fG,get?_update_self->iV,size_push->jL
open Nat renaming le_refl->ak,lt_of_lt_of_le->bQ,le_of_ble_eq_true->cP,ne_of_lt->bx,zero_le->bY,lt_succ_of_lt->eR,le_trans->cY,lt_irrefl->dY,min_eq_left->gq,le_of_lt->fD,sub_self->gz,lt_succ_self->jM,succ_le_succ->mR,lt_or_ge->lZ,zero_lt_succ->pO,succ_ne_self->sK,lt_of_le_of_lt->s1i,ne_of_gt->s1q,mul_comm->s1s,le_of_eq->s1t
open Bool renaming and_eq_true->bj,false_ne_true->bT,eq_false_iff->jF,or_false->gj,eq_iff_iff->ij,or_eq_true->jo,and_eq_true_iff->nD,false_eq_true->nh,false_or->jT,and_false->lh,true_and->mq,false_and->oM,not_eq_true'->tH,or_true->s0f,true->QK,false->QL,noConfusion->QN,and_true->UN
open Option.some renaming inj->bN,injEq->qg
open PyProof.Rows renaming callWith_type1->gK,slot_tuple_getitem->oY,subscriptTail_builtinR->wq,entry_tuple_getitem->s0u,args_tuple_getitem->s1f,len_tuple->s1g,boot_reversed->s1j,envOfC->RG,AllBare->Sg,IntsAre->Sw,IsTup->SL,subscriptTail->SY,Call_->Tf,callWith_builtin1->Um,Subscript_->Up,boot_enumerate->UB,slicePart_none->UI,getItem_tuple->UX,tupleItemsOf_->UZ,seqObj->Vq
open Int renaming mul_le_mul_of_nonneg_left->kh,mul_le_mul_of_nonneg_right->lQ,add_zero->dy,le_refl->fO,fdiv_eq_ediv_of_nonneg->oP,toNat_of_nonneg->nE,le_trans->ju,mul_zero->kF,emod_lt_of_pos->qz,one_mul->jZ,mul_assoc->nM,emod_nonneg->qy,fmod_eq_emod_of_nonneg->vP,zero_add->oC,mul_nonneg->qq,mul_le_mul->qv,mul_one->mD,add_assoc->qY,mul_ediv_self_le->s0o,mul_add->s0y,natCast_nonneg->s1d,toNat_natCast->QV,ofNat->Tg,ediv_le_self->TY,ediv_nonneg->Ui,ediv_one->Vd,mul_comm->Ve,zero_mul->Vf
open PySem.Around renaming under_plainId->iu,frames_deeper->s0k
open Option renaming map_eq_some_iff->jr,isSome_iff_exists->kO,some->QJ,none->QM,map_some->Th,getD_none->Ub
open PySem.F renaming plainAttrs_list->jX,plain_max_loop->jP,slot_tuple_iterator_next->pA,args_object_init_2->pk,args_tuple_add_2->rX,slot_list_extend->tV,entry_tuple_add->rV,slot_tuple_add->rR,entry_max_loop->sP,plain_list_iadd->px,plain_tuple_new->py,args_tuple_iterator_next_1->wV,slot_int_rmul->ph,plain_extend_loop->sB,entry_tuple_iterator_next->wU,args_tuple_mul_2->sZ,entry_tuple_mul->sY,slot_list_append->yB,type_list_append->yD,type_list_extend->yE,slot_tuple_mul->sX,entry_proto_collect->wR,plain_proto_collect->wT,slot_enumerate_next->wZ,slot_list_pop->s0b,type_list_pop->s0c,args_list_append_2->s0l,entry_list_append->s0v,entry_object_init->s0w,slot_list_append->s1h,typeCall_tuple_1->s1k
open PySem.Obj renaming data_mapFields->kR,isFreed_of_fields->sv,mapSeq->RB,mapFields->SW,cls_mapFields->TN
open Ne renaming symm->cL
open Array renaming getElem?_eq_getElem->sD,getElem?_toList->sh,getElem?_eq_some_iff->wP,toArray_toList->s0n,length_toList->Rt,toList->Tc,ext->Vs
open PySem.AutoSeq1 renaming wpAny_loadPart'->sJ,idx_int->sH
open And renaming intro->iy
open PySem.W renaming cellsFrom_some->oU,Frag->Td
open LawfulBEq renaming eq_of_beq->iU
open PySem.Heap.SameBut renaming update->su
open PySem.Calls renaming Name_function_global->vD,spliced_cons->rJ,spliced_nil->rH,callWith_builtin->ww
open PyProof renaming noPylong_of_log2->wH
open List.cons renaming inj->pM
open Prod.mk renaming injEq->qh
open PySem.SeqAt.EqAt renaming same->sg,int_str->s0z,str_int->s1a,of_refs->s1m
open PySem.PassesOwn renaming never->s0d
open PySem.Moved renaming drop_new->s0s
open Sum.inr renaming inj->s1u
open PySem.ItemsOf renaming nil->s1w
open LawfulMonad renaming pure_bind->s1x
def aD:=@of_decide_eq_true
def bw:=@decide_eq_false
def bJ:=@decide_eq_true
def cB:=@decide_eq_true_eq
def gG:=@of_decide_eq_false
def bO:=@congrArg
def bZ:=@or_false
def kU:=@beq_self_eq_true
def rg:=@beq_eq_false_iff_ne
def gN:=@if_true
def xQ:=@decide_eq_false_iff_not
def rG:=@decide_eq_decide
def XJ:=@if_false
section
set_option compiler.extract_closed false
set_option hygiene false

set_option hygiene true
noncomputable section
set_option genInjectivity false
set_option genSizeOfSpec false
namespace _L
open PySem PySem.Spec PyProof.Rows
noncomputable abbrev Wb:=Sum Int Str
noncomputable def oE:Wb->Value->Bool
 |.inl k,v=>Value.isInt k v
 |.inr x,v=>US x v
noncomputable def CJ(w:QY):Wb->Int
 |.inl k=>hashInt k
 |.inr x=>hashStr w x
theorem hV:∀ {k:Wb}{v:Value},oE k v=QK->(∃i t,k=SE i/\v=TB i t)\/(∃x t,k=RC x/\v=Vt x t)
 |.inl i,v,h=>by
  obtain⟨t,e⟩:=Value.isInt_shape (k:=i) (v:=v) h;exact .inl ⟨i,t,O,e⟩
 |.inr x,v,h=>by
  obtain⟨t,e⟩:=Value.isStrOf_shape (x:=x) (v:=v) h;exact .inr ⟨x,t,O,e⟩
def rf(x:Str)(t:Tok):oE (.inr x) (.str x t)=QK:=by simp[oE,US]
def CK(a b:Int):decide ((SE a:Wb)=SE b)=(a == b):=by
 by_cases e:a=b
 .subst e;simp
 .have h:¬(SE a:Wb)=SE b:=λ q=>e (Sum.inl.inj q);rw[bw h];exact(rg.mpr e).symm
def CL(a b:Str):decide ((RC a:Wb)=RC b)=decide (a=b):=by
 by_cases e:a=b
 .subst e;simp
 .have h:¬(RC a:Wb)=RC b:=λ q=>e (s1u q);rw[bw h,bw e]
def CN(a:Int)(b:Str):decide ((SE a:Wb)=RC b)=QL:=bw (λ q=>nomatch q)
def CO(a:Str)(b:Int):decide ((RC a:Wb)=SE b)=QL:=bw (λ q=>nomatch q)
def rh(prog:QX)(w:QY):PySem.KeyKind prog w Wb where
 is:=oE
 hash:=CJ w
 inj:=λ v a b ha hb=>by
  rcases hV ha with ⟨i,t,rfl,rfl⟩|⟨x,t,rfl,rfl⟩
  .rcases hV hb with ⟨j,u,rfl,e⟩|⟨y,u,rfl,e⟩
   .injection e with e1 _;rw[e1]
   .exact nomatch e
  .rcases hV hb with ⟨j,u,rfl,e⟩|⟨y,u,rfl,e⟩
   .exact nomatch e
   .injection e with e1 _;rw[e1]
 byValue:=λ k v h=>by
  rcases hV h with ⟨i,t,rfl,rfl⟩|⟨x,t,rfl,rfl⟩<;>rfl
 pyHash:=λ hv h=>by
  rcases hV hv with ⟨i,t,rfl,rfl⟩|⟨x,t,rfl,rfl⟩
  .exact wpAny_pyHash_int h
  .exact wpAny_pyHash_str h
 eqBool:=λ hu hv h=>by
  rcases hV hu with ⟨i,t,rfl,rfl⟩|⟨x,t,rfl,rfl⟩
  .rcases hV hv with ⟨j,u,rfl,rfl⟩|⟨y,u,rfl,rfl⟩
   .rw[CK] at h;exact wpAny_eqBool_int h
   .rw[CN] at h;exact s0z i t y u _ _ _ _ h
  .rcases hV hv with ⟨j,u,rfl,rfl⟩|⟨y,u,rfl,rfl⟩
   .rw[CO] at h;exact s1a x t j u _ _ _ _ h
   .rw[CL] at h;exact wpAny_eqBool_str h
 «strs»:=λ k x t v h=>by
  rcases hV h with ⟨i,u,rfl,e⟩|⟨y,u,rfl,e⟩
  .exact nomatch e
  .injection e with e1 _
   subst e1;cases v<;>rfl
set_option genInjectivity true in
set_option genSizeOfSpec true in
inductive V where
 |non|bl (b:Bool)|int (i:Int)|str (x:Str)|byt (b:Array UInt8)|flt (b:UInt64)|ref (a:QO)|ty (n:String)
 deriving DecidableEq
def RelV:V->Value->Prop
 |.non,u=>u=Ry
 |.bl b,u=>u=RY b
 |.int i,u=>∃t,u=TB i t
 |.str x,u=>∃t,u=Vt x t
 |.byt b,u=>∃t,u=Value.bytes b t
 |.flt b,u=>∃t,u=Value.float b t
 |.ref a,u=>u=Rk a
 |.ty n,u=>u=RL n
abbrev Vals:List V->LV->Prop:=RV RelV
def Vals.length(r:Vals xs us):xs.length=us.length:=Paired.length r
theorem Vals.get:∀ {xs:List V}{us:LV}{i:Nat}{x:V},Vals xs us->xs[i]?=QJ x->∃u,us[i]?=QJ u/\RelV x u
 |_,_,_,_,.nil,e=>by simp at e
 |_,_,0,_,.cons r _,e=>by simp at e;subst e;exact⟨_,rfl,r⟩
 |_,_,i+1,x,.cons _ t,e=>by
  obtain⟨u,h1,h2⟩:=Vals.get (i:=i) (x:=x) t (by simpa using e);exact⟨u,by simpa using h1,h2⟩
theorem Vals.set(r:RelV x u):∀ {xs:List V}{us:LV}(i:Nat),Vals xs us->Vals (xs.set i x) (us.set i u)
 |_,_,_,.nil=>.nil
 |_,_,0,.cons _ t=>.cons r t
 |_,_,i+1,.cons q t=>.cons q (Vals.set r i t)
theorem Vals.append:∀ {xs ys:List V}{us ws:LV},Vals xs us->Vals ys ws->Vals (xs++ys) (us++ws)
 |_,_,_,_,.nil,s=>s
 |_,_,_,_,.cons r t,s=>.cons r (Vals.append t s)
theorem Vals.take:∀ {xs:List V}{us:LV}(n:Nat),Vals xs us->Vals (xs.take n) (us.take n)
 |_,_,0,_=>.nil
 |_,_,_+1,.nil=>.nil
 |_,_,n+1,.cons r t=>.cons r (Vals.take n t)
theorem Vals.drop:∀ {xs:List V}{us:LV}(n:Nat),Vals xs us->Vals (xs.drop n) (us.drop n)
 |_,_,0,r=>r
 |_,_,_+1,.nil=>.nil
 |_,_,n+1,.cons _ t=>Vals.drop n t
def vx:Option V->Option Value->Prop
 |some v,QJ u=>RelV v u
 |none,QM=>True
 |_,_=>False
def KV{κ:Type}:List (κ×V)->List (κ×Value)->Prop:=RV λ(p:κ×V) (q:κ×Value)=>p.1=q.1/\RelV p.2 q.2
noncomputable def kV:Wb->V
 |.inl i=>.int i
 |.inr x=>.str x
set_option genSizeOfSpec true in
inductive HO where
 |lst (xs:List V)
 |tup (xs:List V)
 |dK (kvs:List (Wb×V))|dT (kvs:List (List Wb×V))
 |set (S:Int->Bool) (n:Nat)
 |ins (C dx:QO) (fs:List (Str×V))
 |own (x:QO)
 |xd (fs:List (Str×V))
 |met (f x:QO)
 |rng (lo hi:Int)
 |frz (o:Obj) (u:HO)
 |tbl (ps:Array Value)
 |ext (φ:Re->Prop)
noncomputable abbrev Hp:=QO->Option HO
noncomputable def VA(H:Hp)(a:QO)(o:HO):Hp:=λ b=>if b=a then QJ o else H b
def cK:VA H a o a=QJ o:=by unfold VA;rw[m7 rfl]
def aG{a b:QO}(h:b≠a):VA H a o b=H b:=by unfold VA;rw[k9 h]
def kH{H:Hp}(h:H a=QJ o)(h':H b=QM):a≠b:=by
 intro e;subst e;rw[h] at h';cases h'
def TupO(h:Re)(a:QO)(its:Array Value):Prop:=∃o,h.get? a=QJ o/\(o.cls=.type "tuple" /\ ∃n,o.data=.seq its n)/\o.dict=QM
def TupO.new(h:Re)(its:Array Value):TupO (h.push { cls:=.type "tuple",data:=.seq its }) h.objs.size its:=⟨_,bF _ rfl,⟨rfl,0,rfl⟩,rfl⟩
def TupO.tup(t:TupO h a its):SL h a its:=let ⟨o,e,⟨c,n,d⟩,_⟩:=t;⟨o,e,c,n,d⟩
def TupO.lt(t:TupO h a its):a<h.objs.size:=t.tup.lt
section
variable (P:QX)(w:QY)
def ObjOk(H:Hp)(h:Re)(a:QO):HO->Prop
 |.lst xs=>xs.length<=QR/\∃(its:LV) (n:Nat),Vals xs its/\h.get? a=QJ { cls:=.type "list",data:=.seq its.toArray n }
 |.tup xs=>xs.length<=QR/\∃its:LV,Vals xs its/\TupO h a its.toArray
 |.dK kvs=>kvs.length<=QR/\(a == Ta)=QL/\∃vs,KV kvs vs/\h.DictOf (rh P w) a vs
 |.dT kvs=>kvs.length<=QR/\(a == Ta)=QL/\∃xs:List (List Wb×QO×Value),
   RV (λ(p:List Wb×V) (q:List Wb×QO×Value)=>p.1=q.1/\H q.2.1=QJ (.tup (p.1.map kV))/\RelV p.2 q.2.2) kvs xs /\
   ∃o es ep,h.get? a=QJ o/\o.ExactDict/\o.data=.dict es ep/\es.toList=xs.map (entryOfKey (tupleKind (rh P w)))/\(xs.map (·.1)).Nodup
 |.set S n=>h.SetOf (intKind P w) a S n
 |.ins C dx fs=>H dx=QJ (.own a)/\fs.length<=1000/\dx≠a/\h.get? a=QJ (W.instObj C dx) /\
   ∃mA,h.Ns1 dx mA/\(∀f,vx (fs.lookup f) (mA f))/\PySem.Within mA (fs.map (·.1))
 |.own _=>∃o,h.get? a=QJ o
 |.xd fs=>∃mA,h.Ns1 a mA/\∀f,vx (fs.lookup f) (mA f)
 |.rng lo hi=>∃t u v,h.get? a=QJ { cls:=.type "range",data:=.fields #[.int lo t,.int hi u,.int 1 v] }
 |.frz o u=>h.get? a=QJ o/\ObjOk H h a u
 |.tbl ps=>h.get? a=QJ { cls:=.none,data:=.fields ps }
 |.met f x=>h.get? a=QJ (W.methodObj (.ref f) (.ref x))
 |.ext φ=>φ h/\(∃o,h.get? a=QJ o)/\∀h1 h2:Re,φ h1->(∀o,h1.get? a=QJ o->h2.get? a=QJ o)->φ h2
def HOk(H:Hp)(h:Re):Prop:=∀a o,H a=QJ o->ObjOk P w H h a o
end
section
variable {P:QX}{w:QY}{H H':Hp}{h h':Re}{a:QO}{o:HO}
def ObjOk.lt(x:ObjOk P w H h a o):a<h.objs.size:=by
 cases o with
 |lst xs=>obtain⟨_,_,_,_,e⟩:=x;exact aP e
 |tup xs=>obtain⟨_,_,_,p⟩:=x;exact p.lt
 |dK kvs|dT kvs=>obtain⟨_,_,_,_,o,_,_,e,_⟩:=x;exact aP e
 |set S n=>obtain⟨o,_,_,_,e,_⟩:=x;exact aP e
 |ins C dx fs=>obtain⟨_,_,_,e,_⟩:=x;exact aP e
 |own y=>obtain⟨_,e⟩:=x;exact aP e
 |xd fs=>obtain⟨_,⟨_,_,_,e,_⟩,_⟩:=x;exact aP e
 |rng lo hi=>obtain⟨_,_,_,e⟩:=x;exact aP e
 |frz ob u=>obtain⟨e,_⟩:=x;exact aP e
 |tbl ps|met f y=>exact aP (show h.get? a=QJ _ from x)
 |ext φ=>obtain⟨_,⟨_,e⟩,_⟩:=x;exact aP e
theorem Paired.mapP{α β:Type}{F G:α->β->Prop}:∀ {l₁:List α}{l₂:List β},RV F l₁ l₂->(∀a b,F a b->G a b)->RV G l₁ l₂
 |_,_,.nil,_=>.nil
 |_,_,.cons r t,f=>.cons (f _ _ r) (Paired.mapP t f)
theorem ObjOk.stay(x:ObjOk P w H h a o)(k:∀b u,(b=a\/H b=QJ (.own a))->h.get? b=QJ u->h'.get? b=QJ u)
  (ho:∀b,H b=QJ (.own a)->H' b=QJ (.own a)) (ht:∀b xs,H b=QJ (.tup xs)->H' b=QJ (.tup xs)):ObjOk P w H' h' a o:=by
 induction o with
 |lst xs=>obtain⟨z,its,n,r,e⟩:=x;exact⟨z,its,n,r,k _ _ (.inl rfl) e⟩
 |tup xs=>obtain⟨z,its,r,ob,e,c⟩:=x;exact⟨z,its,r,ob,k _ _ (.inl rfl) e,c⟩
 |dK kvs=>obtain⟨z,y,vs,r,ob,es,ep,e,c⟩:=x;exact⟨z,y,vs,r,ob,es,ep,k _ _ (.inl rfl) e,c⟩
 |dT kvs=>
  obtain⟨z,y,xs,r,ob,es,ep,e,c⟩:=x;exact⟨z,y,xs,Paired.mapP r λ p q z=>⟨z.1,ht _ _ z.2.1,z.2.2⟩,ob,es,ep,k _ _ (.inl rfl) e,c⟩
 |set S n=>obtain⟨ob,es,ep,t,e,c⟩:=x;exact⟨ob,es,ep,t,k _ _ (.inl rfl) e,c⟩
 |ins C dx fs=>
  obtain⟨d,z,ne,e,mA,⟨od,es,ep,e2,c⟩,r⟩:=x;exact⟨ho _ d,z,ne,k _ _ (.inl rfl) e,mA,⟨od,es,ep,k _ _ (.inr d) e2,c⟩,r⟩
 |own y=>obtain⟨ob,e⟩:=x;exact⟨ob,k _ _ (.inl rfl) e⟩
 |xd fs=>obtain⟨mA,⟨od,es,ep,e,c⟩,r⟩:=x;exact⟨mA,⟨od,es,ep,k _ _ (.inl rfl) e,c⟩,r⟩
 |rng lo hi=>obtain⟨t,u,v,e⟩:=x;exact⟨t,u,v,k _ _ (.inl rfl) e⟩
 |frz ob u ih=>obtain⟨e,q⟩:=x;exact⟨k _ _ (.inl rfl) e,ih q⟩
 |tbl ps=>
  have e:h.get? a=QJ { cls:=.none,data:=.fields ps }:=x;show h'.get? a=QJ { cls:=.none,data:=.fields ps };exact k a _ (.inl rfl) e
 |met f y=>
  have e:h.get? a=QJ (W.methodObj (.ref f) (.ref y)):=x;show h'.get? a=QJ (W.methodObj (.ref f) (.ref y));exact k a _ (.inl rfl) e
 |ext φ=>obtain⟨p,⟨o,e⟩,st⟩:=x;exact⟨st _ _ p λ o q=>k _ _ (.inl rfl) q,⟨o,k _ _ (.inl rfl) e⟩,st⟩
def HOk.lt(x:HOk P w H h)(e:H a=QJ o):a<h.objs.size:=(x a o e).lt
def HOk.fresh(x:HOk P w H h)(e:h.objs.size<=a):H a=QM:=by
 cases q:H a with
 |none=>rfl
 |some u=>exact m8 (bQ (x.lt q) e) (dY _)
def HOk.kept(x:HOk P w H h)(k:∀b u,h.get? b=QJ u->h'.get? b=QJ u):HOk P w H h':=λ a o e=>
 (x a o e).stay (λ b u _ q=>k b u q) (λ _ q=>q) λ _ _ q=>q
def HOk.laid(x:HOk P w H h)(k:∀b u,h.get? b=QJ u->h'.get? b=QJ u)(hp:h.objs.size<=a)(new:ObjOk P w (VA H a o) h' a o):HOk P w (VA H a o) h':=λ b u e=>by
 have hn:=x.fresh hp;by_cases hb:b=a
 .subst hb;rw[cK] at e;cases e;exact new
 .rw[aG hb] at e;exact(x b u e).stay (λ c v _ q=>k c v q) (λ c q=>by rw[aG (kH q hn)];exact q) λ c xs q=>by rw[aG (kH q hn)];exact q
end
def Rd(H:Hp)(a:QO)(u:HO):Prop:=H a=QJ u\/∃o,H a=QJ (.frz o u)
def Rd.ok(r:Rd H a u)(x:HOk P w H h):ObjOk P w H h a u:=by
 rcases r with r|⟨o,r⟩
 .exact x a u r
 .obtain⟨_,q⟩:=x a _ r;exact q
def Yz:Option HO->Prop
 |some (.lst _)=>True
 |some (.dK _)=>True
 |some (.dT _)=>True
 |some (.set _ _)=>True
 |some (.ins _ _ _)=>True
 |some (.ext _)=>True
 |_=>False
section
variable {P:QX}{w:QY}{H:Hp}{h h':Re}{x e:QO}{o':HO}
theorem HOk.write(ok:HOk P w H h)(mu:Yz (H x))(he:e=x\/H e=QJ (.own x))(k:∀b u,b≠e->h.get? b=QJ u->h'.get? b=QJ u)(heo:∃u,h'.get? e=QJ u)
  (new:ObjOk P w (VA H x o') h' x o'):HOk P w (VA H x o') h':=λ b u q=>by
 have nown:∀c y,H c=QJ (.own y)->c≠x:=λ c y r z=>by subst z;rw[r] at mu;exact mu
 have ntup:∀c xs,H c=QJ (.tup xs)->c≠x:=λ c xs r z=>by subst z;rw[r] at mu;exact mu
 by_cases hb:b=x
 .subst hb;rw[cK] at q;cases q;exact new
 .rw[aG hb] at q;by_cases hbe:b=e
  .have q':H b=QJ (.own x):=by
    rcases he with z|z
    .exact m8 (hbe.trans z) hb
    .rw[hbe];exact z
   rw[q] at q';cases q';obtain⟨v,hv⟩:=heo;exact⟨v,by rw[hbe];exact hv⟩
  .refine(ok b u q).stay (λ c v hc r=>k c v ?_ r) (λ c r=>by rw[aG (nown c b r)];exact r) λ c xs r=>by rw[aG (ntup c xs r)];exact r
   rcases hc with rfl|hc
   .exact hbe
   .rintro rfl
    rcases he with z|z
    .exact nown c b hc z
    .rw[hc] at z;cases z;exact hb rfl
end
structure Un (fs ex:List QO)(H H':Hp)(h h':Re):Prop where
 keep:∀b o,h.get? b=QJ o->H b=QM->b ∉ fs->b ∉ ex->h'.get? b=QJ o
 slot:∀b o,h.get? b=QJ o->H b=QM->b∈fs->b ∉ ex->∃sl,h'.get? b=QJ { o with slots:=sl }
 free:∀b o,h.get? b=QJ o->H b=QM->b ∉ ex->H' b=QM
 there:∀b o,h.get? b=QJ o->b ∉ ex->∃o',h'.get? b=QJ o'
 tups:∀b xs,H b=QJ (.tup xs)->H' b=QJ (.tup xs)
 frzs:∀b o u,H b=QJ (.frz o u)->H' b=QJ (.frz o u)
 tbls:∀b ps,H b=QJ (.tbl ps)->∃more,H' b=QJ (.tbl (ps++more))
section
variable {fs fs' ex ex':List QO}{H H1 H2:Hp}{h h1 h2 h':Re}{a x e:QO}{o:HO}
def Un.any(u:Un fs ex H H1 h h1){b:QO}(q:h.get? b=QJ ob)(n:H b=QM)(hx:b ∉ ex):∃sl,h1.get? b=QJ { ob with slots:=sl }:=by
 by_cases hb:b∈fs
 .exact u.slot b ob q n hb hx
 .exact⟨ob.slots,u.keep b ob q n hb hx⟩
def Un.kept(k:∀b u,h.get? b=QJ u->h'.get? b=QJ u):Un fs ex H H h h' :=
 ⟨λ b ob q _ _ _=>k b ob q,λ b ob q _ _ _=>⟨ob.slots,k b ob q⟩,λ _ _ _ n _=>n,λ b ob q _=>⟨ob,k b ob q⟩,λ _ _ q=>q,λ _ _ _ q=>q,λ _ ps q=>⟨#[],by rw[q];simp⟩⟩
def Un.refl:Un fs ex H H h h:=Un.kept λ _ _ q=>q
theorem Un.laid(k:∀b u,h.get? b=QJ u->h'.get? b=QJ u)(hp:h.objs.size<=a)(hn:H a=QM):Un fs ex H (VA H a o) h h' where
 keep:=λ b u q _ _ _=>k b u q
 slot:=λ b u q _ _ _=>⟨u.slots,k b u q⟩
 free:=λ b u q n _=>by rw[aG (bx (bQ (aP q) hp))];exact n
 there:=λ b u q _=>⟨u,k b u q⟩
 tups:=λ b xs q=>by rw[aG (kH q hn)];exact q
 frzs:=λ b u xs q=>by rw[aG (kH q hn)];exact q
 tbls:=λ b ps q=>⟨#[],by rw[aG (kH q hn),q];simp⟩
def Un.write(mu:Yz (H x))(he:e=x\/H e=QJ (.own x))(k:∀b u,b≠e->h.get? b=QJ u->h'.get? b=QJ u)(heo:∃u,h'.get? e=QJ u):Un fs ex H (VA H x o) h h':=by
 have hx:∀b,H b=QM->b≠x:=λ b n z=>by subst z;rw[n] at mu;exact mu
 have hb:∀b,H b=QM->b≠e:=λ b n z=>by
  subst z
  rcases he with r|r
  .exact hx b n r
  .rw[n] at r;cases r
 have hm:∀b u,H b=QJ u->¬Yz (QJ u)->b≠x:=λ b u q nm z=>by subst z;rw[q] at mu;exact nm mu
 refine⟨λ b u q n _ _=>k b u (hb b n) q,λ b u q n _ _=>⟨u.slots,k b u (hb b n) q⟩,λ b u q n _=>by rw[aG (hx b n)];exact n,λ b u q _=>?_,
  λ b xs q=>by rw[aG (hm b _ q λ z=>z)];exact q,λ b u xs q=>by rw[aG (hm b _ q λ z=>z)];exact q,λ b ps q=>⟨#[],by rw[aG (hm b _ q λ z=>z),q];simp⟩⟩
 by_cases hbe:b=e
 .subst hbe;exact heo
 .exact⟨u,k b u hbe q⟩
end
noncomputable def WI(h:Re)(H:Hp):List QO:=(QW h.objs.size).filter λ a=>(H a).isSome
def fY(h:Re)(H:Hp):Re:=W.hideAll h (WI h H)
def CP(h:Re)(H:Hp):(fY h H).objs.size=h.objs.size:=W.hideAll_size _ _
def CQ{h:Re}{H:Hp}{b:QO}(e:h.get? b=QJ o)(n:H b=QM):(fY h H).get? b=QJ o :=
 W.hideAll_get _ e λ hm=>by
  have q:(H b).isSome=QK:=(hW.mp hm).2;rw[n] at q;simp at q
def vy{b:QO}(e:(fY h H).get? b=QJ o):h.get? b=QJ o/\H b=QM:=by
 have e':h.get? b=QJ o:=W.of_hideAll (WI h H) e;refine⟨e',?_⟩
 cases q:H b with
 |none=>rfl
 |some x=>
  have hm:b∈WI h H:=hW.mpr ⟨hZ.mpr (aP e'),by simp[q]⟩;have z:(fY h H).get? b=QM:=W.hideAll_none (WI h H) hm;rw[z] at e;cases e
noncomputable def CS(g h:Re)(L:QO):LO:=(QW h.objs.size).filterMap λ a=>if a=L\/(g.get? a).isSome=QK then QM else (h.get? a).map λ o=>(a,o)
def Vz(g h:Re)(L d:QO):LO:=(CS g h L).filter λ p=>decide (p.1≠d)
structure Mod (K:FG)(mg:SV)(base:Re):Prop where
 kin:K.In base
 glob:base.Ns Rc mg
 blt:∃mb,base.Ns Si mb/\∀x:Str,x ≠ "__name__" -> mb x=RW x
 nolimit:base.NoLimit
structure Cx where
 prog:QX
 w:QY
 K:FG
 mg:SV
 base:Re
 A:QZ
 N:List Str
 s₀:QP
 H₀:Hp
 env:Env
 outer:List Env
 stack:List Env
 ex:List QO
 fn:Str->Bool
 calm:Bool
 pn:LO
 xe:VS
noncomputable def WD(l:List Env):List QO:=l.filterMap (·.frame)
abbrev Cx.fs(X:Cx):List QO:=WD X.outer
def Yh(sc:Scope)(x:Str):Prop:=sc.names.lookup x=QJ .local\/sc.names.lookup x=QJ .cell\/sc.names.lookup x=QJ .free
def Xi(sc:Scope)(x:Str):Prop:=sc.names.lookup x=QJ .local\/sc.names.lookup x=QJ .cell
def CT(env:Env)(h:Re)(m:SV)(x:Str)(u:Value):Prop :=
 (env.kindOf x=QJ .local/\m x=QJ u)\/((env.kindOf x=QJ .cell\/env.kindOf x=QJ .free)/\∃c,env.cells.lookup x=QJ c/\h.IsCell c (QJ u))
structure Cx.Ok (X:Cx):Prop where
 mod:Mod X.K X.mg X.base
 kind:X.env.scope.kind=.function
 glob:X.env.globals=Rc
 blt:X.env.builtins=Si
 above:X.s₀.heap.objs.size<=X.env.locals
 inj:∀x y c,X.env.cells.lookup x=QJ c->X.env.cells.lookup y=QJ c->x=y
 has:∀x,(X.env.kindOf x=QJ .cell\/X.env.kindOf x=QJ .free)->∃c,X.env.cells.lookup x=QJ c
 cab:∀x c,X.fn x=QK->X.env.cells.lookup x=QJ c->X.s₀.heap.objs.size<=c
 hd:X.calm=QK->X.A.handled=QM
 frames:X.A.frames=QJ X.stack
 stk:X.stack=X.outer\/(X.stack=X.env::X.outer/\X.env.frame=QJ X.env.locals)
 exf:∀b∈X.ex,b≠X.env.locals/\∀x c,X.env.cells.lookup x=QJ c->c≠b
 bs:∀b o,X.base.get? b=QJ o->X.s₀.heap.get? b=QJ o/\X.H₀ b=QM
 bsz:X.base.objs.size<=X.s₀.heap.objs.size
 noex:∀b o,X.base.get? b=QJ o->b ∉ X.ex
 exfs:∀b∈X.ex,b ∉ X.fs
 funs:X.s₀.heap.FunFrames X.base X.outer
 frf:∀b∈X.fs,X.H₀ b=QM
structure Inv (X:Cx)(Vu:LO)(σ:List (Option V))(H:Hp)(s:QP):Prop where
 ok:X.Ok
 os:s.os=X.s₀.os
 bare:Sg s.gens
 base:Un X.fs X.ex X.H₀ H X.s₀.heap s.heap
 loc:∃m,s.heap.Ns X.env.locals m/\∀(i:Nat) (x:Str) (v:V),X.N[i]?=QJ x->σ[i]?=QJ (QJ v)->Yh X.env.scope x->∃u,RelV v u/\CT X.env s.heap m x u
 cell:∀x c,X.env.cells.lookup x=QJ c->∃v,s.heap.IsCell c v
 free:H X.env.locals=QM
 freeC:∀x c,X.env.cells.lookup x=QJ c->H c=QM
 pin:∀p∈X.pn++Vu,s.heap.get? p.1=QJ p.2/\H p.1=QM/\p.1≠X.env.locals/\p.1 ∉ X.fs/\∀v,p.2.data≠.cell v
 hok:HOk X.prog X.w H s.heap
 len:σ.length=X.N.length
variable {X:Cx}
section
variable {Vu:LO}{σ:List (Option V)}{H H':Hp}{s:QP}{h':Re}
def Cx.Ok.nofr(ok:X.Ok){b:QO}(e:X.base.get? b=QJ o):b ∉ X.fs:=λ hb=>by
 have:=(ok.funs.mem hb).1;rw[e] at this;cases this
def Inv.bs(I:Inv X Vu σ H s):∀b o,X.base.get? b=QJ o->s.heap.get? b=QJ o/\H b=QM:=λ b o e=>
 ⟨I.base.keep b o (I.ok.bs b o e).1 (I.ok.bs b o e).2 (I.ok.nofr e) (I.ok.noex b o e),I.base.free b o (I.ok.bs b o e).1 (I.ok.bs b o e).2 (I.ok.noex b o e)⟩
def Inv.bk(I:Inv X Vu σ H s):∀b o,X.base.get? b=QJ o->s.heap.get? b=QJ o:=λ b o e=>(I.bs b o e).1
def Inv.mod(I:Inv X Vu σ H s):Mod X.K X.mg X.base:=I.ok.mod
def Inv.kIn(I:Inv X Vu σ H s):X.K.In s.heap:=I.ok.mod.kin.keeps I.bk
def Inv.lt(I:Inv X Vu σ H s):X.env.locals<s.heap.objs.size:=let ⟨_,hn,_⟩:=I.loc;hn.lt
def Inv.sz(I:Inv X Vu σ H s):X.s₀.heap.objs.size<=s.heap.objs.size:=cY I.ok.above (fD I.lt)
def Inv.nofs(I:Inv X Vu σ H s){a:QO}(h:s.heap.objs.size<=a):a ∉ X.fs:=λ hb=>by
 obtain⟨_,o,ho,_⟩:=I.ok.funs.mem hb;exact m8 (bQ (aP ho) (cY I.sz h)) (dY _)
def Inv.cne(I:Inv X Vu σ H s):∀x c,X.env.cells.lookup x=QJ c->c≠X.env.locals:=λ x c e z=>by
 obtain⟨v,o,ho,hd⟩:=I.cell x c e;obtain⟨m,⟨o',es,ep,ho',hd',_⟩,_⟩:=I.loc;rw[z,ho'] at ho;cases ho;rw[hd'] at hd;cases hd
def Inv.funs(I:Inv X Vu σ H s):s.heap.FunFrames X.base X.outer:=by
 have all:∀(l:List Env),(∀b∈WD l,b∈X.fs)->X.s₀.heap.FunFrames X.base l->s.heap.FunFrames X.base l:=by
  intro l
  induction l with
  |nil=>intro _ _;trivial
  |cons env r ih=>
   intro hs hl;obtain⟨hk,⟨L,o,hf,hn,ho,hd⟩,hr⟩:=hl;have hL:L∈X.fs:=hs L (by unfold WD;rw[rk,hf];exact bc);obtain⟨sl,e⟩:=I.base.slot L o ho (I.ok.frf L hL) hL λ z=>I.ok.exfs L z hL;exact⟨hk,⟨L,_,hf,hn,e,hd⟩,ih (λ b hb=>hs b (by unfold WD;rw[rk,hf];exact bg _ hb)) hr⟩
 exact all X.outer (λ _ hb=>hb) I.ok.funs
def Inv.stack(I:Inv X Vu σ H s):s.heap.FunFrames X.base X.stack:=by
 rcases I.ok.stk with e|⟨e,hf⟩
 .rw[e];exact I.funs
 .rw[e];obtain⟨m,hn,_⟩:=I.loc;refine .cons (by rw[I.ok.kind];decide) hf hn ?_ I.funs;exact Heap.get?_none_of_le (cY I.ok.bsz I.ok.above)
def Inv.stkSub(I:Inv X Vu σ H s):∀b∈WD X.stack,b∈X.env.locals::X.fs:=λ b hb=>by
 rcases I.ok.stk with e|⟨e,hf⟩
 .rw[e] at hb;exact bg _ hb
 .rw[e] at hb;unfold WD at hb;rw[rk,hf] at hb;exact hb
def Inv.stkFree(I:Inv X Vu σ H s):∀b∈WD X.stack,H b=QM:=λ b hb=>by
 rcases aH.mp (I.stkSub b hb) with e|hb
 .rw[e];exact I.free
 .obtain⟨_,o,ho,_⟩:=I.ok.funs.mem hb;exact I.base.free b o ho (I.ok.frf b hb) λ z=>I.ok.exfs b z hb
theorem Inv.step{t':Nat}{d':Vc}{ch:List QO}(I:Inv X Vu σ H s)
  (hch:∀b∈ch,(b∈X.ex\/X.s₀.heap.objs.size<=b)/\b≠X.env.locals/\(∀x c,X.env.cells.lookup x=QJ c->c≠b)/\∀p∈X.pn++Vu,p.1≠b)
  (keep:∀b o,b≠X.env.locals->b ∉ X.fs->b ∉ ch->s.heap.get? b=QJ o->H b=QM->h'.get? b=QJ o)
  (slot:∀b o,b≠X.env.locals->b∈X.fs->b ∉ ch->s.heap.get? b=QJ o->H b=QM->∃sl,h'.get? b=QJ { o with slots:=sl }) (free:∀b o,b ∉ ch->s.heap.get? b=QJ o->H b=QM->H' b=QM)
  (there:∀b o,b ∉ ch->s.heap.get? b=QJ o->∃o',h'.get? b=QJ o')
  (tups:∀b xs,H b=QJ (.tup xs)->H' b=QJ (.tup xs)) (frzs:∀b o u,H b=QJ (.frz o u)->H' b=QJ (.frz o u)) (tbls:∀b ps,H b=QJ (.tbl ps)->∃more,H' b=QJ (.tbl (ps++more)))
  (ns:∀m,s.heap.Ns X.env.locals m->h'.Ns X.env.locals m) (hok:HOk X.prog X.w H' h') (hg:Sg g') :
  Inv X Vu σ H' { s with heap:=h',gens:=g',drawn:=d',toks:=t' }:=by
 have neL:∀b o,X.s₀.heap.get? b=QJ o->b≠X.env.locals:=λ b o e=>bx (bQ (aP e) I.ok.above)
 have neC:∀b o,X.s₀.heap.get? b=QJ o->b ∉ X.ex->b ∉ ch:=λ b o e hx hb=>by
  rcases(hch b hb).1 with z|z
  .exact hx z
  .exact m8 (bQ (aP e) z) (dY _)
 have cellK:∀x c,X.env.cells.lookup x=QJ c->∀v,s.heap.IsCell c v->h'.IsCell c v:=λ x c e v ⟨o,ho,hd⟩=>by
  have nch:c ∉ ch:=λ z=>(hch c z).2.2.1 x c e rfl;by_cases hc:c∈X.fs
  .obtain⟨sl,q⟩:=slot c o (I.cne x c e) hc nch ho (I.freeC x c e);exact⟨_,q,hd⟩
  .exact⟨o,keep c o (I.cne x c e) hc nch ho (I.freeC x c e),hd⟩
 refine⟨I.ok,I.os,hg,⟨λ b o e n hb hx=>?_,λ b o e n hb hx=>?_,λ b o e n hx=>?_,λ b o e hx=>?_,λ b xs e=>tups b xs (I.base.tups b xs e),λ b o xs e=>frzs b o xs (I.base.frzs b o xs e),λ b ps e=>?_⟩,?_,λ x c e=>?_,?_,λ x c e=>?_,λ p hp=>?_,hok,I.len⟩
 .exact keep b o (neL b o e) hb (neC b o e hx) (I.base.keep b o e n hb hx) (I.base.free b o e n hx)
 .obtain⟨sl,e1⟩:=I.base.slot b o e n hb hx;obtain⟨sl',e2⟩:=slot b _ (neL b o e) hb (neC b o e hx) e1 (I.base.free b o e n hx);exact⟨sl',e2⟩
 .obtain⟨o',e1⟩:=I.base.there b o e hx;exact free b o' (neC b o e hx) e1 (I.base.free b o e n hx)
 .obtain⟨o',e1⟩:=I.base.there b o e hx;exact there b o' (neC b o e hx) e1
 .obtain⟨m1,e1⟩:=I.base.tbls b ps e;obtain⟨m2,e2⟩:=tbls b _ e1;exact⟨m1++m2,by rw[e2,Array.append_assoc]⟩
 .obtain⟨m,hn,hl⟩:=I.loc;refine⟨m,ns m hn,λ i x v e1 e2 e3=>?_⟩;obtain⟨u,r,l⟩:=hl i x v e1 e2 e3;refine⟨u,r,?_⟩
  rcases l with l|⟨k,c,e,z⟩
  .exact .inl l
  .exact .inr ⟨k,c,e,cellK x c e _ z⟩
 .obtain⟨v,z⟩:=I.cell x c e;exact⟨v,cellK x c e v z⟩
 .obtain⟨m,⟨o,_,_,ho,_⟩,_⟩:=I.loc;exact free _ o (λ z=>(hch _ z).2.1 rfl) ho I.free
 .obtain⟨v,o,ho,hd⟩:=I.cell x c e;exact free c o (λ z=>(hch c z).2.2.1 x c e rfl) ho (I.freeC x c e)
 .obtain⟨e,n,ne,nf,d⟩:=I.pin p hp;have nch:p.1 ∉ ch:=λ z=>(hch p.1 z).2.2.2 p hp rfl;exact⟨keep p.1 p.2 ne nf nch e n,free p.1 p.2 nch e n,ne,nf,d⟩
def Inv.un{t':Nat}(I:Inv X Vu σ H s)(u:Un X.fs [] H H' s.heap h')(hok:HOk X.prog X.w H' h'):Inv X Vu σ H' { s with heap:=h',toks:=t' }:=by
 obtain⟨m,⟨o,es,ep,ho,r⟩,_⟩:=id I.loc;obtain⟨sl,hL⟩:=u.any ho I.free pv
 exact I.step (g':=s.gens) (d':=s.drawn) (ch:=[]) (λ _ z=>nomatch z) (λ b o _ hb _ e n=>u.keep b o e n hb pv) (λ b o _ hb _ e n=>u.slot b o e n hb pv) (λ b o _ e n=>u.free b o e n pv) (λ b o _ e=>u.there b o e pv) u.tups u.frzs u.tbls (λ m' hm=>by
  obtain⟨o',es',ep',ho',r'⟩:=hm;rw[ho] at ho';cases ho'
  exact⟨_,es',ep',hL,r'⟩) hok I.bare
theorem Inv.call{t':Nat}{d':Vc}(I:Inv X Vu σ H s)(u:Un (WD X.stack) ch H H' s.heap h')(hok:HOk X.prog X.w H' h')(hg:Sg g')
  (hch:∀b∈ch,(b∈X.ex\/X.s₀.heap.objs.size<=b)/\b≠X.env.locals/\(∀x c,X.env.cells.lookup x=QJ c->c≠b)/\∀p∈X.pn++Vu,p.1≠b) :
  Inv X Vu σ H' { s with heap:=h',gens:=g',drawn:=d',toks:=t' }:=by
 obtain⟨m,⟨o,es,ep,ho,r⟩,_⟩:=id I.loc;obtain⟨sl,hL⟩:=u.any ho I.free λ z=>(hch _ z).2.1 rfl
 exact I.step (ch:=ch) hch (λ b o hL hb hc e n=>u.keep b o e n (λ z=>(aH.mp (I.stkSub b z)).elim hL hb) hc) (λ b o _ _ hc e n=>u.any e n hc) (λ b o hc e n=>u.free b o e n hc) (λ b o hc e=>u.there b o e hc) u.tups u.frzs u.tbls (λ m' hm=>by
  obtain⟨o',es',ep',ho',r'⟩:=hm;rw[ho] at ho';cases ho'
  exact⟨_,es',ep',hL,r'⟩) hok hg
theorem Inv.turned{t':Nat}{it:QO}(I:Inv X Vu σ H s)(k:∀b o,b≠it->s.heap.get? b=QJ o->h'.get? b=QJ o)(hn:H it=QM)(hL:it≠X.env.locals)
  (h1:it∈X.ex\/X.s₀.heap.objs.size<=it) (h2:∀x c,X.env.cells.lookup x=QJ c->c≠it) (h3:∀p∈X.pn++Vu,p.1≠it):Inv X Vu σ H { s with heap:=h',toks:=t' }:=by
 have nit:∀b u,H b=QJ u->b≠it:=λ b u e z=>by rw[z,hn] at e;cases e
 refine I.step (g':=s.gens) (d':=s.drawn) (ch:=[it]) (λ b hb=>?_) (λ b o _ _ hc e _=>k b o (λ z=>hc (by simp[z])) e) (λ b o _ _ hc e _=>⟨o.slots,k b o (λ z=>hc (by simp[z])) e⟩) (λ _ _ _ _ n=>n)
  (λ b o hc e=>⟨o,k b o (λ z=>hc (by simp[z])) e⟩) (λ _ _ e=>e) (λ _ _ _ e=>e) (λ b ps e=>⟨#[],by rw[e];simp⟩) (λ m hm=>?_) (λ b u e=>?_) I.bare
 .have e:b=it:=by simpa using hb
  subst e;exact⟨h1,hL,h2,h3⟩
 .obtain⟨o,es,ep,ho,r⟩:=hm;exact⟨o,es,ep,k _ o (cL hL) ho,r⟩
 .refine(I.hok b u e).stay (λ c v hc q=>k c v ?_ q) (λ _ q=>q) λ _ _ q=>q
  rcases hc with z|z
  .rw[z];exact nit b u e
  .exact nit c _ z
def Inv.tok(I:Inv X Vu σ H s)(t:Nat):Inv X Vu σ H { s with toks:=t }:=I.un (h':=s.heap) (t':=t) Un.refl I.hok
def Inv.kept{t':Nat}(I:Inv X Vu σ H s)(k:∀b u,s.heap.get? b=QJ u->h'.get? b=QJ u):Inv X Vu σ H { s with heap:=h',toks:=t' }:=I.un (Un.kept k) (I.hok.kept k)
theorem Inv.laid{a:QO}{t':Nat}(I:Inv X Vu σ H s)(k:∀b u,s.heap.get? b=QJ u->h'.get? b=QJ u)(hp:s.heap.objs.size<=a)(new:ObjOk X.prog X.w (VA H a o) h' a o) :
  Inv X Vu σ (VA H a o) { s with heap:=h',toks:=t' }:=I.un (Un.laid k hp (I.hok.fresh hp)) (I.hok.laid k hp new)
theorem Inv.write{x e:QO}{t':Nat}(I:Inv X Vu σ H s)(mu:Yz (H x))(he:e=x\/H e=QJ (.own x))(k:∀b u,b≠e->s.heap.get? b=QJ u->h'.get? b=QJ u)(heo:∃u,h'.get? e=QJ u)
  (new:ObjOk X.prog X.w (VA H x o) h' x o):Inv X Vu σ (VA H x o) { s with heap:=h',toks:=t' }:=I.un (Un.write mu he k heo) (I.hok.write mu he k heo new)
def Inv.pins_of{pins':LO}(I:Inv X Vu σ H s)(h:∀p∈pins',s.heap.get? p.1=QJ p.2/\H p.1=QM/\p.1≠X.env.locals/\p.1 ∉ X.fs/\∀v,p.2.data≠.cell v):Inv X pins' σ H s :=
 ⟨I.ok,I.os,I.bare,I.base,I.loc,I.cell,I.free,I.freeC,λ p hp=>(cr.mp hp).elim (λ z=>I.pin p (fZ _ z)) (h p),I.hok,I.len⟩
def vz{N:List Str}(hN:N.Nodup){i j:Nat}(a:N[i]?=QJ x)(b:N[j]?=QJ x):i=j:=by
 obtain⟨h1,e1⟩:=aN.mp a;obtain⟨h2,e2⟩:=aN.mp b;exact(List.getElem_inj hN).mp (e1.trans e2.symm)
theorem vA{i:Nat}{Q:Unit->QP->Prop}(I:Inv X Vu σ H s)(hN:X.N.Nodup)(hi:X.N[i]?=QJ x)(hx:Xi X.env.scope x)(r:RelV v u)
  (h:∀s',Inv X Vu (σ.set i (QJ v)) H s'->(∃a,Heap.SameBut a s.heap s'.heap/\(a=X.env.locals\/X.env.cells.lookup x=QJ a))->Q () s') (hf:autoParam (X.fn x=QK\/X.env.scope.names.lookup x=QJ .local) A1._auto_1):QS M A (Tj X.env x u) Q E s:=by
 obtain⟨m,hn,hl⟩:=id I.loc;have hcls:(X.env.scope.kind == .class || (X.env.scope.kind == .module&&X.env.locals != X.env.globals))=QL:=by rw[I.ok.kind];rfl
 have hiσ:i<σ.length:=by rw[I.len];exact(aN.mp hi).1
 have cne:=I.cne
 have tracked:∀ {a:QO}{h':Re},(∃o,s.heap.get? a=QJ o/\H a=QM)->Heap.SameBut a s.heap h'->HOk X.prog X.w H h':=λ {a h'} ha hs b ob e=>by
  obtain⟨_,_,hfree⟩:=ha;refine(I.hok b ob e).stay (λ c w' hc q=>(hs.2 c ?_).trans q) (λ _ q=>q) λ _ _ q=>q;rintro rfl
  rcases hc with rfl|hc
  .rw[hfree] at e;cases e
  .rw[hfree] at hc;cases hc
 rcases hx with hk|hk
 .refine vB hk hn (λ h' hn' hs=>?_) hcls;obtain⟨oL,_,_,hoL,_⟩:=id hn;refine h _ ⟨I.ok,I.os,I.bare,⟨λ b o e n hb hx=>?_,λ b o e n hb hx=>?_,I.base.free,λ b o e hx=>?_,I.base.tups,I.base.frzs,I.base.tbls⟩,⟨_,hn',λ j y v' e1 e2 e3=>?_⟩,λ y c e=>?_,I.free,I.freeC,λ p hp=>?_,tracked ⟨oL,hoL,I.free⟩ hs,by simpa using I.len⟩ ⟨_,hs,.inl rfl⟩
  .exact(hs.2 b (bx (bQ (aP e) I.ok.above))).trans (I.base.keep b o e n hb hx)
  .obtain⟨sl,e1⟩:=I.base.slot b o e n hb hx;exact⟨sl,(hs.2 b (bx (bQ (aP e) I.ok.above))).trans e1⟩
  .obtain⟨o',e1⟩:=I.base.there b o e hx;exact⟨o',(hs.2 b (bx (bQ (aP e) I.ok.above))).trans e1⟩
  .by_cases hj:j=i
   .subst hj;rw[hi] at e1;cases e1;rw[gc hiσ] at e2;cases e2;exact⟨u,r,.inl ⟨hk,pv⟩⟩
   .rw[gh (cL hj)] at e2;obtain⟨u',r',q⟩:=hl j y v' e1 e2 e3;refine⟨u',r',?_⟩
    rcases q with ⟨k,e⟩|⟨k,c,e,z⟩
    .refine .inl ⟨k,?_⟩;have:y≠x:=λ e=>hj (vz hN e1 (e ▸ hi));simp[this,e]
    .exact .inr ⟨k,c,e,z.sameBut hs (cne y c e)⟩
  .obtain⟨w',z⟩:=I.cell y c e;exact⟨w',z.sameBut hs (cne y c e)⟩
  .obtain⟨e,n,ne,nf,d⟩:=I.pin p hp;exact⟨(hs.2 p.1 ne).trans e,n,ne,nf,d⟩
 .have hfn:X.fn x=QK:=by
   rcases hf with z|z
   .exact z
   .rw[z] at hk;cases hk
  obtain⟨c,hc⟩:=I.ok.has x (.inl hk);obtain⟨w',z⟩:=I.cell x c hc;refine s0j I.ok.kind hk hc z (λ h' hc' hs=>?_);obtain⟨oc,hoc,hocd⟩:=id z;refine h { s with heap:=h' } ⟨I.ok,I.os,I.bare,⟨λ b o e n hb hx=>?_,λ b o e n hb hx=>?_,I.base.free,λ b o e hx=>?_,I.base.tups,I.base.frzs,I.base.tbls⟩,⟨m,hn.sameBut hs (cL (cne x c hc)),λ j y v' e1 e2 e3=>?_⟩,λ y c' e=>?_,I.free,I.freeC,λ p hp=>?_,tracked ⟨oc,hoc,I.freeC x c hc⟩ hs,by simpa using I.len⟩ ⟨c,hs,.inr hc⟩
  .exact(hs.2 b (bx (bQ (aP e) (I.ok.cab x c hfn hc)))).trans (I.base.keep b o e n hb hx)
  .obtain⟨sl,e1⟩:=I.base.slot b o e n hb hx;exact⟨sl,(hs.2 b (bx (bQ (aP e) (I.ok.cab x c hfn hc)))).trans e1⟩
  .obtain⟨o',e1⟩:=I.base.there b o e hx;exact⟨o',(hs.2 b (bx (bQ (aP e) (I.ok.cab x c hfn hc)))).trans e1⟩
  .by_cases hj:j=i
   .subst hj;rw[hi] at e1;cases e1;rw[gc hiσ] at e2;cases e2;exact⟨u,r,.inr ⟨.inl hk,c,hc,hc'⟩⟩
   .rw[gh (cL hj)] at e2;obtain⟨u',r',q⟩:=hl j y v' e1 e2 e3;refine⟨u',r',?_⟩
    rcases q with q|⟨k,c',e,z'⟩
    .exact .inl q
    .refine .inr ⟨k,c',e,z'.sameBut hs ?_⟩;rintro rfl;exact hj (vz hN e1 (I.ok.inj _ _ _ e hc ▸ hi))
  .by_cases hcc:c'=c
   .subst hcc;exact⟨_,hc'⟩
   .obtain⟨w2,z2⟩:=I.cell y c' e;exact⟨w2,z2.sameBut hs hcc⟩
  .obtain⟨e,n,ne,nf,d⟩:=I.pin p hp;refine⟨(hs.2 p.1 ?_).trans e,n,ne,nf,d⟩;intro q;rw[q,hoc] at e;have q':oc=p.2:=bN e;exact d w' (by rw[<- q'];exact hocd)
theorem vC{i:Nat}{Q:Unit->QP->Prop}(I:Inv X Vu σ H s)(hN:X.N.Nodup)(hi:X.N[i]?=QJ x)(hx:Xi X.env.scope x)(r:RelV v u)
  (h:∀s',Inv X Vu (σ.set i (QJ v)) H s'->Q () s') (hf:autoParam (X.fn x=QK\/X.env.scope.names.lookup x=QJ .local) A1._auto_1):QS M A (Tj X.env x u) Q E s :=
 vA I hN hi hx r (λ s' I' _=>h s' I') hf
theorem Inv.call'{s':QP}(I:Inv X Vu σ H s)(ho:s'.os=s.os)(u:Un (WD X.stack) ch H H' s.heap s'.heap)(hok:HOk X.prog X.w H' s'.heap)(hg:Sg s'.gens)
  (hch:∀b∈ch,(b∈X.ex\/X.s₀.heap.objs.size<=b)/\b≠X.env.locals/\(∀x c,X.env.cells.lookup x=QJ c->c≠b)/\∀p∈X.pn++Vu,p.1≠b):Inv X Vu σ H' s':=by
 obtain⟨h',g',d',t',o'⟩:=s';have e:o'=s.os:=ho;subst e;exact I.call (g':=g') (t':=t') (d':=d') u hok hg hch
end
abbrev XK:=Value->OA->Hp->Prop
abbrev St:=List (Option V)
abbrev VK:=V->Hp->Prop
abbrev TE:=St->Hp->VK->Prop
abbrev TT:=St->Hp->(Bool->Hp->Prop)->Prop
abbrev TA:=St->Hp->(List V->Hp->Prop)->Prop
structure WP where
 nx:St->Hp->Prop
 rt:VK
 bk:St->Hp->Prop:=λ _ _=>False
 ct:St->Hp->Prop:=λ _ _=>False
abbrev TS:=WP->St->Hp->Prop
def EP(X:Cx)(Vu:LO)(σ:St)(Q:VK)(u:Value)(s':QP):Prop:=∃v H',Inv X Vu σ H' s'/\RelV v u/\Q v H'
def TP(X:Cx)(Vu:LO)(σ:St)(Q:Bool->Hp->Prop)(b:Bool)(s':QP):Prop:=∃H',Inv X Vu σ H' s'/\Q b H'
def AP(X:Cx)(Vu:LO)(σ:St)(Q:List V->Hp->Prop)(us:LV)(s':QP):Prop:=∃vs H',Inv X Vu σ H' s'/\Vals vs us/\Q vs H'
def SP(X:Cx)(Vu:LO)(D:WP)(f:Flow)(s':QP):Prop :=
 match f with
 |.next=>∃σ' H',Inv X Vu σ' H' s'/\D.nx σ' H'
 |.brk=>∃σ' H',Inv X Vu σ' H' s'/\D.bk σ' H'
 |.cont=>∃σ' H',Inv X Vu σ' H' s'/\D.ct σ' H'
 |.ret u=>∃v σ' H',Inv X Vu σ' H' s'/\RelV v u/\D.rt v H'
def PE(X:Cx)(e:Expr)(t:TE):Prop :=
 ∀(Vu:LO) (s:QP) (σ:St) (H:Hp) (Q:VK),Inv X Vu σ H s->t σ H Q->QS (QU X.prog X.w) X.A (eval e X.env) (EP X Vu σ Q) X.xe s
def PT(X:Cx)(e:Expr)(t:TT):Prop :=
 ∀(Vu:LO) (s:QP) (σ:St) (H:Hp) (Q:Bool->Hp->Prop),Inv X Vu σ H s->t σ H Q->QS (QU X.prog X.w) X.A (isTrue e X.env (eval e X.env)) (TP X Vu σ Q) X.xe s
def PW(X:Cx)(e:Expr)(t:TT):Prop :=
 ∀(whole:Sem Value) (Vu:LO) (s:QP) (σ:St) (H:Hp) (Q:Bool->Hp->Prop),Inv X Vu σ H s->t σ H Q->QS (QU X.prog X.w) X.A (isTrue e X.env whole) (TP X Vu σ Q) X.xe s
def PW.pt(h:PW X e t):PT X e t:=h _
def PA(X:Cx)(es:List Expr)(t:TA):Prop :=
 ∀(pos:Pos) (Vu:LO) (s:QP) (σ:St) (H:Hp) (Q:List V->Hp->Prop),Inv X Vu σ H s->t σ H Q->QS (QU X.prog X.w) X.A (spliced (RQ pos (Rf es X.env))) (AP X Vu σ Q) X.xe s
def PS(X:Cx)(st:Ra)(t:TS):Prop :=
 ∀(Vu:LO) (s:QP) (σ:St) (H:Hp) (D:WP),Inv X Vu σ H s->t D σ H->QS (QU X.prog X.w) X.A (exec st X.env) (SP X Vu D) X.xe s
def PSs(X:Cx)(st:List Ra)(t:TS):Prop :=
 ∀(Vu:LO) (s:QP) (σ:St) (H:Hp) (D:WP),Inv X Vu σ H s->t D σ H->QS (QU X.prog X.w) X.A (TH st X.env) (SP X Vu D) X.xe s
def VD{α:Type}{t:Sem α}{Q Q':α->QP->Prop}(h:QS M A t Q E s)(hQ:∀a s,Q a s->Q' a s):QS M A t Q' E s:=cU h hQ λ _ _ x=>x
section
theorem bin(ha:PE X a ta)(hb:PE X b tb){R:V->V->Hp->Prop}(I:Inv X Vu σ H s)(h:ta σ H λ x H1=>tb σ H1 λ y H2=>R x y H2)
  {α:Type}{Q:α->QP->Prop}{f:Value->Value->Sem α}
  (hf:∀v u s2 x y H2,Inv X Vu σ H2 s2->RelV x v->RelV y u->R x y H2->QS (QU X.prog X.w) X.A (f v u) Q X.xe s2) :
  QS (QU X.prog X.w) X.A (eval a X.env) (λ v s₁=>QS (QU X.prog X.w) X.A (eval b X.env) (λ u s₂=>QS (QU X.prog X.w) X.A (f v u) Q X.xe s₂) X.xe s₁) X.xe s:=by
 refine VD (ha Vu s σ H _ I h) λ v s1 ⟨x,H1,I1,r1,q1⟩=>?_;refine VD (hb Vu s1 σ H1 _ I1 q1) λ u s2 ⟨y,H2,I2,r2,q2⟩=>?_;exact hf v u s2 x y H2 I2 r1 r2 q2
def isB(x:V)(P:Bool->Prop):Prop:=match x with|.bl k=>P k|_=>False
def isI(x:V)(P:Int->Prop):Prop:=match x with|.int k=>P k|_=>False
def rn(x y:V)(P:Int->Int->Prop):Prop:=match x,y with|.int i,.int j=>P i j|_,_=>False
def kI(h:isB x P):∃k,x=.bl k/\P k:=by cases x<;>first|exact⟨_,rfl,h⟩|exact h.elim
def CU(h:isI x P):∃k,x=.int k/\P k:=by cases x<;>first|exact⟨_,rfl,h⟩|exact h.elim
def rB(h:rn x y P):∃i j,x=.int i/\y=.int j/\P i j:=by cases x<;>cases y<;>first|exact⟨_,_,rfl,rfl,h⟩|exact h.elim
def cZ(i:Nat):TE:=λ σ H Q=>match σ[i]? with|some (QJ v)=>Q v H|_=>False
set_option tactic.hygienic true in
def CV(h:cZ i σ H Q):∃v,σ[i]?=QJ (QJ v)/\Q v H:=by
 unfold cZ at h;split at h
 .rename_i v e;exact⟨v,e,h⟩
 .exact h.elim
def tC(v:V):TE:=λ _ H Q=>Q v H
def iR{i:Nat}(hN:X.N[i]?=QJ x)(hv:Yh X.env.scope x)(hd:autoParam ((x == ("__debug__" : Str))=QL) on._auto_1)(hcd:autoParam ((x == ("__classdict__" : Str))=QL) on._auto_1):PE X (.Name x pos) (cZ i):=by
 intro Vu s σ H Q I h;obtain⟨v,e,h⟩:=CV h;obtain⟨m,hn,hl⟩:=I.loc;obtain⟨u,r,l⟩:=hl i x v hN e hv;have fin:EP X Vu σ Q u s:=⟨v,H,I,r,h⟩
 rcases l with ⟨hk,hm⟩|⟨hk,c,hc,hcell⟩
 .exact Uw (wpAny_loadName_local I.ok.kind hk hn hm fin) hd
 .rcases hk with hk|hk
  .exact Uw (wpAny_loadName_cell I.ok.kind hk hc hcell fin) hd
  .exact Uw (wpAny_loadName_free I.ok.kind hk hc hcell fin hcd) hd
def pe_int{i j pos}:PE X (.Constant (.int i) j pos) (tC (.int i)):=λ _ _ _ H _ I h=>wpAny_Constant_int ⟨.int i,H,I.tok _,⟨_,rfl⟩,h⟩
def pe_bl{b j pos}:PE X (.Constant (.bool b) j pos) (tC (.bl b)):=λ _ _ _ H _ I h=>Constant_bool ⟨.bl b,H,I,rfl,h⟩
def pe_non{j pos}:PE X (.Constant .none j pos) (tC .non):=λ _ _ _ H _ I h=>Constant_none ⟨.non,H,I,rfl,h⟩
def pe_str{x j pos}:PE X (.Constant (.str x) j pos) (tC (.str x)):=λ _ _ _ H _ I h=>Calls.Constant_str ⟨.str x,H,I.tok _,⟨_,rfl⟩,h⟩
def Gl(X:Cx)(x:Str):Prop:=X.env.kindOf x=QJ .globalImplicit
theorem oF{Q:VS}(I:Inv X Vu σ H s)(hg:Gl X x)(hm:X.mg x=QJ u)(h:Q u s)
  (hd:autoParam ((x == ("__debug__" : Str))=QL) on._auto_1):QS (QU X.prog X.w) X.A (eval (.Name x pos) X.env) Q E s :=
 vD I.ok.kind hg (Calls.loadGlobal_global (by rw[I.ok.glob];exact I.mod.glob.keeps I.bk) hm h) hd
theorem eK{Q:VS}(I:Inv X Vu σ H s)(hg:Gl X x)(hm:X.mg x=QM)(hv:RW x=QJ u)(h:Q u s)
  (hn:x ≠ "__name__" := by decide) (hd:autoParam ((x == ("__debug__" : Str))=QL) on._auto_1):QS (QU X.prog X.w) X.A (eval (.Name x pos) X.env) Q E s:=by
 obtain⟨mb,h1,h2⟩:=I.mod.blt;exact vD I.ok.kind hg (Calls.loadGlobal_builtin (by rw[I.ok.glob];exact I.mod.glob.keeps I.bk) hm (by rw[I.ok.blt];exact h1.keeps I.bk) ((h2 x hn).trans hv) h) hd
def CW(hg:Gl X x)(hm:X.mg x=QJ u)(r:RelV v u)(hd:autoParam ((x == ("__debug__" : Str))=QL) on._auto_1):PE X (.Name x pos) (tC v) :=
 λ _ _ _ H _ I h=>oF I hg hm ⟨v,H,I,r,h⟩ hd
variable {a b:Expr}{ta tb:TE}{pos:Pos}
def tB(t:TE):TT:=λ σ H Q=>t σ H λ x H1=>isB x λ c=>Q c H1
def CY(h:PE X e t)(he:autoParam (∀whole,isTrue e X.env whole=(do let v <- whole;Tp e.pos;RX [v] (truthy v))) A4._auto_1):PT X e (tB t):=by
 intro Vu s σ H Q I hw;refine isTrue_plain (VD (h Vu s σ H _ I hw) λ v s1 ⟨x,H1,I1,r1,q1⟩=>?_) (he _);obtain⟨d,rfl,q⟩:=kI q1;cases r1;exact gI ⟨H1,I1,q⟩
variable {tA tB':TT}{Vz:List Expr}
def CZ(t u:TT):TT:=λ σ H Q=>t σ H λ c H1=>if c=QK then u σ H1 Q else Q QL H1
def tOr(t u:TT):TT:=λ σ H Q=>t σ H λ c H1=>if c=QK then Q QK H1 else u σ H1 Q
def Da(t:TT):TT:=λ σ H Q=>t σ H λ c H1=>Q (!c) H1
def Db(ha:PT X a tA):PW X (.BoolOp .And [a] pos) tA:=by
 intro wh Vu s σ H Q I h;refine isTrue_and (VD (ha Vu s σ H Q I h) λ c s1 e=>?_)
 cases c with
 |true=>exact isTrue_and_nil e
 |false=>exact e
def Dc(ha:PT X a tA):PW X (.BoolOp .Or [a] pos) tA:=by
 intro wh Vu s σ H Q I h;refine isTrue_or (VD (ha Vu s σ H Q I h) λ c s1 e=>?_)
 cases c with
 |false=>exact isTrue_or_nil e
 |true=>exact e
def Dd(ha:PT X a tA)(hb:PW X (.BoolOp .And (b::Vz) pos) tB'):PW X (.BoolOp .And (a::b::Vz) pos) (CZ tA tB'):=by
 intro wh Vu s σ H Q I h;refine isTrue_and (VD (ha Vu s σ H _ I h) λ c s1 ⟨H1,I1,q1⟩=>?_)
 cases c with
 |true=>exact hb wh Vu s1 σ H1 Q I1 q1
 |false=>exact⟨H1,I1,q1⟩
def De(ha:PT X a tA)(hb:PW X (.BoolOp .Or (b::Vz) pos) tB'):PW X (.BoolOp .Or (a::b::Vz) pos) (tOr tA tB'):=by
 intro wh Vu s σ H Q I h;refine isTrue_or (VD (ha Vu s σ H _ I h) λ c s1 ⟨H1,I1,q1⟩=>?_)
 cases c with
 |true=>exact⟨H1,I1,q1⟩
 |false=>exact hb wh Vu s1 σ H1 Q I1 q1
def Df(ha:PT X a tA):PT X (.UnaryOp .Not a pos) (Da tA):=by
 intro Vu s σ H Q I h;exact isTrue_not (ha Vu s σ H (λ c H1=>Q (!c) H1) I h)
def Dg(ta tb:TE):TE:=λ σ H Q=>ta σ H λ x H1=>isB x λ c=>if c=QK then tb σ H1 Q else Q (.bl QL) H1
def Dh(ta tb:TE):TE:=λ σ H Q=>ta σ H λ x H1=>isB x λ c=>if c=QK then Q (.bl QK) H1 else tb σ H1 Q
def Di(ta:TE):TE:=λ σ H Q=>ta σ H λ x H1=>∃c,x=.bl c/\Q (.bl (!c)) H1
def vE{op}(h:PE X a t):PE X (.BoolOp op [a] pos) t:=λ Vu s σ H Q I hw=>BoolOp_one (h Vu s σ H Q I hw)
def Dj(ha:PE X a ta)(hb:PE X (.BoolOp .And (b::Vz) pos) tb):PE X (.BoolOp .And (a::b::Vz) pos) (Dg ta tb):=by
 intro Vu s σ H Q I h;refine BoolOp_and (VD (ha Vu s σ H _ I h) λ v s1 ⟨x,H1,I1,r1,q1⟩=>?_);obtain⟨c,rfl,q1⟩:=kI q1;cases r1;refine gI ?_
 cases c with
 |true=>exact hb Vu s1 σ H1 Q I1 q1
 |false=>exact⟨.bl QL,H1,I1,rfl,q1⟩
def Dk(ha:PE X a ta)(hb:PE X (.BoolOp .Or (b::Vz) pos) tb):PE X (.BoolOp .Or (a::b::Vz) pos) (Dh ta tb):=by
 intro Vu s σ H Q I h;refine BoolOp_or (VD (ha Vu s σ H _ I h) λ v s1 ⟨x,H1,I1,r1,q1⟩=>?_);obtain⟨c,rfl,q1⟩:=kI q1;cases r1;refine gI ?_
 cases c with
 |false=>exact hb Vu s1 σ H1 Q I1 q1
 |true=>exact⟨.bl QK,H1,I1,rfl,q1⟩
def Dl(ha:PE X a ta):PE X (.UnaryOp .Not a pos) (Di ta):=by
 intro Vu s σ H Q I h;refine UnaryOp_ (VD (ha Vu s σ H _ I h) λ v s1 ⟨x,H1,I1,r1,q1⟩=>?_);obtain⟨c,rfl,q1⟩:=q1;cases r1;exact not_of (gI ⟨.bl (!c),H1,I1,O,q1⟩)
def tIf(t:TT)(ta tb:TE):TE:=λ σ H Q=>t σ H λ c H1=>if c=QK then ta σ H1 Q else tb σ H1 Q
def Dm(hc:PT X c tA)(ha:PE X a ta)(hb:PE X b tb):PE X (.IfExp c a b pos) (tIf tA ta tb):=by
 intro Vu s σ H Q I h;refine wpAny_IfExp (VD (hc Vu s σ H _ I h) λ d s1 ⟨H1,I1,q1⟩=>?_)
 cases d with
 |true=>exact ha Vu s1 σ H1 Q I1 q1
 |false=>exact hb Vu s1 σ H1 Q I1 q1
end
def SqL(K:FG)(H:Hp)(a:QO)(xs:List V):Prop :=
 Rd H a (.lst xs) \/
  ∃(o:Obj) (its:Array Value) (n:Nat),K.lookup a=QJ o/\o.cls=.type "list" /\ o.dict=QM/\o.data=.seq its n/\its.size<=QR/\Vals xs its.toList
def SqT(K:FG)(H:Hp)(a:QO)(xs:List V):Prop :=
 Rd H a (.tup xs) \/
  ∃(o:Obj) (its:Array Value) (n:Nat),K.lookup a=QJ o/\o.cls=.type "tuple" /\ o.dict=QM/\o.data=.seq its n/\its.size<=QR/\Vals xs its.toList
noncomputable def Dn:Value->Option V
 |.none=>QJ .non
 |.bool b=>QJ (.bl b)
 |.int i _=>QJ (.int i)
 |.str x _=>QJ (.str x)
 |.bytes b _=>QJ (.byt b)
 |.float b _=>QJ (.flt b)
 |.ref a=>QJ (.ref a)
 |.type n=>QJ (.ty n)
 |_=>QM
def RelV.abs(r:RelV x u):Dn u=QJ x:=by
 cases x with
 |non|bl _|ref _|ty _=>cases r;rfl
 |int _|str _|byt _|flt _=>obtain⟨t,rfl⟩:=r;rfl
def RelV.inj(r:RelV x u)(q:RelV y u):x=y:=bN (r.abs.symm.trans q.abs)
theorem Vals.inj:∀ {xs ys:List V}{us:LV},Vals xs us->Vals ys us->xs=ys
 |_,_,_,.nil,.nil=>rfl
 |_,_,_,.cons r t,.cons r' t'=>by rw[r.inj r',Vals.inj t t']
section
variable {Vu:LO}{σ:St}{H:Hp}{s:QP}{a:QO}{xs ys:List V}
def SqL.of{K:FG}(h:H a=QJ (.lst xs)):SqL K H a xs:=.inl (.inl h)
def SqT.of{K:FG}(h:H a=QJ (.tup xs)):SqT K H a xs:=.inl (.inl h)
def Inv.list(I:Inv X Vu σ H s)(h:SqL X.K H a xs):∃its:LV,Vals xs its/\PlainL s.heap a its.toArray/\xs.length<=QR:=by
 rcases h with h|⟨o,its,n,hk,hc,hd,hs,hz,r⟩
 .obtain⟨z,its,n,r,e⟩:=h.ok I.hok;exact⟨its,r,⟨_,n,e,O,O,O⟩,z⟩
 .refine⟨its.toList,r,⟨o,n,I.kIn a o hk,hc,hd,by simpa using hs⟩,?_⟩;have e:=r.length;simp only[Rt] at e;lia
def Inv.tuple(I:Inv X Vu σ H s)(h:SqT X.K H a xs):∃its:LV,Vals xs its/\SL s.heap a its.toArray/\xs.length<=QR:=by
 rcases h with h|⟨o,its,n,hk,hc,_,hs,hz,r⟩
 .obtain⟨z,its,r,p⟩:=h.ok I.hok;exact⟨its,r,p.tup,z⟩
 .refine⟨its.toList,r,⟨o,I.kIn a o hk,hc,n,by simpa using hs⟩,?_⟩;have e:=r.length;simp only[Rt] at e;lia
def Inv.list_inj(I:Inv X Vu σ H s)(h:SqL X.K H a xs)(h':SqL X.K H a ys):xs=ys:=by
 obtain⟨its,r,⟨o,n,e,_,_,d⟩,_⟩:=I.list h;obtain⟨its',r',⟨o',n',e',_,_,d'⟩,_⟩:=I.list h';rw[e] at e';cases e';rw[d] at d'
 injection d' with d1 _
 have:its=its':=by simpa using bO Tc d1
 subst this;exact r.inj r'
def Inv.tuple_inj(I:Inv X Vu σ H s)(h:SqT X.K H a xs)(h':SqT X.K H a ys):xs=ys:=by
 obtain⟨its,r,⟨o,e,_,n,d⟩,_⟩:=I.tuple h;obtain⟨its',r',⟨o',e',_,n',d'⟩,_⟩:=I.tuple h';rw[e] at e';cases e';rw[d] at d'
 injection d' with d1 _
 have:its=its':=by simpa using bO Tc d1
 subst this;exact r.inj r'
end
noncomputable abbrev Cx.wish(X:Cx)(E:VS):Cx:={ X with xe:=E }
abbrev Cx.nox(X:Cx):Cx:=X.wish λ _ _=>False
def Cx.Ok.wish{X:Cx}(ok:X.Ok)(E:VS):(X.wish E).Ok :=
 ⟨ok.mod,ok.kind,ok.glob,ok.blt,ok.above,ok.inj,ok.has,ok.cab,ok.hd,ok.frames,ok.stk,ok.exf,ok.bs,ok.bsz,ok.noex,ok.exfs,ok.funs,ok.frf⟩
def Cx.Ok.unwish{X:Cx}(ok:(X.wish E).Ok):X.Ok :=
 ⟨ok.mod,ok.kind,ok.glob,ok.blt,ok.above,ok.inj,ok.has,ok.cab,ok.hd,ok.frames,ok.stk,ok.exf,ok.bs,ok.bsz,ok.noex,ok.exfs,ok.funs,ok.frf⟩
section
variable {Vu:LO}{σ:St}{H:Hp}{s:QP}{E:VS}
def Inv.wish(I:Inv X Vu σ H s)(E:VS):Inv (X.wish E) Vu σ H s:=⟨I.ok.wish E,I.os,I.bare,I.base,I.loc,I.cell,I.free,I.freeC,I.pin,I.hok,I.len⟩
def Inv.unwish(I:Inv (X.wish E) Vu σ H s):Inv X Vu σ H s:=⟨I.ok.unwish,I.os,I.bare,I.base,I.loc,I.cell,I.free,I.freeC,I.pin,I.hok,I.len⟩
def SP.unwish(h:SP (X.wish E) Vu D f s'):SP X Vu D f s':=by
 cases f with
 |next|brk|cont=>obtain⟨σ',H',I,q⟩:=h;exact⟨σ',H',I.unwish,q⟩
 |ret u=>obtain⟨v,σ',H',I,r,q⟩:=h;exact⟨v,σ',H',I.unwish,r,q⟩
def PSs.nox{st:List Ra}(h:PSs X.nox st t):PSs X st t:=λ Vu s σ H D I hw=>
 cU (h Vu s σ H D (I.wish _) hw) (λ _ _ q=>q.unwish) λ _ _ z=>RA z
end
section
variable {st:Ra}{Vz:List Ra}{t u:TS}{e:Expr}{te:TE}{pos:Pos}
def Do:TS:=λ D σ H=>D.nx σ H
def vF(t u:TS):TS:=λ D σ H=>t { D with nx:=u D } σ H
def pss_nil:PSs X [] Do:=λ _ _ σ H _ I h=>oG ⟨σ,H,I,h⟩
def eN(h1:PS X st t)(h2:PSs X Vz u):PSs X (st::Vz) (vF t u):=by
 intro Vu s σ H D I h;refine Ug (VD (h1 Vu s σ H { D with nx:=u D } I h) λ f s1 q=>?_)
 cases f with
 |next=>
  obtain⟨σ',H',I',q⟩:=q;exact h2 Vu s1 σ' H' D I' q
 |ret v|brk|cont=>exact q
def Dp(h1:PS X st t):PSs X [st] t:=by
 intro Vu s σ H D I h;refine Ug (VD (h1 Vu s σ H D I h) λ f s1 q=>?_)
 cases f with
 |next=>exact oG q
 |ret v|brk|cont=>exact q
def Inv.quiet(I:Inv X Vu σ H s):interactive X.env=QL:=by simp[interactive,I.ok.kind]
def Dq(te:TE):TS:=λ D σ H=>te σ H λ _ H1=>D.nx σ H1
def oH(he:PE X e te)(hs:autoParam (Sy e QM pos.line X.env=Rj QL) A8._auto_1):PS X (.Expr e pos) (Dq te):=by
 intro Vu s σ H D I h;exact wpAny_Expr_any (VD (he Vu s σ H _ I h) λ v s1 ⟨x,H1,I1,r1,q1⟩=>⟨σ,H1,I1,q1⟩) I.quiet hs
def Dr(te:TE):TS:=λ D σ H=>te σ H D.rt
def vG(he:PE X e te):PS X (.Return (QJ e) pos) (Dr te):=by
 intro Vu s σ H D I h;exact wpAny_Return_some (VD (he Vu s σ H _ I h) λ v s1 ⟨x,H1,I1,r1,q1⟩=>⟨x,σ,H1,I1,r1,q1⟩)
def Ds(c:TT)(t u:TS):TS:=λ D σ H=>c σ H λ b H1=>if b=QK then t D σ H1 else u D σ H1
def vH(hc:PT X c tc)(ha:PSs X a t)(hb:PSs X b u):PS X (.If c a b pos) (Ds tc t u):=by
 intro Vu s σ H D I h;refine wpAny_If (VD (hc Vu s σ H _ I h) λ d s1 ⟨H1,I1,q1⟩=>?_)
 cases d with
 |true=>exact ha Vu s1 σ H1 D I1 q1
 |false=>exact hb Vu s1 σ H1 D I1 q1
def Dt:TS:=λ _ _ _=>False
def pss_never:PSs X sts Dt:=λ _ _ _ _ _ _ h=>h.elim
end
abbrev TG:=V->St->Hp->(St->Hp->Prop)->Prop
abbrev Yi:=List V->St->Hp->(St->Hp->Prop)->Prop
def PG(X:Cx)(target:Expr)(t:TG):Prop :=
 ∀(Vu:LO) (s:QP) (σ:St) (H:Hp) (v:V) (u:Value) (Q:St->Hp->Prop),Inv X Vu σ H s->RelV v u->t v σ H Q ->
  QS (QU X.prog X.w) X.A (SB target X.env u) (λ _ s'=>∃σ' H',Inv X Vu σ' H' s'/\Q σ' H') X.xe s
def YA(X:Cx)(ts:List Expr)(t:Yi):Prop :=
 ∀(Vu:LO) (s:QP) (σ:St) (H:Hp) (vs:List V) (us:LV) (Q:St->Hp->Prop),Inv X Vu σ H s->Vals vs us->t vs σ H Q ->
  QS (QU X.prog X.w) X.A (assignInOrder ((SC ts X.env).map (·.2)) us) (λ _ s'=>∃σ' H',Inv X Vu σ' H' s'/\Q σ' H') X.xe s
abbrev vI:=V->V->V->Hp->(Hp->Prop)->Prop
def vJ(X:Cx)(t:vI):Prop :=
 ∀(Vu:LO) (s:QP) (σ:St) (H:Hp) (o i v:V) (ov iv u:Value) (Q:Hp->Prop),Inv X Vu σ H s->RelV o ov->RelV i iv->RelV v u->t o i v H Q ->
  QS (QU X.prog X.w) X.A (setItem ov iv u) (λ _ s'=>∃H',Inv X Vu σ H' s'/\Q H') X.xe s
section
variable {pos:Pos}
def dz(i:Nat):TG:=λ v σ H Q=>Q (σ.set i (QJ v)) H
def vK{i:Nat}(hN:X.N.Nodup)(hi:X.N[i]?=QJ x)(hx:Xi X.env.scope x)(hf:autoParam (X.fn x=QK\/X.env.scope.names.lookup x=QJ .local) A1._auto_1):PG X (.Name x pos) (dz i):=by
 intro Vu s σ H v u Q I r h;exact wpAny_assign_Name (vC I hN hi hx r (λ s' I'=>⟨_,H,I',h⟩) hf)
def oJ:Yi:=λ vs σ H Q=>vs=[]/\Q σ H
def gJ(t:TG)(u:Yi):Yi:=λ vs σ H Q=>∃v r,vs=v::r/\t v σ H λ σ' H'=>u r σ' H' Q
def rC:YA X [] oJ:=by
 intro Vu s σ H vs us Q I r h;obtain⟨e,h⟩:=h;subst e;cases r;exact assignInOrder_nil ⟨σ,H,I,h⟩
theorem ig(h1:PG X e t)(h2:YA X es u)
  (hs:autoParam ((SC (e::es) X.env).map (·.2)=SB e X.env::(SC es X.env).map (·.2)) A8._auto_1):YA X (e::es) (gJ t u):=by
 intro Vu s σ H vs us Q I r h;obtain⟨v,vr,e1,h⟩:=h;subst e1
 cases r with
 |cons r rr=>
  rw[hs];refine assignInOrder_cons (VD (h1 Vu s σ H _ _ _ I r h) λ _ s1 ⟨σ1,H1,I1,q1⟩=>?_);exact h2 Vu s1 σ1 H1 _ _ Q I1 rr q1
def oK(K:FG)(n:Nat)(t:Yi):TG:=λ v σ H Q=>∃a xs,v=.ref a/\SqT K H a xs/\xs.length=n/\t xs σ H Q
theorem rD{n:Nat}(hc:X.calm=QK)(h:YA X es t)
  (hn:autoParam ((SC es X.env).length=n) A8._auto_1) (hst:autoParam ((SC es X.env).findIdx? (·.1)=QM) A8._auto_1):PG X (.Tuple es k pos) (oK X.K n t):=by
 intro Vu s σ H v u Q I r hw;obtain⟨a,xs,e1,hq,hl,hw⟩:=hw;subst e1;cases r;obtain⟨its,rv,ht,hz⟩:=I.tuple hq;refine assign_Tuple_tuple (I.ok.hd hc) ht (by simp[hn,<- hl,rv.length]) hst λ h' hx=>?_;have I1:Inv X Vu σ H { s with heap:=h' }:=I.kept (t':=s.toks) λ b o e=>hx b o (bx (aP e)) e;exact h Vu _ σ H xs _ Q I1 (by simpa using rv) hw
def Du(to ti:TE)(t:vI):TG:=λ v σ H Q=>to σ H λ o H1=>ti σ H1 λ i H2=>t o i v H2 λ H3=>Q σ H3
theorem Dv(ho:PE X o to)(hi:PE X i ti)(hs:vJ X t)
  (ha:∀v,SB (.Subscript o i pos) X.env v=(do
   let ov <- RX [v] (eval o X.env)
   let iv <- RX [v,ov] (eval i X.env)
   Tp pos
   RX [v,ov,iv] (setItem ov iv v)
   release [v,ov,iv] []):=by intro _;rfl):PG X (.Subscript o i pos) (Du to ti t):=by
 intro Vu s σ H v u Q I r h;rw[ha];refine ae (fE (VD (ho Vu s σ H _ I h) λ ov s1 ⟨x,H1,I1,r1,q1⟩=>?_));refine ae (fE (VD (hi Vu s1 σ H1 _ I1 q1) λ iv s2 ⟨y,H2,I2,r2,q2⟩=>?_));refine ae (mB (ae (fE (VD (hs Vu s2 σ H2 x y v ov iv u _ I2 r1 r2 r q2) λ _ s3 ⟨H3,I3,q3⟩=>?_))));exact wpAny_release ⟨σ,H3,I3,q3⟩
def kJ(te:TE)(g:TG):TS:=λ D σ H=>te σ H λ x H1=>g x σ H1 D.nx
theorem vL(he:PE X e te)(hg:PG X tg g)(hs:autoParam (Tx [tg] e pos.line X.env=Rj QL) A8._auto_1)(hw:autoParam (Tw [tg] e X.env=Rj QM) A8._auto_1)
  (h1:autoParam ((SC [tg] X.env).map (·.2)=[SB tg X.env]) A8._auto_1):PS X (.Assign [tg] e pos) (kJ te g):=by
 intro Vu s σ H D I h;refine wpAny_Assign_stores (VD (he Vu s σ H _ I h) λ v s1 ⟨x,H1,I1,r1,q1⟩=>?_) hs hw;rw[h1];exact VD (hg Vu s1 σ H1 x v _ I1 r1 q1) λ _ s2 q=>q
theorem vM{i:Nat}(hN:X.N.Nodup)(hi:X.N[i]?=QJ x)(hx:Xi X.env.scope x)(he:PE X e te)(hs:autoParam (Sy e (QJ (.Name x pos')) pos.line X.env=Rj QL) A8._auto_1)(hf:autoParam (X.fn x=QK\/X.env.scope.names.lookup x=QJ .local) A1._auto_1) :
  PS X (.Assign [.Name x pos'] e pos) (kJ te (dz i)):=by
 intro Vu s σ H D I h;refine wpAny_Assign_Name (VD (he Vu s σ H _ I h) λ v s1 ⟨y,H1,I1,r1,q1⟩=>?_) hs;exact vC I1 hN hi hx r1 (λ s2 I2=>⟨_,H1,I2,q1⟩) hf
end
section
variable {pos:Pos}
end
structure It where
 go:Nat->Hp->Prop
 yld:Nat->Hp->V->Hp->Prop
 stop:Nat->Hp->Prop
def iS(X:Cx)(Vu:LO)(H:Hp)(b:QO):Prop :=
 H b=QM/\b≠X.env.locals/\b ∉ X.fs/\(b∈X.ex\/X.s₀.heap.objs.size<=b)/\(∀x c,X.env.cells.lookup x=QJ c->c≠b)/\∀p∈X.pn++Vu,p.1≠b
def Inv.fpOk{H H':Hp}{b:QO}(I:Inv X Vu σ H s)(hb:s.heap.objs.size<=b)(hn:H' b=QM):iS X Vu H' b:=by
 refine⟨hn,s1q (bQ I.lt hb),I.nofs hb,.inr (cY I.sz hb),λ x c e z=>?_,λ p hp z=>?_⟩
 .obtain⟨v,q⟩:=I.cell x c e;exact m8 (bQ q.lt (by rw[z];exact hb)) (dY _)
 .exact m8 (bQ (aP (I.pin p hp).1) (by rw[z];exact hb)) (dY _)
structure WG (P:QX)(w:QY)(K:FG)(tg:Expr)(J:It)(fp:List QO)(it:QO)(tn:Nat->Re->Prop):Prop where
 mem:it∈fp
 obj:∀i h,tn i h->∀b∈fp,∃o,h.get? b=QJ o/\∀v,o.data≠.cell v
 keep:∀i h h',tn i h->(∀b∈fp,∀o,h.get? b=QJ o->h'.get? b=QJ o)->tn i h'
 item:∀(X:Cx),X.prog=P->X.w=w->X.K=K->X.calm=QK->∀(i:Nat) (Vu:LO) (s:QP) (σ:St) (H:Hp) (E:VS),Inv X Vu σ H s->(∀b∈fp,iS X Vu H b)->tn i s.heap->J.go i H ->
  QS (QU P w) X.A (RI (.ref it)) (λ r s1=>∃u,r=QJ u /\
   QS (QU P w) X.A (RS tg (.ref it) u) (λ _ s2=>∃x H',Inv X Vu σ H' s2/\RelV x u/\J.yld i H x H'/\tn (i+1) s2.heap/\∀b∈fp,H' b=QM) E s1) E s
 done:∀(X:Cx),X.prog=P->X.w=w->X.K=K->X.calm=QK->∀(i:Nat) (Vu:LO) (s:QP) (σ:St) (H:Hp) (E:VS),Inv X Vu σ H s->(∀b∈fp,iS X Vu H b)->tn i s.heap->J.stop i H ->
  QS (QU P w) X.A (RI (.ref it)) (λ r s1=>r=QM/\Inv X Vu σ H s1) E s
 self:∀(A:QZ) (i:Nat) (s:QP) (Q:VS) (E:VS),tn i s.heap->Q (.ref it) s->QS (QU P w) A (Ut (.ref it)) Q E s
abbrev TI:=St->Hp->(It->Hp->Prop)->Prop
def ZB(X:Cx)(Vu:LO)(σ:St)(tg:Expr)(R:It->Hp->Prop)(itv:Value)(s2:QP):Prop :=
 ∃(it:QO) (fp:List QO) (tn:Nat->Re->Prop) (J:It) (H':Hp),itv=.ref it/\Inv X Vu σ H' s2/\WG X.prog X.w X.K tg J fp it tn/\tn 0 s2.heap/\(∀b∈fp,iS X Vu H' b)/\R J H'
def PI(X:Cx)(tg iter:Expr)(wi:TI):Prop :=
 ∀(Vu:LO) (s:QP) (σ:St) (H:Hp) (R:It->Hp->Prop),Inv X Vu σ H s->wi σ H R ->
  QS (QU X.prog X.w) X.A (eval iter X.env) (λ v s1=>QS (QU X.prog X.w) X.A (Ut v) (ZB X Vu σ tg R) X.xe s1) X.xe s
theorem mC{s:QP}{it:QO}{vs:Array Value}{Q:Unit->QP->Prop}(ho:s.heap.get? it=QJ o)(hc:o.cls=.type n)(hd:o.data=.fields vs)
    (hn:["enumerate","zip","dict_itemiterator","dict_reverseitemiterator","odict_iterator","itertools.zip_longest","itertools.pairwise"].contains n=QL) (hQ:Q () s):QS M A (RS tg (.ref it) u) Q E s:=by
  unfold RS
  cases tg<;>first
    |exact ay hQ
    | (cases u<;>first
        |exact ay hQ
        | (refine ae (s1p ho ?_)
           rw[hc,hd];show QS M A (if (["enumerate","zip","dict_itemiterator","dict_reverseitemiterator","odict_iterator","itertools.zip_longest","itertools.pairwise"].contains n&&vs[0]? == QJ (Ro _))=QK then _ else _) Q E s;rw[k9 (by intro h;rw[hn,oM] at h;cases h)]
           exact ay hQ))
noncomputable def YW(K:FG)(a:QO):It :=
 ⟨λ i H=>∃xs x,SqL K H a xs/\xs[i]?=QJ x,λ i H x H'=>H'=H/\∀xs,SqL K H a xs->xs[i]?=QJ x,λ i H=>∃xs,SqL K H a xs/\xs.length<=i⟩
noncomputable def YX(K:FG)(a:QO):It :=
 ⟨λ i H=>∃xs x,SqT K H a xs/\xs[i]?=QJ x,λ i H x H'=>H'=H/\∀xs,SqT K H a xs->xs[i]?=QJ x,λ i H=>∃xs,SqT K H a xs/\xs.length<=i⟩
noncomputable def YB(lo:Int)(n:Nat):It:=⟨λ i _=>i<n,λ i H x H'=>H'=H/\x=.int (lo+i),λ i _=>n<=i⟩
theorem Dw{K:FG}(a it:QO):WG P w K tg (YW K a) [it] it (λ i h=>h.IsListIter it a i) where
 mem:=pv
 obj:=λ i h st b hb=>by
  have e:b=it:=by simpa using hb
  subst e;obtain⟨o,e,c,d⟩:=st;exact⟨o,e,λ v z=>by rw[d] at z;cases z⟩
 keep:=λ i h h' st k=>st.at λ o e=>k it pv o e
 item:=by
  intro X hP hw hK hc i Vu s σ H E I hf st hg;subst hP hw hK;obtain⟨xs,x,hq,hx⟩:=hg;obtain⟨its,rv,p,hz⟩:=I.list hq;obtain⟨u,hu,ru⟩:=rv.get hx;obtain⟨f0,f1,f2,f3,f4,f5⟩:=hf it pv;refine wpAny_pyNext_list_item st p.isList (x:=u) (by simpa using hu) λ h' st' sb=>?_;have I1:Inv X Vu σ H { s with heap:=h' }:=I.turned (t':=s.toks) (λ b o hb e=>(sb.2 b hb).trans e) f0 f1 f3 f4 f5;obtain⟨o,e,c,d⟩:=id st';exact⟨u,O,mC (s:={ s with heap:=h' }) e c d on ⟨x,H,I1,ru,⟨O,λ ys hy=>by rw[I.list_inj hy hq];exact hx⟩,st',λ b hb=>(hf b hb).1⟩⟩
 done:=by
  intro X hP hw hK hc i Vu s σ H E I hf st hg;subst hP hw hK;obtain⟨xs,hq,hx⟩:=hg;obtain⟨its,rv,p,hz⟩:=I.list hq;obtain⟨f0,f1,f2,f3,f4,f5⟩:=hf it pv;have hl:=rv.length;exact wpAny_pyNext_list_end (I.ok.hd hc) st p.isList (by simp;lia) λ h' eb=>⟨O,I.turned (t':=s.toks) (λ b o hb e=>eb b o hb e) f0 f1 f3 f4 f5⟩
 self:=λ _ _ _ _ _ st h=>wpAny_pyIter_listiter st h
theorem Dx{K:FG}(a it:QO):WG P w K tg (YX K a) [it] it (λ i h=>h.IsTupleIter it a i) where
 mem:=pv
 obj:=λ i h st b hb=>by
  have e:b=it:=by simpa using hb
  subst e;obtain⟨o,e,c,d⟩:=st;exact⟨o,e,λ v z=>by rw[d] at z;cases z⟩
 keep:=λ i h h' st k=>st.at λ o e=>k it pv o e
 item:=by
  intro X hP hw hK hc i Vu s σ H E I hf st hg;subst hP hw hK;obtain⟨xs,x,hq,hx⟩:=hg;obtain⟨its,rv,p,hz⟩:=I.tuple hq;obtain⟨u,hu,ru⟩:=rv.get hx;obtain⟨f0,f1,f2,f3,f4,f5⟩:=hf it pv;refine wpAny_pyNext_tuple_item st (show s.heap.IsTuple a its.toArray from p) (x:=u) (by simpa using hu) λ h' st' sb=>?_;have I1:Inv X Vu σ H { s with heap:=h' }:=I.turned (t':=s.toks) (λ b o hb e=>(sb.2 b hb).trans e) f0 f1 f3 f4 f5;obtain⟨o,e,c,d⟩:=id st';exact⟨u,O,mC (s:={ s with heap:=h' }) e c d on ⟨x,H,I1,ru,⟨O,λ ys hy=>by rw[I.tuple_inj hy hq];exact hx⟩,st',λ b hb=>(hf b hb).1⟩⟩
 done:=by
  intro X hP hw hK hc i Vu s σ H E I hf st hg;subst hP hw hK;obtain⟨xs,hq,hx⟩:=hg;obtain⟨its,rv,p,hz⟩:=I.tuple hq;obtain⟨f0,f1,f2,f3,f4,f5⟩:=hf it pv;have hl:=rv.length;exact wpAny_pyNext_tuple_end (I.ok.hd hc) st (show s.heap.IsTuple a its.toArray from p) (by simp;lia) λ h' eb=>⟨O,I.turned (t':=s.toks) (λ b o hb e=>eb b o hb e) f0 f1 f3 f4 f5⟩
 self:=λ _ _ _ _ _ st h=>wpAny_pyIter_tupleiter st h
theorem Dy{K:Td}(it:QO)(lo:Int)(n:Nat):WG P w K tg (YB lo n) [it] it (λ i h=>Tk h it (lo+(i:Nat)*1) ((n:Int)-(i:Nat)) 1) where
 mem:=pv
 obj:=λ i h st b hb=>by
  have e:b=it:=by simpa using hb
  subst e
  exact⟨_,st,λ v z=>by
   have z':Data.fields _=Data.cell v:=z
   cases z'⟩
 keep:=λ i h h' st k=>k it pv _ st
 item:=by
  intro X hP hw hK hc i Vu s σ H E I hf st hg;subst hP hw hK;obtain⟨f0,f1,f2,f3,f4,f5⟩:=hf it pv;have W:=Walks.range (prog:=X.prog) (w:=X.w) (I.ok.hd hc) it lo 1 n;refine W.item i s _ _ hg st λ v h' tk hv st' kk=>?_;obtain⟨t,rfl⟩:=hv;have I1:Inv X Vu σ H { s with heap:=h',toks:=tk }:=I.turned (λ b o hb e=>kk b o (by simpa using hb) e) f0 f1 f3 f4 f5;refine⟨_,O,mC (s:={ s with heap:=h',toks:=tk }) (n := "range_iterator") st' rfl rfl on ⟨.int (lo+i),H,I1,⟨t,?_⟩,⟨O,O⟩,st',λ b hb=>(hf b hb).1⟩⟩;rw[mD]
 done:=by
  intro X hP hw hK hc i Vu s σ H E I hf st hg;subst hP hw hK;obtain⟨f0,f1,f2,f3,f4,f5⟩:=hf it pv;exact vN (I.ok.hd hc) st (by have:n<=i:=hg;lia) λ h' eb=>⟨O,I.turned (t':=s.toks) (λ b o hb e=>eb b o hb e) f0 f1 f3 f4 f5⟩
 self:=λ _ _ _ _ _ st h=>vO st h
section
variable {tg:Expr}
theorem Dz{R:It->Hp->Prop}{lo hi:Int}{tk:Nat}(I:Inv X Vu σ H s)(h1:-(2 ^ 62)<=lo)(h2:lo<2 ^ 62)(h3:-(2 ^ 62)<=hi)(h4:hi<2 ^ 62)
  (q:R (YB lo (hi-lo).toNat) H):QS (QU X.prog X.w) X.A (Ut (.ref s.heap.objs.size)) (ZB X Vu σ tg R) E { s with heap:=s.heap.push { cls:=.type "range",data:=.fields #[.int lo t,.int hi u,.int 1 v] },toks:=tk }:=by
 refine s1b (IsRange.new ..) (small_one h1 h2 h3 h4) ?_;have I1:Inv X Vu σ H { s with heap:=s.heap.push { cls:=.type "range",data:=.fields #[.int lo t,.int hi u,.int 1 v] },toks:=tk }:=I.kept λ b o e=>aV _ e
 refine⟨(s.heap.push { cls:=.type "range",data:=.fields #[.int lo t,.int hi u,.int 1 v] }).objs.size,[(s.heap.push { cls:=.type "range",data:=.fields #[.int lo t,.int hi u,.int 1 v] }).objs.size],_,_,H,O,
  I1.kept (t':=tk) λ b o e=>aV _ e,Dy _ lo (hi-lo).toNat,?_,λ b hb=>?_,q⟩
 .have e1:lo+((0:Nat):Int)*1=lo:=by simp
  have e2:(((hi-lo).toNat:Nat):Int)-((0:Nat):Int)=Rg lo hi 1:=by rw[rangeSize_one];split<;>lia
  show Tk _ _ (lo+((0:Nat):Int)*1) ((((hi-lo).toNat:Nat):Int)-((0:Nat):Int)) 1;rw[e1,e2];exact bF _ rfl
 .have e:b=(s.heap.push { cls:=.type "range",data:=.fields #[.int lo t,.int hi u,.int 1 v] }).objs.size:=by simpa using hb
  subst e;exact I1.fpOk (ak _) (I1.hok.fresh (ak _))
def DA(ta:TA):TI:=λ σ H R=>ta σ H λ vs H1=>∃j:Int,vs=[.int j]/\-(2 ^ 62)<=j/\j<2 ^ 62/\R (YB 0 j.toNat) H1
def DB{a:Expr}{p pos:Pos}(hg:Gl X "range")(hm:X.mg "range"=QM)(ha:PA X [a] ta)(hs:autoParam (Rf [a] X.env=[(QL,eval a X.env)]) A8._auto_1):PI X tg (.Call (.Name "range" p) [a] [] pos) (DA ta):=by
 intro Vu s σ H R I h;refine Tf (eK I hg hm boot_range (gK (VD (ha pos Vu s σ H _ I h) λ us s1 ⟨vs,H1,I1,r1,q1⟩=>?_) hs rfl));obtain⟨j,e,q1,q2,q⟩:=q1;subst e
 cases r1 with
 |cons r rr=>
  cases rr;obtain⟨t,rfl⟩:=r;exact call_range_1 (Dz I1 ca ca q1 q2 (by simpa using q))
def DC(wi:TI)(g:TG)(tb:TS):TS:=λ D σ H=>wi σ H λ J H1=>∃W:Nat->Nat->St->Hp->Prop,(∃m,W 0 m σ H1)/\∀i m σ H,W i m σ H ->
 (J.stop i H/\D.nx σ H)\/(J.go i H/\∃N:St->Hp->Prop,(∀σ' H',N σ' H'->∃m',m'<m/\W (i+1) m' σ' H')/\∀x H',J.yld i H x H'->g x σ H' λ σ2 H2=>tb { D with nx:=N,ct:=N,bk:=D.nx } σ2 H2)
noncomputable def oN(fp:List QO)(h:Re):LO:=fp.filterMap λ b=>(h.get? b).map λ o=>(b,o)
def kK{fp:List QO}{h:Re}{b:QO}(hb:b∈fp)(e:h.get? b=QJ o):(b,o)∈oN fp h:=s1c.mpr ⟨b,hb,by rw[e];rfl⟩
def DD{fp:List QO}{h:Re}{p:QO×Obj}(hp:p∈oN fp h):p.1∈fp/\h.get? p.1=QJ p.2:=by
 obtain⟨b,hb,e⟩:=s1c.mp hp
 cases q:h.get? b with
 |none=>rw[q] at e;cases e
 |some o=>
  rw[q] at e;have e':(b,o)=p:=bN e;subst e';exact⟨hb,q⟩
def Inv.pinned{fp:List QO}(I:Inv X Vu σ H s)(hf:∀b∈fp,iS X Vu H b)(ho:∀b∈fp,∃o,s.heap.get? b=QJ o/\∀v,o.data≠.cell v):Inv X (Vu++oN fp s.heap) σ H s :=
 I.pins_of λ p hp=>(cr.mp hp).elim (λ z=>I.pin p (bR _ z)) λ z=>by
  obtain⟨hb,e⟩:=DD z;obtain⟨f0,f1,f2,_⟩:=hf p.1 hb;obtain⟨o,e',d⟩:=ho p.1 hb;rw[e] at e';cases e';exact⟨e,f0,f1,f2,d⟩
def Inv.unpinned{Vu pl:LO}(I:Inv X (Vu++pl) σ H s):Inv X Vu σ H s:=I.pins_of λ p hp=>I.pin p (bR _ (fZ _ hp))
theorem DE{iter:Expr}(hp:PassesOwn (QU X.prog X.w) X.A X.env X.xe)(hc:X.calm=QK)(hi:PI X tg iter wi)(hg:PG X tg g)(hb:PSs X body tb)
  (hs:autoParam (∀x,SZ iter X.env x=Rj x) A4._auto_1):PS X (.For tg iter body [] pos) (DC wi g tb):=by
 intro Vu s σ H D I h;refine wpAny_For (VD (hi Vu s σ H _ I h) λ v s1 h1=>VD h1 λ itv s2 h2=>?_) hs;obtain⟨it,fp,tn,J,H2,e,I2,T,st2,f2,W,⟨m0,w0⟩,turn⟩:=h2;subst e;have stat:∀ {H':Hp},(∀b∈fp,H' b=QM)->∀b∈fp,iS X Vu H' b:=λ hn b hb=>⟨hn b hb,(f2 b hb).2⟩;refine codeAny_forLoop_any (λ n s'=>∃i σ' H',Inv X Vu σ' H' s'/\tn i s'.heap/\(∀b∈fp,H' b=QM)/\W i n σ' H') ?_ m0 ⟨0,σ,H2,I2,st2,λ b hb=>(f2 b hb).1,w0⟩;rintro n s3 ⟨i,σ3,H3,I3,st3,fr3,w3⟩
 rcases turn i n σ3 H3 w3 with ⟨stop,qn⟩|⟨go,N,hN,step⟩
 .refine mE hp (VD (T.done X rfl rfl rfl hc i Vu s3 σ3 H3 X.xe I3 (stat fr3) st3 stop) λ r s4 ⟨hr,I4⟩=>?_);subst hr;exact oG ⟨σ3,H3,I4,qn⟩
 .refine mE hp (VD (T.item X rfl rfl rfl hc i Vu s3 σ3 H3 X.xe I3 (stat fr3) st3 go) λ r s4 ⟨u,hr,h4⟩=>?_);subst hr;refine mE hp (VD h4 λ _ s5 ⟨x,H5,I5,r5,y5,st5,fr5⟩=>?_);have I5':=I5.pinned (stat fr5) (T.obj _ _ st5);refine mE hp (VD (hg _ s5 σ3 H5 x u _ I5' r5 (step x H5 y5)) λ _ s6 ⟨σ6,H6,I6,q6⟩=>?_);refine mE hp (VD (hb _ s6 σ6 H6 _ I6 q6) λ f s7 q7=>?_)
  have Uq:∀ {σ7:St}{H7:Hp},Inv X (Vu++oN fp s5.heap) σ7 H7 s7->N σ7 H7->∃m,m<n/\∃i σ' H',Inv X Vu σ' H' s7/\tn i s7.heap/\(∀b∈fp,H' b=QM)/\W i m σ' H':=λ {σ7 H7} I7 n7=>by
   obtain⟨m',hm,w7⟩:=hN σ7 H7 n7;refine⟨m',hm,i+1,σ7,H7,I7.unpinned,T.keep _ _ _ st5 λ b hb o e=>(I7.pin (b,o) (bR _ (bR _ (kK hb e)))).1,λ b hb=>?_,w7⟩;obtain⟨o,e,d⟩:=T.obj _ _ st5 b hb;exact(I7.pin (b,o) (bR _ (bR _ (kK hb e)))).2.1
  cases f with
  |next|cont=>obtain⟨σ7,H7,I7,n7⟩:=q7;exact Uq I7 n7
  |brk=>obtain⟨σ7,H7,I7,q7⟩:=q7;exact⟨σ7,H7,I7.unpinned,q7⟩
  |ret v=>obtain⟨x7,σ7,H7,I7,r7,q7⟩:=q7;exact⟨x7,σ7,H7,I7.unpinned,r7,q7⟩
end
abbrev R2:=V->V->Hp->VK->Prop
def VQ(X:Cx)(f:Value->Value->Sem Value)(r:R2):Prop :=
 ∀(Vu:LO) (s:QP) (σ:St) (H:Hp) (x y:V) (v u:Value) (Q:VK),Inv X Vu σ H s->RelV x v->RelV y u->r x y H Q ->
  QS (QU X.prog X.w) X.A (f v u) (EP X Vu σ Q) X.xe s
def YY(X:Cx)(f:Value->Sem Value)(r:V->Hp->VK->Prop):Prop :=
 ∀(Vu:LO) (s:QP) (σ:St) (H:Hp) (x:V) (v:Value) (Q:VK),Inv X Vu σ H s->RelV x v->r x H Q ->
  QS (QU X.prog X.w) X.A (f v) (EP X Vu σ Q) X.xe s
def cz(X:Cx)(f:Value)(r:List V->Hp->VK->Prop):Prop :=
 ∀(Vu:LO) (s:QP) (σ:St) (H:Hp) (xs:List V) (us:LV) (Q:VK),Inv X Vu σ H s->Vals xs us->r xs H Q ->
  QS (QU X.prog X.w) X.A (call f us) (EP X Vu σ Q) X.xe s
def XW(r:R2)(ta tb:TE):TE:=λ σ H Q=>ta σ H λ x H1=>tb σ H1 λ y H2=>r x y H2 Q
def tUn(r:V->Hp->VK->Prop)(ta:TE):TE:=λ σ H Q=>ta σ H λ x H1=>r x H1 Q
def rI(C:Int->Int->Prop)(g:Int->Int->V):R2:=λ x y H Q=>rn x y λ i j=>C i j/\Q (g i j) H
def Xa(g:Int->Int->V):R2:=λ x y H Q=>rn x y λ i j=>Q (g i j) H
def rU(g:Int->V):V->Hp->VK->Prop:=λ x H Q=>isI x λ i=>Q (g i) H
section
variable {a b c:Expr}{ta tb tc:TE}{pos:Pos}
theorem rF(ha:PE X a ta)(hb:PE X b tb){R:V->V->Hp->Prop}(I:Inv X Vu σ H s)
  (h:ta σ H λ x H1=>tb σ H1 λ y H2=>R x y H2){f:Value->Value->Sem Value}
  (hf:∀v u s2 x y H2,Inv X Vu σ H2 s2->RelV x v->RelV y u->R x y H2->QS (QU X.prog X.w) X.A (f v u) Q X.xe s2) :
  QS (QU X.prog X.w) X.A (eval a X.env) (λ v s₁=>QS (QU X.prog X.w) X.A (eval b X.env) (λ u s₂=>QS (QU X.prog X.w) X.A (f v u) Q X.xe s₂) X.xe s₁) X.xe s:=by
 refine VD (ha Vu s σ H _ I h) λ v s1 ⟨x,H1,I1,r1,q1⟩=>?_;refine VD (hb Vu s1 σ H1 _ I1 q1) λ u s2 ⟨y,H2,I2,r2,q2⟩=>?_;exact hf v u s2 x y H2 I2 r1 r2 q2
def DF(ho:VQ X (Rx op) r)(ha:PE X a ta)(hb:PE X b tb):PE X (.BinOp a op b pos) (XW r ta tb):=by
 intro Vu s σ H Q I h;exact wpAny_BinOp (rF ha hb I h λ v u s2 x y H2 I2 rx ry q=>ho Vu s2 σ H2 x y v u Q I2 rx ry q)
def DG(ho:YY X (unaryOp op) r)(ha:PE X a ta):PE X (.UnaryOp op a pos) (tUn r ta):=by
 intro Vu s σ H Q I h;exact UnaryOp_ (VD (ha Vu s σ H _ I h) λ v s1 ⟨x,H1,I1,r1,q1⟩=>ho Vu s1 σ H1 x v Q I1 r1 q1)
theorem XM{f:Value->Value->Sem Value}{C:Int->Int->Prop}{g:Int->Int->Int}
  (Uf:∀(i j:Int) (t u:Tok) (s:QP) (Q:VS) (E:VS),C i j->Q (.int (g i j) s.toks) { s with toks:=s.toks+1 }->QS (QU X.prog X.w) X.A (f (.int i t) (.int j u)) Q E s) :
  VQ X f (rI C λ i j=>.int (g i j)):=by
 intro Vu s σ H x y v u Q I rx ry h;obtain⟨i,j,rfl,rfl,hc,q⟩:=rB h;obtain⟨t,rfl⟩:=rx;obtain⟨t',rfl⟩:=ry;exact Uf i j t t' s _ _ hc ⟨.int (g i j),H,I.tok _,⟨_,O⟩,q⟩
theorem mF{f:Value->Value->Sem Value}{g:Int->Int->Int}
  (Uf:∀(i j:Int) (t u:Tok) (s:QP) (Q:VS) (E:VS),Q (.int (g i j) s.toks) { s with toks:=s.toks+1 }->QS (QU X.prog X.w) X.A (f (.int i t) (.int j u)) Q E s) :
  VQ X f (Xa λ i j=>.int (g i j)):=by
 intro Vu s σ H x y v u Q I rx ry h;obtain⟨i,j,rfl,rfl,q⟩:=rB h;obtain⟨t,rfl⟩:=rx;obtain⟨t',rfl⟩:=ry;exact Uf i j t t' s _ _ ⟨.int (g i j),H,I.tok _,⟨_,O⟩,q⟩
theorem oO{f:Value->Value->Sem Value}{g:Int->Int->Bool}
  (Uf:∀(i j:Int) (t u:Tok) (s:QP) (Q:VS) (E:VS),Q (.bool (g i j)) s->QS (QU X.prog X.w) X.A (f (.int i t) (.int j u)) Q E s) :
  VQ X f (Xa λ i j=>.bl (g i j)):=by
 intro Vu s σ H x y v u Q I rx ry h;obtain⟨i,j,rfl,rfl,q⟩:=rB h;obtain⟨t,rfl⟩:=rx;obtain⟨t',rfl⟩:=ry;exact Uf i j t t' s _ _ ⟨.bl (g i j),H,I,O,q⟩
def mG(i j:Int):Prop:=0<=j/\j<=1000000/\i.natAbs<2 ^ 64
def CMul(i j:Int):Prop:=(-(2 ^ 64)<i/\i<2 ^ 64)\/(-(2 ^ 64)<j/\j<2 ^ 64)
def CMul.ok(h:CMul i j):Tq i j:=by
 rcases h with ⟨h1,h2⟩|⟨h1,h2⟩
 .exact .of_left (UY h1 h2)
 .exact .of_right (UY h1 h2)
def DH(k:Nat):(0:Int)<=2 ^ k:=by
 rw[two_pow_cast];exact s1d _
def DI:VQ X (Rx .Add) (Xa λ i j=>.int (i+j)):=mF λ _ _ _ _ _ _ _ q=>add_int q
def DJ:VQ X (Rx .Sub) (Xa λ i j=>.int (i-j)):=mF λ _ _ _ _ _ _ _ q=>sub_int q
def DK:VQ X (Rx .Mod) (rI (λ _ j=>0<j) λ i j=>.int (i%j)):=XM λ i j _ _ _ _ _ hc q=>by
 have h1:(0:Int)<j:=hc;exact mod_int' ca (by rw[vP i ca];exact q)
def DM:VQ X (Rx .Mod) (rI (λ _ j=>j≠0) λ i j=>.int (i.fmod j)):=XM λ _ _ _ _ _ _ _ hc q=>mod_int' hc q
def DN:VQ X (Rx .Pow) (rI mG λ i j=>.int (i ^ j.toNat)):=XM λ _ _ _ _ _ _ _ hc q=>pow_int_small hc.1 hc.2.1 hc.2.2 q
def DO:VQ X (Rx .RShift) (rI (λ _ j=>0<=j) λ i j=>.int (i/2 ^ j.toNat)):=XM λ i j _ _ _ _ _ hc q=>
 rshift_int hc (by rw[oP i (DH _)];exact q)
def DP:VQ X (Rx .BitAnd) (Xa λ i j=>.int (Builtin.bitAnd i j)):=mF λ _ _ _ _ _ _ _ q=>and_int q
def DQ:VQ X (Rx .BitOr) (Xa λ i j=>.int (Builtin.bitOr i j)):=mF λ _ _ _ _ _ _ _ q=>or_int q
def DS:VQ X (Rx .BitXor) (Xa λ i j=>.int (Builtin.bitXor i j)):=mF λ _ _ _ _ _ _ _ q=>xor_int q
theorem unI{f:Value->Sem Value}{g:Int->Int}
  (Uf:∀(i:Int) (t:Tok) (s:QP) (Q:VS) (E:VS),Q (.int (g i) s.toks) { s with toks:=s.toks+1 }->QS (QU X.prog X.w) X.A (f (.int i t)) Q E s) :
  YY X f (rU λ i=>.int (g i)):=by
 intro Vu s σ H x v Q I rx h;obtain⟨i,rfl,q⟩:=CU h;obtain⟨t,rfl⟩:=rx;exact Uf i t s _ _ ⟨.int (g i),H,I.tok _,⟨_,O⟩,q⟩
def DT:YY X (unaryOp .USub) (rU λ i=>.int (-i)):=unI λ _ _ _ _ _ q=>neg_int q
end
noncomputable def dG:V->V->Bool
 |.non,.non=>QK|.non,.int _=>QK|.int _,.non=>QK|.non,.bl _=>QK|.bl _,.non=>QK|.non,.str _=>QK|.str _,.non=>QK
 |.int _,.int _=>QK|.bl _,.bl _=>QK|.str _,.str _=>QK|.byt _,.byt _=>QK
 |.int _,.str _=>QK|.str _,.int _=>QK|.bl _,.str _=>QK|.str _,.bl _=>QK
 |_,_=>QL
def YZ:R2:=λ x y H Q=>match x,y with
 |.int i,.int j=>Q (.bl (decide (i=j))) H
 |.str i,.str j=>Q (.bl (decide (i=j))) H
 |x,y=>dG x y=QK/\Q (.bl (decide (x=y))) H
def ZC(i j:Int):decide (V.int i=V.int j)=decide (i=j):=rG.mpr ⟨λ h=>V.int.inj h,λ h=>h ▸ rfl⟩
def ZD(i j:Str):decide (V.str i=V.str j)=decide (i=j):=rG.mpr ⟨λ h=>V.str.inj h,λ h=>h ▸ rfl⟩
def oQ(p:Prop):p=(QK=QK/\p):=propext ⟨λ h=>⟨rfl,h⟩,λ h=>h.2⟩
def rEq_ex:YZ x y H Q=(dG x y=QK/\Q (.bl (decide (x=y))) H):=by
 cases x<;>cases y<;>first|rfl|(rw[ZC];exact oQ _)|(rw[ZD];exact oQ _)
def DU(h:YZ x y H Q):dG x y=QK/\Q (.bl (decide (x=y))) H:=rEq_ex.mp h
def Za:R2:=λ x y H Q=>match x,y with
 |.int i,.int j=>Q (.bl (!decide (i=j))) H
 |.str i,.str j=>Q (.bl (!decide (i=j))) H
 |x,y=>dG x y=QK/\Q (.bl (!decide (x=y))) H
def rNe_ex:Za x y H Q=(dG x y=QK/\Q (.bl (!decide (x=y))) H):=by
 cases x<;>cases y<;>first|rfl|(rw[ZC];exact oQ _)|(rw[ZD];exact oQ _)
def DV(h:Za x y H Q):dG x y=QK/\Q (.bl (!decide (x=y))) H:=rNe_ex.mp h
def vQ:decide (V.int i=V.int j)=(i == j):=by
 rw[ij];simp
def vR:decide (V.bl i=V.bl j)=(i == j):=by
 rw[ij];simp
def vS:decide (V.str i=V.str j)=(i == j):=by
 rw[ij];simp
def vT:decide (V.byt i=V.byt j)=(i.toList == j.toList):=by
 rw[ij];cases i;cases j;simp
section
variable {a b c:Expr}{ta tb tc:TE}{pos:Pos}
def bB{Q:VK}{k k':Bool}(I:Inv X Vu σ H s)(q:Q (.bl k) H)(e:k=k'):EP X Vu σ Q (.bool k') s:=by
 subst e;exact⟨.bl k,H,I,O,q⟩
def jH:VQ X (Ru .Eq) YZ:=by
 intro Vu s σ H x y v u Q I rx ry h;obtain⟨hs,q⟩:=DU h
 cases x with
 |non=>
  cases rx
  cases y with
  |non=>cases ry;exact PySem.EqNone.eq_none_none (bB I q pv)
  |bl j=>cases ry;exact PySem.EqNone.eq_none_bool (bB I q pv)
  |int j=>obtain⟨t',rfl⟩:=ry;exact PySem.EqNone.eq_none_int (bB I q pv)
  |str j=>obtain⟨t',rfl⟩:=ry;exact PySem.EqNone.eq_none_str (bB I q pv)
  |_=>exact m8 (show QL=QK from hs) bT
 |bl i=>
  cases rx
  cases y with
  |non=>cases ry;exact PySem.EqNone.eq_bool_none (bB I q pv)
  |bl j=>cases ry;exact eq_bool (bB I q vR)
  |str j=>obtain⟨t',rfl⟩:=ry;exact PySem.EqMixed.eq_bool_str (bB I q pv)
  |_=>exact m8 (show QL=QK from hs) bT
 |int i=>
  obtain⟨t,rfl⟩:=rx
  cases y with
  |non=>cases ry;exact PySem.EqNone.eq_int_none (bB I q pv)
  |int j=>obtain⟨t',rfl⟩:=ry;exact eq_int (bB I q vQ)
  |str j=>obtain⟨t',rfl⟩:=ry;exact PySem.EqMixed.eq_int_str (bB I q pv)
  |_=>exact m8 (show QL=QK from hs) bT
 |str i=>
  obtain⟨t,rfl⟩:=rx
  cases y with
  |non=>cases ry;exact PySem.EqNone.eq_str_none (bB I q pv)
  |bl j=>cases ry;exact PySem.EqMixed.eq_str_bool (bB I q pv)
  |int j=>obtain⟨t',rfl⟩:=ry;exact PySem.EqMixed.eq_str_int (bB I q pv)
  |str j=>obtain⟨t',rfl⟩:=ry;exact eq_str (bB I q vS)
  |_=>exact m8 (show QL=QK from hs) bT
 |byt i=>
  obtain⟨t,rfl⟩:=rx
  cases y with
  |byt j=>obtain⟨t',rfl⟩:=ry;exact W.eq_bytes (bB I q vT)
  |_=>exact m8 (show QL=QK from hs) bT
 |_=>cases y<;>exact m8 (show QL=QK from hs) bT
def jI:VQ X (Ru .NotEq) Za:=by
 intro Vu s σ H x y v u Q I rx ry h;obtain⟨hs,q⟩:=DV h
 cases x with
 |non=>
  cases rx
  cases y with
  |non=>cases ry;exact PySem.EqNone.ne_none_none (bB I q pv)
  |bl j=>cases ry;exact PySem.EqNone.ne_none_bool (bB I q pv)
  |int j=>obtain⟨t',rfl⟩:=ry;exact PySem.EqNone.ne_none_int (bB I q pv)
  |str j=>obtain⟨t',rfl⟩:=ry;exact PySem.EqNone.ne_none_str (bB I q pv)
  |_=>exact m8 (show QL=QK from hs) bT
 |bl i=>
  cases rx
  cases y with
  |non=>cases ry;exact PySem.EqNone.ne_bool_none (bB I q pv)
  |bl j=>cases ry;exact ne_bool (bB I q (bO not vR))
  |str j=>obtain⟨t',rfl⟩:=ry;exact PySem.EqMixed.ne_bool_str (bB I q pv)
  |_=>exact m8 (show QL=QK from hs) bT
 |int i=>
  obtain⟨t,rfl⟩:=rx
  cases y with
  |non=>cases ry;exact PySem.EqNone.ne_int_none (bB I q pv)
  |int j=>obtain⟨t',rfl⟩:=ry;exact ne_int (bB I q (bO not vQ))
  |str j=>obtain⟨t',rfl⟩:=ry;exact PySem.EqMixed.ne_int_str (bB I q pv)
  |_=>exact m8 (show QL=QK from hs) bT
 |str i=>
  obtain⟨t,rfl⟩:=rx
  cases y with
  |non=>cases ry;exact PySem.EqNone.ne_str_none (bB I q pv)
  |bl j=>cases ry;exact PySem.EqMixed.ne_str_bool (bB I q pv)
  |int j=>obtain⟨t',rfl⟩:=ry;exact PySem.EqMixed.ne_str_int (bB I q pv)
  |str j=>obtain⟨t',rfl⟩:=ry;exact ne_str (bB I q (bO not vS))
  |_=>exact m8 (show QL=QK from hs) bT
 |byt i=>
  obtain⟨t,rfl⟩:=rx
  cases y with
  |byt j=>obtain⟨t',rfl⟩:=ry;exact W.ne_bytes (bB I q (bO not vT))
  |_=>exact m8 (show QL=QK from hs) bT
 |_=>cases y<;>exact m8 (show QL=QK from hs) bT
def DW:VQ X (Ru .Lt) (Xa λ i j=>.bl (decide (i<j))):=oO λ _ _ _ _ _ _ _ q=>lt_int q
def DX:VQ X (Ru .LtE) (Xa λ i j=>.bl (decide (i<=j))):=oO λ _ _ _ _ _ _ _ q=>le_int q
def DY:VQ X (Ru .Gt) (Xa λ i j=>.bl (decide (j<i))):=oO λ _ _ _ _ _ _ _ q=>gt_int q
def DZ:VQ X (Ru .GtE) (Xa λ i j=>.bl (decide (j<=i))):=oO λ _ _ _ _ _ _ _ q=>ge_int q
def Ea:VQ X (Ru .Is) (λ x y H Q=>y=.non/\Q (.bl (decide (x=.non))) H):=by
 intro Vu s σ H x y v u Q I rx ry h;obtain⟨rfl,q⟩:=h;cases ry;refine is_none_gen (bB I q ?_)
 cases x<;>first
  |(cases rx;rfl)
  |(obtain⟨t,rfl⟩:=rx;rfl)
def Eb:VQ X (Ru .IsNot) (λ x y H Q=>y=.non/\Q (.bl (!decide (x=.non))) H):=by
 intro Vu s σ H x y v u Q I rx ry h;obtain⟨rfl,q⟩:=h;cases ry;refine isnot_none_gen (bB I q ?_)
 cases x<;>first
  |(cases rx;rfl)
  |(obtain⟨t,rfl⟩:=rx;rfl)
def Ec(ho:VQ X (Ru op) r)(ha:PE X a ta)(hb:PE X b tb)(hm:SX op b=QL):PE X (.Compare a [op] [b] pos) (XW r ta tb):=by
 intro Vu s σ H Q I h;exact wpAny_Compare1 (rF ha hb I h λ v u s2 x y H2 I2 rx ry q=>ho Vu s2 σ H2 x y v u Q I2 rx ry q) hm
def vU(t:TE):TT:=λ σ H Q=>t σ H λ x H'=>isB x λ k=>Q k H'
def Ed(ho:VQ X (Ru op) r)(ha:PE X a ta)(hb:PE X b tb)(hm:SX op b=QL):PT X (.Compare a [op] [b] pos) (vU (XW r ta tb)):=by
 intro Vu s σ H Q I h
 refine wpAny_isTrue_Compare1 (VD (ha Vu s σ H _ I h) λ v s1 ⟨x,H1,I1,r1,q1⟩=>VD (hb Vu s1 σ H1 _ I1 q1) λ u s2 ⟨y,H2,I2,r2,q2⟩ =>
  VD (ho Vu s2 σ H2 x y v u _ I2 r1 r2 q2) λ c s3 ⟨z,H3,I3,r3,q3⟩=>?_) hm
 obtain⟨k,e,q3⟩:=kI q3;subst e;cases r3;exact gI ⟨H3,I3,q3⟩
def vV(r r':R2)(ta tb tc:TE):TE:=λ σ H Q=>ta σ H λ x H1=>tb σ H1 λ y H2=>r x y H2 λ z H3=>∃k,z=.bl k /\
 (if k=QK then tc σ H3 λ w' H4=>r' y w' H4 Q else Q (.bl QL) H3)
theorem Ee(ho:VQ X (Ru op) r)(ho':VQ X (Ru op') r')(ha:PE X a ta)(hb:PE X b tb)(hc:PE X c tc)
  (hm:autoParam (UL [op,op'] [b,c]=QL) A3._auto_1):PE X (.Compare a [op,op'] [b,c] pos) (vV r r' ta tb tc):=by
 intro Vu s σ H Q I h
 refine Compare_chain (VD (ha Vu s σ H _ I h) λ v s1 ⟨x,H1,I1,r1,q1⟩=>chain_link (VD (hb Vu s1 σ H1 _ I1 q1) λ u s2 ⟨y,H2,I2,r2,q2⟩ =>
  VD (ho Vu s2 σ H2 x y v u _ I2 r1 r2 q2) λ d s3 ⟨z,H3,I3,r3,k,e,q3⟩=>?_)) hm
 subst e;cases r3;refine gI ?_
 cases k with
 |false=>exact ite_ff ⟨.bl QL,H3,I3,rfl,q3⟩
 |true=>exact ite_tt (chain_last (VD (hc Vu s3 σ H3 _ I3 q3) λ w' s4 ⟨z',H4,I4,r4,q4⟩=>ho' Vu s4 σ H4 y z' u w' Q I4 r2 r4 q4))
theorem Ef(ho:VQ X (Ru op) r)(ho':VQ X (Ru op') r')(ha:PE X a ta)(hb:PE X b tb)(hc:PE X c tc)
  (hm:autoParam (UL [op,op'] [b,c]=QL) A3._auto_1):PT X (.Compare a [op,op'] [b,c] pos) (vU (vV r r' ta tb tc)):=by
 intro Vu s σ H Q I h
 refine isTrue_chain (VD (ha Vu s σ H _ I h) λ v s1 ⟨x,H1,I1,r1,q1⟩=>test_link (VD (hb Vu s1 σ H1 _ I1 q1) λ u s2 ⟨y,H2,I2,r2,q2⟩ =>
  VD (ho Vu s2 σ H2 x y v u _ I2 r1 r2 q2) λ d s3 ⟨z,H3,I3,r3,k,e,q3⟩=>?_)) hm
 subst e;cases r3;refine gI ?_
 cases k with
 |false=>
  obtain⟨k',e',q'⟩:=kI (show isB (V.bl QL) (λ k=>Q k H3) from q3);cases e';exact ite_ff ⟨H3,I3,q'⟩
 |true=>
  refine ite_tt (test_last (VD (hc Vu s3 σ H3 _ I3 q3) λ w' s4 ⟨z',H4,I4,r4,q4⟩=>VD (ho' Vu s4 σ H4 y z' u w' _ I4 r2 r4 q4) λ d' s5 ⟨z2,H5,I5,r5,q5⟩=>?_));obtain⟨k2,e2,q5⟩:=kI q5;subst e2;cases r5;exact gI ⟨H5,I5,q5⟩
def kL:(QR:Nat)<2 ^ 63:=by rw[kM];decide
def cM{x:V}(r:Vals [x] us):∃u,us=[u]/\RelV x u:=by
 cases r with
 |cons r1 r2=>cases r2;exact⟨_,rfl,r1⟩
def oR{x y:V}(r:Vals [x,y] us):∃u w',us=[u,w']/\RelV x u/\RelV y w':=by
 cases r with
 |cons r1 r2=>
  cases r2 with
  |cons r3 r4=>cases r4;exact⟨_,_,rfl,r1,r3⟩
def Eg:cz X (.builtin "abs") (λ xs H Q=>∃i,xs=[.int i]/\Q (.int (if i<0 then -i else i)) H):=by
 intro Vu s σ H xs us Q I r h;obtain⟨i,rfl,q⟩:=h;obtain⟨u,rfl,t,rfl⟩:=cM r;exact call_abs_int λ u tk=>⟨.int (if i<0 then -i else i),H,I.tok _,⟨_,O⟩,q⟩
def Eh(hc:X.calm=QK):cz X (.builtin "max") (λ xs H Q=>∃i j,xs=[.int i,.int j]/\Q (.int (if j > i then j else i)) H):=by
 intro Vu s σ H xs us Q I r h;obtain⟨i,j,rfl,q⟩:=h;obtain⟨u,w',rfl,⟨t,rfl⟩,⟨t',rfl⟩⟩:=oR r;refine max_two_ints (I.ok.hd hc) λ h' tk k=>⟨_,H,I.kept k,?_,q⟩;by_cases hj:j > i
 .rw[m7 hj,m7 hj];exact⟨_,rfl⟩
 .rw[k9 hj,k9 hj];exact⟨_,rfl⟩
def Ei(hc:X.calm=QK):cz X (.builtin "min") (λ xs H Q=>∃i j,xs=[.int i,.int j]/\Q (.int (if j<i then j else i)) H):=by
 intro Vu s σ H xs us Q I r h;obtain⟨i,j,rfl,q⟩:=h;obtain⟨u,w',rfl,⟨t,rfl⟩,⟨t',rfl⟩⟩:=oR r;refine min_two_ints (I.ok.hd hc) λ h' tk k=>⟨_,H,I.kept k,?_,q⟩;by_cases hj:j<i
 .rw[m7 hj,m7 hj];exact⟨_,rfl⟩
 .rw[k9 hj,k9 hj];exact⟨_,rfl⟩
def vW:cz X (.type "int") (λ xs H Q=>(∃i,xs=[.int i]/\Q (.int i) H)\/∃k,xs=[.bl k]/\Q (.int (if k then 1 else 0)) H):=by
 intro Vu s σ H xs us Q I r h
 rcases h with ⟨i,rfl,q⟩|⟨k,rfl,q⟩
 .obtain⟨u,rfl,t,rfl⟩:=cM r;exact call_int_int ⟨.int i,H,I,⟨_,O⟩,q⟩
 .obtain⟨u,rfl,r1⟩:=cM r;cases r1;exact call_int_bool ⟨.int (if k then 1 else 0),H,I.tok _,⟨_,O⟩,q⟩
end
section
variable {prog:QX}{w:QY}{A:QZ}{E:VS}{s:QP}{K:FG}{x dx C f:QO}{mA:SV}{name:Str}{v:Value}
end
section
variable {P:QX}{w:QY}{H H':Hp}{h h':Re}{a C dx:QO}{fs fs':List (Str×V)}
end
section
variable {Vu:LO}{σ:St}{H:Hp}{s:QP}{a C dx:QO}{fs:List (Str×V)}{f:Str}{v:V}{A:QZ}{E:VS}
end
section
variable {o e value:Expr}{f:Str}{pos pos' tpos:Pos}{ta tv:TE}
end
section
variable {Vu:LO}{σ:St}{H:Hp}{s:QP}{A:QZ}{E:VS}{Q:VS}{c:Value}{b:Bool}
end
structure Room (k:Nat)(A:QZ):Prop where
 hd:A.handled=QM
 dp:A.depth+3*k+5<UH
 un:A.units+16*k+200<RR
def Room.mono{j k:Nat}(r:Room k A)(h:j<=k):Room j A:=⟨r.hd,by have:=r.dp;lia,by have:=r.un;lia⟩
def Room.deeper{k:Nat}(r:Room (k+1) A)(env:Env):Room k (A.deeper env) :=
 ⟨r.hd,by have:=r.dp;show A.depth+1+3*k+5<_;lia,by have:=r.un;show A.units+3+16*k+200<_;lia⟩
def Room.depth(r:Room k A):A.depth<UH:=by have:=r.dp;lia
def mH:TA:=λ _ H Q=>Q [] H
def Ej(ta:TE)(tr:TA):TA:=λ σ H Q=>ta σ H λ x H1=>tr σ H1 λ xs H2=>Q (x::xs) H2
section
variable {e:Expr}{es:List Expr}{te:TE}{t:TA}{pos:Pos}
def pa_nil:PA X [] mH:=λ _ _ _ _ H Q I h=>rH ⟨[],H,I,.nil,h⟩
def dA(ha:PE X e te)(hr:PA X es t)(hs:autoParam (Rf (e::es) X.env=(QL,eval e X.env)::Rf es X.env) A8._auto_1):PA X (e::es) (Ej te t):=by
 intro pos Vu s σ H Q I h;rw[hs];show QS _ _ (spliced ((QL,eval e X.env)::RQ pos (Rf es X.env))) _ _ s;refine rJ (VD (ha Vu s σ H _ I h) λ u s1 ⟨x,H1,I1,r1,q1⟩=>?_);exact VD (hr pos Vu s1 σ H1 _ I1 q1) λ us s2 ⟨xs,H2,I2,r2,q2⟩=>⟨x::xs,H2,I2,.cons r1 r2,q2⟩
def Ek(t:TA):TE:=λ σ H Q=>t σ H λ xs H1=>xs.length<=QR/\∀p,H1 p=QM->Q (.ref p) (VA H1 p (.tup xs))
def mI(t:TA):TE:=λ σ H Q=>t σ H λ xs H1=>xs.length<=QR/\∀p,H1 p=QM->Q (.ref p) (VA H1 p (.lst xs))
def El{x1}(h:PA X es t):PE X (.Tuple es x1 pos) (Ek t):=by
 intro Vu s σ H Q I hq;refine wpAny_Tuple_spliced (VD (h pos Vu s σ H _ I hq) λ us s1 ⟨xs,H1,I1,r,z,q⟩=>⟨by rw[<- r.length];exact z,?_⟩);have hf:H1 s1.heap.objs.size=QM:=I1.hok.fresh (ak _);refine⟨.ref s1.heap.objs.size,VA H1 s1.heap.objs.size (.tup xs),I1.laid (t':=s1.toks) (λ b u e=>aV _ e) (ak _) ?_,O,q _ hf⟩;exact⟨z,us,r,⟨_,bF _ rfl,⟨O,_,O⟩,O⟩⟩
def rK(h:PA X es t):PE X (.List es pos) (mI t):=by
 intro Vu s σ H Q I hq;refine wpAny_List_spliced (VD (h pos Vu s σ H _ I hq) λ us s1 ⟨xs,H1,I1,r,z,q⟩=>⟨by rw[<- r.length];exact z,?_⟩);have hf:H1 s1.heap.objs.size=QM:=I1.hok.fresh (ak _);refine⟨.ref s1.heap.objs.size,VA H1 s1.heap.objs.size (.lst xs),I1.laid (t':=s1.toks) (λ b u e=>aV _ e) (ak _) ?_,O,q _ hf⟩;exact⟨z,us,0,r,bF _ rfl⟩
end
abbrev Sp:=List V->Hp->VK->XK->Prop
abbrev WN:=List Env->Hp->QP->XK->VS
structure WK (P:QX)(w:QY)(K:FG)(mg:SV)(base:Re)(A:QZ)(outer:List Env)(s:QP)(H:Hp):Prop where
 frames:A.frames=QJ outer
 mod:Mod K mg base
 bs:∀b o,base.get? b=QJ o->s.heap.get? b=QJ o/\H b=QM
 bsz:base.objs.size<=s.heap.objs.size
 funs:s.heap.FunFrames base outer
 frf:∀b∈WD outer,H b=QM
 hok:HOk P w H s.heap
 bare:Sg s.gens
def CE(outer:List Env)(P:QX)(w:QY)(H:Hp)(s:QP)(Q:VK)(u:Value)(s':QP):Prop :=
 ∃v H',s'.os=s.os/\Sg s'.gens/\Un (WD outer) [] H H' s.heap s'.heap/\HOk P w H' s'.heap/\RelV v u/\Q v H'
def CR(CX:WN)(outer:List Env)(P:QX)(w:QY)(H:Hp)(s:QP)(Q:VK)(E:XK)(r:Tz)(s':QP):Prop :=
 match r with
 |.ok (.ret u)=>CE outer P w H s Q u s'
 |.ok _=>False
 |.error e=>CX outer H s E e s'
structure FnOk (P:QX)(w:QY)(K:FG)(mg:SV)(base:Re)(CX:WN)(k:Nat)(f:QO)(fd:Rn)(ps:List Str)(sp:Sp):Prop where
 len:∀vs H Q E,sp vs H Q E->vs.length=ps.length
 run:∀(A:QZ) (outer:List Env) (s:QP) (H:Hp) (args:Args) (us:LV) (vs:List V) (Q:VK) (E:XK),Room k A->WK P w K mg base A outer s H->Tn s fd args (ps.zip us)->Vals vs us->sp vs H Q E ->
  RP (QU P w) A (.call (.ref f) args) (CR CX outer P w H s Q E) s
theorem FnOk.mono{K:FG}{j k:Nat}(F:FnOk P w K mg base CX j f fd ps sp)(h:j<=k) :
  FnOk P w K mg base CX k f fd ps sp:=⟨F.len,λ A outer s H args us vs Q E hr=>F.run A outer s H args us vs Q E (hr.mono h)⟩
theorem FnOk.imp{K:FG}{sp sp':Sp}(F:FnOk P w K mg base CX k f fd ps sp)
  (h:∀vs H Q E,sp' vs H Q E->sp vs H Q E):FnOk P w K mg base CX k f fd ps sp' :=
 ⟨λ vs H Q E q=>F.len vs H Q E (h _ _ _ _ q),λ A outer s H args us vs Q E hr he hb hv hs=>F.run A outer s H args us vs Q E hr he hb hv (h _ _ _ _ hs)⟩
section
variable {Vu:LO}{σ:St}{H:Hp}{s s':QP}
def Inv.env0(I:Inv X Vu σ H s):WK X.prog X.w X.K X.mg X.base X.A X.stack s H :=
 ⟨I.ok.frames,I.ok.mod,I.bs,cY I.ok.bsz I.sz,I.stack,I.stkFree,I.hok,I.bare⟩
def Inv.after(I:Inv X Vu σ H s)(h:CE X.stack X.prog X.w H s Q u s'):EP X Vu σ Q u s':=by
 obtain⟨v,H',os,bare,un,hok,r,q⟩:=h;obtain⟨hh,g,d,t,os'⟩:=s';obtain rfl:os'=s.os:=os;exact⟨v,H',I.call (h':=hh) (g':=g) (d':=d) (t':=t) (ch:=[]) un hok bare (λ b z=>m8 z pv),r,q⟩
end
def vX(sp:Sp)(dvs:List V)(E:XK)(t:TA):TE:=λ σ H Q=>t σ H λ vs H1=>sp (vs++dvs) H1 Q E
def Binds(K:FG)(fd:Rn)(ps:List Str)(ds:LV):Prop :=
 ∀(s:QP) (us:LV),K.In s.heap->(us++ds).length=ps.length->Tn s fd ⟨us,[]⟩ (ps.zip (us++ds))
def Binds.all{K:FG}{ps:List Str}(h:∀us:LV,us.length=ps.length->RU fd ⟨us,[]⟩=Rj (ps.zip us)):Binds K fd ps []:=λ s us _ hl=>by
 rw[fF] at hl ⊢;exact .of_eq (h us hl)
def oS(CX:WN)(X:Cx)(E:XK):Prop:=∀(Vu:LO) (σ:St) (H:Hp) (s:QP) (e:Value) (s':QP),Inv X Vu σ H s->CX X.stack H s E e s'->X.xe e s'
section
variable {CX:WN}{k:Nat}{f C:QO}{fd:Rn}{ps:List Str}{sp:Sp}{dvs:List V}{ds:LV}{E:XK}{x m:Str}{p pos apos:Pos}{e o:Expr}{es:List Expr}{ta:TE}{t:TA}
theorem Em{vs:List V}(F:FnOk X.prog X.w X.K X.mg X.base CX k f fd ps sp)(hr:Room k X.A)(hb:Binds X.K fd ps ds)(hd:Vals dvs ds)(hx:oS CX X E)
  (I:Inv X Vu σ H s) (r:Vals vs us) (h:sp (vs++dvs) H Q E):QS (QU X.prog X.w) X.A (call (.ref f) us) (EP X Vu σ Q) X.xe s:=by
 have r2:Vals (vs++dvs) (us++ds):=r.append hd;have hl:(us++ds).length=ps.length:=by rw[<- r2.length];exact F.len _ _ _ _ h
 refine Ux (mK (F.run X.A X.stack s H ⟨us,[]⟩ (us++ds) (vs++dvs) Q E hr I.env0 (hb s us I.kIn hl) r2 h) λ r s' hq=>?_)
 cases r with
 |error e=>exact hx Vu σ H s e s' I hq
 |ok fl=>
  cases fl with
  |ret u=>exact I.after hq
  |next|brk|cont=>exact RA hq
theorem Eo(F:FnOk X.prog X.w X.K X.mg X.base CX k f fd ps sp)(hr:Room k X.A)(hg:Gl X x)(hm:X.mg x=QJ (.ref f))(hk:W.keepIn X.K (.ref f)=QK)(hb:Binds X.K fd ps ds)(hd:Vals dvs ds)(hx:oS CX X E)
  (ha:PA X (e::es) t) (hdb:autoParam ((x == ("__debug__" : Str))=QL) on._auto_1) (he:autoParam (Rf (e::es) X.env=(QL,eval e X.env)::Rf es X.env) A8._auto_1) (hpl:autoParam ((RQ pos (Rf es X.env)).any (·.1)=QL) A8._auto_1) :
  PE X (.Call (.Name x p) (e::es) [] pos) (vX sp dvs E t):=by
 intro Vu s σ H Q I h;refine kN (oF I hg hm ?_ hdb);refine W.callWith_K (h₀:=X.base) I.ok.mod.kin hk (VD (ha pos Vu s σ H _ I h) λ us s1 ⟨vs,H1,I1,r,q⟩=>⟨I1.kIn,?_⟩) he hpl;exact Em F hr hb hd hx I1 r q
end
section
variable {CX:WN}{k:Nat}{f C:QO}{fd:Rn}{ps ks:List Str}{sp:Sp}{E:XK}{x m:Str}{p pos apos kpos:Pos}{e o:Expr}{es:List Expr}{kws:List Tb}{te ta:TE}{t tk:TA}{nm:Option Str}
variable {g:LV->LV->LV}{gV:List V->List V->List V}
end
structure VO (N P:List Str)(sc:Scope):Prop where
 kind:sc.kind=.function
 co:sc.isCoroutine=QL
 gen:sc.isGenerator=QL
 nd:N.Nodup
 pre:N.take P.length=P
 par:∀x∈P,sc.names.lookup x=QJ .local\/sc.names.lookup x=QJ .cell
 nofree:∀y∈sc.names,y.2≠.free
theorem vY{kindOf:Str->Option Rb}{x:Str}:∀ {binds:List (Str×Value)}{m:SV},(∀v,(x,v) ∉ binds)->Sq kindOf binds m x=m x
 |[],_,_=>rfl
 |(n,v)::r,m,h=>by
  unfold Sq;rw[vY λ w hw=>h w (bg _ hw)];split
  .have:x≠n:=by rintro rfl;exact h v bc
   simp[this]
  .rfl
theorem vZ{kindOf:Str->Option Rb}{x:Str}:∀ {binds:List (Str×Value)}{m:SV},(∀v,(x,v) ∉ binds)->So kindOf binds m x=m x
 |[],_,_=>rfl
 |(n,v)::r,m,h=>by
  unfold So;rw[vZ λ w hw=>h w (bg _ hw)];split
  .rfl
  .have:x≠n:=by rintro rfl;exact h v bc
   simp[this]
theorem rN{kindOf:Str->Option Rb}:∀ {P:List Str}{vs:LV}{i:Nat}{m:SV},P.Nodup->P[i]?=QJ x->vs[i]?=QJ v->kindOf x=QJ .local ->
  Sq kindOf (P.zip vs) m x=QJ v
 |[],_,_,_,_,h,_,_=>by simp at h
 |_::_,[],_,_,_,_,h,_=>by simp at h
 |p::P,w::vs,0,m,nd,h1,h2,hk=>by
  simp at h1 h2;subst h1;subst h2;show Sq kindOf ((p,w)::P.zip vs) m p=_;unfold Sq;rw[vY λ v hv=>(gM.mp nd).1 (oT hv).1,m7 hk];simp
 |p::P,w::vs,i+1,m,nd,h1,h2,hk=>by
  show Sq kindOf ((p,w)::P.zip vs) m x=_;unfold Sq;exact rN (i:=i) (gM.mp nd).2 (by simpa using h1) (by simpa using h2) hk
theorem rO{kindOf:Str->Option Rb}:∀ {P:List Str}{vs:LV}{i:Nat}{m:SV},P.Nodup->P[i]?=QJ x->vs[i]?=QJ v->kindOf x≠QJ .local ->
  So kindOf (P.zip vs) m x=QJ v
 |[],_,_,_,_,h,_,_=>by simp at h
 |_::_,[],_,_,_,_,h,_=>by simp at h
 |p::P,w::vs,0,m,nd,h1,h2,hk=>by
  simp at h1 h2;subst h1;subst h2;show So kindOf ((p,w)::P.zip vs) m p=_;unfold So;rw[vZ λ v hv=>(gM.mp nd).1 (oT hv).1,k9 hk];simp
 |p::P,w::vs,i+1,m,nd,h1,h2,hk=>by
  show So kindOf ((p,w)::P.zip vs) m x=_;unfold So;exact rO (i:=i) (gM.mp nd).2 (by simpa using h1) (by simpa using h2) hk
noncomputable def VF(N:List Str)(vs:List V):St:=vs.map QJ++QT (N.length-vs.length) QM
noncomputable def eO(CX:WN)(P:QX)(w:QY)(K:FG)(mg:SV)(base:Re)(N:List Str)(qual:Str)(scope:Scope)(f:QO)(cd:Value)(A:QZ)(outer:List Env)(s:QP)(H:Hp)(E:XK):Cx where
 prog:=P
 w:=w
 K:=K
 mg:=mg
 base:=base
 A:=A.deeper (RG qual scope s.heap.objs.size f cd)
 N:=N
 s₀:=s
 H₀:=H
 env:=RG qual scope s.heap.objs.size f cd
 outer:=outer
 stack:=RG qual scope s.heap.objs.size f cd::outer
 ex:=[]
 calm:=QK
 fn:=λ _=>QK
 pn:=[]
 xe:=λ e s'=>QS (QU P w) (A.deeper (RG qual scope s.heap.objs.size f cd)) (leaving (RG qual scope s.heap.objs.size f cd) e) (λ _ s''=>CX outer H s E e s'') (λ e' s''=>CX outer H s E e' s'') s'
def mL{sc:Scope}(h:sc.names.lookup x=QJ .cell):∃c,(Ri n sc.names []).lookup x=QJ c:=by
 have q:=oU sc.names n [] (.inl h);exact kO.mp q
theorem Ep{K:FG}{A:QZ}{s s1:QP}{vs:List V}
  (S:VO N ps scope) (hd:A.handled=QM) (e0:WK P w K mg base A outer s H) (hl:vs.length=ps.length) (r:Vals vs us)
  (x:Su s s.heap.objs.size (Sq (RG qual scope s.heap.objs.size f cd).kindOf (ps.zip us) λ _=>QM) (Ri (s.heap.objs.size+1) scope.names []) (So (RG qual scope s.heap.objs.size f cd).kindOf (ps.zip us) λ _=>QM) s1) :
  Inv (eO CX P w K mg base N qual scope f cd A outer s H E) [] (VF N vs) H s1:=by
 have hpl:ps.length<=N.length:=by have:=bO RO S.pre;rw[bh] at this;lia
 obtain⟨h1,tk,rfl,hk⟩:=x.done;have noA:∀b:QO,b ∉ (eO CX P w K mg base N qual scope f cd A outer s H E).ex:=λ b z=>m8 (show b∈([]:List QO) from z) pv
 refine⟨⟨e0.mod,S.kind,O,O,ak _,λ y z c h1 h2=>?_,λ y hy=>?_,λ y c _ h=>?_,λ _=>hd,s0k e0.frames,.inr ⟨O,O⟩,λ b z=>m8 z (noA b),e0.bs,e0.bsz,λ b _ _=>noA b,λ b z=>m8 z (noA b),e0.funs,e0.frf⟩,
  rfl,e0.bare,Un.kept hk,⟨_,x.toInCall.ns,λ i y v h1 h2 h3=>?_⟩,λ y c h=>⟨_,x.cell y c h⟩,e0.hok.fresh (ak _),λ y c h=>?_,λ p hp=>m8 (show p∈([]:LO) from hp) pv,e0.hok.kept hk,?_⟩
 .exact oV x.apart (dZ h1) (dZ h2)
 .have hy:scope.names.lookup y=QJ .cell\/scope.names.lookup y=QJ .free:=hy
  rcases hy with hy|hy
  .exact mL hy
  .exact m8 rfl (S.nofree _ (dZ hy))
 .exact fD (x.above y c (dZ h))
 .have hi:i<vs.length:=by
   unfold VF at h2;by_cases hi:i<vs.length
   .exact hi
   .rw[cu (by simpa using hi)] at h2;rw[dH] at h2;split at h2<;>cases h2
  have ha:vs[i]?=QJ v:=by
   unfold VF at h2;rw[cx (by simpa using hi),aW] at h2
   cases e:vs[i]? with
   |none=>rw[e] at h2;cases h2
   |some a=>rw[e] at h2;cases h2;rfl
  obtain⟨u,hu,rv⟩:=r.get ha
  have hp:ps[i]?=QJ y:=by
   rw[<- S.pre,oW ca];exact h1
  have ndP:ps.Nodup:=by rw[<- S.pre];exact S.nd.sublist (TM _ _)
  refine⟨u,rv,?_⟩
  rcases S.par y (aC hp) with k|k
  .exact .inl ⟨k,rN ndP hp hu k⟩
  .obtain⟨c,e⟩:=mL (n:=s.heap.objs.size+1) k;refine .inr ⟨.inl k,c,e,?_⟩;have q:=x.cell y c e;rw[rO ndP hp hu (by show scope.names.lookup y≠_;rw[k];decide)] at q;exact q
 .exact e0.hok.fresh (fD (x.above y c (dZ h)))
 .unfold VF;show _=N.length;rw[aK,ag,dO];lia
theorem wa{K:FG}{dV kV doc pm cdv ct oc:Value}{an od:OA}
  {osl:AV}{sp:Sp}(lk:K.lookup f=QJ ⟨oc,od,.func (W.fnOf name qual params body scope dV kV doc pm an cdv ct),osl⟩) (hcd:W.codeIn K cdv qual=QK) (S:VO N ps scope)
  (len:∀vs H Q E,sp vs H Q E->vs.length=ps.length)
  (hbody:∀(A:QZ) (outer:List Env) (s:QP) (H:Hp) (vs:List V) (Q:VK) (E:XK),Room k (A.deeper (RG qual scope s.heap.objs.size f cdv))->sp vs H Q E ->
   ∃t,PSs (eO CX P w K mg base N qual scope f cdv A outer s H E) body t/\t { nx:=λ _ H'=>Q .non H',rt:=Q } (VF N vs) H) :
  FnOk P w K mg base CX (k+1) f (W.fnOf name qual params body scope dV kV doc pm an cdv ct) ps sp:=by
 refine⟨len,λ A outer s H args us vs Q E hr e0 hb r hsp=>?_⟩;have hl:=len _ _ _ _ hsp;have KX:K.In s.heap:=e0.mod.kin.keeps λ b o e=>(e0.bs b o e).1;have lim:s.heap.NoLimit:=e0.mod.nolimit.keeps λ b o e=>(e0.bs b o e).1
 have VT:∀y∈ps.zip us,scope.names.lookup y.1=QJ .local\/(scope.names.lookup y.1=QJ .cell/\((Ri (s.heap.objs.size+1) scope.names []).lookup y.1).isSome=QK):=λ⟨n,v⟩ hy=>by
  rcases S.par n (oT hy).1 with q|q
  .exact .inl q
  .exact .inr ⟨q,oU _ _ _ (.inl q)⟩
 refine codeAny_call_function hr.depth (KX _ _ lk) rfl S.co S.gen rfl (W.codeRec_of KX hcd) (hb _ _ _ _ ?_);refine wpAny_newFunctionEnv_cells S.kind VT λ env he s1 x=>?_;subst he;refine⟨lim.keeps x.toInCall.keep,codeAny_func ?_⟩;obtain⟨t,ht,hq⟩:=hbody A outer s H vs Q E (hr.deeper _) hsp;have I:Inv (eO CX P w K mg base N qual scope f cdv A outer s H E) [] (VF N vs) H s1:=Ep S hr.hd e0 hl r x;refine cU (ht [] s1 (VF N vs) H _ I hq) (λ fl s' hs=>?_) λ e s' hs=>hs
 have fin:∀ {σ':St}{H':Hp}{v:V}{u:Value},Inv (eO CX P w K mg base N qual scope f cdv A outer s H E) [] σ' H' s'->RelV v u->Q v H'->CE outer P w H s Q u s' :=
  λ {σ' H' v u} J rv q=>⟨v,H',J.os,J.bare,J.base,J.hok,rv,q⟩
 cases fl with
 |ret u=>
  obtain⟨v,σ',H',J,rv,q⟩:=hs;exact fin J rv q
 |next=>
  obtain⟨σ',H',J,q⟩:=hs;exact fin (v:=V.non) (u:=Ry) J rfl q
 |brk|cont=>
  obtain⟨_,_,_,q⟩:=hs;exact RA q
section
variable {x:Str}{p pos:Pos}{e:Expr}{es:List Expr}{t:TA}{id T:String}{r:List V->Hp->VK->Prop}
def ZI(r:List V->Hp->VK->Prop)(t:TA):TE:=λ σ H Q=>t σ H λ vs H1=>r vs H1 Q
theorem Er(hc:cz X (.builtin id) r)(hg:Gl X x)(hm:X.mg x=QM)(hv:RW x=QJ (.builtin id))(ha:PA X (e::es) t)(hn:x ≠ "__name__" := by decide)(hdb:autoParam ((x == ("__debug__" : Str))=QL) on._auto_1)
  (he:autoParam (Rf (e::es) X.env=(QL,eval e X.env)::Rf es X.env) A8._auto_1) (hpl:autoParam ((RQ pos (Rf es X.env)).any (·.1)=QL) A8._auto_1):PE X (.Call (.Name x p) (e::es) [] pos) (ZI r t):=by
 intro Vu s σ H Q I h;refine kN (eK I hg hm hv ?_ hn hdb);exact Um (VD (ha pos Vu s σ H _ I h) λ us s1 ⟨vs,H1,I1,r1,q1⟩=>hc Vu s1 σ H1 vs us Q I1 r1 q1) he hpl
theorem rP(hc:cz X (.type T) r)(hg:Gl X x)(hm:X.mg x=QM)(hv:RW x=QJ (.type T))(ha:PA X (e::es) t)(hn:x ≠ "__name__" := by decide)(hdb:autoParam ((x == ("__debug__" : Str))=QL) on._auto_1)
  (he:autoParam (Rf (e::es) X.env=(QL,eval e X.env)::Rf es X.env) A8._auto_1) (hpl:autoParam ((RQ pos (Rf es X.env)).any (·.1)=QL) A8._auto_1):PE X (.Call (.Name x p) (e::es) [] pos) (ZI r t):=by
 intro Vu s σ H Q I h;refine kN (eK I hg hm hv ?_ hn hdb);exact gK (VD (ha pos Vu s σ H _ I h) λ us s1 ⟨vs,H1,I1,r1,q1⟩=>hc Vu s1 σ H1 vs us Q I1 r1 q1) he hpl
end
end _L
namespace _H
open PySem PyProof.Rows
section
open PySem.SeqAt
open PySem.AutoSeq1 (wpAny_loadPart')
open PySem.MeetsSeq PySem.MeetsSeq2 PySem.MeetsSeq3
end
section
variable {prog:QX}{w:QY}{A:QZ}{E:VS}{s:QP}
theorem cat_tup{vs ws:LV}{Q:VS}(ht:SL s.heap t vs.toArray)(hb:SL s.heap b ws.toArray)(hv:vs≠[])
  (h1:ws=[]->Q (.ref t) s) (h2:ws≠[]->Q (.ref s.heap.objs.size) { s with heap:=s.heap.push { cls:=.type "tuple",data:=.seq (vs++ws).toArray } })
  (hsz:vs.length+ws.length<=QR):QS (QU prog w) A (Rx .Add (.ref t) (.ref b)) Q E s:=by
 obtain⟨⟨cls,dd,data,sl⟩,ho,hc,n,hd⟩:=id ht;obtain⟨⟨cls2,dd2,data2,sl2⟩,ho2,hc2,n2,hd2⟩:=id hb;simp only at hc hd hc2 hd2;subst hc hd hc2 hd2;have e:vs.toArray++ws.toArray=(vs++ws).toArray:=pv;by_cases hw:ws=[]
 .exact oX ⟨_,ho,O⟩ ⟨_,ho2,O⟩ rQ s1e rR rV (rX _ _)
   (tuple_addW1 t b vs.toArray ws.toArray n n2 dd dd2 sl sl2 (by simpa using hv) (by simp[hw])) ⟨ho,ho2,h1 hw⟩
 .refine oX ⟨_,ho,O⟩ ⟨_,ho2,O⟩ rQ s1e rR rV (rX _ _)
   (tuple_addW2 t b vs.toArray ws.toArray n n2 dd dd2 sl sl2 (by simpa using hv) (by simpa using hw) (by rw[aY,aY];exact hsz)) ⟨ho,ho2,?_⟩
  rw[e];exact h2 hw
noncomputable def sIx(n d:Nat):Option Int->Nat
 |none=>d
 |some v=>if v<0 then (v+(n:Int)).toNat else min v.toNat n
def Es(n d:Nat)(hd:d<=n)(o:Option Int):sIx n d o<=n:=by
 cases o with
 |none=>exact hd
 |some v=>
  show(if v<0 then (v+(n:Int)).toNat else min v.toNat n)<=n;by_cases hv:v<0
  .rw[m7 hv];lia
  .rw[k9 hv];exact Nat.min_le_right _ _
def wb(v:Int)(n d:Nat):(if v<0 then max (v+(n:Int)) 0 else min v (n:Int))=((sIx n d (QJ v):Nat):Int):=by
 show(if v<0 then max (v+(n:Int)) 0 else min v (n:Int))=(((if v<0 then (v+(n:Int)).toNat else min v.toNat n):Nat):Int);by_cases hv:v<0
 .simp only[m7 hv];lia
 .simp only[k9 hv];lia
def Et(lo hi:Option Int)(n:Nat):Sb lo hi 1 (n:Int)=(((sIx n 0 lo:Nat):Int),((sIx n n hi:Nat):Int)):=by
 have h1:¬((1:Int)<0):=ca;unfold Sb;simp only[h1,XJ];refine Prod.ext ?_ ?_
 .cases lo with
  |none=>rfl
  |some v=>exact wb v n 0
 .cases hi with
  |none=>rfl
  |some v=>exact wb v n n
def Eu(i j:Nat):RJ (i:Int) (j:Int) 1=j-i:=by
 unfold RJ;have h1:(1:Int) > 0:=ca;simp only[h1,gN,Vd];split<;>lia
def wc{Q:Option Int->QP->Prop}(p:Sn v o)(h:Q o s):QS (QU prog w) A (Uy v) Q E s:=by
 cases p with
 |none=>exact UI h
 |int i t=>exact slicePart_int h
theorem we{lo hi:Option Int}{Q:Int×Int×Nat->QP->Prop}(hs:s.heap.IsSliceOf sl vl vu .none)(pl:Sn vl lo)(pu:Sn vu hi)
  (h:Q (((sIx n 0 lo:Nat):Int),1,sIx n n hi-sIx n 0 lo) s):QS (QU prog w) A (SQ (.ref sl) (Rj (n:Int))) Q E s:=by
 obtain⟨os,hos,hcs,hds⟩:=id hs;unfold SQ Vb;refine ae (ae (dP hos hds (x:=vl) rfl (ae (dP hos hds (x:=vu) rfl (ae (dP hos hds (x:=.none) rfl (ay ?_)))))));refine ae (UI ?_);show QS _ _ (if ((1:Int) == 0)=QK then _ else _) _ _ s;rw[k9 on];refine ae (wc pl (ae (wc pu (ae (ay ?_)))));show QS _ _ (match Sb lo hi 1 (n:Int) with|(lo,hi)=>Rj (lo,(1:Int),RJ lo hi 1)) _ _ s;rw[Et lo hi n];show QS _ _ (Rj (((sIx n 0 lo:Nat):Int),(1:Int),RJ ((sIx n 0 lo:Nat):Int) ((sIx n n hi:Nat):Int) 1)) _ _ s;rw[Eu];exact ay h
def Ev(xs:Array Value)(i k:Nat):((QW k).filterMap λ(m:Nat)=>xs[((i:Int)+(m:Int)*1).toNat]?).toArray=((xs.toList.drop i).take k).toArray:=by
 have e:(λ(m:Nat)=>xs[((i:Int)+(m:Int)*1).toNat]?)=λ m=>xs[i+m]?:=by
  funext m;have:((i:Int)+(m:Int)*1).toNat=i+m:=ca;rw[this]
 rw[e];have:=pick_run xs i k;rw[List.filterMap_map] at this;have e2:((λ x=>xs[x]?) ∘ λ x=>i+x)=λ m=>xs[i+m]?:=rfl;rw[e2] at this;rw[this]
theorem getItem_tuple_cut{lo hi:Option Int}{Q:VS}(ht:SL s.heap t items)(hs:s.heap.IsSliceOf sl vl vu .none)(pl:Sn vl lo)(pu:Sn vu hi)
  (hw:¬(sIx items.size 0 lo=0/\sIx items.size items.size hi=items.size))
  (h:Q (.ref s.heap.objs.size) { s with heap:=s.heap.push { cls:=.type "tuple",data:=.seq ((items.toList.drop (sIx items.size 0 lo)).take (sIx items.size items.size hi-sIx items.size 0 lo)).toArray } })
  (hsz:items.size<=QR):QS (QU prog w) A (Sk (.ref t) (.ref sl)) Q E s:=by
 have htake:sizeOk (.seq ((items.toList.drop (sIx items.size 0 lo)).take (sIx items.size items.size hi-sIx items.size 0 lo)).toArray):=by
  show((items.toList.drop (sIx items.size 0 lo)).take (sIx items.size items.size hi-sIx items.size 0 lo)).toArray.size<=QR;rw[aY,bh,da,Rt];omega
 have hj:sIx items.size items.size hi<=items.size:=Es _ _ (ak _) hi;obtain⟨os,hos,hcs,hds⟩:=id hs;have hTs:s.TypeIs (.ref sl) "slice" := ⟨os,hos,hcs⟩;unfold Sk;try with_reducible refine fE ?_
 first|refine ae (ay ?_)|skip
 refine ae (TX ht.typeIs on ?_)
 refine ae (jJ (name:=Rh "__getitem__") ht.typeIs oY
  (gi oY ht.typeIs s0u ?_ (s1f _ _)))
 show QS _ _ (SR (.ref t) >>= _) _ _ s;refine ae (UZ ht ?_);refine ae (iT hTs ?_);rw[m7 on];refine ae (we hs pl pu ?_)
 have hno:¬((((sIx items.size 0 lo:Nat):Int) == 0&&(1:Int) == 1&&(sIx items.size items.size hi-sIx items.size 0 lo) == items.size)=QK):=by
  intro q;rw[bj,bj] at q;have q1:((sIx items.size 0 lo:Nat):Int)=0:=iU q.1.1;have q2:sIx items.size items.size hi-sIx items.size 0 lo=items.size:=iU q.2;exact hw ⟨by omega,by omega⟩
 show QS _ _ (if (((sIx items.size 0 lo:Nat):Int) == 0&&(1:Int) == 1&&(sIx items.size items.size hi-sIx items.size 0 lo) == items.size)=QK then _ else _) _ _ s;rw[k9 hno,Ev]
 first
  |exact ae (m:=Rm _) (dB (ay ⟨_,rfl,ay h⟩) htake)
  |exact ae (m:=Rm _) (dB (ae (ay (ay ⟨_,rfl,ay h⟩))) htake)
  |exact ae (ae (m:=Rm _) (dB (ay (ay ⟨_,rfl,ay h⟩)) htake))
  |exact ae (ae (m:=Rm _) (dB (ay ⟨_,rfl,ay h⟩) htake))
end
end _H
namespace _L
open PySem PySem.Spec PyProof.Rows
abbrev TO:=St->Hp->(Option Int->Hp->Prop)->Prop
def PO(X:Cx)(e:Option Expr)(t:TO):Prop :=
 ∀(Vu:LO) (s:QP) (σ:St) (H:Hp) (Q:Option Int->Hp->Prop),Inv X Vu σ H s->t σ H Q ->
  QS (QU X.prog X.w) X.A (evalPart e X.env) (λ u s'=>∃o H',Inv X Vu σ H' s'/\Sn u o/\Q o H') X.xe s
def Ew:TO:=λ _ H Q=>Q QM H
def mM{ns:LI}:∀ {us:LV},Vals (ns.map V.int) us->Sw us ns:=by
 induction ns with
 |nil=>intro us r;rw[Vi] at r;cases r;exact .nil
 |cons n ns ih=>
  intro us r;rw[dg] at r
  cases r with
  |cons r1 r2=>
   obtain⟨t,e⟩:=r1;subst e;exact .cons n t (ih r2)
variable {X:Cx}
section
variable {e:Expr}{te:TE}{lo hi:Option Expr}{tl th:TO}{pos p2:Pos}
def Ex:PO X QM Ew:=by
 intro Vu s σ H Q I h;rw[UW];exact ay ⟨QM,H,I,.none,h⟩
def Yj(X:Cx)(r:V->Option Int->Option Int->Hp->VK->Prop):Prop :=
 ∀(Vu:LO) (s:QP) (σ:St) (H:Hp) (x:V) (v vl vu:Value) (lo hi:Option Int) (sl:QO) (Q:VK),Inv X Vu σ H s->RelV x v->s.heap.IsSliceOf sl vl vu .none->Sn vl lo->Sn vu hi->r x lo hi H Q ->
  ∃T id,RM (.type T) "__getitem__"=Rj (QJ (.builtin id))/\s.TypeIs v T/\QS (QU X.prog X.w) X.A (Sk v (.ref sl)) (EP X Vu σ Q) X.xe s
def tSl(r:V->Option Int->Option Int->Hp->VK->Prop)(te:TE)(tl th:TO):TE:=λ σ H Q=>te σ H λ x H1=>tl σ H1 λ l H2=>th σ H2 λ u H3=>r x l u H3 Q
def Ey(hr:Yj X r)(he:PE X e te)(hl:PO X lo tl)(hu:PO X hi th):PE X (.Subscript e (.Slice lo hi QM p2) pos) (tSl r te tl th):=by
 intro Vu s σ H Q I h;refine Up (VD (he Vu s σ H _ I h) λ v s1 ⟨x,H1,I1,r1,q1⟩=>?_);refine wpAny_Slice (VD (hl Vu s1 σ H1 _ I1 q1) λ vl s2 ⟨l,H2,I2,pl,q2⟩=>VD (hu Vu s2 σ H2 _ I2 q2) λ vu s3 ⟨u,H3,I3,pu,q3⟩=>?_);rw[UW];refine ay ?_;have I4:Inv X Vu σ H3 { s3 with heap:=s3.heap.push { cls:=.type "slice",data:=.fields #[vl,vu,.none] } }:=I3.kept (t':=s3.toks) λ b ob q=>aV _ q;obtain⟨T,id,hT,ht,hg⟩:=hr Vu { s3 with heap:=s3.heap.push { cls:=.type "slice",data:=.fields #[vl,vu,.none] } } σ H3 x v vl vu l u s3.heap.objs.size Q I4 r1 (Heap.IsSliceOf.new ..) pl pu q3;show QS (QU X.prog X.w) X.A (SY e (.Slice lo hi QM p2) v (.ref s3.heap.objs.size)) (EP X Vu σ Q) X.xe { s3 with heap:=s3.heap.push { cls:=.type "slice",data:=.fields #[vl,vu,.none] } };exact tail_any (ops:=[.ref s3.heap.objs.size,v]) ht hT hg (by with_unfolding_all rfl)
def ik(xs:List V)(lo hi:Option Int):List V:=(xs.drop (_H.sIx xs.length 0 lo)).take (_H.sIx xs.length xs.length hi-_H.sIx xs.length 0 lo)
def wg(xs:List V)(lo hi:Option Int):(ik xs lo hi).length<=xs.length:=by
 unfold ik;rw[bh,da];lia
def Ez(K:FG):V->Option Int->Option Int->Hp->VK->Prop:=λ x lo hi H Q=>∃a xs,x=.ref a/\SqT K H a xs /\
 ¬(_H.sIx xs.length 0 lo=0/\_H.sIx xs.length xs.length hi=xs.length)/\∀p,H p=QM->Q (.ref p) (VA H p (.tup (ik xs lo hi)))
def EA:Yj X (Ez X.K):=by
 intro Vu s σ H x v vl vu lo hi sl Q I rx hs pl pu h;obtain⟨a,xs,rfl,hx,hw,q⟩:=h;cases rx;obtain⟨its,r,ht,hz⟩:=I.tuple hx;have VC:its.toArray.size=xs.length:=by rw[aY];exact r.length.symm
 refine⟨"tuple",_,PyProof.Rows.slot_tuple_getitem.lookup,ht.typeIs,?_⟩;refine _H.getItem_tuple_cut ht hs pl pu (by rw[VC];exact hw) ?_ (by rw[VC];exact hz);rw[VC];refine⟨.ref s.heap.objs.size,_,I.laid (t':=s.toks) (o:=.tup (ik xs lo hi)) (λ b ob q=>aV _ q) (ak _) ?_,O,q _ (I.hok.fresh (ak _))⟩;exact⟨cY (wg xs lo hi) hz,_,(r.drop (_H.sIx xs.length 0 lo)).take (_H.sIx xs.length xs.length hi-_H.sIx xs.length 0 lo),TupO.new _ _⟩
def EB(K:FG):R2:=λ x y H Q=>∃a b xs ys,x=.ref a/\y=.ref b/\SqT K H a xs/\SqT K H b ys/\xs≠[]/\xs.length+ys.length<=QR /\
 (ys=[]->Q (.ref a) H)/\(ys≠[]->∀p,H p=QM->Q (.ref p) (VA H p (.tup (xs++ys))))
def Vals.nil_iff(r:Vals xs us):us=[] ↔ xs=[]:=by
 cases r with
 |nil|cons _ _=>simp
def EC:VQ X (Rx .Add) (EB X.K):=by
 intro Vu s σ H x y v u Q I rx ry h;obtain⟨a,b,xs,ys,rfl,rfl,ha,hb,hx,hz,q1,q2⟩:=h;cases rx;cases ry;obtain⟨its,r1,p1,_⟩:=I.tuple ha;obtain⟨its2,r2,p2,_⟩:=I.tuple hb;refine _H.cat_tup p1 p2 (λ z=>hx (r1.nil_iff.mp z)) (λ z=>⟨.ref a,H,I,O,q1 (r2.nil_iff.mp z)⟩) (λ z=>?_) (by rw[<- r1.length,<- r2.length];exact hz);refine⟨.ref s.heap.objs.size,_,I.laid (t':=s.toks) (o:=.tup (xs++ys)) (λ b ob q=>aV _ q) (ak _) ?_,O,q2 (λ w=>z (r2.nil_iff.mpr w)) _ (I.hok.fresh (ak _))⟩;exact⟨by rw[aK];exact hz,_,r1.append r2,TupO.new _ _⟩
end
noncomputable def Xb(n:Nat)(i:Int):Option Nat:=if 0<=i then (if i<n then QJ i.toNat else QM) else if -(n:Int)<=i then QJ (i+n).toNat else QM
def VY{α:Type}(xs:List α)(i:Int):Option α:=(Xb xs.length i).bind λ j=>xs[j]?
def wj(h:Xb n i=QJ j):Ti i n=QJ j/\j<n/\-(n:Int)<=i/\i<n:=by
 unfold Xb at h;by_cases h0:0<=i
 .rw[m7 h0] at h;by_cases h1:i<n
  .rw[m7 h1] at h;have e:i.toNat=j:=bN h;exact⟨by rw[s1v h0 h1,e],ca,ca,h1⟩
  .rw[k9 h1] at h;cases h
 .rw[k9 h0] at h;by_cases h1:-(n:Int)<=i
  .rw[m7 h1] at h;have e:(i+n).toNat=j:=bN h;exact⟨by rw[s1r ca h1,e],ca,h1,ca⟩
  .rw[k9 h1] at h;cases h
def rY{α:Type}{xs:List α}{v:α}(h:VY xs i=QJ v):∃j,Ti i xs.length=QJ j/\xs[j]?=QJ v/\j<xs.length/\-(xs.length:Int)<=i/\i<xs.length:=by
 unfold VY at h
 cases e:Xb xs.length i with
 |none=>rw[e] at h;cases h
 |some j=>
  rw[e] at h;obtain⟨h1,h2,h3,h4⟩:=wj e;exact⟨j,h1,h,h2,h3,h4⟩
def im{α:Type}{xs:List α}{j:Nat}{v:α}(h:xs[j]?=QJ v):VY xs (j:Int)=QJ v:=by
 have hj:j<xs.length:=(aN.mp h).1
 have e:Xb xs.length (j:Int)=QJ j:=by
  unfold Xb;rw[m7 ca,m7 ca];simp
 unfold VY;rw[e];exact h
def wl(b:Expr):Prop:=∀o i,Tl b QL o i=operate [o,i] (Sk o i)
def IxR(X:Cx)(r:R2):Prop :=
 ∀(value slice:Expr) (Vu:LO) (s:QP) (σ:St) (H:Hp) (x y:V) (v u:Value) (Q:VK),Inv X Vu σ H s->RelV x v->RelV y u->r x y H Q ->
  Tl slice QL v u=operate [v,u] (Sk v u)->QS (QU X.prog X.w) X.A (SY value slice v u) (EP X Vu σ Q) X.xe s
def Yk(X:Cx)(id:String)(r:V->List V->Hp->VK->Prop):Prop :=
 ∀(Vu:LO) (s:QP) (σ:St) (H:Hp) (x:V) (xs:List V) (v:Value) (us:LV) (Q:VK),Inv X Vu σ H s->RelV x v->Vals xs us->r x xs H Q ->
  QS (QU X.prog X.w) X.A (call (.builtin id) (v::us)) (EP X Vu σ Q) X.xe s
section
variable {a b:Expr}{ta tb:TE}{pos:Pos}
def IxR.or(h:IxR X r)(h':IxR X r'):IxR X (λ x y H Q=>r x y H Q\/r' x y H Q):=by
 intro value slice Vu s σ H x y v u Q I rx ry q hs
 rcases q with q|q
 .exact h value slice Vu s σ H x y v u Q I rx ry q hs
 .exact h' value slice Vu s σ H x y v u Q I rx ry q hs
def wn(hr:IxR X r)(ha:PE X a ta)(hb:PE X b tb)(hs:wl b):PE X (.Subscript a b pos) (XW r ta tb):=by
 intro Vu s σ H Q I h;exact Up (rF ha hb I h λ v u s2 x y H2 I2 rx ry q=>hr a b Vu s2 σ H2 x y v u Q I2 rx ry q (hs _ _))
def rZ(K:FG):R2:=λ x y H Q=>∃p xs i v,x=.ref p/\y=.int i/\SqL K H p xs/\VY xs i=QJ v/\Q v H
def wo(K:FG):R2:=λ x y H Q=>∃p xs i v,x=.ref p/\y=.int i/\SqT K H p xs/\VY xs i=QJ v/\Q v H
def wp:R2:=λ x y H Q=>∃z i c,x=.str z/\y=.int i/\z.length<=QR/\VY z.cps.toList i=QJ c/\Q (.str ⟨#[c]⟩) H
def ix_list:IxR X (rZ X.K):=by
 intro value slice Vu s σ H x y v u Q I rx ry h hs;obtain⟨p,xs,i,z,rfl,rfl,hq,he,q⟩:=h;cases rx;obtain⟨t,rfl⟩:=ry;obtain⟨its,r,pl,hz⟩:=I.list hq;obtain⟨j,h1,h2,h3,h4,h5⟩:=rY he;obtain⟨w,ew,rw'⟩:=r.get h2;have hl:=r.length;have hn:=kL;have fin:EP X Vu σ Q w s:=⟨z,H,I,rw',q⟩;by_cases h0:0<=i
 .have hj:i.toNat=j:=by
   rw[s1v h0 h5] at h1;exact bN h1
  exact item_listR pl.isList h0 ca (by rw[hj];simpa using ew) fin hs
 .have hj:(i+(its.toArray.size:Int)).toNat=j:=by
   rw[s1r ca h4] at h1;rw[aY,<- hl];exact bN h1
  exact wq (x:=w) pl.isList.typeIs slot_list_getitem.lookup
   (wpAny_getItem_list_neg (Q:=λ r s'=>r=w/\EP X Vu σ Q r s') pl.isList ca (by rw[aY]<;>lia) ca (by rw[hj];simpa using ew) ⟨rfl,fin⟩) hs
def ix_tup:IxR X (wo X.K):=by
 intro value slice Vu s σ H x y v u Q I rx ry h hs;obtain⟨p,xs,i,z,rfl,rfl,hq,he,q⟩:=h;cases rx;obtain⟨t,rfl⟩:=ry;obtain⟨its,r,pl,hz⟩:=I.tuple hq;obtain⟨j,h1,h2,h3,h4,h5⟩:=rY he;obtain⟨w,ew,rw'⟩:=r.get h2;have hl:=r.length;have hn:=kL;have fin:EP X Vu σ Q w s:=⟨z,H,I,rw',q⟩
 exact wq (x:=w) pl.typeIs slot_tuple_getitem.lookup
  (UX (j:=j) (Q:=λ r s'=>r=w/\EP X Vu σ Q r s') pl ca ca (by rw[aY,<- hl];exact h1) (by simpa using ew) ⟨rfl,fin⟩) hs
def ED:IxR X wp:=by
 intro value slice Vu s σ H x y v u Q I rx ry h hs;obtain⟨z,i,c,rfl,rfl,hz,he,q⟩:=h;obtain⟨t,rfl⟩:=rx;obtain⟨t',rfl⟩:=ry;obtain⟨j,h1,h2,h3,h4,h5⟩:=rY he;have hl:z.cps.toList.length=z.length:=by simp[Str.length]
 rw[hl] at h1 h4 h5;have hn:=kL
 exact tail_any (Uv s z t) slot_str_getitem.lookup (getItem_str (c:=c) (by
  have e1:decide (i < -(2 ^ 63:Int))=QL:=bw ca;have e2:decide (i ≥ 2 ^ 63)=QL:=bw ca
  rw[e1,e2,gj]) (by rw[h1];simpa using h2) ⟨.str ⟨#[c]⟩,H,I.tok _,⟨_,rfl⟩,q⟩) hs
def rIx(K:FG):R2:=λ x y H Q=>rZ K x y H Q\/wo K x y H Q\/wp x y H Q
def se:IxR X (rIx X.K):=ix_list.or (ix_tup.or ED)
def EG(its:LV)(n j:Nat)(u:Value):RB (·.setIfInBounds j u) { cls:=.type "list",data:=.seq its.toArray n }={ cls:=.type "list",data:=.seq (its.set j u).toArray n }:=by
 simp[RB]
theorem Inv.lst(I:Inv X Vu σ H s)(h:H p=QJ (.lst xs)) :
  ∃(its:LV) (n:Nat),Vals xs its/\s.heap.get? p=QJ { cls:=.type "list",data:=.seq its.toArray n }/\xs.length<=QR:=by
 obtain⟨z,its,n,r,e⟩:=I.hok p _ h;exact⟨its,n,r,e,z⟩
theorem Inv.lstUpd{its its':LV}{f:Obj->Obj}(I:Inv X Vu σ H s)(h:H p=QJ (.lst xs))
  (ho:s.heap.get? p=QJ { cls:=.type "list",data:=.seq its.toArray n }) (hf:f { cls:=.type "list",data:=.seq its.toArray n }={ cls:=.type "list",data:=.seq its'.toArray n' }) (r:Vals ys its') (hz:ys.length<=QR) (t:Nat) :
  Inv X Vu σ (VA H p (.lst ys)) { s with heap:=s.heap.update p f,toks:=t }:=by
 have e:(s.heap.update p f).get? p=QJ { cls:=.type "list",data:=.seq its'.toArray n' }:=by
  rw[iV f ho (by rw[hf]<;>rfl),hf]
 refine I.write (x:=p) (e:=p) (by rw[h];trivial) (.inl rfl) (λ b u hb q=>(fG _ _ (cL hb)).trans q) ⟨_,e⟩ ?_;exact⟨hz,its',n',r,e⟩
def EH:V->V->V->Hp->(Hp->Prop)->Prop:=λ o i v H Q=>∃p xs k j,o=.ref p/\i=.int k/\H p=QJ (.lst xs)/\Xb xs.length k=QJ j/\Q (VA H p (.lst (xs.set j v)))
def EI:vJ X EH:=by
 intro Vu s σ H o i v ov iv u Q I ro ri rv h;obtain⟨p,xs,k,j,rfl,rfl,hp,hj,q⟩:=h;cases ro;obtain⟨t,rfl⟩:=ri;obtain⟨its,n,r,ho,hz⟩:=I.lst hp;obtain⟨h1,h2,h3,h4⟩:=wj hj;have hl:=r.length;have hn:=kL
 have I':Inv X Vu σ (VA H p (.lst (xs.set j v))) { s with heap:=s.heap.update p (RB (·.setIfInBounds j u)) } :=
  I.lstUpd hp ho (EG its n j u) (r.set rv j) (by rw[cF];exact hz) s.toks
 by_cases h0:0<=k
 .have hk:k.toNat=j:=by
   rw[s1v h0 h4] at h1;exact bN h1
  exact W.ki_setAt ho h0 ca (by rw[aY,<- hl];exact h4) (by rw[hk];exact⟨_,I',q⟩)
 .have hk:(k+(its.toArray.size:Int)).toNat=j:=by
   rw[s1r ca h3] at h1;rw[aY,<- hl];exact bN h1
  exact W.ki_setBack ho ca (by rw[aY,<- hl];exact h3) ca (by rw[hk];exact⟨_,I',q⟩)
def EJ(lo hi:Option Int)(n:Nat):(Sa lo hi QM n).1=((_H.sIx n 0 lo:Nat):Int)/\(Sa lo hi QM n).2.1=((_H.sIx n n hi:Nat):Int)/\(Sa lo hi QM n).2.2=1:=by
 refine⟨?_,?_,O⟩
 .cases lo with
  |none=>simp[Sa,_H.sIx]
  |some i=>
   simp only[Sa,_H.sIx,Ub,show(1:Int) > 0 by decide,gN];by_cases h:i<0
   .simp only[h,gN]<;>lia
   .simp only[h,XJ]<;>lia
 .cases hi with
  |none=>simp[Sa,_H.sIx]
  |some i=>
   simp only[Sa,_H.sIx,Ub,show(1:Int) > 0 by decide,gN];by_cases h:i<0
   .simp only[h,gN]<;>lia
   .simp only[h,XJ]<;>lia
def EK(its:LV)(lo hi:Option Int):slicePick its.toArray lo hi QM=((its.drop (_H.sIx its.length 0 lo)).take (_H.sIx its.length its.length hi-_H.sIx its.length 0 lo)).toArray:=by
 obtain⟨h1,h2,h3⟩:=EJ lo hi its.toArray.size;unfold slicePick;rw[h1,h2,h3];simp only[sliceRange_one,pick_run,aY]<;>rfl
def EL(K:FG):V->Option Int->Option Int->Hp->VK->Prop:=λ x lo hi H Q=>∃a xs,x=.ref a/\SqL K H a xs/\∀p,H p=QM->Q (.ref p) (VA H p (.lst (ik xs lo hi)))
def EM:Yj X (EL X.K):=by
 intro Vu s σ H x v vl vu lo hi sl Q I rx hs pl pu h;obtain⟨a,xs,rfl,hx,q⟩:=h;cases rx;obtain⟨its,r,ht,hz⟩:=I.list hx;have VC:=r.length;refine⟨"list",_,slot_list_getitem.lookup,ht.isList.typeIs,?_⟩;refine wpAny_getItem_list_slice ht.isList hs pl pu .none pv ?_ (by rw[aY]<;>lia);rw[EK,<- VC];refine⟨.ref s.heap.objs.size,_,I.laid (t':=s.toks) (o:=.lst (ik xs lo hi)) (λ b ob q=>aV _ q) (ak _) ?_,O,q _ (I.hok.fresh (ak _))⟩;exact⟨cY (wg xs lo hi) hz,_,0,(r.drop (_H.sIx xs.length 0 lo)).take (_H.sIx xs.length xs.length hi-_H.sIx xs.length 0 lo),bF _ rfl⟩
noncomputable def gO:V->Bool
 |.non=>QK
 |.bl _=>QK
 |.int _=>QK
 |.str _=>QK
 |_=>QL
noncomputable def Xt:V->V->Bool
 |.non,.non=>QK
 |.bl a,.bl b=>a == b
 |.bl a,.int b=>(if a then 1 else 0) == b
 |.int a,.bl b=>a == (if b then 1 else 0)
 |.int a,.int b=>a == b
 |.str a,.str b=>a == b
 |_,_=>QL
def mN(ry:RelV y u)(rx:RelV x v)(fy:gO y=QK)(fx:gO x=QK):Sh A s u v (Xt y x):=by
 cases y with
 |non=>
  cases ry
  cases x with
  |non=>cases rx;exact sg _
  |bl b=>cases rx;exact SeqAt.EqAt.none_bool b
  |int b=>obtain⟨t,rfl⟩:=rx;exact SeqAt.EqAt.none_int b t
  |str b=>obtain⟨t,rfl⟩:=rx;exact SeqAt.EqAt.none_str b t
  |_=>exact m8 (show QL=QK from fx) bT
 |bl a=>
  cases ry
  cases x with
  |non=>cases rx;exact SeqAt.EqAt.bool_none a
  |bl b=>cases rx;exact SeqAt.EqAt.bool_bool a b
  |int b=>obtain⟨t,rfl⟩:=rx;exact SeqAt.EqAt.bool_int a b t
  |str b=>obtain⟨t,rfl⟩:=rx;exact SeqAt.EqAt.bool_str a b t
  |_=>exact m8 (show QL=QK from fx) bT
 |int a=>
  obtain⟨t',rfl⟩:=ry
  cases x with
  |non=>cases rx;exact SeqAt.EqAt.int_none a t'
  |bl b=>cases rx;exact SeqAt.EqAt.int_bool a t' b
  |int b=>obtain⟨t,rfl⟩:=rx;exact SeqAt.EqAt.int_int a t' b t
  |str b=>obtain⟨t,rfl⟩:=rx;exact s0z a t' b t
  |_=>exact m8 (show QL=QK from fx) bT
 |str a=>
  obtain⟨t',rfl⟩:=ry
  cases x with
  |non=>cases rx;exact SeqAt.EqAt.str_none a t'
  |bl b=>cases rx;exact SeqAt.EqAt.str_bool a t' b
  |int b=>obtain⟨t,rfl⟩:=rx;exact s1a a t' b t
  |str b=>obtain⟨t,rfl⟩:=rx;exact SeqAt.EqAt.str_str a t' b t
  |_=>exact m8 (show QL=QK from fx) bT
 |_=>exact m8 (show QL=QK from fy) bT
def WL(x:V)(u:Value):Bool:=match u with
 |.none=>Xt .non x
 |.bool b=>Xt (.bl b) x
 |.int i _=>Xt (.int i) x
 |.str z _=>Xt (.str z) x
 |_=>QL
def wt(r:RelV y u)(f:gO y=QK):WL x u=Xt y x:=by
 cases y with
 |non|bl b=>cases r;rfl
 |int i|str z=>obtain⟨t,rfl⟩:=r;rfl
 |_=>exact m8 (show QL=QK from f) bT
theorem mO:∀ {xs:List V}{us:LV},Vals xs us->xs.all gO=QK->us.any (WL x)=xs.any λ y=>Xt y x
 |_,_,.nil,_=>rfl
 |y::xs,u::us,.cons r t,f=>by
  rw[dh,bj] at f;rw[mP,mP,wt r f.1,mO t f.2]
theorem mQ(rx:RelV x v)(fx:gO x=QK):∀ {xs:List V}{us:LV},Vals xs us->xs.all gO=QK->∀u∈us,Sh A s u v (WL x u)
 |_,_,.nil,_=>λ u hu=>by cases hu
 |y::xs,u::us,.cons r t,f=>λ u' hu=>by
  rw[dh,bj] at f
  rcases aH.mp hu with rfl|hu
  .rw[wt r f.1];exact mN r rx f.1 fx
  .exact mQ rx fx t f.2 u' hu
def YC(x:V)(xs:List V):Bool:=xs.any λ y=>Xt y x
def ZJ(K:FG)(neg:Bool):R2:=λ x y H Q=>∃p xs,y=.ref p/\(SqL K H p xs\/SqT K H p xs)/\gO x=QK/\xs.all gO=QK/\Q (.bl (if neg then !YC x xs else YC x xs)) H
def EN:VQ X (Ru .In) (ZJ X.K QL):=by
 intro Vu s σ H x y v u Q I rx ry h;obtain⟨p,xs,rfl,hq,fx,fs,q⟩:=h;cases ry
 rcases hq with hq|hq
 .obtain⟨its,r,pl,hz⟩:=I.list hq;refine SeqAt.in_listAt (WL x) pl.isList (λ w hw=>mQ rx fx r fs w (by simpa using hw)) ⟨.bl _,H,I,O,?_⟩;rw[show its.toArray.any (WL x)=its.any (WL x) by simp,mO r fs];exact q
 .obtain⟨its,r,pl,hz⟩:=I.tuple hq;refine SeqAt.in_tupleAt (WL x) pl (λ w hw=>mQ rx fx r fs w (by simpa using hw)) ⟨.bl _,H,I,O,?_⟩;rw[show its.toArray.any (WL x)=its.any (WL x) by simp,mO r fs];exact q
def EO:VQ X (Ru .NotIn) (ZJ X.K QK):=by
 intro Vu s σ H x y v u Q I rx ry h;obtain⟨p,xs,rfl,hq,fx,fs,q⟩:=h;cases ry
 rcases hq with hq|hq
 .obtain⟨its,r,pl,hz⟩:=I.list hq;refine SeqAt.notIn_listAt (WL x) pl.isList (λ w hw=>mQ rx fx r fs w (by simpa using hw)) ⟨.bl _,H,I,O,?_⟩;rw[show its.toArray.any (WL x)=its.any (WL x) by simp,mO r fs];exact q
 .obtain⟨its,r,pl,hz⟩:=I.tuple hq;refine SeqAt.notIn_tupleAt (WL x) pl (λ w hw=>mQ rx fx r fs w (by simpa using hw)) ⟨.bl _,H,I,O,?_⟩;rw[show its.toArray.any (WL x)=its.any (WL x) by simp,mO r fs];exact q
def EQ:cz X (.builtin "len") (λ xs H Q=>∃p ys,xs=[.ref p]/\(SqL X.K H p ys\/SqT X.K H p ys)/\Q (.int ys.length) H):=by
 intro Vu s σ H xs us Q I r h;obtain⟨p,ys,rfl,hq,q⟩:=h;obtain⟨u,rfl,rx⟩:=cM r;cases rx;have hn:=kL
 rcases hq with hq|hq
 .obtain⟨its,r',pl,hz⟩:=I.list hq;have VC:=r'.length;exact Calls.call_len_list pl.isList (by simp only[aY]<;>lia) ⟨.int ys.length,H,I.tok _,⟨s.toks+1,by rw[aY,VC]⟩,q⟩
 .obtain⟨its,r',pl,hz⟩:=I.tuple hq;have VC:=r'.length;exact s1g pl (by simp only[aY]<;>lia) ⟨.int ys.length,H,I.tok _,⟨s.toks+1,by rw[aY,VC]⟩,q⟩
def ES:cz X (.builtin "len") (λ xs H Q=>∃z,xs=[.str z]/\z.length<=QR/\Q (.int z.length) H):=by
 intro Vu s σ H xs us Q I r h;obtain⟨z,rfl,hz,q⟩:=h;obtain⟨u,rfl,t,rfl⟩:=cM r;have hn:=kL;exact len_str ca ⟨.int z.length,H,I.tok _,⟨_,O⟩,q⟩
def ET:cz X (.type "list") (λ xs H Q=>∃p ys,xs=[.ref p]/\(SqL X.K H p ys\/SqT X.K H p ys)/\∀l,H l=QM->Q (.ref l) (VA H l (.lst ys))):=by
 intro Vu s σ H xs us Q I r h;obtain⟨p,ys,rfl,hq,q⟩:=h;obtain⟨u,rfl,rx⟩:=cM r;cases rx
 have fin:∀(its:LV),Vals ys its->ys.length<=QR->∀(h':Re) (c':Nat),(∀b o',s.heap.get? b=QJ o'->h'.get? b=QJ o') ->
   h'.get? s.heap.objs.size=QJ { cls:=.type "list",dict:=QM,data:=.seq its.toArray c',slots:=#[] }->EP X Vu σ Q (.ref s.heap.objs.size) { s with heap:=h' }:=λ its r' hz h' c' kp e=>
  ⟨.ref s.heap.objs.size,_,I.laid (t':=s.toks) kp (ak _) (show ObjOk X.prog X.w _ h' _ (.lst ys) from ⟨hz,its,c',r',e⟩),rfl,q _ (I.hok.fresh (ak _))⟩
 rcases hq with hq|hq
 .obtain⟨its,r',pl,hz⟩:=I.list hq;have VC:=r'.length;obtain⟨o,ho,hc,n,hd⟩:=pl.isList;exact UU p (.inl rfl) ho hc hd (λ h' c' kp e=>fin its r' hz h' c' kp e) (by simp only[aY]<;>lia)
 .obtain⟨its,r',pl,hz⟩:=I.tuple hq;have VC:=r'.length;obtain⟨o,ho,hc,n,hd⟩:=pl;exact UU p (.inr rfl) ho hc hd (λ h' c' kp e=>fin its r' hz h' c' kp e) (by simp only[aY]<;>lia)
def EU:cz X (.type "tuple") (λ xs H Q=>∃p ys,xs=[.ref p]/\((SqL X.K H p ys/\∀l,H l=QM->Q (.ref l) (VA H l (.tup ys)))\/(SqT X.K H p ys/\Q (.ref p) H))):=by
 intro Vu s σ H xs us Q I r h;obtain⟨p,ys,rfl,h⟩:=h;obtain⟨u,rfl,rx⟩:=cM r;cases rx
 rcases h with ⟨hq,q⟩|⟨hq,q⟩
 .obtain⟨its,r',pl,hz⟩:=I.list hq;have VC:=r'.length;refine call_tuple_list pl.isList (λ h' kp=>?_) (by simp only[aY]<;>lia);have I1:Inv X Vu σ H { s with heap:=h' }:=I.kept (t':=s.toks) kp
  have I2:Inv X Vu σ (VA H h'.objs.size (.tup ys)) { s with heap:=h'.push { cls:=.type "tuple",data:=.seq its.toArray } } :=
   I1.laid (t':=s.toks) (λ b o e=>aV _ e) (ak _) (show ObjOk X.prog X.w _ _ _ (.tup ys) from ⟨hz,its,r',TupO.new _ _⟩)
  exact⟨.ref h'.objs.size,_,I2,O,q _ (I1.hok.fresh (ak _))⟩
 .obtain⟨its,r',pl,hz⟩:=I.tuple hq;exact call_tuple_same pl ⟨.ref p,H,I,O,q⟩
def YD(K:FG)(T:String)(x:V)(H:Hp):Prop:=match x with
 |.str _=>T="str"
 |.int _=>T="int"
 |.ref p=>(T="list" /\ ∃xs,SqL K H p xs)\/(T="tuple" /\ ∃o,K.lookup p=QJ o/\o.cls=.type "tuple" /\ o.dict=QM) \/
   (T="dict" /\ ((∃kvs,H p=QJ (.dK kvs))\/∃kvs,H p=QJ (.dT kvs)))\/(T="set" /\ ∃S n,H p=QJ (.set S n))
 |_=>False
theorem wu(I:Inv X Vu σ H s)(r:RelV x v)(ty:YD X.K T x H) :
  s.TypeIs v T/\∀a,v=.ref a->∃ob,s.heap.get? a=QJ ob/\ob.dict=QM:=by
 cases x with
 |str z=>
  obtain⟨t,rfl⟩:=r;cases (show T="str" from ty);exact⟨Uv s z t,λ _ e=>nomatch e⟩
 |int i=>
  obtain⟨t,rfl⟩:=r;cases (show T="int" from ty);exact⟨s0h s i t,λ _ e=>nomatch e⟩
 |ref p=>
  cases r
  rcases ty with ⟨rfl,xs,hq⟩|⟨rfl,o,hk,hc,hd⟩|⟨rfl,hk⟩|⟨rfl,S,n,hk⟩
  .obtain⟨its,_,pl,_⟩:=I.list hq;refine⟨pl.isList.typeIs,λ a e=>?_⟩;cases e;obtain⟨o,n,e,c,hd,_⟩:=pl;exact⟨o,e,hd⟩
  .refine⟨⟨o,I.kIn p o hk,hc⟩,λ a e=>?_⟩;cases e;exact⟨o,I.kIn _ o hk,hd⟩
  .have z:∃o,s.heap.get? p=QJ o/\o.ExactDict:=by
    rcases hk with ⟨kvs,hk⟩|⟨kvs,hk⟩
    .obtain⟨_,_,_,_,o,_,_,e,ex,_⟩:=I.hok p _ hk;exact⟨o,e,ex⟩
    .obtain⟨_,_,_,_,o,_,_,e,ex,_⟩:=I.hok p _ hk;exact⟨o,e,ex⟩
   obtain⟨o,e,ex⟩:=z;refine⟨⟨o,e,ex.1⟩,λ a e2=>?_⟩;cases e2;exact⟨o,e,ex.2.1⟩
  .obtain⟨o,_,_,_,e,ex,_⟩:=I.hok p _ hk;refine⟨⟨o,e,ex.1⟩,λ a e2=>?_⟩;cases e2;exact⟨o,e,ex.2.1⟩
 |_=>exact RA ty
def EW(K:FG)(T:String)(r:V->List V->Hp->VK->Prop)(to:TE):TE:=λ σ H Q=>to σ H λ x H1=>YD K T x H1/\r x [] H1 Q
def Zb(K:FG)(T:String)(r:V->List V->Hp->VK->Prop)(to:TE)(t:TA):TE:=λ σ H Q=>to σ H λ x H1=>YD K T x H1/\t σ H1 λ xs H2=>r x xs H2 Q
variable {o e:Expr}{es:List Expr}{to:TE}{t:TA}{name:Str}{apos cpos:Pos}{T id:String}{r:V->List V->Hp->VK->Prop}
theorem EX(pa:PlainAttrs T)(slot:Slot T name id)(hty:typeOf (.builtin id)=Rj (.type "method_descriptor"))(hm:Yk X id r)(ho:PE X o to)
  (hbase:autoParam (UT o name X.env (eval o X.env)=eval o X.env) A8._auto_1) (hline:autoParam ((apos.endLine == cpos.line)=QK) A8._auto_1):PE X (.Call (.Attribute o name apos) [] [] cpos) (EW X.K T r to):=by
 intro Vu s σ H Q I h;refine wpAny_Call_method0_late hbase hline (VD (ho Vu s σ H _ I h) λ v s1 ⟨x,H1,I1,r1,ty,q1⟩=>?_);obtain⟨h1,h2⟩:=wu I1 r1 ty;exact⟨T,id,pa,slot,hty,h1,h2,ww rfl (PySem.evalArgs_none (hm Vu s1 σ H1 x [] v [] Q I1 r1 .nil q1))⟩
theorem kP(pa:PlainAttrs T)(slot:Slot T name id)(hty:typeOf (.builtin id)=Rj (.type "method_descriptor"))(hm:Yk X id r)(ho:PE X o to)(ha:PA X (e::es) t)
  (hbase:autoParam (UT o name X.env (eval o X.env)=eval o X.env) A8._auto_1)
  (hfew:((RQ cpos (Rf (e::es) X.env)).all (λ x=>!x.1) && (backToKw cpos (keywordEach [] X.env)).all (λ x=>x.1.isSome)
   && decide ((e::es).length+([]:List Tb).length+(if ([]:List Tb).isEmpty then 0 else 1)<30))=QK:=by rfl)
  (hline:autoParam ((apos.endLine == cpos.line)=QK) A8._auto_1) (hs:autoParam (Rf (e::es) X.env=(QL,eval e X.env)::Rf es X.env) A8._auto_1) (hplain:autoParam ((RQ cpos (Rf es X.env)).any (·.1)=QL) A8._auto_1) :
  PE X (.Call (.Attribute o name apos) (e::es) [] cpos) (Zb X.K T r to t):=by
 intro Vu s σ H Q I h;refine wpAny_Call_method_late hbase hfew hline rfl (VD (ho Vu s σ H _ I h) λ v s1 ⟨x,H1,I1,r1,ty,q1⟩=>?_);obtain⟨h1,h2⟩:=wu I1 r1 ty;refine⟨T,id,pa,slot,hty,h1,h2,?_⟩;have hA:=ha cpos Vu s1 σ H1 _ I1 q1;rw[hs] at hA ⊢;refine ww (by show(QL || (RQ cpos (Rf es X.env)).any (·.1))=QL;rw[hplain]<;>rfl) (Calls.evalArgs_plain ?_);exact VD hA λ us s2 ⟨vs,H2,I2,r2,q2⟩=>hm Vu s2 σ H2 x vs v us Q I2 r1 r2 q2
end
def Zc(X:Cx)(id:String)(r:V->List V->Hp->VK->Prop):Prop :=
 ∀(Vu:LO) (s:QP) (σ:St) (H:Hp) (x:V) (xs:List V) (v:Value) (us:LV) (Q:VK),Inv X Vu σ H s->RelV x v->Vals xs us->r x xs H Q ->
  QS (QU X.prog X.w) X.A (call (.builtin id) (v::us)) (EP X Vu σ Q) X.xe s
theorem Vals.one:∀ {x:V}{us:LV},Vals [x] us->∃u,us=[u]/\RelV x u
 |_,_,.cons r .nil=>⟨_,rfl,r⟩
theorem Vals.zero:∀ {us:LV},Vals [] us->us=[]
 |_,.nil=>rfl
def Vals.dropLast(h:Vals xs us):Vals xs.dropLast us.dropLast:=by
 induction h with
 |nil=>exact .nil
 |cons r t ih=>
  cases t with
  |nil=>exact .nil
  |cons q t'=>exact .cons r ih
theorem Vals.eraseIdx:∀ {xs:List V}{us:LV}(i:Nat),Vals xs us->Vals (xs.eraseIdx i) (us.eraseIdx i)
 |_,_,_,.nil=>.nil
 |_,_,0,.cons _ t=>t
 |_,_,i+1,.cons r t=>.cons r (Vals.eraseIdx i t)
def Vals.reverse(h:Vals xs us):Vals xs.reverse us.reverse:=by
 induction h with
 |nil=>exact .nil
 |cons r t ih=>rw[oZ,oZ];exact Vals.append ih (.cons r .nil)
theorem Vals.rep(h:Vals xs us):∀k:Nat,Vals (QT k xs).flatten (QT k us).flatten
 |0=>.nil
 |k+1=>by
  rw[fH,fH,gP,gP];exact Vals.append h (Vals.rep h k)
def EY{α:Type}(l:List α):l.eraseIdx (l.length-1)=l.dropLast:=by
 induction l with
 |nil=>rfl
 |cons a r ih=>
  cases r with
  |nil=>rfl
  |cons b r=>
   have e:(a::b::r).length-1=((b::r).length-1)+1:=by
    have h1:(a::b::r).length=r.length+2:=rfl;have h2:(b::r).length=r.length+1:=rfl;lia
   rw[e,List.eraseIdx_cons_succ,ih];all_goals rfl
theorem wx{α:Type}:∀(l:List α) (i:Nat),(l.eraseIdx i).length<=l.length
 |[],_=>ak _
 |_::_,0=>Nat.le_succ _
 |_::r,i+1=>mR (wx r i)
theorem wy(its:LV):∀(k:Nat) (acc:LV),
  Tt (λ x1 x2=>x1++x2) acc.toArray (QT k its.toArray)=(acc++(QT k its).flatten).toArray
 |0,acc=>by simp
 |k+1,acc=>by
  have e:acc.toArray++its.toArray=(acc++its).toArray:=pv
  have e2:(acc++its)++(QT k its).flatten=acc++(QT (k+1) its).flatten:=by
   rw[fH,gP,jK]
  rw[<- e2,<- wy its k (acc++its),<- e,fH,gk]
section
variable {Vu:LO}{σ:St}{H:Hp}{s:QP}{l b:QO}{xs ys zs:List V}
theorem Inv.lset{its its':LV}{f:Array Value->Array Value}{t':Nat}(I:Inv X Vu σ H s)(hH:H l=QJ (.lst xs))
  (e:s.heap.get? l=QJ { cls:=.type "list",data:=.seq its.toArray n }) (hf:f its.toArray=its'.toArray) (hv:Vals ys its') (hz:ys.length<=QR) :
  Inv X Vu σ (VA H l (.lst ys)) { s with heap:=s.heap.update l (RB f),toks:=t' }:=by
 have q:=PySem.IsL.update e f;rw[hf] at q;refine I.write (x:=l) (e:=l) (by rw[hH];exact trivial) (.inl rfl) (λ b' u hb hu=>(fG s.heap (RB f) (cL hb)).trans hu) ⟨_,q⟩ ?_;exact⟨hz,its',_,hv,q⟩
theorem Inv.lnew{t':Nat}(I:Inv X Vu σ H s)(hv:Vals ys its)(hz:ys.length<=QR) :
  Inv X Vu σ (VA H s.heap.objs.size (.lst ys)) { s with heap:=s.heap.push { cls:=.type "list",data:=.seq its.toArray },toks:=t' } :=
 I.laid (λ _ _ q=>aV _ q) (ak _) ⟨hz,its,0,hv,bF _ rfl⟩
def Inv.fresh(I:Inv X Vu σ H s):H s.heap.objs.size=QM:=I.hok.fresh (ak _)
def Inv.lstM(I:Inv X Vu σ H s)(hH:H l=QJ (.lst xs)):xs.length<=QR/\∃(its:LV) (n:Nat),Vals xs its/\xs.length=its.length/\s.heap.get? l=QJ { cls:=.type "list",data:=.seq its.toArray n }:=by
 obtain⟨z,its,n,r,e⟩:=I.hok l _ hH;exact⟨z,its,n,r,r.length,e⟩
def wz{n:Nat}(h:n<=QR):Rz n=QL:=by
 unfold Rz;exact bw ca
end
def pd:V->List V->Hp->VK->Prop:=λ x vs H Q=>∃l xs y,x=.ref l/\vs=[y]/\H l=QJ (.lst xs)/\xs.length<QR/\Q .non (VA H l (.lst (xs++[y])))
def wA:Zc X "list.append" pd:=by
 intro Vu s σ H x vs v us Q I rx rv h;obtain⟨l,xs,y,rfl,rfl,hH,hz,q⟩:=h;cases rx;obtain⟨u,rfl,ru⟩:=rv.one;obtain⟨z,its,n,r,hl,e⟩:=I.lstM hH;refine gm s1h ⟨_,e,O⟩ s0v (s0l _ _) (TQ l its.toArray n u (by rw[aY];lia)) ⟨e,?_⟩;refine⟨.non,_,I.lset (its':=its++[u]) hH e pv (r.append (.cons ru .nil)) ?_,O,q⟩;rw[aK,gQ];lia
def pf:V->List V->Hp->VK->Prop:=λ x vs H Q=>∃l xs y,x=.ref l/\vs=[]/\H l=QJ (.lst xs)/\xs[xs.length-1]?=QJ y/\Q y (VA H l (.lst xs.dropLast))
def EZ:Zc X "list.pop" pf:=by
 intro Vu s σ H x vs v us Q I rx rv h;obtain⟨l,xs,y,rfl,rfl,hH,hy,q⟩:=h;cases rx;have hus:=rv.zero;subst hus;obtain⟨z,its,n,r,hl,e⟩:=I.lstM hH;obtain⟨u,hu,ru⟩:=r.get hy
 have hy':its.toArray[its.toArray.size-1]?=QJ u:=by
  show its.toArray[its.length-1]?=QJ u;rw[<- sh,<- hl];exact hu
 refine gm F.slot_list_pop ⟨_,e,O⟩ F.entry_list_pop (F.args_list_pop_1 _) (MeetsSeq.list_pop_last l its.toArray n u hy' (by rw[aY];lia)) ⟨e,?_⟩;refine⟨y,_,I.lset (its':=its.dropLast) hH e ?_ r.dropLast ?_,ru,q⟩
 .show its.toArray.eraseIdxIfInBounds (its.toArray.size-1)=its.dropLast.toArray;rw[aY,wB,EY]
 .rw[List.length_dropLast];lia
def mS:V->List V->Hp->VK->Prop:=λ x vs H Q=>∃l xs i k y,x=.ref l/\vs=[.int i]/\H l=QJ (.lst xs)/\-(2 ^ 63)<=i/\i<2 ^ 63/\Ti i xs.length=QJ k/\xs[k]?=QJ y/\Q y (VA H l (.lst (xs.eraseIdx k)))
def Fa:Zc X "list.pop" mS:=by
 intro Vu s σ H x vs v us Q I rx rv h;obtain⟨l,xs,i,k,y,rfl,rfl,hH,h1,h2,hk,hy,q⟩:=h;cases rx;obtain⟨u,rfl,ru⟩:=rv.one;obtain⟨t,rfl⟩:=ru;obtain⟨z,its,n,r,hl,e⟩:=I.lstM hH;obtain⟨w,hw,rw'⟩:=r.get hy
 refine gm F.slot_list_pop ⟨_,e,O⟩ F.entry_list_pop (F.args_list_pop_2 _ _)
  (MeetsSeq.list_pop_at l its.toArray n i t k w (s0r h1 h2) (by rw[aY,<- hl];exact hk) (by rw[<- sh];exact hw) (by rw[aY];lia)) ⟨e,?_⟩
 refine⟨y,_,I.lset (its':=its.eraseIdx k) hH e ?_ (r.eraseIdx k) ?_,rw',q⟩
 .show its.toArray.eraseIdxIfInBounds k=(its.eraseIdx k).toArray;rw[wB]
 .have:=wx xs k;lia
def Fb:R2:=λ x y H Q=>∃l k xs,x=.ref l/\y=.int k/\H l=QJ (.lst xs)/\-(2 ^ 63)<=k/\k<2 ^ 63/\xs.length*k.toNat<=QR /\
 ∀p,H p=QM->Q (.ref p) (VA H p (.lst (QT k.toNat xs).flatten))
def wC{α:Type}(xs:List α)(k:Nat):(QT k xs).flatten.length=k*xs.length:=by
 induction k with
 |zero=>simp
 |succ k ih=>rw[fH,gP,aK,ih,Nat.succ_mul,Nat.add_comm]
def Fc:VQ X (Rx .Mult) Fb:=by
 intro Vu s σ H x y v u Q I rx ry h;obtain⟨l,k,xs,rfl,rfl,hH,h1,h2,hz,q⟩:=h;cases rx;obtain⟨t,rfl⟩:=ry;obtain⟨z,its,n,r,hl,e⟩:=I.lstM hH;have VC:its.toArray.size*k.toNat<=QR:=by rw[aY,<- hl];exact hz
 have hcap:¬its.toArray.size*k.toNat > (2 ^ 63-1)/8:=by
  have:(QR:Nat)<=(2 ^ 63-1)/8:=on;lia
 have hfit:¬(!RH k)=QK:=by
  rw[s0r h1 h2];exact bT
 have hlong:¬Rz (its.toArray.size*k.toNat)=QK:=by
  rw[wz VC];exact bT
 have hnew:Tt (λ x1 x2=>x1++x2) #[] (QT (if its.toArray.isEmpty=QK then 0 else k.toNat) its.toArray)=(QT k.toNat its).flatten.toArray:=by
  have f0:∀m:Nat,Tt (λ x1 x2=>x1++x2) #[] (QT m its.toArray)=(QT m its).flatten.toArray:=λ m=>by
   have:=wy its m [];rw[si] at this;exact this
  rw[f0]
  cases its with
  |nil=>simp
  |cons a r'=>rw[k9 pv]
 refine wD (T := "list") (U := "int") on ⟨_,e,O⟩ (λ s'=>s0h s' k t) noFill_list_mul F.fills_int_mul ph repeat_list F.slot_int_index.lookup
  (gm ph (s0h s k t) F.entry_int_rmul (F.args_int_rmul_2 _ _) (int___rmul___int_list k t l its.toArray n)
   ⟨e,rfl,⟨_,e,rfl⟩,gm F.slot_list_mul ⟨_,e,rfl⟩ F.entry_list_mul (F.args_list_mul_2 _ _) (AutoListH.list___mul___list_int_3 l its.toArray n k t hfit hcap hlong) ⟨e,?_⟩⟩)
 rw[hnew];exact⟨.ref _,_,I.lnew (t':=s.toks) (r.rep k.toNat) (by rw[wC,s1s];exact hz),O,q _ I.fresh⟩
section
variable {prog:QX}{w:QY}{A:QZ}{E:VS}{s:QP}
end
end _L
namespace Att
open PySem PySem.W PySem.Calls PyProof.Rows
def Fd:∀(ns:LI) (vs:LV),WellAll P h vs (ns.map WData.int)->Sw vs ns:=by
 intro ns
 induction ns with
 |nil=>
  intro vs w;rw[Vi] at w;cases w;exact .nil
 |cons n ns ih=>
  intro vs w;rw[dg] at w
  cases w with
  |cons a b=>
   cases a;exact .cons _ _ (ih _ b)
theorem Fe{l:OpenLaw}(hn:l.most=QJ n)
  (hpre:l.row.toRowW.claim.pre args=QK) (hwl:WellAll P h vals args) :
  ∃a vs ns,vals=[Rk a]/\args=[WData.list (ns.map WData.int)]/\h.get? a=QJ { cls:=.type "list",data:=.seq vs.toArray }/\Sw vs ns/\ns.length<=n:=by
 have hsh:WShape.hasAll [] args [.list .int]=QK:=(pre_splitW hpre).1;have hc:l.pre.holds [] { args:=args }=QK:=(pre_splitW hpre).2;obtain⟨d,r,rfl,h1,h2⟩:=hasAllW_cons hsh;obtain rfl:=hasAllW_nil h2;obtain⟨xs,rfl,h3⟩:=hasW_list h1;obtain⟨ns,rfl⟩:=items_int h3
 have VC:ns.length<=n:=by
  unfold OpenLaw.pre at hc
  have h4:(WTm.not (.lt (.lit (.int (n:Int))) (.len (.arg 0)))).holds [] { args:=[.list (ns.map .int)] }=QK:=by
   have h4:=(holds_andW hc).1;rw[hn] at h4;exact h4
  have h5:=condW_of h4 (w_not (w_lt w_lit (w_len_list (w_arg rfl))));rw[ag] at h5;refine Nat.le_of_not_lt λ q=>?_;have q':(n:Int)<((ns.length:Nat):Int):=ca
  first
   |(rw[bJ q'] at h5;exact m8 h5 on)
   |(simp at h5;lia)
 cases hwl with
 |cons w1 w2=>
  cases w2
  cases w1 with
  |list ho hall=>exact⟨_,_,ns,rfl,rfl,ho,Fd ns _ hall,VC⟩
def Ff(l:OpenLaw)(args:List WData):l.row.toRowW.claim.post args (.bool QK) args=QK :=
 postW_of (r:=l.row.toRowW) (X:=(QK == QK))
  (show WShape.has [] (.bool QK) .bool=QK by first|rfl|decide|simp[WShape.has,WShape.arms,WShape.armsAll])
  (show(WTm.eq .res (.lit (.bool QK))).value [] { args:=args,res:=QJ (.bool QK),after:=args }=QJ (.bool (QK == QK)) from w_eq_bool (w_res rfl) w_lit) rfl
theorem attach_call{l:OpenLaw}{YP:QY->Re->Prop}{d:DefRec}
  (hn:l.most=QJ n) (hdf:d.params.defaults=[])
  (call:∀(w:QY) (s₀ s₁:QP) (mg mb:SV) (fa:QO) (o:Obj) (pm cd doc:Value) (a:QO) (vs:LV) (ns:LI),
   Ground q loose [] XP w s₀ mg mb s₁.heap->YP w s₁.heap ->
   s₁.heap.get? fa=QJ o->o.data=.func (docDef d.name d.params d.body d.scope pm cd doc)->s₁.heap.CodeRec cd d.name->mg d.name=QJ (.ref fa) ->
   s₁.heap.get? a=QJ { cls:=.type "list",data:=.seq vs.toArray }->Sw vs ns->ns.length<=n->s₁.gens=#[] ->
   RP (QU l.prog w) SH (.call (.ref fa) ⟨[.ref a],[]⟩) (λ r s'=>r=.ok (.ret (.bool QK))/\OldK s₁.heap s'.heap/\s'.os=s₁.os/\Sg s'.gens) s₁) :
  WalkO q loose XP YP l.row.toRowW d [] (λ f vs=>Uo f vs):=by
 intro w s₀ s₁ mg mb G Y fa o pm cd doc dV kV ho hd hcd hD hmg hg args vals as hpre hlay hrd hwl hlo;obtain rfl:dV=.none:=Dflts.none hD hdf;obtain rfl:kV=.none:=Dflts.noKw hD;obtain⟨a,vs,ns,rfl,rfl,hobj,hints,VC⟩:=Fe hn hpre hwl;refine enter_call (mK (call w s₀ s₁ mg mb fa o pm cd doc a vs ns G Y ho (fd_plain hd) hcd hmg hobj hints VC hg) λ r s' hq=>?_);obtain⟨rfl,h2,h3,h4⟩:=hq;exact⟨.inl ⟨.bool QK,.bool QK,[],O,λ _=>rfl,.bool QK,Ff l _,λ _=>⟨List.Pairwise.nil,λ _ hm=>(nomatch hm)⟩⟩,h2,h3,h4⟩
section
variable {prog:QX}{w:QY}{A:QZ}{E:VS}{s:QP}{K:Frag}
end
end Att
namespace _L
open PySem PySem.Spec PyProof.Rows
theorem sj:∀ {vs:LV}{ns:LI},Sw vs ns->Vals (ns.map V.int) vs
 |_,_,.nil=>.nil
 |_,_,.cons n t h=>.cons ⟨t,rfl⟩ (sj h)
noncomputable def ip(s:Ra):RN:=match s with
 |.FunctionDef _ a _ _ _ _ _ _ _ _=>a
 |_=>{ posonlyargs:=[],args:=[],vararg:=QM,kwonlyargs:=[],kw_defaults:=[],kwarg:=QM,defaults:=[] }
noncomputable def aR(s:Ra):List Ra:=match s with
 |.FunctionDef _ _ b _ _ _ _ _ _ _=>b
 |_=>[]
noncomputable def aI(s:Ra):Scope:=match s with
 |.FunctionDef _ _ _ _ _ _ sc _ _ _=>sc
 |_=>{ kind:=.function,names:=[],isGenerator:=QL,isCoroutine:=QL }
noncomputable abbrev VI:WN:=λ _ _ _ _ _ _=>False
abbrev E0:XK:=λ _ _ _=>False
def sk:oS VI X E0:=λ _ _ _ _ _ _ _ h=>h.elim
structure Fun (K:FG)(x qual:Str)(st:Ra)(f:QO)(fd:Rn):Prop where
 ex:∃(oc:Value) (od:OA) (kV doc pm:Value) (an:OA) (cdv ct:Value) (osl:AV),
  fd=W.fnOf x qual (ip st) (aR st) (aI st) .none kV doc pm an cdv ct/\K.lookup f=QJ ⟨oc,od,.func fd,osl⟩/\W.codeIn K cdv qual=QK
 kp:W.keepIn K (.ref f)=QK
section
variable {P:QX}{w:QY}{K:FG}{mg:SV}{base:Re}
theorem Fun.ok{st:Ra}{sp:Sp}(F:Fun K x qual st f fd)(S:VO N ps (aI st))(len:∀vs H Q E,sp vs H Q E->vs.length=ps.length)
  (hbody:∀(cdv:Value) (A:QZ) (outer:List Env) (s:QP) (H:Hp) (vs:List V) (Q:VK) (E:XK),Room k (A.deeper (RG qual (aI st) s.heap.objs.size f cdv))->sp vs H Q E ->
   ∃t,PSs (eO VI P w K mg base N qual (aI st) f cdv A outer s H E).nox (aR st) t/\t { nx:=λ _ H'=>Q .non H',rt:=Q } (VF N vs) H):FnOk P w K mg base VI (k+1) f fd ps sp:=by
 obtain⟨oc,od,kV,doc,pm,an,cdv,ct,osl,rfl,lk,hcd⟩:=F.ex;refine wa lk hcd S len λ A outer s H vs Q E hr hsp=>?_;obtain⟨t,h,q⟩:=hbody cdv A outer s H vs Q E hr hsp;exact⟨t,h.nox,q⟩
theorem Fun.binds{st:Ra}{ps:List Str}(F:Fun K x qual st f fd)
  (h:∀(kV doc pm:Value) (an:OA) (cdv ct:Value) (us:LV),us.length=ps.length->RU (W.fnOf x qual (ip st) (aR st) (aI st) .none kV doc pm an cdv ct) ⟨us,[]⟩=Rj (ps.zip us)):Binds K fd ps []:=by
 obtain⟨oc,od,kV,doc,pm,an,cdv,ct,osl,rfl,lk,hcd⟩:=F.ex;exact .all (h kV doc pm an cdv ct)
theorem wF{st:Ra}{oc:Value}{od an:OA}{osl:AV}{kV doc pm cdv ct:Value}(l:K.lookup f=QJ ⟨oc,od,.func (W.fnOf x qual (ip st) (aR st) (aI st) .none kV doc pm an cdv ct),osl⟩)
  (c:W.codeIn K cdv qual=QK) (k:W.keepIn K (.ref f)=QK):Fun K x qual st f (W.fnOf x qual (ip st) (aR st) (aI st) .none kV doc pm an cdv ct):=⟨⟨oc,od,kV,doc,pm,an,cdv,ct,osl,rfl,l,c⟩,k⟩
end
def aO{n:Nat}(h:n<=1000):n<QR:=s1i h on
variable {X:Cx}
end _L
set_option maxHeartbeats 4000000
namespace _L
open PySem PySem.Spec PyProof.Rows
section
variable {prog:QX}{w:QY}{A:QZ}{R:Tz->QP->Prop}{s:QP}
theorem Fg{elt target iter:Expr}{it acc:Value}(I:Nat->QP->Prop)
  (turn:∀n s,I n s->QS (QU prog w) A (RI it) (λ r s₁=>match r with
   |none=>R (.ok .next) s₁
   | QJ v=>QS (QU prog w) A (RS target it v) (λ _ s₀=>QS (QU prog w) A (SB target env v) (λ _ s₂=>QS (QU prog w) A (eval elt env) (λ x s₃ =>
     QS (QU prog w) A (call (.builtin "list.append") [acc,x]) (λ _ s₄=>∃m,m<n/\I m s₄) (λ _ _=>False) s₃)
     (λ _ _=>False) s₂) (λ _ _=>False) s₀) (λ _ _=>False) s₁) (λ _ _=>False) s)
  (n:Nat) (h:I n s) :
  RP (QU prog w) A (.compLoop (.ListComp elt [⟨target,iter,[],0⟩] scope pos) 0 it acc env) R s:=by
 refine codeAny_loop rfl I (λ n s hI=>?_) n h;show QS _ _ ((compTurn (.ListComp elt [⟨target,iter,[],0⟩] scope pos) 0 it acc env).onRaise (λ x=>do UM x env;Uu x)) _ _ s;refine wpAny_noted ?_;rw[compTurn_list1];refine ae (mB (ae (cU (turn n s hI) (λ r s₁ h₁=>?_) λ _ _ h'=>h'.elim)))
 cases r with
 |none=>exact ay h₁
 |some v=>
  refine ae (cU h₁ (λ _ s₀ h₀=>?_) λ _ _ h'=>h'.elim)
  exact ae (cU h₀ (λ _ s₂ h₂=>ae (ae (cU h₂ (λ x s₃ h₃=>ae (cU h₃
   (λ _ s₄ h₄=>ay (ay ⟨rfl,h₄⟩)) λ _ _ h'=>h'.elim)) λ _ _ h'=>h'.elim))) λ _ _ h'=>h'.elim)
end
noncomputable def eQ(X:Cx)(N:List Str)(scope:Scope)(cl:LA)(C:QO)(ex:List QO)(s:QP)(H:Hp):Cx where
 prog:=X.prog
 w:=X.w
 K:=X.K
 mg:=X.mg
 base:=X.base
 A:=X.A
 N:=N
 s₀:=s
 H₀:=H
 env:=Vk scope cl C X.env
 outer:=X.stack
 stack:=X.stack
 ex:=ex
 fn:=λ _=>QL
 calm:=X.calm
 pn:=X.pn
 xe:=λ _ _=>False
noncomputable def ef(k:Nat)(js:List Nat)(σ:St):St:=QT k QM++js.map λ j=>(σ[j]?).join
def kQ(wi:TI)(k:Nat)(js:List Nat)(g:TG)(te:TE):TE:=λ σ H Q=>wi σ H λ J H1=>
 ∃W:Nat->Nat->List V->St->Hp->Prop,(∃m,W 0 m [] (ef k js σ) H1)/\∀i m ys σ' H',W i m ys σ' H' ->
  (J.stop i H'/\∀p,H' p=QM->Q (.ref p) (VA H' p (.lst ys))) \/
  (J.go i H'/\ys.length < QR/\∃N:List V->St->Hp->Prop,(∀zs σ2 H2,N zs σ2 H2->∃m',m' < m/\W (i+1) m' zs σ2 H2) /\
   ∀x H2,J.yld i H' x H2->g x σ' H2 λ σ3 H3=>te σ3 H3 λ v H4=>N (ys++[v]) σ3 H4)
structure ZK (X:Cx)(scope:Scope)(cl:LA)(x:Str)(j:Nat):Prop where
 at_:X.N[j]?=QJ x
 out:X.env.scope.names.lookup x=QJ .cell\/X.env.scope.names.lookup x=QJ .free
 inn:(Sm scope X.env).names.lookup x=QJ .cell\/(Sm scope X.env).names.lookup x=QJ .free
def Fh{σ:St}{j:Nat}(h:(σ[j]?).join=QJ v):σ[j]?=QJ (QJ v):=by
 cases e:σ[j]? with
 |none=>rw[e] at h;cases h
 |some o=>
  rw[e] at h
  cases o with
  |none=>cases h
  |some u=>cases h;rfl
def iW(wi:TI)(k:Nat)(js:List Nat)(g:TG)(tc:TT)(te:TE):TE:=λ σ H Q=>wi σ H λ J H1=>
 ∃W:Nat->Nat->List V->St->Hp->Prop,(∃m,W 0 m [] (ef k js σ) H1)/\∀i m ys σ' H',W i m ys σ' H' ->
  (J.stop i H'/\∀p,H' p=QM->Q (.ref p) (VA H' p (.lst ys))) \/
  (J.go i H'/\ys.length < QR/\∃N:List V->St->Hp->Prop,(∀zs σ2 H2,N zs σ2 H2->∃m',m' < m/\W (i+1) m' zs σ2 H2) /\
   ∀x H2,J.yld i H' x H2->g x σ' H2 λ σ3 H3=>tc σ3 H3 λ b H4=>if b=QK then te σ3 H4 λ v H5=>N (ys++[v]) σ3 H5 else N ys σ3 H4)
abbrev pi:=QX->QY->QZ->Env->(Bool->QP->Prop)->QP->Prop
def mU(ifs:List Expr)(T:pi):Prop:=(∀ {prog:QX}{w:QY}{A:QZ}{R:Tz->QP->Prop}{s:QP}{elt target iter:Expr}{scope:Scope}{pos:Pos}{it acc:Value}{env:Env}(I:Nat->QP->Prop),
  (∀n s,I n s->QS (QU prog w) A (RI it) (λ r s₁=>match r with
   |none=>R (.ok .next) s₁
   | QJ v=>QS (QU prog w) A (RS target it v) (λ _ s₀=>QS (QU prog w) A (SB target env v) (λ _ s₂=>T prog w A env (λ b s₃ =>
     if b=QK then QS (QU prog w) A (eval elt env) (λ x s₄ =>
      QS (QU prog w) A (call (.builtin "list.append") [acc,x]) (λ _ s₅=>∃m,m<n/\I m s₅) (λ _ _=>False) s₄) (λ _ _=>False) s₃
     else ∃m,m<n/\I m s₃) s₂) (λ _ _=>False) s₀) (λ _ _=>False) s₁) (λ _ _=>False) s)->∀n,I n s ->
  RP (QU prog w) A (.compLoop (.ListComp elt [⟨target,iter,ifs,0⟩] scope pos) 0 it acc env) R s) /\
 ∀ {p w A e k k' s},T p w A e k s->(∀b s,k b s->k' b s)->T p w A e k' s
def sn:pi:=λ _ _ _ _ k s=>k QK s
def Fi:mU [] sn:=⟨λ I t n h=>Fg I t n h,λ h m=>m _ _ h⟩
def PM(X:Cx)(T:pi)(tc:TT):Prop:=∀(Vu:LO) (s:QP) (σ:St) (H:Hp) (K:Bool->Hp->Prop),Inv X Vu σ H s->tc σ H K->T X.prog X.w X.A X.env (λ b s'=>∃H',Inv X Vu σ H' s'/\K b H') s
theorem Fj{X:Cx}{elt tg iter:Expr}{cl:LA}{own fv:List Str}{js:List Nat}
    (hc:X.calm=QK) (hi:PI X tg iter wi) (hclos:RZ scope X.env=Rj cl) (hcell:∀y∈scope.names,y.2≠.cell) (VT:scope.kind=.function)
    (hnames:∀y∈scope.names,y.2=.local->scope.names.lookup y.1=QJ .local)
    (hcl:∀x c,cl.lookup x=QJ c->X.env.cells.lookup x=QJ c)
    (hhas:∀x,((Sm scope X.env).names.lookup x=QJ .cell\/(Sm scope X.env).names.lookup x=QJ .free)->∃c,cl.lookup x=QJ c)
    (VC:js.length=fv.length) (hcap:∀(i:Nat) x j,fv[i]?=QJ x->js[i]?=QJ j->ZK X scope cl x j)
    (hg:∀(C:QO) (ex:List QO) (s:QP) (H:Hp),PG (eQ X (own++fv) scope cl C ex s H) tg g)
    (he:∀(C:QO) (ex:List QO) (s:QP) (H:Hp),PE (eQ X (own++fv) scope cl C ex s H) elt te)
    (ht:∀(C:QO) (ex:List QO) (s:QP) (H:Hp),PM (eQ X (own++fv) scope cl C ex s H) T0 tc) (lp:mU ifs T0)
    (hs:∀x,SZ iter X.env x=Rj x)(I:Inv X Vu σ H s) (h:iW wi own.length js g tc te σ H Q)
    (fin:∀(a C:QO) (s5:QP) (H5:Hp) (fl:Flow),Inv X Vu σ H5 s5->H5 C=QM->C≠X.env.locals->X.s₀.heap.objs.size<=C->(∀x c,X.env.cells.lookup x=QJ c->c≠C)->(∀p∈X.pn++Vu,p.1≠C)->(∃m,s5.heap.Ns C m)->Q (.ref a) H5->Vl (QU X.prog X.w) X.A X.xe use QQ (.ref a) C (.ok fl) s5) :
    QS (QU X.prog X.w) X.A (UV (.ListComp elt [⟨tg,iter,ifs,0⟩] scope pos) scope X.env fpos (TL []) QL (firstIter [⟨tg,iter,ifs,0⟩] X.env) use) QQ X.xe s:=by
  refine wpAny_comprehension_free (use:=use) rfl hs hclos VT hnames (VD (hi Vu s σ H _ I h) λ v s1 h1=>VD h1 λ itv s2 h2=>?_);obtain⟨it,fp,tn,J,H2,e,I2,T,st2,f2,W,⟨m0,w0⟩,turn⟩:=h2;subst e;refine dB (wpAny_newFunctionEnv hcell (by intro y hy;simp at hy) (λ h₁ hns₁ hsb₁=>?_) VT);dsimp only at hns₁ hsb₁ ⊢;generalize hHp:s2.heap.push { cls:=.type "list",dict:=QM,data:=.seq ([]:LV).toArray }=hL at hns₁ hsb₁ ⊢;have hC:hL.objs.size=s2.heap.objs.size+1:=by rw[<- hHp,jL]
  have hDC:s2.heap.objs.size≠hL.objs.size:=by rw[hC];exact bx (jM _)
  have ltC:∀b,b<s2.heap.objs.size->b≠hL.objs.size:=λ b hb=>by rw[hC];exact bx (eR hb)
  have old:∀b o,s2.heap.get? b=QJ o->h₁.get? b=QJ o:=λ b o e=>hsb₁.extBut b o (ltC b (aP e)) (aV _ (hHp ▸ aV _ e));have hacc:h₁.get? s2.heap.objs.size=QJ { cls:=.type "list",data:=.seq ([]:LV).toArray 0 }:=hsb₁.extBut _ _ hDC (aV _ (hHp ▸ bF _ rfl));have hfresh:∀a,s2.heap.objs.size<=a->H2 a=QM:=λ a ha=>I2.hok.fresh ha
  have fpL:∀b∈fp,b<s2.heap.objs.size:=λ b hb=>by
    obtain⟨o,e,_⟩:=T.obj _ _ st2 b hb;exact aP e
  have cellL:∀x c,cl.lookup x=QJ c->c<s2.heap.objs.size:=λ x c e=>by
    obtain⟨v,q⟩:=I2.cell x c (hcl x c e);exact q.lt
  have pinL:∀p∈X.pn++Vu,p.1<s2.heap.objs.size:=λ p hp=>aP (I2.pin p hp).1;generalize hX:eQ X (own++fv) scope cl hL.objs.size fp s2 H2=Y
  have ok:Y.Ok:=by
    subst hX
    refine⟨I2.ok.mod,VT,I2.ok.glob,I2.ok.blt,by show s2.heap.objs.size≤hL.objs.size;lia,λ x y c h1 h2=>I2.ok.inj x y c (hcl x c h1) (hcl y c h2),λ x hx=>hhas x hx,
      λ x c hf=>m8 hf (by show ¬(QL=QK);decide),I2.ok.hd,I2.ok.frames,.inl rfl,λ b hb=>⟨ltC b (fpL b hb),λ x c e=>(f2 b hb).2.2.2.2.1 x c (hcl x c e)⟩,I2.bs,cY I2.ok.bsz I2.sz,λ b o e hb=>?_,λ b hb hz=>?_,I2.stack,I2.stkFree⟩
    . rcases(f2 b hb).2.2.2.1 with z|z
      . exact I2.ok.noex b o e z
      . exact m8 (bQ (aP e) (cY I2.ok.bsz z)) (dY _)
    . rcases aH.mp (I2.stkSub b hz) with z|z
      . exact(f2 b hb).2.1 z
      . exact(f2 b hb).2.2.1 z
  have hYl:Y.env.locals=hL.objs.size:=by subst hX;rfl
  have hYs:Y.s₀=s2:=by subst hX;rfl
  have hYH:Y.H₀=H2:=by subst hX;rfl
  have hYx:Y.ex=fp:=by subst hX;rfl
  have hYf:Y.fs=WD X.stack:=by subst hX;rfl
  have hYc:Y.env.cells=cl:=by subst hX;rfl
  have hYp:Y.pn=X.pn:=by subst hX;rfl
  have pinOk:∀p∈X.pn++Vu,s2.heap.get? p.1=QJ p.2/\H2 p.1=QM/\p.1≠hL.objs.size/\p.1 ∉ WD X.stack/\∀v,p.2.data≠.cell v:=λ p hp=>by
    obtain⟨e,n,ne,nf,d⟩:=I2.pin p hp;refine⟨e,n,ltC _ (aP e),λ z=>?_,d⟩
    rcases aH.mp (I2.stkSub _ z) with q|q
    . exact ne q
    . exact nf q
  have stkL:∀b∈WD X.stack,b<s2.heap.objs.size:=λ b hb=>by
    obtain⟨_,o,ho,_⟩:=I2.stack.mem hb;exact aP ho
  have I3:Inv Y (Vu++[(s2.heap.objs.size,{ cls:=.type "list",data:=.seq ([]:LV).toArray 0 })]) (ef own.length js σ) H2 { s2 with heap:=h₁,toks:=s2.toks+([]:List (Str×Value)).length }:=by
    refine⟨ok,by subst hX;rfl,I2.bare,by rw[hYH,hYs];exact Un.kept old,⟨_,by rw[hYl];exact hns₁,λ i x v e1 e2 e3=>?_⟩,λ x c e=>?_,by rw[hYl];exact hfresh _ ca,λ x c e=>?_,λ p hp=>?_,by subst hX;exact I2.hok.kept old,?_⟩
    . subst hX;have e1:(own++fv)[i]?=QJ x:=e1;unfold ef at e2;by_cases hi:i<own.length
      . rw[cx (by simpa using hi),dH] at e2;split at e2<;>cases e2
      . rw[cu (by simpa using hi),dO,aW] at e2;rw[cu ca] at e1
        cases ej:js[i-own.length]? with
        |none=>rw[ej] at e2;cases e2
        |some j=>
          rw[ej] at e2;have cp:=hcap _ x j e1 ej;have e2':σ[j]?=QJ (QJ v):=Fh (bN e2);obtain⟨m,hn,hl⟩:=I2.loc;obtain⟨u,r,l⟩:=hl j x v cp.at_ e2' (cp.out.elim (λ z=>.inr (.inl z)) λ z=>.inr (.inr z));refine⟨u,r,.inr ⟨cp.inn,?_⟩⟩;obtain⟨c,ec⟩:=hhas x cp.inn
          rcases l with ⟨k,_⟩|⟨_,c',ec',z⟩
          . have k:X.env.scope.names.lookup x=QJ .local:=k
            rcases cp.out with q|q<;>rw[q] at k<;>cases k
          . rw[hcl x c ec] at ec';cases ec';obtain⟨o,ho,hd⟩:=z;exact⟨c,ec,o,old _ _ ho,hd⟩
    . rw[hYc] at e;obtain⟨v,o,ho,hd⟩:=I2.cell x c (hcl x c e);exact⟨v,o,old _ _ ho,hd⟩
    . rw[hYc] at e;exact I2.freeC x c (hcl x c e)
    . rw[hYp] at hp;rw[hYl,hYf]
      rcases cr.mp hp with z|z
      . obtain⟨a,b,c,d,f⟩:=pinOk p (fZ _ z);exact⟨old _ _ a,b,c,d,f⟩
      . rcases cr.mp z with z|z
        . obtain⟨a,b,c,d,f⟩:=pinOk p (bR _ z);exact⟨old _ _ a,b,c,d,f⟩
        . have e:p=_:=aJ.mp z;subst e;exact⟨hacc,hfresh _ (ak _),hDC,λ z=>m8 (stkL _ z) (dY _),λ v z=>by cases z⟩
    . subst hX;unfold ef;show _=(own++fv).length;simp[VC]
  have hYprog:Y.prog=X.prog:=by subst hX;rfl
  have hYw:Y.w=X.w:=by subst hX;rfl
  have hYK:Y.K=X.K:=by subst hX;rfl
  have hYA:Y.A=X.A:=by subst hX;rfl
  have hYcalm:Y.calm=QK:=by subst hX;exact hc
  have hYxe:Y.xe=λ _ _=>False:=by subst hX;rfl
  have hYenv:Y.env=Vk scope cl hL.objs.size X.env:=by subst hX;rfl
  have hg':=hg hL.objs.size fp s2 H2;have he':=he hL.objs.size fp s2 H2;have ht':=ht hL.objs.size fp s2 H2;rw[hX] at hg' he' ht'
  have fpOk:∀ {H':Hp}{pn:LO},(∀b∈fp,H' b=QM)->(∀p∈pn,p.1=s2.heap.objs.size\/p∈Vu)->∀b∈fp,iS Y pn H' b:=λ hn hp b hb=>by
    refine⟨hn b hb,by rw[hYl];exact ltC b (fpL b hb),?_,.inl (by rw[hYx];exact hb),λ x c e=>?_,λ p hq=>?_⟩
    . rw[hYf];intro hz
      rcases aH.mp (I2.stkSub b hz) with z|z
      . exact(f2 b hb).2.1 z
      . exact(f2 b hb).2.2.1 z
    . rw[hYc] at e;exact(f2 b hb).2.2.2.2.1 x c (hcl x c e)
    . rw[hYp] at hq
      rcases cr.mp hq with z|z
      . exact(f2 b hb).2.2.2.2.2 p (fZ _ z)
      . rcases hp p z with q|q
        . rw[q];exact cL (bx (fpL b hb))
        . exact(f2 b hb).2.2.2.2.2 p (bR _ q)
  have loop:∀s₃:QP,s₃={ s2 with heap:=h₁,toks:=s2.toks+([]:List (Str×Value)).length } ->
      RP (QU X.prog X.w) X.A (.compLoop (.ListComp elt [⟨tg,iter,ifs,0⟩] scope pos) 0 (.ref it) (.ref s2.heap.objs.size) (Vk scope cl hL.objs.size X.env))
        (Vl (QU X.prog X.w) X.A X.xe use QQ (.ref s2.heap.objs.size) hL.objs.size) s₃:=by
    rintro s₃ rfl
    refine lp.1 (λ n s'=>∃i ys its k σ' H',Inv Y (Vu++[(s2.heap.objs.size,{ cls:=.type "list",data:=.seq (its:LV).toArray k })]) σ' H' s'/\tn i s'.heap/\(∀b∈fp,H' b=QM)/\Vals ys its/\ys.length<=QR/\W i n ys σ' H') ?_ m0
      ⟨0,[],[],0,_,H2,I3,T.keep _ _ _ st2 λ b _ o e=>old b o e,λ b hb=>(f2 b hb).1,.nil,bY _,w0⟩
    rintro n s4 ⟨i,ys,its,k,σ4,H4,I4,st4,fr4,rv,hz,w4⟩
    have pinD:∀p∈(Vu++[(s2.heap.objs.size,({ cls:=.type "list",data:=.seq (its:LV).toArray k }:Obj))]),p.1=s2.heap.objs.size\/p∈Vu:=λ p hp=>by
      rcases cr.mp hp with z|z
      . exact .inr z
      . rw[aJ.mp z];exact .inl rfl
    have F4:=fpOk (pn:=Vu++[(s2.heap.objs.size,{ cls:=.type "list",data:=.seq (its:LV).toArray k })]) fr4 pinD
    rcases turn i n ys σ4 H4 w4 with ⟨stop,qn⟩|⟨go,hlt,N,hN,step⟩
    . have d:=T.done Y hYprog hYw hYK hYcalm i _ s4 σ4 H4 (λ _ _=>False) I4 F4 st4 stop;rw[hYA] at d;refine VD d λ r s5 ⟨hr,I5⟩=>?_;subst hr;obtain⟨m,hn,_⟩:=id I5.loc;rw[hYl] at hn;have hD:=I5.pin (s2.heap.objs.size,{ cls:=.type "list",data:=.seq (its:LV).toArray k }) (bR _ (bR _ (aJ.mpr rfl)));have hDn:H4 s2.heap.objs.size=QM:=hD.2.1;have kp:∀b o,b≠hL.objs.size->s5.heap.get? b=QJ o->s5.heap.get? b=QJ o:=λ b o _ e=>e;have B:=I5.base;rw[hYH,hYs,hYx,hYf] at B;have s2C:∀b o,s2.heap.get? b=QJ o->b≠hL.objs.size:=λ b o e=>ltC b (aP e);have WI:∀b u,H4 b=QJ u->b≠s2.heap.objs.size:=λ b u e z=>by rw[z,hDn] at e;cases e
      have trC:∀b u,H4 b=QJ u->b≠hL.objs.size:=λ b u e z=>by
        have:=I5.free;rw[hYl,<- z,e] at this;cases this
      have hH2:∀b u,H2 b=QJ u->b≠s2.heap.objs.size:=λ b u e z=>by rw[z,hfresh _ (ak _)] at e;cases e
      have IX:Inv X Vu σ (VA H4 s2.heap.objs.size (.lst ys)) s5:=by
       refine I2.call' (ch:=fp) (by show s5.os=s2.os;rw[I5.os,hYs]) ⟨λ b o e n hb hx=>kp b o (s2C b o e) (B.keep b o e n hb hx),λ b o e n hb hx=>?_,λ b o e n hx=>?_,λ b o e hx=>?_,λ b xs e=>?_,λ b o u e=>?_,λ b ps e=>?_⟩ ?_ I5.bare (λ b hb=>⟨(f2 b hb).2.2.2.1,(f2 b hb).2.1,(f2 b hb).2.2.2.2.1,(f2 b hb).2.2.2.2.2⟩)
       . obtain⟨sl,q⟩:=B.slot b o e n hb hx;exact⟨sl,kp b _ (s2C b o e) q⟩
       . rw[aG (bx (aP e))];exact B.free b o e n hx
       . obtain⟨o',q⟩:=B.there b o e hx;exact⟨o',kp b o' (s2C b o e) q⟩
       . rw[aG (hH2 b _ e)];exact B.tups b xs e
       . rw[aG (hH2 b _ e)];exact B.frzs b o u e
       . obtain⟨more,q⟩:=B.tbls b ps e;exact⟨more,by rw[aG (hH2 b _ e)];exact q⟩
       . intro b u e;by_cases hb:b=s2.heap.objs.size
         . subst hb;rw[cK] at e;cases e;exact⟨hz,its,k,rv,kp _ _ hDC hD.1⟩
         . rw[aG hb] at e;have okb:=I5.hok b u e;rw[hYprog,hYw] at okb;refine okb.stay (λ c v hc q=>kp c v ?_ q) (λ c q=>by rw[aG (WI c _ q)];exact q) λ c xs q=>by rw[aG (WI c _ q)];exact q
           rcases hc with z|z
           . rw[z];exact trC b u e
           . exact trC c _ z
      have zC:VA H4 s2.heap.objs.size (.lst ys) hL.objs.size=QM:=by
        rw[aG (cL hDC)];have:=I5.free
        rwa [hYl] at this
      exact fin s2.heap.objs.size hL.objs.size s5 _ _ IX zC (cL (ltC _ I2.lt)) (by have:=I2.sz;lia) (λ x c e=>ltC c (by obtain⟨v,q⟩:=I2.cell x c e;exact q.lt)) (λ p hp=>ltC _ (pinL p hp)) ⟨m,hn⟩ (qn _ hDn)
    . have d:=T.item Y hYprog hYw hYK hYcalm i _ s4 σ4 H4 (λ _ _=>False) I4 F4 st4 go;rw[hYA] at d;refine VD d λ r s5 ⟨u,hr,h5⟩=>?_;subst hr;refine VD h5 λ _ s6 ⟨x,H6,I6,r6,y6,st6,fr6⟩=>?_;have I6':=I6.pinned (fpOk (pn:=Vu++[(s2.heap.objs.size,{ cls:=.type "list",data:=.seq (its:LV).toArray k })]) fr6 pinD) (T.obj _ _ st6);have d7:=hg' _ s6 σ4 H6 x u _ I6' r6 (step x H6 y6);rw[hYprog,hYw,hYA,hYxe,hYenv] at d7;refine VD d7 λ _ s7 ⟨σ7,H7,I7,q7⟩=>?_;have dt:=ht' _ s7 σ7 H7 _ I7 q7;rw[hYprog,hYw,hYA,hYenv] at dt;refine lp.2 dt λ bb s7 ⟨H7,I7,q7⟩=>?_
      cases bb with
      |false=>
        obtain⟨m',hm,w8⟩:=hN _ _ _ q7;have tn8:tn (i+1) s7.heap:=T.keep _ _ _ st6 λ b hb o e=>(I7.pin (b,o) (bR _ (bR _ (kK hb e)))).1
        have fr8:∀b∈fp,H7 b=QM:=λ b hb=>by
          obtain⟨o,e,d⟩:=T.obj _ _ st6 b hb;exact(I7.pin (b,o) (bR _ (bR _ (kK hb e)))).2.1
        exact⟨m',hm,i+1,ys,its,k,σ7,H7,I7.unpinned,tn8,fr8,rv,hz,w8⟩
      |true=>
        have q7:te σ7 H7 _:=q7;show QS _ _ (eval elt _) _ _ s7;have d8:=he' _ s7 σ7 H7 _ I7 q7;rw[hYprog,hYw,hYA,hYxe,hYenv] at d8;refine VD d8 λ u8 s8 ⟨v8,H8,I8,r8,n8⟩=>?_;obtain⟨m',hm,w8⟩:=hN _ _ _ n8;have pD:=I8.pin (s2.heap.objs.size,{ cls:=.type "list",data:=.seq (its:LV).toArray k }) (bR _ (fZ _ (bR _ (aJ.mpr rfl))));have tn8:tn (i+1) s8.heap:=T.keep _ _ _ st6 λ b hb o e=>(I8.pin (b,o) (bR _ (bR _ (kK hb e)))).1
        have fr8:∀b∈fp,H8 b=QM:=λ b hb=>by
          obtain⟨o,e,d⟩:=T.obj _ _ st6 b hb;exact(I8.pin (b,o) (bR _ (bR _ (kK hb e)))).2.1
        have J8:Inv Y Vu σ7 H8 s8:=I8.unpinned.unpinned;have eD:s8.heap.get? s2.heap.objs.size=QJ { cls:=.type "list",data:=.seq its.toArray k }:=pD.1;refine gm s1h ⟨_,eD,O⟩ s0v (s0l _ _) (TQ _ its.toArray k u8 (by rw[aY,<- rv.length];lia)) ⟨eD,?_⟩;have other:∀b o,b≠s2.heap.objs.size->s8.heap.get? b=QJ o->(s8.heap.update s2.heap.objs.size (RB λ xs=>xs.push u8)).get? b=QJ o:=λ b o nb e=>(fG s8.heap _ (cL nb)).trans e
        have J9:=J8.turned (t':=s8.toks) (it:=s2.heap.objs.size) (h':=s8.heap.update s2.heap.objs.size (RB λ xs=>xs.push u8)) other pD.2.1 (by rw[hYl];exact hDC) (.inr (by rw[hYs];exact ak _))
          (λ x c e=>by rw[hYc] at e;exact bx (cellL x c e)) (λ p hp=>by rw[hYp] at hp;exact bx (pinL p hp))
        have ep:(its.toArray.push u8)=(its++[u8]).toArray:=pv
        obtain⟨kk,upD⟩:∃kk,(s8.heap.update s2.heap.objs.size (RB λ xs=>xs.push u8)).get? s2.heap.objs.size=QJ { cls:=.type "list",data:=.seq (its++[u8]).toArray kk }:=by
          have z:=PySem.IsL.update eD (λ xs=>xs.push u8);rw[ep] at z;exact⟨_,z⟩
        refine⟨m',hm,i+1,ys++[v8],its++[u8],kk,σ7,H8,J9.pins_of λ p hp=>?_,T.keep _ _ _ tn8 λ b hb o e=>other b o (bx (fpL b hb)) e,fr8,rv.append (.cons r8 .nil),?_,w8⟩
        . rcases cr.mp hp with z|z
          . exact J9.pin p (bR _ z)
          . rw[aJ.mp z];exact⟨upD,pD.2.1,by rw[hYl];exact hDC,by rw[hYf];exact λ z=>m8 (stkL _ z) (dY _),λ v z=>by cases z⟩
        . rw[aK,gQ];lia
  exact codeAny_compStart_list (loop _ rfl) (T.self _ 0 _ _ _ (T.keep _ _ _ st2 λ b _ o e=>old b o e) (loop _ rfl))
def wG:iW wi k js g (λ σ H K=>K QK H) te=kQ wi k js g te:=by
 unfold iW kQ;simp only[gN]
def pm0:PM X sn (λ σ H K=>K QK H):=λ _ _ _ H _ I k=>⟨H,I,k⟩
section
variable {P:QX}{w:QY}{K:FG}{mg:SV}{base:Re}{N:List Str}{qual:Str}{scope:Scope}{f:QO}{cd:Value}{A:QZ}{outer:List Env}{s:QP}{H:Hp}{E:XK}
end
section
variable {P:QX}{w:QY}{K:FG}{mg:SV}{base:Re}
end
variable {X:Cx}
section
variable {Vu:LO}{σ:St}{H:Hp}{s:QP}
theorem Inv.track(I:Inv X Vu σ H s)(hn:H a=QM)(new:ObjOk X.prog X.w (VA H a o) s.heap a o)(h1:a≠X.env.locals)(h2:∀x c,X.env.cells.lookup x=QJ c->c≠a)(h3:∀p∈X.pn++Vu,p.1≠a)
  (h4:X.s₀.heap.get? a=QM):Inv X Vu σ (VA H a o) s:=by
 have ne:∀b u,H b=QJ u->b≠a:=λ b u e z=>by rw[z,hn] at e;cases e
 have n0:∀b u,X.s₀.heap.get? b=QJ u->b≠a:=λ b u e z=>by rw[z,h4] at e;cases e
 refine⟨I.ok,I.os,I.bare,⟨I.base.keep,I.base.slot,λ b u e n hx=>?_,I.base.there,λ b xs e=>?_,λ b u v e=>?_,λ b ps e=>?_⟩,I.loc,I.cell,?_,λ x c e=>?_,λ p hp=>?_,λ b u e=>?_,I.len⟩
 .rw[aG (n0 b u e)];exact I.base.free b u e n hx
 .have q:=I.base.tups b xs e;rw[aG (ne b _ q)];exact q
 .have q:=I.base.frzs b u v e;rw[aG (ne b _ q)];exact q
 .obtain⟨more,q⟩:=I.base.tbls b ps e;exact⟨more,by rw[aG (ne b _ q)];exact q⟩
 .rw[aG (cL h1)];exact I.free
 .rw[aG (h2 x c e)];exact I.freeC x c e
 .obtain⟨e,n,ne,nf,d⟩:=I.pin p hp;exact⟨e,by rw[aG (h3 p hp)];exact n,ne,nf,d⟩
 .by_cases hb:b=a
  .subst hb;rw[cK] at e;cases e;exact new
  .rw[aG hb] at e;exact(I.hok b u e).stay (λ c v _ q=>q) (λ c q=>by rw[aG (ne c _ q)];exact q) λ c xs q=>by rw[aG (ne c _ q)];exact q
end
noncomputable abbrev Cx.more(X:Cx)(xe:VS)(pn:LO):Cx:={ X with xe:=xe,pn:=pn }
def Cx.Ok.more{X:Cx}(ok:X.Ok)(xe:VS)(pn:LO):(X.more xe pn).Ok :=
 ⟨ok.mod,ok.kind,ok.glob,ok.blt,ok.above,ok.inj,ok.has,ok.cab,ok.hd,ok.frames,ok.stk,ok.exf,ok.bs,ok.bsz,ok.noex,ok.exfs,ok.funs,ok.frf⟩
section
variable {CX:WN}{k:Nat}{f:QO}{fd:Rn}{ps:List Str}{sp:Sp}{dvs:List V}{ds:LV}{EE:St->XK}{x:Str}{p pos:Pos}{e:Expr}{es:List Expr}{t:TA}
end
structure Callee (P:QX)(w:QY)(K:FG)(mg:SV)(base:Re)(CX:WN)(k:Nat)(x:Str)(ps:List Str)(sp:Sp):Prop where
 has:∃(f:QO) (fd:Rn),FnOk P w K mg base CX k f fd ps sp/\mg x=QJ (.ref f)/\W.keepIn K (.ref f)=QK/\Binds K fd ps []
theorem Callee.mk'{K:FG}{mg:SV}{st:Ra}(F:Fun K x qual st f fd)(m:mg x=QJ (.ref f))(b:Binds K fd ps [])
  (ok:FnOk P w K mg base CX k f fd ps sp):Callee P w K mg base CX k x ps sp:=⟨⟨f,fd,ok,m,F.kp,b⟩⟩
def Callee.mono{K:FG}{j k:Nat}(c:Callee P w K mg base CX j x ps sp)(h:j<=k):Callee P w K mg base CX k x ps sp :=
 let ⟨f,fd,ok,m,kp,b⟩:=c.has;⟨⟨f,fd,ok.mono h,m,kp,b⟩⟩
section
variable {CX:WN}{k:Nat}{ps:List Str}{sp:Sp}{E:XK}{x:Str}{p pos:Pos}{e:Expr}{es:List Expr}{t:TA}
theorem so(c:Callee X.prog X.w X.K X.mg X.base CX k x ps sp)(hr:Room k X.A)(hg:Gl X x)(hx:oS CX X E)(ha:PA X (e::es) t)(hdb:autoParam ((x == ("__debug__" : Str))=QL) on._auto_1)
  (he:autoParam (Rf (e::es) X.env=(QL,eval e X.env)::Rf es X.env) A8._auto_1) (hpl:autoParam ((RQ pos (Rf es X.env)).any (·.1)=QL) A8._auto_1):PE X (.Call (.Name x p) (e::es) [] pos) (vX sp [] E t):=by
 obtain⟨f,fd,ok,m,kp,b⟩:=c.has;exact Eo ok hr hg m kp b .nil hx ha hdb he hpl
end
def Fk(i j:Int):Prop:=j≠0/\-18446744073709551616<j/\j<18446744073709551616
def Fl{y:Int}(h0:-18446744073709551616<y)(h1:y<18446744073709551616):y.natAbs.log2<9000:=by
 by_cases z:y.natAbs=0
 .rw[z];decide
 .exact bQ ((Nat.log2_lt z).mpr (show y.natAbs<2 ^ 64 by lia)) on
def Fm:VQ X (Rx .FloorDiv) (rI Fk λ i j=>.int (i.fdiv j)):=XM λ _ _ _ _ _ _ _ hc q=>floordiv_int hc.1 q (.inl (wH (Fl hc.2.1 hc.2.2)))
section
variable {K:FG}
end
def small{n:Nat}(h:n<=1000):n<=QR:=fD (aO h)
end _L
namespace _L
open PySem PySem.Spec PyProof.Rows PySem.W PySem.Calls
section
variable {prog:QX}{w:QY}{A:QZ}{E:VS}{K:FG}{h:Re}{g:Array SD}{d:Vc}{t:Nat}{os:OsState}{a C:QO}{ox:Obj}
end
variable {X:Cx}
noncomputable def iX(t:QO)(i:Int):Obj:={ cls:=.type "reversed",data:=.fields #[.ref t,Ro i] }
def IsRv(h:Re)(a t:QO)(i:Int):Prop:=∃o,h.get? a=QJ o/\o.cls=.type "reversed" /\ o.data=.fields #[.ref t,Ro i]
def IsRv.typeIs{s:QP}(x:IsRv s.heap a t i):s.TypeIs (.ref a) "reversed" := let ⟨o,ho,hc,_⟩:=x;⟨o,ho,hc⟩
def Fn:RM (.type "tuple") "__reversed__"=Rj QM:=by rw[fI,fJ];kernel_rfl
def wI:RM (.type "tuple") "__getitem__"=Rj (QJ (.builtin "tuple.__getitem__")):=by rw[fI,fJ];kernel_rfl
def Fo:isSubtype (.type "tuple") (.type "dict")=Rj QL:=by rw[jN];kernel_rfl
def Fp:Slot "reversed" "__init__" "object.__init__" :=
 .of (owner := "object") (n := "__init__") (by rw[fI,fJ];kernel_rfl) (by decide +kernel) (by decide +kernel) (by decide +kernel) (.inl (by decide +kernel)) (by rw[jN];kernel_rfl)
def rv_next:Slot "reversed" "__next__" "reversed.__next__" :=
 .of (owner := "reversed") (n := "__next__") (by rw[fI,fJ];kernel_rfl) (by decide +kernel) (by decide +kernel) (by decide +kernel) (.inl (by decide +kernel)) (by rw[jN];kernel_rfl)
def wJ:Slot "reversed" "__iter__" "reversed.__iter__" :=
 .of (owner := "reversed") (n := "__iter__") (by rw[fI,fJ];kernel_rfl) (by decide +kernel) (by decide +kernel) (by decide +kernel) (.inl (by decide +kernel)) (by rw[jN];kernel_rfl)
def wK:Vm table "reversed.__next__"=QJ Builtin.«reversed.__next__»:=Ue (by kernel_rfl)
def Fq:Vm table "reversed.__iter__"=QJ Builtin.«dict_keyiterator.__iter__» :=
 entryFor_alias (id' := "dict_keyiterator.__iter__") (by kernel_rfl) (by first|rfl|decide +kernel) (by decide +kernel) (by kernel_rfl)
def wM(a:Value):Te "reversed.__next__" ⟨[a],[]⟩:=by unfold Te;kernel_rfl
def Fs(a:Value):Te "reversed.__iter__" ⟨[a],[]⟩:=by unfold Te;kernel_rfl
def Fu:TypeCalled "reversed" "reversed.__new__" "object.__init__" :=
 ⟨by decide +kernel,PySem.F.create_reversed,⟨_,_,PySem.F.mro_reversed⟩,PySem.F.made_reversed,PySem.F.plain_reversed_new,PySem.F.sub_reversed_self,Fp⟩
theorem Fv(t:QO)(items:Array Value)(hz:(items.size:Int)<2 ^ 63):Uk (Builtin.«reversed.__new__» ⟨[.type "reversed",.ref t],[]⟩)
  (λ _ R s=>SL s.heap t items/\∀tk,R (.ok (.ret (.ref s.heap.objs.size))) { s with heap:=s.heap.push (iX t ((items.size:Int)-1)),toks:=tk }) :=
 .of_wp λ prog w A R s h=>by
  obtain⟨ht,h⟩:=h;have hT:s.TypeIs (.ref t) "tuple" := ht.typeIs;unfold Builtin.«reversed.__new__»;refine ae (fK (PySem.newClass_reversed _) ?_);try dsimp only
  refine ae (fK (a:=()) (by first|rfl|kernel_rfl) ?_);refine ae (fK (a:=()) (by first|rfl|kernel_rfl) ?_);try dsimp only
  refine ae (iY hT Fn ?_);try dsimp only
  refine ae ?_
  k_delta "hasItemSlot"
  refine ae (mV (T := "tuple") (b:=QL) hT Fo ?_);rw[k9 bT];refine ae (iY hT wI ?_);dsimp only;rw[m7 (by decide +kernel)];refine ay ?_;rw[k9 on];refine ae (s1g ht hz ?_);refine ae (fK (a:=QJ (items.size:Int)) rfl ?_);dsimp only;refine ae ?_;unfold Uz;refine dB (ay ⟨_,O,h _⟩)
section
variable {prog:QX}{w:QY}{A:QZ}{E:VS}{s:QP}
theorem wN{Q:VS}(ht:SL s.heap t items)(hz:(items.size:Int)<2 ^ 63)
  (h:∀tk,Q (.ref s.heap.objs.size) { s with heap:=s.heap.push (iX t ((items.size:Int)-1)),toks:=tk }):QS (QU prog w) A (call (.type "reversed") [.ref t]) Q E s :=
 callType_new Fu on (PySem.F.typeCall_reversed_1 _) (PySem.F.newCall_reversed_1 _) (λ obj=>pk obj _) PySem.F.entry_reversed_new (Fv t items hz)
  ⟨ht,λ tk=>⟨⟨_,bF _ rfl,rfl⟩,h tk⟩⟩
theorem wO{i:Nat}{Q:Option Value->QP->Prop}(hit:IsRv s.heap it t (i:Int))(ht:SL s.heap t items)(hx:items[i]?=QJ x)(hz:(items.size:Int)<2 ^ 63)
  (hQ:∀h' tk,IsRv h' it t ((i:Int)-1)->Heap.SameBut it s.heap h'->Q (QJ x) { s with heap:=h',toks:=tk }):QS (QU prog w) A (RI (.ref it)) Q E s:=by
 obtain⟨o,ho,hc,hd⟩:=id hit;have hT:s.TypeIs (.ref t) "tuple" := ht.typeIs;have hi:i<items.size:=(wP.mp hx).1;unfold RI;refine ae (mW (jJ (name:=Rh "__next__") hit.typeIs rv_next (gi rv_next hit.typeIs wK ?_ (wM _))));unfold Builtin.«reversed.__next__»;refine ae (fK (a:=(Rk it,[])) rfl ?_);try dsimp only
 refine ae (dP ho hd (x:=.ref t) rfl ?_);refine ae (dP ho hd (x:=Ro (i:Int)) rfl ?_);show QS _ _ (if (i:Int)<0 then _ else _) _ _ s;rw[k9 ca];refine ae (iY hT wI ?_);rw[k9 on];refine ae (wpAny_mkInt ?_);refine ae (mW (UX (k:=(i:Int)) (j:=i) ht ca ca (by simp[Ti];lia) hx ?_));dsimp only;refine ae (dP ho hd (x:=Ro (i:Int)) rfl ?_);show QS _ _ (setField (.ref it) 1 (Ro ((i:Int)-1)) >>= _) _ _ _;refine ae (mX ho hd pv ?_);refine ay ⟨x,O,ay (hQ _ _ ?_ (su ..))⟩;exact⟨_,iV _ ho (sv (kR hd _)),(TN ..).trans hc,by rw[kR hd];simp⟩
def wQ{Q:Option Value->QP->Prop}(hh:A.handled=QM)(hit:IsRv s.heap it t (-1))(hQ:∀h' tk,Heap.ExtBut it s.heap h'->Q QM { s with heap:=h',toks:=tk }):QS (QU prog w) A (RI (.ref it)) Q E s:=by
 obtain⟨o,ho,hc,hd⟩:=id hit;unfold RI;refine ae (mW (jJ (name:=Rh "__next__") hit.typeIs rv_next (gi rv_next hit.typeIs wK ?_ (wM _))));unfold Builtin.«reversed.__next__»;refine ae (fK (a:=(Rk it,[])) rfl ?_);try dsimp only
 refine ae (dP ho hd (x:=.ref t) rfl ?_);refine ae (dP ho hd (x:=Ro (-1)) rfl ?_);show QS _ _ (if (-1:Int)<0 then _ else _) _ _ s;rw[m7 on];refine ae (s0i ?_);refine ae ?_
 k_delta "reversedEnd"
 refine ae (mX ho hd pv ?_);refine mX (iV _ ho (sv (kR hd _))) (kR hd _) pv ?_;refine ae ?_
 have other:∀b u,b≠it->s.heap.get? b=QJ u->((s.heap.update it (SW λ x=>x.setIfInBounds 1 (Ro (-1)))).update it (SW λ x=>x.setIfInBounds 0 Ry)).get? b=QJ u:=λ b u nb e=>by
  rw[fG _ _ (cL nb),fG _ _ (cL nb)];exact e
 generalize ((s.heap.update it (SW λ x=>x.setIfInBounds 1 (Ro (-1)))).update it (SW λ x=>x.setIfInBounds 0 Ry))=hU at *;show QS _ _ (Vn (.type "StopIteration") [] >>= _) _ _ _;refine ae ?_;simp only[Vn,Vo];refine ae (dB ?_ (by size_fits));refine ae (m:=SI _ _) (fK (a:=Ry) (by first|rfl|(simp only[SI];rfl)) ?_);refine dB ?_ (by size_fits);simp only[raiseNew];refine ae (Va ?_);rw[show A.in1.handled=QM from hh];refine ae (ay (wpAny_throw ?_));refine ae (mV (T := "StopIteration") (b:=QK) ⟨_,bF _ rfl,O⟩ UE ?_);exact ay (hQ _ _ λ b u nb e=>aV _ (aV _ (other b u nb e)))
def sw{Q:VS}(hit:IsRv s.heap it t i)(h:Q (.ref it) s):QS (QU prog w) A (Ut (.ref it)) Q E s:=by
 refine wpAny_pyIter_slot hit.typeIs wJ (gi wJ hit.typeIs Fq ?_ (Fs _));show QS _ _ (ret (.ref it)) _ _ s;exact ay ⟨_,O,"reversed",_,hit.typeIs,rv_next.lookup,h⟩
end
noncomputable def pq(K:FG)(a:QO)(n:Nat):It:=⟨λ i H=>∃xs,SqT K H a xs/\xs.length=n/\i<n,λ i H x H'=>H'=H/\∀xs,SqT K H a xs->xs[n-1-i]?=QJ x,λ i H=>∃xs,SqT K H a xs/\xs.length=n/\i=n⟩
def pr:(QR:Int)<2 ^ 63:=by rw[kM];decide
theorem Fw{K:FG}(a it:QO)(n:Nat):WG P w K tg (pq K a n) [it] it (λ i h=>IsRv h it a ((n:Int)-1-(i:Int))) where
 mem:=pv
 obj:=λ i h x b hb=>by
  have e:b=it:=by simpa using hb
  subst e;obtain⟨o,ho,_,hd⟩:=x;exact⟨o,ho,λ v q=>by rw[hd] at q;cases q⟩
 keep:=λ i h h' x k=>let ⟨o,ho,r⟩:=x;⟨o,k it pv o ho,r⟩
 item:=by
  intro X hP hw hK hc i Vu s σ H E I hf st hg;subst hP hw hK;obtain⟨xs,hq,hn,hi⟩:=hg;obtain⟨its,rv,p,hz⟩:=I.tuple hq;have hx:xs[n-1-i]?=QJ (xs[n-1-i]' ca):=aL ca;obtain⟨u,hu,ru⟩:=rv.get hx;obtain⟨f0,f1,f2,f3,f4,f5⟩:=hf it pv;have e:(n:Int)-1-(i:Int)=((n-1-i:Nat):Int):=ca;rw[e] at st;have hl:=rv.length;have z63:=pr;refine wO st p (x:=u) (by simpa using hu) (by simp;lia) λ h' tk st' sb=>?_;have I1:Inv X Vu σ H { s with heap:=h',toks:=tk }:=I.turned (t':=tk) (λ b o hb e=>(sb.2 b hb).trans e) f0 f1 f3 f4 f5;obtain⟨o,e,c,d⟩:=id st';have e2:((n-1-i:Nat):Int)-1=(n:Int)-1-((i+1:Nat):Int):=ca;rw[e2] at st';exact⟨u,O,mC (s:={ s with heap:=h',toks:=tk }) e c d on ⟨_,H,I1,ru,⟨O,λ ys hy=>by rw[I.tuple_inj hy hq];exact hx⟩,st',λ b hb=>(hf b hb).1⟩⟩
 done:=by
  intro X hP hw hK hc i Vu s σ H E I hf st hg;subst hP hw hK;obtain⟨xs,hq,hn,hi⟩:=hg;obtain⟨f0,f1,f2,f3,f4,f5⟩:=hf it pv;have e:(n:Int)-1-(i:Int)=-1:=ca;rw[e] at st;exact wQ (I.ok.hd hc) st λ h' tk eb=>⟨O,I.turned (t':=tk) (λ b o hb e=>eb b o hb e) f0 f1 f3 f4 f5⟩
 self:=λ _ _ _ _ _ st h=>sw st h
section
variable {tg:Expr}
def Fx(K:FG)(te:TE):TI:=λ σ H R=>te σ H λ x H1=>∃a xs,x=.ref a/\SqT K H1 a xs/\R (pq K a xs.length) H1
theorem Fy{p pos:Pos}(hg:Gl X "reversed")(hm:X.mg "reversed"=QM)(he:PE X e te)(hs:autoParam (Rf [e] X.env=[(QL,eval e X.env)]) A8._auto_1) :
  PI X tg (.Call (.Name "reversed" p) [e] [] pos) (Fx X.K te):=by
 intro Vu s σ H R I h;have hA:=(dA he (pa_nil (X:=X)) hs) pos Vu s σ H (λ vs H1=>match vs with|[x]=>∃a xs,x=.ref a/\SqT X.K H1 a xs/\R (pq X.K a xs.length) H1|_=>False) I h;refine Tf (eK I hg hm s1j (gK (VD hA λ us s1 ⟨vs,H1,I1,r1,q1⟩=>?_) hs rfl))
 match vs,q1 with
 |[x],⟨a,xs,e,hq,q⟩=>
  subst e;obtain⟨u,rfl,ru⟩:=cM r1;cases (show u=Rk a from ru);obtain⟨its,rv,p,hz⟩:=I1.tuple hq;have hl:=rv.length;have z63:=pr;refine wN p (by simp;omega) λ tk=>?_;have I2:Inv X Vu σ H1 { s1 with heap:=s1.heap.push (iX a ((its.toArray.size:Int)-1)),toks:=tk }:=I1.kept (t':=tk) λ b o e=>aV _ e
  have ir:IsRv (s1.heap.push (iX a ((its.toArray.size:Int)-1))) s1.heap.objs.size a ((xs.length:Int)-1-((0:Nat):Int)):=by
   refine⟨_,bF _ rfl,O,?_⟩;show Data.fields #[.ref a,Ro ((its.toArray.size:Int)-1)]=_;have e:((its.toArray.size:Nat):Int)-1=(xs.length:Int)-1-((0:Nat):Int):=by simp;omega
   rw[e]
  refine sw ir ⟨s1.heap.objs.size,[s1.heap.objs.size],_,_,H1,O,I2,Fw a _ xs.length,ir,λ b hb=>?_,q⟩;have e:b=s1.heap.objs.size:=by simpa using hb
  subst e;exact I1.fpOk (ak _) (I1.hok.fresh (ak _))
end
def FB:RM (.type "list_reverseiterator") "__len__"=Rj QM:=by rw[fI,fJ];kernel_rfl
def FC:RM (.type "list_reverseiterator") "__length_hint__"=Rj (QJ (.builtin "list_reverseiterator.__length_hint__")):=by rw[fI,fJ];kernel_rfl
section
variable {pg:QX}{wd:QY}{B:QZ}{X0:VS}{s0:QP}{J:QO}{fs ws:List QO}{Gg:Array SD->Array SD->Prop}{m:Nat}{Pr:Nat->Value->Prop}{Sx:Nat->QP->Prop}
theorem FD{R:LV->QP->Prop}(wk:TC pg wd B.in1 J fs ws Gg m Pr Sx)(ty:∀j z,Sx j z->z.TypeIs (.ref J) "list_reverseiterator")(z0:Sx 0 s0)(lt:∀b∈fs,b<s0.heap.objs.size)(mJ:J∈fs)(sm:m<=QR)
  (fin:∀z' ac,Ul ws Gg s0 z'->To Pr ac m->R ac.toList z'):QS (QU pg wd) B (UD (.ref J)) R X0 s0:=by
 have out:s0.heap.objs.size ∉ fs:=λ q=>m8 (lt _ q) (dY _);have neJ:s0.heap.objs.size≠J:=by rintro rfl;exact out mJ
 let nu:Obj:={ cls:=.type "list",data:=.seq ([]:LV).toArray }
 unfold UD;refine ae (UK (iq wR ?_));rw[iu wT _];show QS _ B.in1 (TL [] >>= λ q=>Uq (.builtin "list.__iadd__" ⟨[q,.ref J],[]⟩)) _ _ s0;refine ae (dB ?_);refine ay ⟨gp px _,iq F.entry_list_iadd ?_⟩;rw[iu px _];have z1:=wk.frame 0 s0 (s0.heap.push nu) s0.toks z0 (ak _) λ b _ o e=>aV _ e;have at1:(s0.heap.push nu).get? s0.heap.objs.size=QJ nu:=bF _ rfl;have dif:RD (.ref s0.heap.objs.size) (.ref J)=QL:=by simp[RD,neJ]
 show QS _ B.in1 (Rw (.ref s0.heap.objs.size) (.ref J) (.ref s0.heap.objs.size)) _ _ _;unfold Rw;refine ae (iT (ty 0 _ z1) ?_);rw[k9 (by rw[dif];decide)];refine ae (wk.self 0 _ _ _ z1 ?_);refine ae (fE ?_);unfold SM;refine ae (iY (ty 0 _ z1) FB ?_);show QS _ B.in1 (specialOf (Rk J) (Rh "__length_hint__") >>= _) _ _ _;refine ae (iY (ty 0 _ z1) FC ?_)
 (generalize hid:("list_reverseiterator.__length_hint__" : String)=id0;wp_delta;rw[show splitId id0=QJ ("list_reverseiterator","__length_hint__") from by subst hid;decide +kernel];subst hid)
 refine ae (mV (b:=QK) (ty 0 _ z1) (by rw[jN];kernel_rfl) ?_);refine ay ?_;rw[k9 on];refine ay ⟨gp sB _,sC wk sm _ out _ m 0 _ _ _ rfl (bY _) z1 at1 (s1w Pr) λ z' ac cc mv at2 its=>?_⟩;show QS _ B (load s0.heap.objs.size >>= _) _ _ z';exact ae (s1p at2 (ay (fin z' ac (s0s (o:=nu) (tk:=s0.toks) mv (ak _)) its)))
theorem FE{R:VS}(wk:TC pg wd B.in1.in1 J fs ws Gg m Pr Sx)(ty:∀j z,Sx j z->z.TypeIs (.ref J) "list_reverseiterator")(z0:Sx 0 s0)(lt:∀b∈fs,b<s0.heap.objs.size)(mJ:J∈fs)(sm:m<=QR)
  (fin:∀z' ac,Ul ws Gg s0 z'->To Pr ac m->R (.ref z'.heap.objs.size) { z' with heap:=z'.heap.push { cls:=.type "tuple",data:=.seq ac } }) :
  RP (QU pg wd) B (.call (.builtin "tuple.__new__") ⟨[.type "tuple",.ref J],[]⟩) (wants R X0) s0:=by
 refine Ur ?_;show QS _ B.in1 (do Ud "tuple.__new__" ⟨[.type "tuple",.ref J],[]⟩;Uq (.builtin "tuple.__new__" ⟨[.type "tuple",.ref J],[]⟩)) _ _ s0;refine ae (fK (F.newCall_tuple_1 _) (ay ⟨gp py _,iq F.entry_tuple_new ?_⟩));rw[iu py _];have q1:=UJ;have q2:=TR;have q3:=UF;have q4:=ty 0 s0 z0;wp_walk using iT q4,FD (sm:=sm) wk ty z0 lt mJ;intro z' ac mv its;show QS _ _ (Rm ac.toList.toArray >>= λ q=>ret q) _ _ _;have e:ac.toList.toArray=ac:=pv;rw[e];unfold Rm;exact ae (dB (ay (fin z' ac mv its)) (by show ac.size<=QR;rw[its.1];exact sm))
theorem FF{R:VS}(wk:TC pg wd B.in1.in1.in1 J fs ws Gg m Pr Sx)(ty:∀j z,Sx j z->z.TypeIs (.ref J) "list_reverseiterator")(z0:Sx 0 s0)(lt:∀b∈fs,b<s0.heap.objs.size)(mJ:J∈fs)(sm:m<=QR)
  (fin:∀z' ac,Ul ws Gg s0 z'->To Pr ac m->R (.ref z'.heap.objs.size) { z' with heap:=z'.heap.push { cls:=.type "tuple",data:=.seq ac } }) :
  QS (QU pg wd) B (call (.type "tuple") [.ref J]) R X0 s0 :=
 UC (Q₁:=λ ob z=>z.TypeIs ob "tuple" /\ R ob z) F.called_tuple (s1k _) s0w
  (FE (sm:=sm) wk ty z0 lt mJ λ z' ac mv its=>⟨⟨_,bF _ rfl,rfl⟩,fin z' ac mv its⟩)
  λ ob z q=>⟨q.1,pk ob _,TU F.called_tuple.init.lookup F.called_tuple.made on pg wd B.in1 _ z ⟨q.1,rfl,q.2⟩⟩
end
def FH(K:FG)(te:TE):TE:=λ σ H Q=>te σ H λ x H1=>∃a xs,x=.ref a/\SqL K H1 a xs/\∀p,H1 p=QM->Q (.ref p) (VA H1 p (.tup xs.reverse))
theorem FJ{p1 p2 pos pos':Pos}(hc:X.calm=QK)(ht:Gl X "tuple")(hr:Gl X "reversed")(mt:X.mg "tuple"=QM)(mr:X.mg "reversed"=QM)(he:PE X e te)(hs:autoParam (Rf [e] X.env=[(QL,eval e X.env)]) A8._auto_1) :
  PE X (.Call (.Name "tuple" p1) [.Call (.Name "reversed" p2) [e] [] pos'] [] pos) (FH X.K te):=by
 intro Vu s σ H Q I h;refine Tf (eK I ht mt boot_tuple (gK ?_ rfl rfl));refine rJ ?_;have hA:=(dA he (pa_nil (X:=X)) hs) pos' Vu s σ H (λ vs H1=>match vs with|[x]=>∃a xs,x=.ref a/\SqL X.K H1 a xs/\∀p,H1 p=QM->Q (.ref p) (VA H1 p (.tup xs.reverse))|_=>False) I h;refine Tf (eK I hr mr s1j (gK (VD hA λ us s1 ⟨vs,H1,I1,r1,q1⟩=>?_) hs rfl))
 match vs,q1 with
 |[x],⟨a,xs,e,hq,q⟩=>
  subst e;obtain⟨u,rfl,ru⟩:=cM r1;cases (show u=Rk a from ru);obtain⟨its,rv,pl,hz⟩:=I1.list hq;have hl:=rv.length;refine call_reversed_list pl.isList ?_;refine rH ?_;have I2:Inv X Vu σ H1 { s1 with heap:=s1.heap.push (Vp a ((its.toArray.size:Int)-1)) }:=I1.kept (t':=s1.toks) λ b o e=>aV _ e;have al:a<s1.heap.objs.size:=by obtain⟨o,ho,_⟩:=pl.isList;exact aP ho
  have hne:a≠s1.heap.objs.size:=bx al
  have ir:(s1.heap.push (Vp a ((its.toArray.size:Int)-1))).IsRevIter s1.heap.objs.size a ((its.toArray.size:Int)-1-((0:Nat):Int)):=by
   refine⟨_,bF _ rfl,O,?_⟩;have e:(its.toArray.size:Int)-1-((0:Nat):Int)=(its.toArray.size:Int)-1:=ca;rw[e];rfl
  have sz:(s1.heap.push (Vp a ((its.toArray.size:Int)-1))).objs.size=s1.heap.objs.size+1:=by simp[Heap.push]
  have ff:=I1.fpOk (ak s1.heap.objs.size) (I1.hok.fresh (ak _))
  refine FF (Walks.listRev (A:=X.A.in1.in1.in1) (I.ok.hd hc) s1.heap.objs.size a hne its.toArray).toS (λ j z q=>let ⟨o,ho,hk,_⟩:=q.2.1;⟨o,ho,hk⟩)
   ⟨bY _,ir,pl.isList.at λ o e=>aV _ e⟩ (λ b hb=>?_) (bc ..) (by simp only[aY];lia) λ z' ac mv io=>?_
  .show b<(s1.heap.push (Vp a ((its.toArray.size:Int)-1))).objs.size;rw[sz];simp only[aH,cn,bZ] at hb
   rcases hb with rfl|rfl
   .exact jM _
   .exact eR al
  have I3:Inv X Vu σ H1 z':=by
   obtain⟨zh,zg,zd,zt,zo⟩:=z';have e1:zg=s1.gens:=mv.gens;have e2:zd=s1.drawn:=mv.drawn;have e3:zo=s1.os:=mv.os;subst e1 e2 e3;obtain⟨f0,f1,f2,f3,f4,f5⟩:=ff;exact I1.turned (t':=zt) (λ b o hb e=>mv.heap b o (by simpa using hb) (aV _ e)) f0 f1 f3 f4 f5
  have er:ac=its.reverse.toArray:=by
   have sz2:ac.size=its.length:=by simpa using io.1
   apply Vs
   .simp[sz2]
   .intro j h1 h2;have q:=io.2 j _ (sD h1);simp only[aY,pz] at q;have q2:its.reverse[j]?=QJ ac[j]:=by rw[mY ca];exact q
    rw[s0m];exact(bN ((aL (by simpa using h2)).symm.trans q2)).symm
  subst er
  have I4:Inv X Vu σ (VA H1 z'.heap.objs.size (.tup xs.reverse)) { z' with heap:=z'.heap.push { cls:=.type "tuple",data:=.seq its.reverse.toArray } } :=
   I3.laid (t':=z'.toks) (λ b o e=>aV _ e) (ak _) (show ObjOk X.prog X.w _ _ _ (.tup xs.reverse) from ⟨by simpa using hz,its.reverse,rv.reverse,TupO.new _ _⟩)
  exact⟨.ref z'.heap.objs.size,_,I4,O,q _ (I3.hok.fresh (ak _))⟩
def FK(K:FG):R2:=λ x y H Q=>∃a b xs ys,x=.ref a/\y=.ref b/\SqT K H a xs/\SqT K H b ys/\xs.length+ys.length<=QR /\
 (xs=[]->Q (.ref b) H)/\(xs≠[]->ys=[]->Q (.ref a) H)/\(xs≠[]->ys≠[]->∀p,H p=QM->Q (.ref p) (VA H p (.tup (xs++ys))))
def FL:VQ X (Rx .Add) (FK X.K):=by
 intro Vu s σ H x y v u Q I rx ry h;obtain⟨a,b,xs,ys,rfl,rfl,ha,hb,hz,q0,q1,q2⟩:=h;by_cases hx:xs=[]
 .cases rx;cases ry;obtain⟨its,r1,p1,_⟩:=I.tuple ha;obtain⟨its2,r2,p2,_⟩:=I.tuple hb;have e1:its=[]:=r1.nil_iff.mpr hx;obtain⟨⟨c1,d1,z1,l1⟩,g1,hc1,n1,hd1⟩:=id p1;obtain⟨⟨c2,d2,z2,l2⟩,g2,hc2,n2,hd2⟩:=id p2;simp only at hc1 hd1 hc2 hd2;subst hc1 hd1 hc2 hd2
  exact oX ⟨_,g1,O⟩ ⟨_,g2,O⟩ rQ s1e rR rV (rX _ _)
   (tuple_addW0 a b its.toArray its2.toArray n1 n2 d1 d2 l1 l2 (by simp[e1])) ⟨g1,g2,.ref b,H,I,rfl,q0 hx⟩
 .exact EC Vu s σ H _ _ v u Q I rx ry ⟨a,b,xs,ys,O,O,ha,hb,hx,hz,q1 hx,q2 hx⟩
section
variable {pg:QX}{wd:QY}{B:QZ}{X0:VS}{s0:QP}
theorem FM{R:VS}(p:s0.heap.IsTupleIter j t k)(q:s0.heap.IsTuple t its)(e:its[k]?=QJ x)
  (f:∀h',h'.IsTupleIter j t (k+1)->Heap.SameBut j s0.heap h'->R x { s0 with heap:=h' }):QS (QU pg wd) B (RK (.ref j)) R X0 s0:=by
 obtain⟨o,g,c,d⟩:=id p;obtain⟨ot,gt,_,nt,dt⟩:=q;unfold RK;refine ae (jJ (name:=Rh "__next__") p.typeIs pA (gi pA p.typeIs wU ?_ (wV _)));show QS _ _ (TJ (.ref j) 0 >>= _) _ _ s0;refine ae (dP g d (x:=.ref t) rfl ?_);show QS _ _ (if (Rk t == Ry)=QK then _ else _) _ _ s0;rw[k9 (show ¬((Rk t == Ry)=QK) from bT)];show QS _ _ (TJ (.ref j) 1 >>= _) _ _ s0;refine ae (dP g d (x:=.int k 0) rfl ?_);show QS _ _ (Sd (.ref t) >>= _) _ _ s0;refine ae (jO gt dt ?_);simp only[QV,e];refine ae (mX g d pv (ay ⟨x,O,ay (f _ ?_ (su ..))⟩));exact⟨_,iV _ g (sv (kR d _)),(TN ..).trans c,by rw[kR d];simp[Ro]⟩
theorem wW(hh:B.handled=QM)(p:s0.heap.IsTupleIter j t k)(q:s0.heap.IsTuple t its)(e:its[k]?=QM)
  (f:∀h' z,Heap.ExtBut j s0.heap h'->(∃o,h'.get? z=QJ o/\o.cls=.type "StopIteration")->X0 (.ref z) { s0 with heap:=h' }):QS (QU pg wd) B (RK (.ref j)) R X0 s0:=by
 obtain⟨o,g,c,d⟩:=id p;obtain⟨ot,gt,_,nt,dt⟩:=q;unfold RK;refine ae (jJ (name:=Rh "__next__") p.typeIs pA (gi pA p.typeIs wU ?_ (wV _)));show QS _ _ (TJ (.ref j) 0 >>= _) _ _ s0;refine ae (dP g d (x:=.ref t) rfl ?_);show QS _ _ (if (Rk t == Ry)=QK then _ else _) _ _ s0;rw[k9 (show ¬((Rk t == Ry)=QK) from bT)];show QS _ _ (TJ (.ref j) 1 >>= _) _ _ s0;refine ae (dP g d (x:=.int k 0) rfl ?_);show QS _ _ (Sd (.ref t) >>= _) _ _ s0;refine ae (jO gt dt ?_);simp only[QV,e];refine ae (s0i (ae (mX g d pv ?_)));show QS _ _ (Vn (.type "StopIteration") [] >>= _) _ _ _;refine ae ?_;simp only[Vn,Vo];refine ae (dB ?_ (by size_fits));refine ae (m:=SI _ _) (fK (a:=Ry) (by first|rfl|(simp only[SI];rfl)) ?_);refine dB ?_ (by size_fits);simp only[raiseNew];refine ae (Va ?_);first|rw[show B.in1.handled=QM from hh]|rw[hh]
 refine ae (ay (wpAny_throw ?_));exact f _ _ (((su ..).extBut.push _).push _) ⟨_,bF _ rfl,O⟩
def sG{h h':Re}(p:h.IsTupleIter j t k)(f:∀o,h.get? j=QJ o->h'.get? j=QJ o):h'.IsTupleIter j t k:=let ⟨o,g,r⟩:=p;⟨o,f o g,r⟩
def pE{h h':Re}(p:h.IsTuple t its)(f:∀o,h.get? t=QJ o->h'.get? t=QJ o):h'.IsTuple t its:=let ⟨o,g,r⟩:=p;⟨o,f o g,r⟩
end
def Inv.turnedL{h':Re}{t':Nat}{fl:List QO}(I:Inv X Vu σ H s)(kk:∀b o,b ∉ fl->s.heap.get? b=QJ o->h'.get? b=QJ o)(fo:∀b∈fl,iS X Vu H b):Inv X Vu σ H { s with heap:=h',toks:=t' }:=by
 have out:∀b u,H b=QJ u->b ∉ fl:=λ b u e z=>by rw[(fo b z).1] at e;cases e
 refine I.step (g':=s.gens) (d':=s.drawn) (ch:=fl) (λ b hb=>?_) (λ b o _ _ hc e _=>kk b o hc e) (λ b o _ _ hc e _=>⟨o.slots,kk b o hc e⟩) (λ _ _ _ _ q=>q)
  (λ b o hc e=>⟨o,kk b o hc e⟩) (λ _ _ e=>e) (λ _ _ _ e=>e) (λ b ps e=>⟨#[],by rw[e];simp⟩) (λ m hm=>?_) (λ b u e=>?_) I.bare
 .obtain⟨_,f1,_,f3,f4,f5⟩:=fo b hb;exact⟨f3,f1,f4,f5⟩
 .obtain⟨o,es,ep,ho,r⟩:=hm;exact⟨o,es,ep,kk _ o (λ z=>(fo _ z).2.1 rfl) ho,r⟩
 .refine(I.hok b u e).stay (λ c v hc q=>kk c v ?_ q) (λ _ q=>q) λ _ _ q=>q
  rcases hc with z|z
  .rw[z];exact out b u e
  .exact out c _ z
section
variable {es:List Expr}{x1:Nat}{pp:Pos}
end
def FN(hc:X.calm=QK):cz X (.builtin "sum") (λ xs H Q=>∃(a:QO) (ns:LI),xs=[.ref a]/\SqL X.K H a (ns.map V.int)/\Q (.int ns.sum) H):=by
 intro Vu s σ H xs us Q I r h;obtain⟨a,ns,rfl,hq,q⟩:=h;obtain⟨u,rfl,ru⟩:=cM r;cases (show u=Rk a from ru);obtain⟨its,rv,pl,hz⟩:=I.list hq;have hi:=mM rv;have hn:=hi.numsOf;obtain⟨ps,e⟩:=hi.allInts.items;have hl:s.heap.IsList a (intItems ps):=e ▸ pl.isList;refine sum_intListG (I.ok.hd hc) hl λ h' tk t' kk=>?_
 have e2:preSum (numAt ps) ps.size=ns.sum:=by
  rw[preSum_eq,ce pv,<- s1l,<- e];exact bO List.sum hn
 rw[e2];exact⟨.int ns.sum,H,I.kept kk,⟨t',O⟩,q⟩
noncomputable def Zd(lo st:Int)(n:Nat):It:=⟨λ i _=>i<n,λ i H x H'=>H'=H/\x=.int (lo+i*st),λ i _=>n<=i⟩
theorem FO{K:Td}(it:QO)(lo st:Int)(n:Nat):WG P w K tg (Zd lo st n) [it] it (λ i h=>Tk h it (lo+(i:Nat)*st) ((n:Int)-(i:Nat)) st) where
 mem:=pv
 obj:=λ i h q b hb=>by
  have e:b=it:=by simpa using hb
  subst e
  exact⟨_,q,λ v z=>by
   have z':Data.fields _=Data.cell v:=z
   cases z'⟩
 keep:=λ i h h' q k=>k it pv _ q
 item:=by
  intro X hP hw hK hc i Vu s σ H E I hf q hg;subst hP hw hK;obtain⟨f0,f1,f2,f3,f4,f5⟩:=hf it pv;have W:=Walks.range (prog:=X.prog) (w:=X.w) (I.ok.hd hc) it lo st n;refine W.item i s _ _ hg q λ v h' tk hv q' kk=>?_;obtain⟨t,rfl⟩:=hv;have I1:Inv X Vu σ H { s with heap:=h',toks:=tk }:=I.turned (λ b o hb e=>kk b o (by simpa using hb) e) f0 f1 f3 f4 f5;exact⟨_,O,mC (s:={ s with heap:=h',toks:=tk }) (n := "range_iterator") q' rfl rfl on ⟨.int (lo+i*st),H,I1,⟨t,O⟩,⟨O,O⟩,q',λ b hb=>(hf b hb).1⟩⟩
 done:=by
  intro X hP hw hK hc i Vu s σ H E I hf q hg;subst hP hw hK;obtain⟨f0,f1,f2,f3,f4,f5⟩:=hf it pv;exact vN (I.ok.hd hc) q (by have:n<=i:=hg;lia) λ h' eb=>⟨O,I.turned (t':=s.toks) (λ b o hb e=>eb b o hb e) f0 f1 f3 f4 f5⟩
 self:=λ _ _ _ _ _ q h=>vO q h
def FP(ta:TA):TI:=λ σ H R=>ta σ H λ vs H1=>∃i j c:Int,vs=[.int i,.int j,.int c]/\(c≠0/\c.natAbs<1073741824/\RF i j c=QK)/\R (Zd i c (Rg i j c).toNat) H1
def FQ(i j c:Int)(hc:c≠0):0<=Rg i j c:=by
 unfold Rg;split
 .split
  .have:=Ui (show 0<=j-i-1 by lia) (show 0<=c by lia);lia
  .lia
 .split
  .have:=Ui (show 0<=i-j-1 by lia) (show 0<=-c by lia);lia
  .lia
theorem FR{tg a b c:Expr}{p pos:Pos}(hg:Gl X "range")(hm:X.mg "range"=QM)(ha:PA X [a,b,c] ta)(hs:autoParam (Rf [a,b,c] X.env=[(QL,eval a X.env),(QL,eval b X.env),(QL,eval c X.env)]) A8._auto_1)
  (hs2:autoParam (Rf [b,c] X.env=[(QL,eval b X.env),(QL,eval c X.env)]) A8._auto_1):PI X tg (.Call (.Name "range" p) [a,b,c] [] pos) (FP ta):=by
 intro Vu s σ H R I h;refine Tf (eK I hg hm boot_range (gK (VD (ha pos Vu s σ H _ I h) λ us s1 ⟨vs,H1,I1,r1,q1⟩=>?_) (by rw[hs,hs2]) (by rw[hs2];rfl)));obtain⟨i,j,k,e,⟨c0,c1,c2⟩,q⟩:=q1;subst e
 cases r1 with
 |cons r rr=>
  cases rr with
  |cons r' rr=>
   cases rr with
   |cons r'' rr=>
    cases rr;obtain⟨t,rfl⟩:=r;obtain⟨t',rfl⟩:=r';obtain⟨t'',rfl⟩:=r'';refine call_range_3 c0 ?_ (.inl (PyProof.noPylong_small c1));refine s1b (IsRange.new ..) c2 ?_;have I2:Inv X Vu σ H1 { s1 with heap:=s1.heap.push { cls:=.type "range",data:=.fields #[.int i t,.int j t',.int k t''] },toks:=s1.toks }:=I1.kept λ b o e=>aV _ e;generalize s1.heap.push { cls:=.type "range",data:=.fields #[.int i t,.int j t',.int k t''] }=hr at I2 ⊢;refine⟨hr.objs.size,[hr.objs.size],_,_,H1,O,I2.kept (t':=s1.toks) λ b o e=>aV _ e,FO _ i k (Rg i j k).toNat,?_,λ b hb=>?_,q⟩
    .have e1:i+((0:Nat):Int)*k=i:=by simp
     have e2:(((Rg i j k).toNat:Nat):Int)-((0:Nat):Int)=Rg i j k:=by have:=FQ i j k c0;lia
     show Tk _ _ (i+((0:Nat):Int)*k) ((((Rg i j k).toNat:Nat):Int)-((0:Nat):Int)) k;rw[e1,e2];exact bF _ rfl
    .have e:b=hr.objs.size:=by simpa using hb
     subst e;exact I2.fpOk (ak _) (I2.hok.fresh (ak _))
open AutoSeq1 (wpAny_loadPart')
def FS:fillsNumberSlot (.type "tuple") "mul"=Rj QL :=
 PySem.fillsNumberSlot_seq (id := "tuple.__mul__") (r:=QJ (.builtin "tuple.__rmul__")) F.slot_tuple_mul.lookup (by decide +kernel) (by rw[fI,fJ];kernel_rfl) (by decide +kernel)
def FU:seqRepeat? (.type "tuple")=Rj (QJ (.builtin "tuple.__mul__")):=by
 have e1:RM (.type "tuple") "__rmul__"=Rj (QJ (.builtin "tuple.__rmul__")):=by rw[fI,fJ];kernel_rfl
 unfold seqRepeat?;rw[Uc (T := "tuple") (name := "__mul__") (id := "tuple.__mul__") F.slot_tuple_mul.lookup (by decide +kernel),Uc (T := "tuple") (name := "__rmul__") (id := "tuple.__rmul__") e1 (by decide +kernel)];rfl
theorem FV(k:Int)(t:Tok)(l:QO)(its:Array Value)(n:Nat)(dd:OA)(sl:AV) :
  Uk (Builtin.«int.__rmul__» ⟨[.int k t,.ref l],[]⟩) (λ _ R s=>s.heap.get? l=QJ { cls:=.type "tuple",dict:=dd,data:=.seq its n,slots:=sl }/\R (.ok (.ret Value.notImplemented)) s) :=
 .of_wp λ prog w A R s h=>by obtain⟨hp,g,d,tk,os⟩:=s;obtain⟨hl,h⟩:=h;wp_walk;exact⟨_,rfl,h⟩
theorem FW(l:QO)(its:Array Value)(n:Nat)(u:Tok)(dd:OA)(sl:AV) :
  Uk (Builtin.«tuple.__mul__» ⟨[.ref l,.int 1 u],[]⟩) (λ _ R s=>s.heap.get? l=QJ { cls:=.type "tuple",dict:=dd,data:=.seq its n,slots:=sl }/\R (.ok (.ret (.ref l))) s) :=
 .of_wp λ prog w A R s h=>by
  obtain⟨hp,g,d,tk,os⟩:=s;obtain⟨hl,h⟩:=h;have f1:=sH;have c1:¬((decide ((1:Int) < -(2 ^ 63)) || decide ((1:Int) ≥ 2 ^ 63))=QK):=on;have c2:(its.isEmpty || (1:Int) == 1)=QK:=pv;wp_walk using Sc hl;exact⟨_,O,h⟩
theorem FX(l:QO)(its:Array Value)(n:Nat)(k:Int)(u:Tok)(dd:OA)(sl:AV)(h0:k<=0)(h1:-(2 ^ 63)<=k)(ne:its.isEmpty=QL) :
  Uk (Builtin.«tuple.__mul__» ⟨[.ref l,.int k u],[]⟩) (λ _ R s=>s.heap.get? l=QJ { cls:=.type "tuple",dict:=dd,data:=.seq its n,slots:=sl }/\R (.ok (.ret (.ref s.heap.objs.size))) { s with heap:=s.heap.push { cls:=.type "tuple",data:=.seq #[] } }) :=
 .of_wp λ prog w A R s h=>by
  obtain⟨hp,g,d,tk,os⟩:=s;obtain⟨hl,h⟩:=h;have f1:=sH;have c1:¬((decide (k < -(2 ^ 63)) || decide (k ≥ 2 ^ 63))=QK):=by simp;lia
  have c2:¬(its.isEmpty || k == 1)=QK:=by simp[ne];lia
  have c3:(decide (k<=0) || its.isEmpty)=QK:=by simp[h0]
  wp_walk using Sc hl;rw[k9 c1];wp_walk using Sc hl;rw[k9 c2];dsimp only;rw[m7 c3];wp_walk;exact⟨_,O,h⟩
theorem FY(l:QO)(its:Array Value)(n:Nat)(k:Int)(u:Tok)(dd:OA)(sl:AV)(h0:1<k)(h1:k<2 ^ 63)(ne:its.isEmpty=QL)(hz:its.size*k.toNat<=QR) :
  Uk (Builtin.«tuple.__mul__» ⟨[.ref l,.int k u],[]⟩) (λ _ R s=>s.heap.get? l=QJ { cls:=.type "tuple",dict:=dd,data:=.seq its n,slots:=sl }/\R (.ok (.ret (.ref s.heap.objs.size))) { s with heap:=s.heap.push { cls:=.type "tuple",data:=.seq ((QT k.toNat its).foldl (·++·) #[]) } }) :=
 .of_wp λ prog w A R s h=>by
  obtain⟨hp,g,d,tk,os⟩:=s;obtain⟨hl,h⟩:=h;have f1:=sH;have ek:(its.size:Int)*k=((its.size*k.toNat:Nat):Int):=by rw[Int.natCast_mul];congr 1;lia
  have sl63:(QR:Int)<=(2 ^ 63-1)/8:=by rw[kM];decide
  have c1:¬((decide (k < -(2 ^ 63)) || decide (k ≥ 2 ^ 63))=QK):=by simp;lia
  have c2:¬(its.isEmpty || k == 1)=QK:=by simp[ne];lia
  have c3:¬(decide (k<=0) || its.isEmpty)=QK:=by simp[ne];lia
  have c4:¬((its.size:Int)*k > (2 ^ 63-1)/8):=by rw[ek];lia
  have c5:¬(SU ((its.size:Int)*k)=QK):=by
   unfold SU;rw[ek,cB];lia
  have c6:((QT k.toNat its).foldl (·++·) #[]).size<=QR:=by
   have e:∀(m:Nat) (a:Array Value),((QT m its).foldl (·++·) a).size=a.size+m*its.size:=by
    intro m
    induction m with
    |zero=>intro a;simp
    |succ m ih=>intro a;rw[fH,gk,ih];simp[Nat.succ_mul];lia
   rw[e];simp;rw[s1s];exact hz
  wp_walk using Sc hl;rw[k9 c1];wp_walk using Sc hl;rw[k9 c2];dsimp only;rw[k9 c3];rw[k9 c4];rw[k9 c5];unfold Rm;refine ae (dB (ay ?_) c6);exact⟨_,O,h⟩
section
variable {prog:QX}{w:QY}{A:QZ}{R:Tz->QP->Prop}{s:QP}
theorem FZ{elt target iter cnd:Expr}{it acc:Value}(I:Nat->QP->Prop)
  (turn:∀n s,I n s->QS (QU prog w) A (RI it) (λ r s₁=>match r with
   |none=>R (.ok .next) s₁
   | QJ v=>QS (QU prog w) A (RS target it v) (λ _ s₀=>QS (QU prog w) A (SB target env v) (λ _ s₂=>QS (QU prog w) A (isTrue cnd env (eval cnd env)) (λ b s₃ =>
     if b=QK then QS (QU prog w) A (eval elt env) (λ x s₄ =>
      QS (QU prog w) A (call (.builtin "list.append") [acc,x]) (λ _ s₅=>∃m,m<n/\I m s₅) (λ _ _=>False) s₄) (λ _ _=>False) s₃
     else ∃m,m<n/\I m s₃)
     (λ _ _=>False) s₂) (λ _ _=>False) s₀) (λ _ _=>False) s₁) (λ _ _=>False) s)
  (n:Nat) (h:I n s) :
  RP (QU prog w) A (.compLoop (.ListComp elt [⟨target,iter,[cnd],0⟩] scope pos) 0 it acc env) R s:=by
 refine codeAny_loop rfl I (λ n s hI=>?_) n h;show QS _ _ ((compTurn (.ListComp elt [⟨target,iter,[cnd],0⟩] scope pos) 0 it acc env).onRaise (λ x=>do UM x env;Uu x)) _ _ s;refine wpAny_noted ?_;rw[compTurn_list];refine ae (mB (ae (cU (turn n s hI) (λ r s₁ h₁=>?_) λ _ _ h'=>h'.elim)))
 cases r with
 |none=>exact ay h₁
 |some v=>
  refine ae (cU h₁ (λ _ s₀ h₀=>?_) λ _ _ h'=>h'.elim);refine ae (cU h₀ (λ _ s₂ h₂=>?_) λ _ _ h'=>h'.elim);refine ae (cU (wpAny_tests_one h₂) (λ ok s₃ h₃=>?_) λ _ _ h'=>h'.elim)
  cases ok with
  |false=>exact ay ⟨rfl,h₃⟩
  |true=>exact ae (ae (cU h₃ (λ x s₄ h₄=>ae (cU h₄ (λ _ s₅ h₅=>ay (ay ⟨rfl,h₅⟩)) λ _ _ z=>z.elim)) λ _ _ z=>z.elim))
end
def wX(cnd:Expr):pi:=λ p w A env k s=>QS (QU p w) A (isTrue cnd env (eval cnd env)) k (λ _ _=>False) s
def wY{cnd:Expr}:mU [cnd] (wX cnd):=⟨λ I t n h=>FZ I t n h,λ h m=>cU h m λ _ _ z=>z⟩
def ZL{X:Cx}(hx:X.xe=λ _ _=>False)(h:PT X cnd tc):PM X (wX cnd) tc:=λ Vu s σ H K I k=>by
 have z:=h Vu s σ H K I k;rw[hx] at z;exact z
theorem Ga{B:QZ}(hh:B.handled=QM)(j t:QO)(ne:t≠j)(as:Array Value):Draws pg wd B j [j,t] as.size (λ i v=>as[i]?=QJ v) (λ i h=>h.IsTupleIter j t i/\h.IsTuple t as) where
 live:=λ _ _ q=>let ⟨o,g,_⟩:=q.1;⟨o,g⟩
 frame:=λ _ _ _ q k=>⟨sG q.1 λ o g=>k j pv o g,pE q.2 λ o g=>k t pv o g⟩
 item:=λ i s R X0 hi q f=>FM q.1 q.2 (x:=as[i]) (by simp[hi]) λ m p sb=>f _ m s.toks (by simp[hi]) ⟨p,pE q.2 λ o g=>sb.extBut _ _ ne g⟩ sb
 done:=λ s R X0 q f=>wW hh q.1 q.2 pv f
section
variable {pg:QX}{wd:QY}{B:QZ}{X0:VS}{s0:QP}
theorem Gb{R:Option Value->QP->Prop}(hh:B.handled=QM)(hz:Vg s0.heap z j n u)(p:s0.heap.IsTupleIter j t i)(q:s0.heap.IsTuple t as)(ex:as[i]?=QM)
  (f:∀m,Heap.ExtBut j s0.heap m->R QM { s0 with heap:=m }):QS (QU pg wd) B (RI (.ref z)) R X0 s0:=by
 have ty:s0.TypeIs (.ref z) "enumerate" := ⟨_,hz,rfl⟩;unfold RI;refine ae (mW (jJ (name:=Rh "__next__") ty wZ (gi wZ ty F.entry_enumerate_next ?_ (F.args_enumerate_next_1 _))));show QS _ _ (TJ (.ref z) 2 >>= _) _ _ _;refine ae (dP hz rfl (x:=.ref j) rfl ?_);refine ae (wW hh p q ex λ m w xb hw=>?_);obtain⟨ow,gw,cw⟩:=hw;exact ae (mV (T := "StopIteration") (b:=QK) ⟨ow,gw,cw⟩ UE (ay (f _ xb)))
set_option tactic.hygienic true in
theorem Gc(t:QO)(as:Array Value)(n:Nat)(dc:OA)(sl:AV) :
  Uk (Builtin.«enumerate.__new__» ⟨[.type "enumerate",.ref t],[]⟩) (λ _ R s=>s.heap.get? t=QJ { cls:=.type "tuple",dict:=dc,data:=.seq as n,slots:=sl } /\
   R (.ok (.ret (.ref (s.heap.push { cls:=.type "tuple_iterator",data:=.fields #[.ref t,.int 0 0] }).objs.size))) { s with heap:=(s.heap.push { cls:=.type "tuple_iterator",data:=.fields #[.ref t,.int 0 0] }).push { cls:=.type "enumerate",data:=.fields #[.none,.bool QL,.ref s.heap.objs.size,Ro 0,.none,.none] } }) :=
 .of_wp λ pg wd A R s h=>by
  obtain⟨hp,g,d,tk,os⟩:=s;obtain⟨ht,h⟩:=h;have q0:=sub_enumerate;have q1:Heap.IsTuple (Shared.heap ⟨hp,g,d,tk,os⟩) t as:=⟨_,ht,rfl,n,rfl⟩;wp_walk using sJ ht;refine wpAny_stack_any λ stk=>ay ?_;split
  .rename_i c _ _ _ _ _;cases (c == RL "enumerate")<;>(wp_walk using sJ ht,pF q1)<;>exact⟨_,rfl,h⟩
  .wp_walk using sJ ht,pF q1;exact⟨_,O,h⟩
theorem Gd{R:VS}(q:s0.heap.IsTuple t as)
  (f:∀m,Vg m (s0.heap.objs.size+1) s0.heap.objs.size 0 .none->m.IsTupleIter s0.heap.objs.size t 0->(∀c o,s0.heap.get? c=QJ o->m.get? c=QJ o)->R (.ref (s0.heap.objs.size+1)) { s0 with heap:=m }) :
  QS (QU pg wd) B (call (.type "enumerate") [.ref t]) R X0 s0:=by
 obtain⟨⟨c,dc,dt,sl⟩,ht,hc,n,hd⟩:=q;cases (show c=.type "tuple" from hc);cases (show dt=.seq as n from hd);refine callType_new F.called_enumerate on (F.typeCall_enumerate_1 _) (F.newCall_enumerate_1 _) (λ ob=>pk ob _) F.entry_enumerate_new (Gc t as n dc sl) ⟨ht,?_⟩;have n1:(s0.heap.push { cls:=.type "tuple_iterator",data:=.fields #[.ref t,.int 0 0] }).objs.size=s0.heap.objs.size+1:=jL ..;show _/\_;have g2:=bF (s0.heap.push { cls:=.type "tuple_iterator",data:=.fields #[.ref t,.int 0 0] }) (o:={ cls:=.type "enumerate",data:=.fields #[.none,.bool QL,.ref s0.heap.objs.size,Ro 0,.none,.none] }) rfl;rw[n1] at g2 ⊢;exact⟨⟨_,g2,O⟩,f _ g2 ⟨_,aV _ (bF _ rfl),O,O⟩ λ c o z=>aV _ (aV _ z)⟩
end
def YE(K:FG)(a:QO):It:=⟨λ i H=>∃xs x,SqT K H a xs/\xs[i]?=QJ x,
 λ i H v H'=>∃T x,v=.ref T/\H T=QM/\H'=VA H T (.tup [.int i,x])/\∀xs,SqT K H a xs->xs[i]?=QJ x,λ i H=>∃xs,SqT K H a xs/\xs.length<=i⟩
theorem Ge{K:FG}{a z j:QO}(zj:z≠j) :
  WG P w K (.Tuple es x1 pp) (YE K a) [z,j] z (λ i h=>(∃u,Vg h z j i u)/\h.IsTupleIter j a i) where
 mem:=pv
 obj:=λ i h q c hc=>by
  obtain⟨⟨u,q1⟩,⟨o4,g4,_,d4⟩⟩:=q;simp only[aH,cn,bZ] at hc
  rcases hc with rfl|rfl
  .exact⟨_,q1,λ v y=>nomatch y⟩
  .exact⟨_,g4,λ v y=>by rw[d4] at y;cases y⟩
 keep:=λ i h h' q k=>by
  obtain⟨⟨u,q1⟩,q4⟩:=q;exact⟨⟨u,k _ pv _ q1⟩,sG q4 λ o g=>k _ pv o g⟩
 item:=by
  intro X hP hw hK hc i Vu s σ H E I hf st hg;subst hP hw hK;obtain⟨xs,x,hq,hx⟩:=hg;obtain⟨⟨u,q1⟩,q4⟩:=st;obtain⟨as,ra,pa,za⟩:=I.tuple hq;obtain⟨ux,hux,rux⟩:=ra.get hx;have ta:s.heap.IsTuple a as.toArray:=pa;have az:a≠z:=by rintro rfl;obtain⟨o,g,c,_⟩:=ta;rw[q1] at g;cases g;simp at c
  have aj:a≠j:=by rintro rfl;obtain⟨o,g,c,_⟩:=ta;obtain⟨o4,g4,c4,_⟩:=q4;rw[g4] at g;cases g;rw[c4] at c;simp at c
  have il:i<as.toArray.size:=by simpa using (aN.mp hux).1
  refine xa (Ga (B:=X.A.in1) (I.ok.hd hc) j a aj as.toArray) q1 ⟨q4,ta⟩ il zj (by simp only[aH,cn,bZ,not_or];exact⟨zj,az.symm⟩) λ y m tk hy zo st' np sz bt=>?_;have yu:y=ux:=by simp only[pz] at hy;rw[hux] at hy;exact(bN hy).symm
  subst yu
  have I1:Inv X Vu σ H { s with heap:=m,toks:=tk+1 }:=I.turnedL (t':=tk+1) (fl:=[z,j]) (λ c o hc e=>by
   simp only[aH,cn,bZ,not_or] at hc
   exact bt c o hc.1 hc.2 e) hf
  obtain⟨f0,f1,f2,f3,f4,f5⟩:=I.fpOk (ak s.heap.objs.size) (I.hok.fresh (ak _))
  have n0:X.s₀.heap.get? s.heap.objs.size=QM:=by
   cases q:X.s₀.heap.get? s.heap.objs.size with
   |none=>rfl
   |some o=>exact m8 (bQ (aP q) I.sz) (dY _)
  have I2:Inv X Vu σ (VA H s.heap.objs.size (.tup [.int i,x])) { s with heap:=m,toks:=tk+1 }:=I1.track f0 ⟨small pv,[.int i tk,y],.cons (show RelV (V.int i) (TB i tk) from ⟨_,rfl⟩) (.cons rux .nil),⟨_,np,⟨rfl,_,rfl⟩,rfl⟩⟩ f1 f4 f5 n0;have lt:∀ {c o},s.heap.get? c=QJ o->c≠s.heap.objs.size:=λ e=>bx (aP e);have zT:z≠s.heap.objs.size:=lt q1;obtain⟨e0,e1,e2,e3,e4,e5⟩:=hf z pv;refine⟨_,O,xc zo λ h2 z2 sb=>?_⟩;have I3:Inv X Vu σ (VA H s.heap.objs.size (.tup [.int i,x])) { s with heap:=h2,toks:=tk+1 }:=Inv.turned (s:={ s with heap:=m,toks:=tk+1 }) (h':=h2) (t':=tk+1) (it:=z) I2 (λ c o hc e=>sb.extBut _ _ hc e) (by rw[aG zT];exact e0) e1 e3 e4 e5;refine⟨.ref s.heap.objs.size,_,I3,O,⟨_,x,O,f0,O,λ xs' k1=>?_⟩,⟨⟨_,by simpa using z2⟩,sG st'.1 λ o g=>sb.extBut _ _ zj.symm g⟩,λ c hc=>?_⟩
  .rw[I.tuple_inj k1 hq];exact hx
  .have cT:c≠s.heap.objs.size:=by
    obtain⟨o4,g4,_⟩:=q4;simp only[aH,cn,bZ] at hc
    rcases hc with rfl|rfl
    .exact zT
    .exact lt g4
   rw[aG cT];exact(hf c hc).1
 done:=by
  intro X hP hw hK hc i Vu s σ H E I hf st hg;subst hP hw hK;obtain⟨xs,hq,hx⟩:=hg;obtain⟨⟨u,q1⟩,q4⟩:=st;obtain⟨as,ra,pa,za⟩:=I.tuple hq;have la:=ra.length;refine Gb (I.ok.hd hc) q1 q4 (show s.heap.IsTuple a as.toArray from pa) (by simp;lia) λ m bt=>⟨O,?_⟩
  exact I.turnedL (t':=s.toks) (fl:=[z,j]) (λ c o hc e=>by
   simp only[aH,cn,bZ,not_or] at hc
   exact bt c o hc.2 e) hf
 self:=λ _ _ _ _ _ st h=>let ⟨⟨_,q1⟩,_⟩:=st;pG q1 h
section
variable {es:List Expr}{x1:Nat}{pp:Pos}
def Gh(K:FG)(te:TE):TI:=λ σ H R=>te σ H λ v H1=>∃a xs,v=.ref a/\SqT K H1 a xs/\R (YE K a) H1
theorem Gi{p pos:Pos}(hg:Gl X "enumerate")(hm:X.mg "enumerate"=QM)(he:PE X e te)(hs:autoParam (Rf [e] X.env=[(QL,eval e X.env)]) A8._auto_1) :
  PI X (.Tuple es x1 pp) (.Call (.Name "enumerate" p) [e] [] pos) (Gh X.K te):=by
 intro Vu s σ H R I h;have hA:=(dA he (pa_nil (X:=X)) hs) pos Vu s σ H (λ vs H1=>match vs with|[x]=>∃a xs,x=.ref a/\SqT X.K H1 a xs/\R (YE X.K a) H1|_=>False) I h;refine Tf (eK I hg hm UB (gK (VD hA λ us s1 ⟨vs,H1,I1,r1,q1⟩=>?_) hs rfl))
 match vs,q1 with
 |[x],⟨a,xs,e,hq,q⟩=>
  subst e;obtain⟨u,rfl,ru⟩:=cM r1;cases (show u=Rk a from ru);obtain⟨as,va,pa,za⟩:=I1.tuple hq;refine Gd (show s1.heap.IsTuple a as.toArray from pa) λ m w1 w2 kk=>?_;have I2:Inv X Vu σ H1 { s1 with heap:=m }:=I1.kept (t':=s1.toks) kk;refine pG w1 ⟨s1.heap.objs.size+1,[s1.heap.objs.size+1,s1.heap.objs.size],_,_,H1,O,I2,Ge (sK _),⟨⟨_,w1⟩,w2⟩,λ c hc=>?_,q⟩
  have ge:s1.heap.objs.size<=c:=by
   simp only[aH,cn,bZ] at hc
   rcases hc with rfl|rfl<;>lia
  exact I1.fpOk ge (I1.hok.fresh ge)
end
def Gj(i j:Int):Prop:=0<j/\j<1606938044258990275541962092341162602522202993782792835301376
def Gk{y:Int}(h0:0<y)(h1:y<1606938044258990275541962092341162602522202993782792835301376):y.natAbs.log2<9000:=by
 have z:y.natAbs≠0:=by omega
 exact bQ ((Nat.log2_lt z).mpr (show y.natAbs<2 ^ 200 by omega)) on
def Gm:VQ X (Rx .FloorDiv) (rI Gj λ i j=>.int (i/j)):=XM λ i j _ _ _ _ _ hc q=>floordiv_int (by have:=hc.1;lia) (by rw[oP i (by have:=hc.1;lia)];exact q) (.inl (wH (Gk hc.1 hc.2)))
end _L
namespace _H
open PySem PySem.Spec PyProof.Rows _L
theorem whole_tup{s:QP}{lo hi:Option Int}{R:VS}(ht:SL s.heap t its)(hs:s.heap.IsSliceOf sl vl vu .none)(pl:Sn vl lo)(pu:Sn vu hi)
  (h0:sIx its.size 0 lo=0) (h1:sIx its.size its.size hi=its.size) (h:R (.ref t) s):QS (QU prog w) A (Sk (.ref t) (.ref sl)) R E s:=by
 obtain⟨os,hos,hcs,hds⟩:=id hs;have hTs:s.TypeIs (.ref sl) "slice" := ⟨os,hos,hcs⟩;unfold Sk;try with_reducible refine fE ?_
 first|refine ae (ay ?_)|skip
 refine ae (TX ht.typeIs on ?_);refine ae (jJ (name:=Rh "__getitem__") ht.typeIs oY (gi oY ht.typeIs s0u ?_ (s1f _ _)));show QS _ _ (SR (.ref t) >>= _) _ _ s;refine ae (UZ ht ?_);refine ae (iT hTs ?_);rw[m7 on];refine ae (we hs pl pu ?_);show QS _ _ (if (((sIx its.size 0 lo:Nat):Int) == 0&&(1:Int) == 1&&(sIx its.size its.size hi-sIx its.size 0 lo) == its.size)=QK then _ else _) _ _ s;rw[m7 (by rw[h0,h1];simp)];unfold UO;exact ae (ae (iT ht.typeIs (ay (ae (s0i (ay ⟨_,O,ay h⟩))))))
end _H
namespace _L
open PySem PySem.Spec PyProof.Rows
variable {X:Cx}
def Gn:RM (.type "reversed") "__len__"=Rj QM:=by rw[fI,fJ];kernel_rfl
def Go:RM (.type "reversed") "__length_hint__"=Rj (QJ (.builtin "reversed.__length_hint__")):=by rw[fI,fJ];kernel_rfl
theorem Gp{B:QZ}(hh:B.handled=QM)(I t:QO)(hne:t≠I)(its:Array Value)(hz:(its.size:Int)<2 ^ 63) :
  Walks pg wd B I [I,t] [I] its.size (λ i v=>its[its.size-1-i]?=QJ v) (λ i h=>i<=its.size/\IsRv h I t ((its.size:Int)-1-(i:Int))/\SL h t its) where
 sub:=λ b hb=>by simp at hb;simp[hb]
 frame:=λ _ _ _ st k=>⟨st.1,let ⟨o,g,r⟩:=st.2.1;⟨o,k I pv o g,r⟩,let ⟨o,g,r⟩:=st.2.2;⟨o,k t pv o g,r⟩⟩
 item:=λ i s R X0 hi st f=>by
  obtain⟨_,q1,q2⟩:=st;have e:(its.size:Int)-1-(i:Int)=((its.size-1-i:Nat):Int):=ca;rw[e] at q1;have hx:its[its.size-1-i]?=QJ (its[its.size-1-i]' ca):=sD ca;refine wO q1 q2 hx hz λ m tk q sb=>f _ m tk hx ⟨hi,?_,?_⟩ λ b o nb g=>sb.extBut b o (by simpa using nb) g
  .have e2:((its.size-1-i:Nat):Int)-1=(its.size:Int)-1-((i+1:Nat):Int):=by lia
   rw[e2] at q;exact q
  .obtain⟨o,g,r⟩:=q2;exact⟨o,sb.extBut _ _ hne g,r⟩
 done:=λ s R X0 st f=>by
  obtain⟨_,q1,q2⟩:=st;have e:(its.size:Int)-1-(its.size:Int)=-1:=ca;rw[e] at q1;exact wQ hh q1 λ m tk eb=>f m tk λ b o nb g=>eb b o (by simpa using nb) g
 self:=λ _ _ _ _ st h=>sw st.2.1 h
def Gq(v:Value):bindSpecial (.builtin "reversed.__length_hint__") v=Rj (.builtin "reversed.__length_hint__",[v]):=by
 unfold bindSpecial;rw[show typeOf (.builtin "reversed.__length_hint__")=Rj (.type "method_descriptor") by show builtinType _=_;rw[builtinType_eq_fast];kernel_rfl];rfl
def Gr:Slot "reversed" "__length_hint__" "reversed.__length_hint__" := .of (owner := "reversed") (n := "__length_hint__") (by rw[fI,fJ];kernel_rfl) (by decide +kernel) (by decide +kernel) (by decide +kernel) (.inr (by decide +kernel)) (by rw[jN];kernel_rfl)
def Gs:Vm table "reversed.__length_hint__"=QJ Builtin.«reversed.__length_hint__»:=Ue (by kernel_rfl)
def Gu(a:Value):Te "reversed.__length_hint__" ⟨[a],[]⟩:=by unfold Te;kernel_rfl
theorem Gv{R:VS}{z:QP}{its:Array Value}(q1:IsRv z.heap J t ((its.size:Int)-1))(q2:SL z.heap t its)(hz:(its.size:Int)<2 ^ 63)
  (f:∀u tk,z.toks<=tk->R (.int its.size u) { z with toks:=tk }):QS (QU pg wd) B (call (.builtin "reversed.__length_hint__") [.ref J]) R X0 z:=by
 obtain⟨o,ho,hc,hd⟩:=id q1;refine gi Gr q1.typeIs Gs ?_ (Gu _);show QS _ _ (TJ (.ref J) 0 >>= _) _ _ z;refine ae (dP ho hd (x:=.ref t) rfl ?_);show QS _ _ (if (Rk t == Ry)=QK then _ else _) _ _ z;rw[k9 (show ¬((Rk t == Ry)=QK) from bT)];show QS _ _ (call (.builtin "len") [.ref t] >>= _) _ _ z;refine ae (s1g q2 hz ?_);refine ae (m:=asInt? _) (ay ?_);show QS _ _ (TJ (.ref J) 1 >>= _) _ _ _;refine ae (dP ho hd (x:=Ro ((its.size:Int)-1)) rfl ?_);show QS _ _ (if (its.size:Int)<(its.size:Int)-1+1 then _ else retInt ((its.size:Int)-1+1)) _ _ _;rw[k9 ca,show(its.size:Int)-1+1=its.size by lia];exact ae (wpAny_mkInt (ay ⟨_,O,f _ _ (by show z.toks<=z.toks+1+1+1;lia)⟩))
section
variable {pg:QX}{wd:QY}{B:QZ}{X0:VS}{s0:QP}{J:QO}{fs ws:List QO}{Gg:Array SD->Array SD->Prop}{m:Nat}{Pr:Nat->Value->Prop}{Sx:Nat->QP->Prop}
theorem Gw{R:LV->QP->Prop}(hint:∀(z:QP) (R':VS) (E':VS),Sx 0 z->(∀u tk,z.toks<=tk->R' (.int m u) { z with toks:=tk })->QS (QU pg wd) B.in1 (call (.builtin "reversed.__length_hint__") [.ref J]) R' E' z)(wk:TC pg wd B.in1 J fs ws Gg m Pr Sx)(ty:∀j z,Sx j z->z.TypeIs (.ref J) "reversed")(z0:Sx 0 s0)(lt:∀b∈fs,b<s0.heap.objs.size)(mJ:J∈fs)(sm:m<=QR)
  (fin:∀z' ac,Ul ws Gg s0 z'->To Pr ac m->R ac.toList z'):QS (QU pg wd) B (UD (.ref J)) R X0 s0:=by
 have out:s0.heap.objs.size ∉ fs:=λ q=>m8 (lt _ q) (dY _);have neJ:s0.heap.objs.size≠J:=by rintro rfl;exact out mJ
 let nu:Obj:={ cls:=.type "list",data:=.seq ([]:LV).toArray }
 unfold UD;refine ae (UK (iq wR ?_));rw[iu wT _];show QS _ B.in1 (TL [] >>= λ q=>Uq (.builtin "list.__iadd__" ⟨[q,.ref J],[]⟩)) _ _ s0;refine ae (dB ?_);refine ay ⟨gp px _,iq F.entry_list_iadd ?_⟩;rw[iu px _];have z1:=wk.frame 0 s0 (s0.heap.push nu) s0.toks z0 (ak _) λ b _ o e=>aV _ e;have at1:(s0.heap.push nu).get? s0.heap.objs.size=QJ nu:=bF _ rfl;have dif:RD (.ref s0.heap.objs.size) (.ref J)=QL:=by simp[RD,neJ]
 show QS _ B.in1 (Rw (.ref s0.heap.objs.size) (.ref J) (.ref s0.heap.objs.size)) _ _ _;unfold Rw;refine ae (iT (ty 0 _ z1) ?_);rw[k9 (by rw[dif];decide)];refine ae (wk.self 0 _ _ _ z1 ?_);refine ae (fE ?_);unfold SM;refine ae (iY (ty 0 _ z1) Gn ?_);show QS _ B.in1 (specialOf (Rk J) (Rh "__length_hint__") >>= _) _ _ _;refine ae (iY (ty 0 _ z1) Go ?_)
 (generalize hid:("reversed.__length_hint__" : String)=id0;wp_delta;rw[show splitId id0=QJ ("reversed","__length_hint__") from by subst hid;decide +kernel];subst hid)
 refine ae (mV (b:=QK) (ty 0 _ z1) (by rw[jN];kernel_rfl) ?_);rw[k9 on];dsimp only;rw[k9 (by decide +kernel)];refine ae (s0i ?_);refine ae (fK (Gq _) ?_);dsimp only;refine ae (mW (hint _ _ _ z1 λ u tk htk=>?_));have z2:=wk.frame 0 _ _ tk z1 htk λ b _ o e=>e;have l63:=pr;have fi:RH (m:Int)=QK:=by simp[RH];lia
 have tl:Rz (m:Int).toNat=QL:=by simp[Rz];lia
 generalize hk:(m:Int)=kk at fi tl ⊢;show QS _ B.in1 (asInt? (.int kk u) >>= _) _ _ _;refine ae (m:=asInt? (.int kk u)) (ay ?_);dsimp only;rw[k9 (by rw[fi];decide)];try dsimp only
 rw[k9 ca];try dsimp only
 rw[k9 (by rw[tl];decide)];refine ay ?_;by_cases m0:m=0
 .rw[k9 (by subst m0;subst hk;decide +kernel)];refine ay ⟨gp sB _,sC wk sm _ out _ m 0 _ _ _ rfl (bY _) z2 at1 (s1w Pr) λ z' ac cc mv at2 its=>?_⟩;show QS _ B (load s0.heap.objs.size >>= _) _ _ z';exact ae (s1p at2 (ay (fin z' ac (s0s (o:=nu) (tk:=tk) mv htk) its)))
 .rw[m7 (by simp;left;lia)];refine ae (s0i ?_);refine ae ?_;show QS _ B.in1 (Sf s0.heap.objs.size (·.push .none) >>= λ _=>Sf s0.heap.objs.size (·.pop)) _ _ _;refine ae (kS at1 rfl ?_);have a2:=iV (RB (·.push Ry)) at1 rfl;refine kS a2 rfl ?_;have a3:=iV (RB (·.pop)) a2 rfl
  have oth:∀b o,b≠s0.heap.objs.size->(s0.heap.push nu).get? b=QJ o->(((s0.heap.push nu).update s0.heap.objs.size (RB (·.push Ry))).update s0.heap.objs.size (RB (·.pop))).get? b=QJ o :=
   λ b o hb e=>(fG _ _ (cL hb)).trans ((fG _ _ (cL hb)).trans e)
  refine ay ⟨gp sB _,sC wk sm _ out _ m 0 _ _ _ rfl (bY _)
   (wk.frame 0 ({ s0 with heap:=s0.heap.push nu,toks:=tk }:QP) _ tk z2 (ak _) λ b hb o e=>oth b o (λ q=>out (q ▸ hb)) e) a3 (s1w Pr) λ z' ac cc mv at2 its=>?_⟩
  show QS _ B (load s0.heap.objs.size >>= _) _ _ z';refine ae (s1p at2 ?_);refine ay (fin z' ac (s0s (o:=nu) (tk:=tk) (Moved.trans wk.gtrans ((Moved.refl wk.grefl).then_heap (ak _) λ b o hb e=>?_) mv) htk) its);exact oth b o (λ q=>hb (q ▸ bc)) e
theorem Gy{R:VS}(hint:∀(z:QP) (R':VS) (E':VS),Sx 0 z->(∀u tk,z.toks<=tk->R' (.int m u) { z with toks:=tk })->QS (QU pg wd) B.in1.in1 (call (.builtin "reversed.__length_hint__") [.ref J]) R' E' z)(wk:TC pg wd B.in1.in1 J fs ws Gg m Pr Sx)(ty:∀j z,Sx j z->z.TypeIs (.ref J) "reversed")(z0:Sx 0 s0)(lt:∀b∈fs,b<s0.heap.objs.size)(mJ:J∈fs)(sm:m<=QR)
  (fin:∀z' ac,Ul ws Gg s0 z'->To Pr ac m->R (.ref z'.heap.objs.size) { z' with heap:=z'.heap.push { cls:=.type "tuple",data:=.seq ac } }) :
  RP (QU pg wd) B (.call (.builtin "tuple.__new__") ⟨[.type "tuple",.ref J],[]⟩) (wants R X0) s0:=by
 refine Ur ?_;show QS _ B.in1 (do Ud "tuple.__new__" ⟨[.type "tuple",.ref J],[]⟩;Uq (.builtin "tuple.__new__" ⟨[.type "tuple",.ref J],[]⟩)) _ _ s0;refine ae (fK (F.newCall_tuple_1 _) (ay ⟨gp py _,iq F.entry_tuple_new ?_⟩));rw[iu py _];have q1:=UJ;have q2:=TR;have q3:=UF;have q4:=ty 0 s0 z0;wp_walk using iT q4,Gw (sm:=sm) hint wk ty z0 lt mJ;intro z' ac mv its;show QS _ _ (Rm ac.toList.toArray >>= λ q=>ret q) _ _ _;have e:ac.toList.toArray=ac:=pv;rw[e];unfold Rm;exact ae (dB (ay (fin z' ac mv its)) (by show ac.size<=QR;rw[its.1];exact sm))
theorem Gz{R:VS}(hint:∀(z:QP) (R':VS) (E':VS),Sx 0 z->(∀u tk,z.toks<=tk->R' (.int m u) { z with toks:=tk })->QS (QU pg wd) B.in1.in1.in1 (call (.builtin "reversed.__length_hint__") [.ref J]) R' E' z)(wk:TC pg wd B.in1.in1.in1 J fs ws Gg m Pr Sx)(ty:∀j z,Sx j z->z.TypeIs (.ref J) "reversed")(z0:Sx 0 s0)(lt:∀b∈fs,b<s0.heap.objs.size)(mJ:J∈fs)(sm:m<=QR)
  (fin:∀z' ac,Ul ws Gg s0 z'->To Pr ac m->R (.ref z'.heap.objs.size) { z' with heap:=z'.heap.push { cls:=.type "tuple",data:=.seq ac } }) :
  QS (QU pg wd) B (call (.type "tuple") [.ref J]) R X0 s0 :=
 UC (Q₁:=λ ob z=>z.TypeIs ob "tuple" /\ R ob z) F.called_tuple (s1k _) s0w
  (Gy (sm:=sm) hint wk ty z0 lt mJ λ z' ac mv its=>⟨⟨_,bF _ rfl,rfl⟩,fin z' ac mv its⟩)
  λ ob z q=>⟨q.1,pk ob _,TU F.called_tuple.init.lookup F.called_tuple.made on pg wd B.in1 _ z ⟨q.1,rfl,q.2⟩⟩
end
def GA(K:FG)(te:TE):TE:=λ σ H Q=>te σ H λ x H1=>∃a xs,x=.ref a/\SqT K H1 a xs/\∀p,H1 p=QM->Q (.ref p) (VA H1 p (.tup xs.reverse))
theorem GC{p1 p2 pos pos':Pos}(hc:X.calm=QK)(ht:Gl X "tuple")(hr:Gl X "reversed")(mt:X.mg "tuple"=QM)(mr:X.mg "reversed"=QM)(he:PE X e te)(hs:autoParam (Rf [e] X.env=[(QL,eval e X.env)]) A8._auto_1) :
  PE X (.Call (.Name "tuple" p1) [.Call (.Name "reversed" p2) [e] [] pos'] [] pos) (GA X.K te):=by
 intro Vu s σ H Q I h;refine Tf (eK I ht mt boot_tuple (gK ?_ rfl rfl));refine rJ ?_;have hA:=(dA he (pa_nil (X:=X)) hs) pos' Vu s σ H (λ vs H1=>match vs with|[x]=>∃a xs,x=.ref a/\SqT X.K H1 a xs/\∀p,H1 p=QM->Q (.ref p) (VA H1 p (.tup xs.reverse))|_=>False) I h;refine Tf (eK I hr mr s1j (gK (VD hA λ us s1 ⟨vs,H1,I1,r1,q1⟩=>?_) hs rfl))
 match vs,q1 with
 |[x],⟨a,xs,e,hq,q⟩=>
  subst e;obtain⟨u,rfl,ru⟩:=cM r1;cases (show u=Rk a from ru);obtain⟨its,rv,pl,hz⟩:=I1.tuple hq;have hl:=rv.length;have z63:=pr;refine wN pl (by simp;lia) λ tk=>?_;refine rH ?_;have I2:Inv X Vu σ H1 { s1 with heap:=s1.heap.push (iX a ((its.toArray.size:Int)-1)),toks:=tk }:=I1.kept (t':=tk) λ b o e=>aV _ e;have al:a<s1.heap.objs.size:=by obtain⟨o,ho,_⟩:=pl;exact aP ho
  have hne:a≠s1.heap.objs.size:=bx al
  have ir:IsRv (s1.heap.push (iX a ((its.toArray.size:Int)-1))) s1.heap.objs.size a ((its.toArray.size:Int)-1-((0:Nat):Int)):=by
   refine⟨_,bF _ rfl,O,?_⟩;have e:(its.toArray.size:Int)-1-((0:Nat):Int)=(its.toArray.size:Int)-1:=ca;rw[e];rfl
  have sz:(s1.heap.push (iX a ((its.toArray.size:Int)-1))).objs.size=s1.heap.objs.size+1:=by simp[Heap.push]
  have ff:=I1.fpOk (ak s1.heap.objs.size) (I1.hok.fresh (ak _))
  refine Gz (m:=its.toArray.size) (Sx:=_) (λ z R' E' q f=>Gv (its:=its.toArray) (by have:=q.2.1;rw[show(its.toArray.size:Int)-1-((0:Nat):Int)=(its.toArray.size:Int)-1 by lia] at this;exact this) q.2.2 (by simp;lia) f) (Gp (B:=X.A.in1.in1.in1) (I.ok.hd hc) s1.heap.objs.size a hne its.toArray (by simp;lia)).toS (λ j z q=>let ⟨o,ho,hk,_⟩:=q.2.1;⟨o,ho,hk⟩)
   ⟨bY _,ir,let ⟨o,g,r⟩:=pl;⟨o,aV _ g,r⟩⟩ (λ b hb=>?_) (bc ..) (by simp only[aY];lia) λ z' ac mv io=>?_
  .show b<(s1.heap.push (iX a ((its.toArray.size:Int)-1))).objs.size;rw[sz];simp only[aH,cn,bZ] at hb
   rcases hb with rfl|rfl
   .exact jM _
   .exact eR al
  have I3:Inv X Vu σ H1 z':=by
   obtain⟨zh,zg,zd,zt,zo⟩:=z';have e1:zg=s1.gens:=mv.gens;have e2:zd=s1.drawn:=mv.drawn;have e3:zo=s1.os:=mv.os;subst e1 e2 e3;obtain⟨f0,f1,f2,f3,f4,f5⟩:=ff;exact I1.turned (t':=zt) (λ b o hb e=>mv.heap b o (by simpa using hb) (aV _ e)) f0 f1 f3 f4 f5
  have er:ac=its.reverse.toArray:=by
   have sz2:ac.size=its.length:=by simpa using io.1
   apply Vs
   .simp[sz2]
   .intro j h1 h2;have q:=io.2 j _ (sD h1);simp only[aY,pz] at q;have q2:its.reverse[j]?=QJ ac[j]:=by rw[mY ca];exact q
    rw[s0m];exact(bN ((aL (by simpa using h2)).symm.trans q2)).symm
  subst er
  have I4:Inv X Vu σ (VA H1 z'.heap.objs.size (.tup xs.reverse)) { z' with heap:=z'.heap.push { cls:=.type "tuple",data:=.seq its.reverse.toArray } } :=
   I3.laid (t':=z'.toks) (λ b o e=>aV _ e) (ak _) (show ObjOk X.prog X.w _ _ _ (.tup xs.reverse) from ⟨by simpa using hz,its.reverse,rv.reverse,TupO.new _ _⟩)
  exact⟨.ref z'.heap.objs.size,_,I4,O,q _ (I3.hok.fresh (ak _))⟩
def pH(K:FG)(a:QO):It:=⟨λ i H=>∃xs x,SqL K H a xs/\xs[i]?=QJ x,
 λ i H v H'=>∃T x,v=.ref T/\H T=QM/\H'=VA H T (.tup [.int i,x])/\∀xs,SqL K H a xs->xs[i]?=QJ x,λ i H=>∃xs,SqL K H a xs/\xs.length<=i⟩
theorem GD{K:FG}{a z j:QO}(zj:z≠j) :
  WG P w K (.Tuple es x1 pp) (pH K a) [z,j] z (λ i h=>(∃u,Vg h z j i u)/\h.IsListIter j a i) where
 mem:=pv
 obj:=λ i h q c hc=>by
  obtain⟨⟨u,q1⟩,⟨o4,g4,_,d4⟩⟩:=q;simp only[aH,cn,bZ] at hc
  rcases hc with rfl|rfl
  .exact⟨_,q1,λ v y=>nomatch y⟩
  .exact⟨_,g4,λ v y=>by rw[d4] at y;cases y⟩
 keep:=λ i h h' q k=>by
  obtain⟨⟨u,q1⟩,q4⟩:=q;exact⟨⟨u,k _ pv _ q1⟩,q4.at λ o g=>k _ pv o g⟩
 item:=by
  intro X hP hw hK hc i Vu s σ H E I hf st hg;subst hP hw hK;obtain⟨xs,x,hq,hx⟩:=hg;obtain⟨⟨u,q1⟩,q4⟩:=st;obtain⟨as,ra,pa,za⟩:=I.list hq;obtain⟨ux,hux,rux⟩:=ra.get hx;have ta:s.heap.IsList a as.toArray:=pa.isList;have az:a≠z:=by rintro rfl;obtain⟨o,g,c,_⟩:=ta;rw[q1] at g;cases g;simp at c
  have aj:a≠j:=by rintro rfl;obtain⟨o,g,c,_⟩:=ta;obtain⟨o4,g4,c4,_⟩:=q4;rw[g4] at g;cases g;rw[c4] at c;simp at c
  have il:i<as.toArray.size:=by simpa using (aN.mp hux).1
  refine xa (Draws.list (A:=X.A.in1) (I.ok.hd hc) j a aj as.toArray) q1 ⟨q4,ta⟩ il zj (by simp only[aH,cn,bZ,not_or];exact⟨zj,az.symm⟩) λ y m tk hy zo st' np sz bt=>?_;have yu:y=ux:=by simp only[pz] at hy;rw[hux] at hy;exact(bN hy).symm
  subst yu
  have I1:Inv X Vu σ H { s with heap:=m,toks:=tk+1 }:=I.turnedL (t':=tk+1) (fl:=[z,j]) (λ c o hc e=>by
   simp only[aH,cn,bZ,not_or] at hc
   exact bt c o hc.1 hc.2 e) hf
  obtain⟨f0,f1,f2,f3,f4,f5⟩:=I.fpOk (ak s.heap.objs.size) (I.hok.fresh (ak _))
  have n0:X.s₀.heap.get? s.heap.objs.size=QM:=by
   cases q:X.s₀.heap.get? s.heap.objs.size with
   |none=>rfl
   |some o=>exact m8 (bQ (aP q) I.sz) (dY _)
  have I2:Inv X Vu σ (VA H s.heap.objs.size (.tup [.int i,x])) { s with heap:=m,toks:=tk+1 }:=I1.track f0 ⟨small pv,[.int i tk,y],.cons (show RelV (V.int i) (TB i tk) from ⟨_,rfl⟩) (.cons rux .nil),⟨_,np,⟨rfl,_,rfl⟩,rfl⟩⟩ f1 f4 f5 n0;have lt:∀ {c o},s.heap.get? c=QJ o->c≠s.heap.objs.size:=λ e=>bx (aP e);have zT:z≠s.heap.objs.size:=lt q1;obtain⟨e0,e1,e2,e3,e4,e5⟩:=hf z pv;refine⟨_,O,xc zo λ h2 z2 sb=>?_⟩;have I3:Inv X Vu σ (VA H s.heap.objs.size (.tup [.int i,x])) { s with heap:=h2,toks:=tk+1 }:=Inv.turned (s:={ s with heap:=m,toks:=tk+1 }) (h':=h2) (t':=tk+1) (it:=z) I2 (λ c o hc e=>sb.extBut _ _ hc e) (by rw[aG zT];exact e0) e1 e3 e4 e5;refine⟨.ref s.heap.objs.size,_,I3,O,⟨_,x,O,f0,O,λ xs' k1=>?_⟩,⟨⟨_,by simpa using z2⟩,st'.1.at λ o g=>sb.extBut _ _ zj.symm g⟩,λ c hc=>?_⟩
  .rw[I.list_inj k1 hq];exact hx
  .have cT:c≠s.heap.objs.size:=by
    obtain⟨o4,g4,_⟩:=q4;simp only[aH,cn,bZ] at hc
    rcases hc with rfl|rfl
    .exact zT
    .exact lt g4
   rw[aG cT];exact(hf c hc).1
 done:=by
  intro X hP hw hK hc i Vu s σ H E I hf st hg;subst hP hw hK;obtain⟨xs,hq,hx⟩:=hg;obtain⟨⟨u,q1⟩,q4⟩:=st;obtain⟨as,ra,pa,za⟩:=I.list hq;have la:=ra.length;refine wpAny_pyNext_enum_end (I.ok.hd hc) (i:=i) (by simpa using q1) q4 pa.isList (by simp;lia) λ m bt=>⟨O,?_⟩
  exact I.turnedL (t':=s.toks) (fl:=[z,j]) (λ c o hc e=>by
   simp only[aH,cn,bZ,not_or] at hc
   exact bt c o hc.2 e) hf
 self:=λ _ _ _ _ _ st h=>let ⟨⟨_,q1⟩,_⟩:=st;pG q1 h
section
variable {es:List Expr}{x1:Nat}{pp:Pos}
def GE(K:FG)(te:TE):TI:=λ σ H R=>te σ H λ v H1=>∃a xs,v=.ref a/\SqL K H1 a xs/\R (pH K a) H1
theorem GF{p pos:Pos}(hg:Gl X "enumerate")(hm:X.mg "enumerate"=QM)(he:PE X e te)(hs:autoParam (Rf [e] X.env=[(QL,eval e X.env)]) A8._auto_1) :
  PI X (.Tuple es x1 pp) (.Call (.Name "enumerate" p) [e] [] pos) (GE X.K te):=by
 intro Vu s σ H R I h;have hA:=(dA he (pa_nil (X:=X)) hs) pos Vu s σ H (λ vs H1=>match vs with|[x]=>∃a xs,x=.ref a/\SqL X.K H1 a xs/\R (pH X.K a) H1|_=>False) I h;refine Tf (eK I hg hm UB (gK (VD hA λ us s1 ⟨vs,H1,I1,r1,q1⟩=>?_) hs rfl))
 match vs,q1 with
 |[x],⟨a,xs,e,hq,q⟩=>
  subst e;obtain⟨u,rfl,ru⟩:=cM r1;cases (show u=Rk a from ru);obtain⟨as,va,pa,za⟩:=I1.list hq;refine call_enumerate_list pa.isList λ m w1 w2 sz kk=>?_;have I2:Inv X Vu σ H1 { s1 with heap:=m }:=I1.kept (t':=s1.toks) kk;refine pG w1 ⟨s1.heap.objs.size+1,[s1.heap.objs.size+1,s1.heap.objs.size],_,_,H1,O,I2,GD (sK _),⟨⟨_,w1⟩,w2⟩,λ c hc=>?_,q⟩
  have ge:s1.heap.objs.size<=c:=by
   simp only[aH,cn,bZ] at hc
   rcases hc with rfl|rfl<;>lia
  exact I1.fpOk ge (I1.hok.fresh ge)
end
section
variable {tg:Expr}
end
def GG(K:FG):R2:=λ x y H Q=>∃l b xs zs,x=.ref l/\y=.ref b/\SqL K H l xs/\SqL K H b zs/\xs.length+zs.length<=QR/\∀p,H p=QM->Q (.ref p) (VA H p (.lst (xs++zs)))
def GH:VQ X (Rx .Add) (GG X.K):=by
 intro Vu s σ H x y v u Q I rx ry h;obtain⟨l,b,xs,zs,rfl,rfl,hH,hB,hz,q⟩:=h;cases rx;cases ry;obtain⟨its,r,⟨⟨c1,d1,z1,l1⟩,n,e,hc,hd,hs⟩,_⟩:=I.list hH;obtain⟨its2,r2,⟨⟨c2,d2,z2,l2⟩,n2,e2,hc2,hd2,hs2⟩,_⟩:=I.list hB;simp only at hc hd hs hc2 hd2 hs2;subst hc hd hs hc2 hd2 hs2;have a1:=r.length;have a2:=r2.length;have ea:its.toArray++its2.toArray=(its++its2).toArray:=pv;refine oX ⟨_,e,O⟩ ⟨_,e2,O⟩ noFill_list_add seq_list_add F.slot_list_add F.entry_list_add (F.args_list_add_2 _ _) (list_addW l b its.toArray its2.toArray n n2 _ _ _ _ (by rw[aY,aY];lia)) ⟨e,e2,?_⟩;rw[ea];exact⟨.ref _,_,I.lnew (t':=s.toks) (r.append r2) (by rw[aK];lia),O,q _ I.fresh⟩
section
variable {pg:QX}{wd:QY}{B:QZ}{X0:VS}{s0:QP}
end
section
variable {es:List Expr}{x1:Nat}{pp:Pos}
end
end _L
namespace _L
open PySem PySem.Spec PyProof.Rows PySem.W PySem.Calls
def GI(i j:Int):Prop:=Tq i j
def GJ:VQ X (Rx .Mult) (rI GI λ i j=>.int (i*j)):=XM λ _ _ _ _ _ _ _ hc q=>mul_int q hc
section
variable {prog:QX}{w:QY}{A:QZ}{E:VS}{s:QP}
theorem xg{l:QO}{T:String}{vs:LV}{Q:VS}(hT:T="list" \/ T="tuple")(ho:s.heap.get? l=QJ o)(hc:o.cls=.type T)(hd:o.data=.seq vs.toArray n)(hI:Sw vs ns)(h64:vs.length<64)
  (h:∀(h1 h2:Re) (vs':LV) (ns':LI) (e:Nat),(∀b u,s.heap.get? b=QJ u->h1.get? b=QJ u)->(∀b u,h1.get? b=QJ u->h2.get? b=QJ u)->h2.get? h1.objs.size=QJ (Vq "list" vs'.toArray e)->Sw vs' ns'->ns'.Perm ns->ns'.Pairwise (·<=·)->Q (.ref h1.objs.size) { s with heap:=h2 }) :
  QS (QU prog w) A (call (.builtin "sorted") [.ref l]) Q E s:=by
 refine Calls.call_function_entry kind_sorted plain_sorted entry_sorted (args_sorted1 _) ?_;unfold Builtin.«sorted»;refine ae (m:=checkCount "sorted" 1 1 _) (ay ?_);refine ae (wpAny_collect_seq l hT ho hc hd (λ h1 k1=>?_) (by simp only[aY];exact fD (aO ca)));rw[show vs.toArray.toList=vs by simp];refine ae (wpAny_newList ?_);have hoL:(h1.push (Vq "list" vs.toArray 0)).get? h1.objs.size=QJ (Vq "list" vs.toArray 0):=bF _ rfl;refine ae (fE (gi slot_list_sort ⟨_,hoL,O⟩ entry_list_sort (list_sort_tree hoL hI h64 λ out ns' a1 a2 a3=>⟨_,O,?_⟩) (args_list_sort _)));refine ay ⟨_,O,?_⟩;obtain⟨e,he⟩:=sortedHeap_at (vs:=vs) (out:=out) hoL;refine h h1 _ out.toList ns' e k1 (λ b u q=>?_) (by rw[s0n];exact he) a1 a2 a3;have hlt:=aP q;rw[sortedHeap_old (bx hlt) (by rw[size_push'];exact eR hlt)];exact aV _ q
end
theorem xh:∀ {xs:List V}{us:LV},xs.length=us.length->(∀(i:Nat) u,us[i]?=QJ u->∃x,xs[i]?=QJ x/\RelV x u)->Vals xs us
 |[],[],_,_=>.nil
 |[],_::_,h,_=>by simp at h
 |_::_,[],h,_=>by simp at h
 |x::xs,u::us,h,f=>by
  obtain⟨y,e,r⟩:=f 0 u rfl;cases (bN e);exact .cons r (xh (by simpa using h) λ i v e=>f (i+1) v e)
variable {X:Cx}
def GK:cz X (.builtin "sorted") (λ xs H Q=>∃p ns,xs=[.ref p]/\(SqL X.K H p (RE V.int ns)\/SqT X.K H p (RE V.int ns))/\ns.length<64/\∀ns':LI,ns'.Perm ns->ns'.Pairwise (·<=·)->∀l,H l=QM->Q (.ref l) (VA H l (.lst (ns'.map V.int)))):=by
 intro Vu s σ H xs us Q I r h;obtain⟨p,ns,rfl,hq,h64,q⟩:=h;obtain⟨u,rfl,rx⟩:=cM r;cases rx
 have fin:∀(h1 h2:Re) (vs':LV) (ns':LI) (e:Nat),(∀b u,s.heap.get? b=QJ u->h1.get? b=QJ u)->(∀b u,h1.get? b=QJ u->h2.get? b=QJ u)->h2.get? h1.objs.size=QJ (Vq "list" vs'.toArray e)->Sw vs' ns'->ns'.Perm ns->ns'.Pairwise (·<=·)->EP X Vu σ Q (.ref h1.objs.size) { s with heap:=h2 }:=by
  intro h1 h2 vs' ns' e k1 k2 g a1 a2 a3;have I1:Inv X Vu σ H { s with heap:=h1 }:=I.kept (t':=s.toks) k1;have hz:(ns'.map V.int).length<=QR:=by rw[ag,a2.length_eq];exact fD (aO ca)
  have I2:Inv X Vu σ (VA H h1.objs.size (.lst (ns'.map V.int))) { s with heap:=h2 }:=I1.laid (t':=s.toks) k2 (ak _) (show ObjOk X.prog X.w _ _ _ (.lst (ns'.map V.int)) from ⟨hz,vs',e,sj a1,g⟩);exact⟨.ref h1.objs.size,_,I2,O,q ns' a2 a3 _ (I1.hok.fresh (ak _))⟩
 rcases hq with hq|hq
 .obtain⟨its,r',pl,hz⟩:=I.list hq;have hi:=mM r';obtain⟨o,ho,hc,n,hd⟩:=pl.isList;exact xg (.inl rfl) ho hc hd hi (by rw[hi.length];exact h64) fin
 .obtain⟨its,r',pl,hz⟩:=I.tuple hq;have hi:=mM r';obtain⟨o,ho,hc,n,hd⟩:=pl;exact xg (.inr rfl) ho hc hd hi (by rw[hi.length];exact h64) fin
def GL:cz X (.type "range") (λ xs H Q=>∃j:Int,xs=[.int j]/\∀r,H r=QM->Q (.ref r) (VA H r (.rng 0 j))):=by
 intro Vu s σ H xs us Q I r h;obtain⟨j,rfl,q⟩:=h;obtain⟨u,rfl,t,rfl⟩:=cM r;refine call_range_1 ⟨.ref s.heap.objs.size,_,I.laid (λ b o e=>aV _ e) (ak _) ?_,O,q _ (I.hok.fresh (ak _))⟩;exact⟨_,_,_,bF _ rfl⟩
noncomputable def VR(n:Nat):LI:=(QW n).map λ(i:Nat)=>(i:Int)
def GM(hc:X.calm=QK):cz X (.type "list") (λ xs H Q=>∃p n,xs=[.ref p]/\H p=QJ (.rng 0 (Tg n))/\n<=1000/\∀l,H l=QM->Q (.ref l) (VA H l (.lst ((VR n).map V.int)))):=by
 intro Vu s σ H xs us Q I r h;obtain⟨p,n,rfl,hp,hn,q⟩:=h;obtain⟨u,rfl,rx⟩:=cM r;cases rx;obtain⟨t,u,v,e⟩:=I.hok p _ hp
 have hs:RF 0 (Tg n) 1=QK:=by
  have z:∀m:Fin 1001,RF 0 (Tg m.val) 1=QK:=by decide +kernel
  exact z ⟨n,ca⟩
 have hsz:Rg 0 (Tg n) 1=n:=by
  unfold Rg;rw[m7 on];split
  .show(Tg n-0-1)/1+1=_;simp; 
  .simp at *;lia
 refine call_list_range (I.ok.hd hc) e hs hsz ca λ h' tk acc' c' k g it=>?_
 have rv:Vals ((VR n).map V.int) acc'.toList:=by
  refine xh (by simp[VR,it.1]) λ i v e=>?_;rw[sh] at e;obtain⟨tt,rfl⟩:=it.2 i v e;have hi:i<n:=by rw[<- it.1];exact(wP.mp e).1
  exact⟨.int i,by simp[VR,hi],tt,pv⟩
 exact⟨.ref s.heap.objs.size,_,I.laid k (ak _) (show ObjOk X.prog X.w _ _ _ (.lst _) from ⟨by simp[VR];exact fD (aO hn),acc'.toList,c',rv,by rw[s0n];exact g⟩),O,q _ (I.hok.fresh (ak _))⟩
def GN:Yk X "list.pop" mS:=Fa
def GO:V->Option Int->Option Int->Hp->VK->Prop:=λ x lo hi H Q=>∃z,x=.str z/\z.length<=4000000/\Q (.str (Txt.slice z lo hi)) H
def GP:Yj X GO:=by
 intro Vu s σ H x v vl vu lo hi sl Q I rx hs pl pu h;obtain⟨z,rfl,hz,q⟩:=h;obtain⟨t,rfl⟩:=rx;have s20:4000000<=QR:=by rw[kM];decide
 have part:∀ {u:Value}{o:Option Int},Sn u o->∃l,u=partValue l/\o=l.map λ p:Int×Tok=>p.1:=λ p=>by
  cases p with
  |none=>exact⟨QM,rfl,rfl⟩
  |int i t=>exact⟨QJ (i,t),rfl,rfl⟩
 obtain⟨l,rfl,rfl⟩:=part pl;obtain⟨u,rfl,rfl⟩:=part pu;obtain⟨o,ho,hc,hd⟩:=hs;refine⟨"str",_,F.slot_str_getitem.lookup,Uv _ _ _,wpAny_getItem_str_slice (l:=l) (u:=u) (st:=QM) ⟨o,ho,hc,hd⟩ rfl ?_⟩;have le:=Txt.slice_le z (l.map λ p:Int×Tok=>p.1) (u.map λ p:Int×Tok=>p.1);exact post_val_or_str ⟨cY le ca,λ t' k=>⟨.str _,H,I.tok k,⟨t',O⟩,q⟩⟩
theorem xj:∀ {bs:List Bool}{us:LV},Vals (bs.map V.bl) us->us=bs.map RY
 |[],_,.nil=>rfl
 |b::bs,_,.cons r t=>by
  cases (show _=RY b from r);rw[xj t];rfl
def GQ(hc:X.calm=QK):cz X (.builtin "any") (λ xs H Q=>∃(a:QO) (bs:List Bool),xs=[.ref a]/\SqL X.K H a (bs.map V.bl)/\Q (.bl (bs.any id)) H):=by
 intro Vu s σ H xs us Q I r h;obtain⟨a,bs,rfl,hq,q⟩:=h;obtain⟨u,rfl,ru⟩:=cM r;cases (show u=Rk a from ru);obtain⟨its,rv,pl,hz⟩:=I.list hq;have hl:=pl.isList;have hlt:a<s.heap.objs.size:=by obtain⟨_,e,_⟩:=hl;exact aP e
 have hb:=xj rv;subst hb;refine call_any_walk (TW hl ?_)
 refine⟨s.heap.objs.size,[s.heap.objs.size,a],[s.heap.objs.size],(bs.map RY).toArray.size,_,_,λ i=>(bs[i]?).getD QL,O,Walks.list (A:=X.A.in1) (I.ok.hd hc) _ a (bx hlt) (bs.map RY).toArray,
  ⟨⟨_,bF _ rfl,rfl,rfl⟩,hl.push _⟩,λ i v s' Q' E' hP hQ=>?_,λ h' tk hk=>?_⟩
 .have hP:(bs.map RY)[i]?=QJ v:=by simpa using hP
  rw[aW] at hP
  cases e:bs[i]? with
  |none=>rw[e] at hP;cases hP
  |some b=>
   rw[e] at hP;cases hP;simp only[e,Option.getD_some] at hQ;exact gI hQ
 .have e:((QW (bs.map RY).toArray.size).any λ i=>(bs[i]?).getD QL)=bs.any id:=by
   rw[aY,ag];exact LSm.range_any bs
  rw[e];exact⟨.bl _,H,I.kept (t':=tk) (LSm.kept_iter hk),O,q⟩
section
variable {κ:Type} [DecidableEq κ]
end
section
variable {P:QX}{w:QY}{H:Hp}{h:Re}{a:QO}
end
section
variable {Vu:LO}{σ:St}{H:Hp}{s:QP}{a:QO}{y v:V}{u r:Value}{o:Option V}{A:QZ}{E:VS}
end
section
variable {Vu:LO}{σ:St}{H:Hp}{s:QP}{a:QO}{kvs:List (Wb×V)}{k:Wb}{u:Value}{A:QZ}{E:VS}
end
def xk(i:Expr):Prop:=∀ov iv,Tl i QL ov iv=operate [ov,iv] (Sk ov iv)
theorem GR{T id:String}
  (hl:RM (.type T) "__getitem__"=Rj (QJ (.builtin id))) (hs:xk slice)
  (h:QS (QU prog w) A (eval value env) (λ o s₁=>QS (QU prog w) A (eval slice env) (λ i s₂=>s₂.TypeIs o T/\QS (QU prog w) A (Sk o i) Q E s₂) E s₁) E s) :
  QS (QU prog w) A (eval (.Subscript value slice pos) env) Q E s:=by
 refine Up (cU h (λ o s₁ h₁=>cU h₁ (λ i s₂ h₂=>?_) λ _ _ x=>x) λ _ _ x=>x);obtain⟨hT,h₂⟩:=h₂;unfold SY;refine ae ?_;rw[getitemInPython_of_ne hT.not_modules];refine ae (iY hT hl ?_)
 have fin:QS (QU prog w) A (Tl slice QL o i) (λ r s₃=>QS (QU prog w) A (letTemporaryGo value o r >>= λ _=>Rj r) Q E s₃) E s₂:=by
  rw[hs o i];exact wpAny_operating (cU h₂ (λ r s₃ h₃=>ae (wpAny_letTemporaryGo (ay h₃))) λ _ _ x=>x)
 first
  |exact ay (ae fin)
  |exact ae (ay (ae fin))
  |exact ae fin
section
variable {o i e value:Expr}{pos pos' tpos:Pos}{td ty tv:TE}
end
section
variable {pos:Pos}
end
section
variable {Vu:LO}{σ:St}{H:Hp}{s:QP}{a:QO}{y d:V}{u r:Value}{o:Option V}{A:QZ}{E:VS}
end
section
variable {o e f:Expr}{apos cpos:Pos}{td ty tx:TE}
end
section
variable {Vu:LO}{σ:St}{H:Hp}{s:QP}{a:QO}{kvs:List (Wb×V)}{A:QZ}{E:VS}
end
section
variable {Vu:LO}{σ:St}{H:Hp}{s:QP}{a:QO}{y:V}{u:Value}{A:QZ}{E:VS}
end
section
variable {κ:Type} [DecidableEq κ]
end
def KTab(P:QX)(w:QY)(K:FG)(d:QO)(kvs:LA):Prop:=(d == Ta)=QL/\∀h:Re,K.In h->h.DictOf (rh P w) d (kvs.map λ p=>((RC p.1:Wb),Rk p.2))
noncomputable def GS(pm:Params)(l:List (Str×Tok×QO)):List DictEntry:=l.map λ p=>⟨Rl pm p.1,.str p.1 p.2.1,.ref p.2.2⟩
theorem KTab.mk{w:QY}{K:FG}{d:QO}(hd:(d == Ta)=QL)(hl:K.lookup d=QJ { cls:=.type "dict",data:=.dict es n })(he:es.toList=GS w.params l)(nd:(l.map (·.1)).Nodup) :
  KTab P w K d (l.map λ p=>(p.1,p.2.2)):=by
 refine⟨hd,λ h KI=>⟨_,es,n,KI d _ hl,⟨O,O,O⟩,O,?_,?_,?_⟩⟩
 .intro e hm;have hm:e∈es.toList:=Array.mem_toList_iff.mpr hm;rw[he] at hm;obtain⟨p,_,rfl⟩:=bn.mp hm;exact⟨RC p.1,rf p.1 p.2.1,O⟩
 .rw[he];clear he nd hl
  induction l with
  |nil=>exact .nil
  |cons p r ih=>exact .cons (rf p.1 p.2.1) rfl ih
 .rw[cg,cg];have e:((λ x:Wb×Value=>x.1) ∘ (λ p:Str×QO=>((RC p.1:Wb),Rk p.2))) ∘ (λ p:Str×Tok×QO=>(p.1,p.2.2))=(λ x:Str=>(RC x:Wb)) ∘ λ p=>p.1:=rfl;rw[<- cg] at *
  have z:(l.map λ p=>(RC p.1:Wb)).Nodup:=by
   have:(l.map λ p=>(RC p.1:Wb))=(l.map (·.1)).map (λ x:Str=>(RC x:Wb)):=by rw[cg];rfl
   rw[this];exact List.Pairwise.map _ (λ a b (h:a≠b) z=>h (s1u z)) nd
  simpa [cg,Function.comp_def] using z
def GU{kvs:LA}:valueAt (kvs.map λ p=>((RC p.1:Wb),Rk p.2)) (RC x)=(kvs.lookup x).map Rk:=by
 induction kvs with
 |nil=>rfl
 |cons p r ih=>
  obtain⟨k,a⟩:=p;unfold valueAt at *;rw[dg,List.find?_cons,eh];by_cases e:x=k
  .subst e;simp
  .have h1:decide ((RC k:Wb)=RC x)=QL:=bw λ z=>e (s1u z).symm;have h2:(x == k)=QL:=rg.mpr e;rw[h2];simp only[h1];exact ih
def GV(kvs:LA):V->Hp->VK->Prop:=λ y H Q=>∃x a,y=.str x/\kvs.lookup x=QJ a/\Q (.ref a) H
def GW(kvs:LA)(te:TE):TE:=λ σ H Q=>te σ H λ y H1=>GV kvs y H1 Q
theorem GX(hg:Gl X n)(hm:X.mg n=QJ (.ref d))(T:KTab X.prog X.w X.K d kvs)(hi:PE X i te)(hs:xk i)(hdb:autoParam ((n == ("__debug__" : Str))=QL) on._auto_1) :
  PE X (.Subscript (.Name n np) i pos) (GW kvs te):=by
 intro Vu s σ H Q I h;refine GR PySem.F.slot_dict_getitem.lookup hs (oF I hg hm (VD (hi Vu s σ H _ I h) λ iv s2 ⟨y,H2,I2,ry,x,a,ey,l,q⟩=>?_) hdb);subst ey;obtain⟨t,rfl⟩:=ry;have dd:=T.2 s2.heap I2.kIn;refine⟨dd.typeIs,wpAny_getItem_of (rf x t) dd.mapOf (v:=.ref a) (by rw[GU,l];rfl) ⟨.ref a,H2,I2.tok _,O,q⟩⟩
def KTup(K:FG)(a:QO)(xs:List V):Prop:=∃(o:Obj) (its:Array Value) (n:Nat),K.lookup a=QJ o/\o.cls=.type "tuple" /\ o.dict=QM/\o.data=.seq its n/\its.size<=QR/\Vals xs its.toList
def KTup.sq{K:FG}(h:KTup K a xs):SqT K H a xs:=.inr h
section
variable {pg:QX}{wd:QY}{B:QZ}{X0:VS}{s0:QP}
end
section
variable {es:List Expr}{x1:Nat}{pp:Pos}
end
section
variable {P:QX}{w:QY}{K:FG}{mg:SV}{base:Re}
end
section
variable {CX:WN}{k:Nat}{ps:List Str}{dvs:List V}{sp:Sp}{E:XK}{x:Str}{p pos:Pos}{e:Expr}{es:List Expr}{t:TA}
end
section
open PySem.Builtin PySem.Builtin.Str
end
section
variable {pg:QX}{wd:QY}{B:QZ}{X0:VS}{s0:QP}{J d:QO}{m:Nat}{Pr:Nat->Value->Prop}{OK:Re->Prop}
end
section
variable {pg:QX}{wd:QY}{B:QZ}{X0:VS}{z0:QP}
end
def GY(r:Vals xs us){j:Nat}(h:j<us.toArray.size):∃z,xs[j]?=QJ z/\RelV z us.toArray[j]:=by
 have l:=r.length;have k:j<xs.length:=by rw[l];simpa using h
 obtain⟨u,hu,ru⟩:=r.get (aL k)
 have e:us.toArray[j]=u:=by
  have z:us[j]?=QJ (us[j]'(by simpa using h)):=aL _;rw[z] at hu;simpa using hu
 exact⟨_,aL k,by rw[e];exact ru⟩
section
variable {Vu:LO}{σ:St}{H:Hp}{s:QP}
end
def GZ(K:FG)(tl:TE):TI:=λ σ H R=>tl σ H λ x H1=>(∃a,x=.ref a/\(∃xs,SqL K H1 a xs)/\R (YW K a) H1)\/(∃a,x=.ref a/\(∃xs,SqT K H1 a xs)/\R (YX K a) H1)
def Ha(hl:PE X l tl):PI X tg l (GZ X.K tl):=by
 intro Vu s σ H R I h;refine VD (hl Vu s σ H _ I h) λ v s1 ⟨x,H1,I1,r1,q1⟩=>?_
 rcases q1 with ⟨a,e,⟨xs,hq⟩,q⟩|⟨a,e,⟨xs,hq⟩,q⟩
 .subst e;cases r1;obtain⟨its,rv,p,hz⟩:=I1.list hq;refine TW p.isList ?_;refine⟨s1.heap.objs.size,[s1.heap.objs.size],_,_,H1,O,I1.kept (t':=s1.toks) λ b o e=>aV _ e,Dw a _,⟨_,bF _ rfl,O,O⟩,λ b hb=>?_,q⟩;have e:b=s1.heap.objs.size:=by simpa using hb
  subst e;exact I1.fpOk (ak _) (I1.hok.fresh (ak _))
 .subst e;cases r1;obtain⟨its,rv,p,hz⟩:=I1.tuple hq;refine pF (show s1.heap.IsTuple a its.toArray from p) ?_;refine⟨s1.heap.objs.size,[s1.heap.objs.size],_,_,H1,O,I1.kept (t':=s1.toks) λ b o e=>aV _ e,Dx a _,⟨_,bF _ rfl,O,O⟩,λ b hb=>?_,q⟩;have e:b=s1.heap.objs.size:=by simpa using hb
  subst e;exact I1.fpOk (ak _) (I1.hok.fresh (ak _))
section
variable {tg:Expr}
end
theorem mZ:∀(names:List (Str×Rb)) (n:Nat) (acc:LA),Ri n names acc=Ri n names []++acc
 |[],_,_=>rfl
 |(x,k)::r,n,acc=>by
  unfold Ri;split
  .rw[mZ r (n+1) ((x,n)::acc),mZ r (n+1) [(x,n)],jK];rfl
  .exact mZ r n acc
theorem iw{α:Type}:∀ {a b:List (Str×α)}{x:Str},(a++b).lookup x=match a.lookup x with|some c=>QJ c|none=>b.lookup x
 |[],_,_=>rfl
 |(y,c)::a,b,x=>by
  rw[nc,eh,eh]
  cases x == y with
  |true=>rfl
  |false=>exact iw
theorem xn{α:Type}{y:Str}:∀ {cl:List (Str×α)}{q:Str×α},q∈cl->q.1=y->(cl.lookup y).isSome=QK
 |a::r,q,hq,e=>by
  rw[eh]
  cases q0:y == a.1 with
  |true=>rfl
  |false=>
   rcases aH.mp hq with z|z
   .rw[<- z,e,kU] at q0;cases q0
   .exact xn z e
theorem xp{α:Type}:∀ {cl:List (Str×α)}{q:Str×α},(cl.map (·.1)).Nodup->q∈cl->cl.lookup q.1=QJ q.2
 |a::r,q,nd,hq=>by
  rw[eh]
  rcases aH.mp hq with z|z
  .rw[<- z,kU]
  .have na:=(gM.mp nd).1
   have:(q.1 == a.1)=QL:=by
    cases q0:q.1 == a.1 with
    |false=>rfl
    |true=>exact m8 (bn.mpr ⟨q,z,iU q0⟩) na
   rw[this];exact xp (gM.mp nd).2 z
theorem pI{x:Str}:∀ {names:List (Str×Rb)}{n:Nat},(∀y∈names,y.2=.cell->y.1≠x)->(Ri n names []).lookup x=QM
 |[],_,_=>rfl
 |(y,k)::r,n,h=>by
  unfold Ri;split
  .rename_i hk;rw[mZ,iw,pI λ z hz=>h z (bg _ hz)];have hy:y≠x:=h (y,k) bc (iU hk);show RT x [(y,n)]=QM;rw[eh]
   have:(x == y)=QL:=by
    cases q:x == y with
    |false=>rfl
    |true=>exact m8 (iU q).symm hy
   rw[this];rfl
  .exact pI λ z hz=>h z (bg _ hz)
section
variable {M:Model}{A:QZ}{E:VS}{s₀ s:QP}{m cm:SV}{env:Env}{cs:LA}
theorem Hb{v:Value}{Q:Unit->QP->Prop}(x:Su s₀ env.locals m cs cm s)(hk:env.scope.kind=.function)(hl:env.kindOf n=QJ .local)
  (h:∀s',Su s₀ env.locals (λ y=>if y=n then QJ v else m y) cs cm s'->Q () s'):QS M A (Tj env n v) Q E s:=by
 refine vB hl x.toInCall.ns (λ h' hn' hs'=>h _ ⟨⟨?_,hn',λ b o e=>?_,x.toInCall.fresh⟩,λ k c hc=>?_,x.apart,x.above⟩) (by rw[hk];rfl)
 .obtain⟨h₁,tk,rfl⟩:=x.toInCall.same;exact⟨h',_,O⟩
 .exact hs'.extBut b o (bx (bQ (aP e) x.toInCall.fresh)) (x.toInCall.keep b o e)
 .exact(x.cell k c hc).sameBut hs' (s1q (x.above k c (dZ hc)))
theorem Hc{v:Value}{Q:Unit->QP->Prop}(x:Su s₀ env.locals m cs cm s)(hk:env.scope.kind=.function)(hl:env.kindOf n=QJ .cell)
  (hc:cs.lookup n=QJ c) (he:env.cells.lookup n=QJ c)
  (h:∀s',Su s₀ env.locals m cs (λ y=>if y=n then QJ v else cm y) s'->Q () s'):QS M A (Tj env n v) Q E s:=by
 have hLc:=x.above n c (dZ hc);refine s0j hk hl he (x.cell n c hc) λ h' hc' hs'=>h _ ⟨⟨?_,x.toInCall.ns.sameBut hs' (bx hLc),λ b o e=>?_,x.toInCall.fresh⟩,λ k c' hk'=>?_,x.apart,x.above⟩
 .obtain⟨h₁,tk,rfl⟩:=x.toInCall.same;exact⟨h',_,O⟩
 .exact hs'.extBut b o (bx (Nat.lt_trans (bQ (aP e) x.toInCall.fresh) hLc)) (x.toInCall.keep b o e)
 .by_cases hkn:k=n
  .subst hkn;rw[hc] at hk';cases hk';simpa using hc'
  .rw[k9 hkn];exact(x.cell k c' hk').sameBut hs' λ e=>hkn (oV x.apart (dZ hk') (e ▸ dZ hc))
theorem sM(f:Str×Value->PUnit->Sem (ForInStep PUnit))(hf:∀n v u,f (n,v) u=(do Tj env n v;Rj (.yield ⟨⟩)))(hk:env.scope.kind=.function)(hcs:∀n c,cs.lookup n=QJ c->env.cells.lookup n=QJ c) :
  ∀(binds:List (Str×Value)) (m cm:SV) (s:QP) (Q:PUnit->QP->Prop),Su s₀ env.locals m cs cm s ->
   (∀x∈binds,env.kindOf x.1=QJ .local\/(env.kindOf x.1=QJ .cell/\(cs.lookup x.1).isSome=QK)) ->
   (∀s',Su s₀ env.locals (Sq env.kindOf binds m) cs (So env.kindOf binds cm) s'->Q ⟨⟩ s')->QS M A (forIn binds ⟨⟩ f) Q E s
 |[],m,cm,s,Q,x,_,h=>by rw[List.forIn_nil];exact ay (h s x)
 |(n,v)::r,m,cm,s,Q,x,VT,h=>by
  rw[ng,hf];have hr:∀y∈r,env.kindOf y.1=QJ .local\/(env.kindOf y.1=QJ .cell/\(cs.lookup y.1).isSome=QK):=λ y hy=>VT y (bg _ hy)
  rcases VT (n,v) bc with hl|⟨hl,hc⟩
  .refine ae (ae (Hb x hk hl λ s' x'=>ay (sM f hf hk hcs r _ _ s' Q x' hr λ s'' x''=>h s'' ?_)));unfold Sq So;rw[m7 hl,m7 hl];exact x''
  .obtain⟨c,hc⟩:=kO.mp hc;have hnl:¬env.kindOf n=QJ .local:=by rw[hl];decide
   refine ae (ae (Hc x hk hl hc (hcs n c hc) λ s' x'=>ay (sM f hf hk hcs r _ _ s' Q x' hr λ s'' x''=>h s'' ?_)));unfold Sq So;rw[k9 hnl,k9 hnl];exact x''
end
section
variable {M:Model}{A:QZ}{E:VS}{s:QP}
theorem Hd{scope:Scope}{globals:QO}{cl:LA}{binds:List (Str×Value)}{code:Value}{Q:Env->QP->Prop}
  (hk:scope.kind=.function)
  (VT:∀x∈binds,scope.names.lookup x.1=QJ .local\/(scope.names.lookup x.1=QJ .cell/\((Ri (s.heap.objs.size+1) scope.names []).lookup x.1).isSome=QK))
  (hQ:∀env,env=newEnv scope s.heap.objs.size globals (Ri (s.heap.objs.size+1) scope.names []++cl) qual func code QM builtins ->
   ∀s',Su s env.locals (Sq env.kindOf binds λ _=>QM) (Ri (s.heap.objs.size+1) scope.names []) (So env.kindOf binds λ _=>QM) s'->Q env s') :
  QS M A (UG scope globals cl binds qual func code QM builtins) Q E s:=by
 simp only[UG,Option.isSome_none,nh,XJ];refine ae (wpAny_alloc ?_);refine ae (wpAny_layCells _ (λ name kind cells=>by cases hkc:kind == UR<;>simp[hkc]) _ _ _ _ ?_);have ok:=cellsFrom_ok scope.names (s.heap.push { cls:=.type "frame",data:=.dict #[] }) (s.heap.objs.size+1) [] ⟨λ _ _ hm=>(nomatch hm),List.Pairwise.nil⟩ (by rw[jL];exact ak _);rw[jL] at ok;rw[show({ s with heap:=s.heap.push { cls:=.type "frame",data:=.dict #[] } }:QP).heap.objs.size=s.heap.objs.size+1 from jL ..];rw[mZ scope.names (s.heap.objs.size+1) cl]
 refine ae (sM (s₀:=s) (cs:=Ri (s.heap.objs.size+1) scope.names []) (env:=newEnv scope s.heap.objs.size globals (Ri (s.heap.objs.size+1) scope.names []++cl) qual func code QM builtins)
  _ (λ _ _ _=>rfl) hk (λ n c hc=>by show RT n (Ri (s.heap.objs.size+1) scope.names []++cl)=QJ c;rw[iw,hc]) binds (λ _=>QM) (λ _=>QM) _ _
  ⟨⟨⟨_,_,rfl⟩,(Heap.Ns.new s.heap (.type "frame")).keeps (Us _ _),λ b o e=>Us _ _ b o (aV _ e),ak _⟩,
   λ n c hc=>(ok.empty n c (dZ hc)).1,ok.apart,λ n c hm=>(ok.empty n c hm).2⟩
  VT λ s' x=>ay (hQ _ rfl s' x))
end
noncomputable def kW(c:QO)(v:V):HO:=.ext λ h=>∃u,RelV v u/\h.IsCell c (QJ u)
noncomputable def gR(c:QO)(qual:Str):HO:=.ext λ h=>h.CodeRec (.ref c) qual
noncomputable def fN(fa c':QO)(qual:Str)(params:RN)(body:Expr)(scope:Scope)(cl:LA):HO:=.ext λ h=>∃pm ctv,h.get? fa=QJ (kla_obj "<lambda>" qual params body scope cl pm c' ctv)
structure CelAt (H:Hp)(cl:LA)(vcs:List V):Prop where
 len:cl.length=vcs.length
 at_:∀(i:Nat) q,cl[i]?=QJ q->∃v o,vcs[i]?=QJ v/\H q.2=QJ (.frz o (kW q.2 v))
 apart:cl.Pairwise λ x y=>x.2≠y.2
def CelAt.mem{cl:LA}(h:CelAt H cl vcs){q:Str×QO}(hq:q∈cl):∃o v,H q.2=QJ (.frz o (kW q.2 v)):=by
 obtain⟨i,e⟩:=pJ.mp hq;obtain⟨v,o,_,e2⟩:=h.at_ i q e;exact⟨o,v,e2⟩
open Classical in
noncomputable def minC(H:Hp)(cl:LA):Hp:=λ b=>if ∃q∈cl,q.2=b then QM else H b
open Classical in
noncomputable def Ws(H H':Hp)(cl:LA):Hp:=λ b=>if ∃q∈cl,q.2=b then H b else H' b
def pK{cl:LA}{q:Str×QO}(h:q∈cl):minC H cl q.2=QM:=m7 ⟨q,h,rfl⟩
def dI{cl:LA}{b:QO}(h:∀q∈cl,q.2≠b):minC H cl b=H b:=k9 λ⟨q,hq,e⟩=>h q hq e
def He{cl:LA}(h:minC H cl b=QJ o):H b=QJ o/\∀q∈cl,q.2≠b:=by
 by_cases c:∃q∈cl,q.2=b
 .rw[show minC H cl b=QM from m7 c] at h;cases h
 .rw[show minC H cl b=H b from k9 c] at h;exact⟨h,λ q hq e=>c ⟨q,hq,e⟩⟩
def kX{H:Hp}{cl:LA}(h:H b=QM):minC H cl b=QM:=by
 by_cases c:∃q∈cl,q.2=b
 .exact m7 c
 .rw[show minC H cl b=H b from k9 c];exact h
def kY{cl:LA}{q:Str×QO}(h:q∈cl):Ws H H' cl q.2=H q.2:=m7 ⟨q,h,rfl⟩
def gS{cl:LA}{b:QO}(h:∀q∈cl,q.2≠b):Ws H H' cl b=H' b:=k9 λ⟨q,hq,e⟩=>h q hq e
def HOk.minC{cl:LA}(x:HOk P w H h)(hc:CelAt H cl vcs):HOk P w (minC H cl) h:=λ b o e=>by
 obtain⟨e1,_⟩:=He e
 have nf:∀c u,H c=QJ u->(∀ob v,u≠.frz ob v)->_L.minC H cl c=QJ u:=λ c u e2 n=>by
  rw[dI λ q hq z=>?_]
  .exact e2
  .obtain⟨ob,v,e3⟩:=hc.mem hq;rw[z,e2] at e3;exact n _ _ (bN e3)
 exact(x b o e1).stay (λ _ _ _ q=>q) (λ c q=>nf c _ q λ _ _ z=>nomatch z) λ c xs q=>nf c _ q λ _ _ z=>nomatch z
structure VW (N ps fv:List Str)(sc:Scope):Prop where
 kind:sc.kind=.function
 co:sc.isCoroutine=QL
 gen:sc.isGenerator=QL
 nd:N.Nodup
 pre:N.take (ps++fv).length=ps++fv
 par:∀x∈ps,sc.names.lookup x=QJ .local\/sc.names.lookup x=QJ .cell
 fre:∀x∈fv,sc.names.lookup x=QJ .free
 has:∀y∈sc.names,y.2=.free->y.1∈fv
 own:∀x∈fv,∀y∈sc.names,y.2=.cell->y.1≠x
noncomputable def nj(P:QX)(w:QY)(K:FG)(mg:SV)(base:Re)(N:List Str)(qual:Str)(scope:Scope)(f:QO)(cd:Value)(cl:LA)(A:QZ)(outer:List Env)(s:QP)(H:Hp):Cx where
 prog:=P
 w:=w
 K:=K
 mg:=mg
 base:=base
 A:=A.deeper (envX qual scope s.heap.objs.size f cd (Ri (s.heap.objs.size+1) scope.names []++cl))
 N:=N
 s₀:=s
 H₀:=H
 env:=envX qual scope s.heap.objs.size f cd (Ri (s.heap.objs.size+1) scope.names []++cl)
 outer:=outer
 stack:=envX qual scope s.heap.objs.size f cd (Ri (s.heap.objs.size+1) scope.names []++cl)::outer
 ex:=[]
 calm:=QK
 fn:=λ x=>decide (scope.names.lookup x=QJ .cell)
 pn:=[]
 xe:=λ _ _=>False
def Hf{vs:List V}{i:Nat}(h:(VF N vs)[i]?=QJ (QJ v)):vs[i]?=QJ v:=by
 unfold VF at h
 have hi:i<vs.length:=by
  by_cases hi:i<vs.length
  .exact hi
  .rw[cu (by simpa using hi),dH] at h;split at h<;>cases h
 rw[cx (by simpa using hi),aW] at h
 cases e:vs[i]? with
 |none=>rw[e] at h;cases h
 |some a=>rw[e] at h;cases h;rfl
theorem Hg{K:FG}{cl:LA}{A:QZ}{s s1:QP}{vs vcs:List V}
  (S:VW N ps fv scope) (hd:A.handled=QM) (e0:WK P w K mg base A outer s H) (hl:vs.length=ps.length) (r:Vals vs us) (hcl:cl.map (·.1)=fv) (hc:CelAt H cl vcs)
  (x:Su s s.heap.objs.size (Sq (λ x=>scope.names.lookup x) (ps.zip us) λ _=>QM) (Ri (s.heap.objs.size+1) scope.names []) (So (λ x=>scope.names.lookup x) (ps.zip us) λ _=>QM) s1) :
  Inv (nj P w K mg base N qual scope f cd cl A outer s (minC H cl)) [] (VF N (vs++vcs)) (minC H cl) s1:=by
 obtain⟨h1,tk,rfl,hk⟩:=x.done;have cll:cl.length=fv.length:=by rw[<- hcl,ag]
 have hpl:(ps++fv).length<=N.length:=by have:=bO RO S.pre;rw[bh] at this;lia
 have noA:∀b:QO,b ∉ (nj P w K mg base N qual scope f cd cl A outer s (minC H cl)).ex:=λ b z=>m8 (show b∈([]:List QO) from z) pv
 have old:∀q∈cl,q.2<s.heap.objs.size:=λ q hq=>by
  obtain⟨o,v,e⟩:=hc.mem hq;exact e0.hok.lt e
 have celv:∀(i:Nat) q,cl[i]?=QJ q->∃v u,vcs[i]?=QJ v/\RelV v u/\h1.IsCell q.2 (QJ u):=λ i q e=>by
  obtain⟨v,o,e1,e2⟩:=hc.at_ i q e;obtain⟨_,⟨u,ru,ic⟩,_⟩:=e0.hok _ _ e2;exact⟨v,u,e1,ru,ic.keeps hk⟩
 have lk:∀y c,(Ri (s.heap.objs.size+1) scope.names []++cl).lookup y=QJ c->(y,c)∈Ri (s.heap.objs.size+1) scope.names []\/(y,c)∈cl:=λ y c e=>cr.mp (dZ e);have abv:∀y c,(y,c)∈Ri (s.heap.objs.size+1) scope.names []->s.heap.objs.size<=c:=λ y c e=>fD (x.above y c e)
 refine⟨⟨e0.mod,S.kind,O,O,ak _,λ y z c h1 h2=>?_,λ y hy=>?_,λ y c hf h=>?_,λ _=>hd,s0k e0.frames,.inr ⟨O,O⟩,λ b z=>m8 z (noA b),λ b o e=>⟨(e0.bs b o e).1,kX (e0.bs b o e).2⟩,e0.bsz,λ b _ _=>noA b,λ b z=>m8 z (noA b),e0.funs,λ b hb=>kX (e0.frf b hb)⟩,
  rfl,e0.bare,Un.kept hk,⟨_,x.toInCall.ns,λ i y v h1 h2 h3=>?_⟩,λ y c h=>?_,(e0.hok.minC hc).fresh (ak _),λ y c h=>?_,λ p hp=>m8 (show p∈([]:LO) from hp) pv,(e0.hok.minC hc).kept hk,?_⟩
 .rcases lk y c h1 with m1|m1<;>rcases lk z c h2 with m2|m2
  .exact oV x.apart m1 m2
  .exact m8 (abv y c m1) (Nat.not_le_of_lt (old _ m2))
  .exact m8 (abv z c m2) (Nat.not_le_of_lt (old _ m1))
  .exact oV hc.apart m1 m2
 .have hy:scope.names.lookup y=QJ .cell\/scope.names.lookup y=QJ .free:=hy
  rcases hy with hy|hy
  .obtain⟨c,e⟩:=mL (n:=s.heap.objs.size+1) hy;exact⟨c,by show RT y (Ri (s.heap.objs.size+1) scope.names []++cl)=QJ c;rw[iw,e]⟩
  .have hm:=S.has _ (dZ hy) rfl;have hm:y∈cl.map (·.1):=by rw[hcl];exact hm
   obtain⟨q,hq,e⟩:=bn.mp hm;have iss:(cl.lookup y).isSome=QK:=xn hq e;obtain⟨c,ec⟩:=kO.mp iss;have e1:(Ri (s.heap.objs.size+1) scope.names []).lookup y=QM:=pI (S.own y (by rw[<- hcl];exact hm));exact⟨c,by show RT y (Ri (s.heap.objs.size+1) scope.names []++cl)=QJ c;rw[iw,e1];exact ec⟩
 .have hf:scope.names.lookup y=QJ .cell:=aD hf;obtain⟨c',e⟩:=mL (n:=s.heap.objs.size+1) hf;have h:RT y (Ri (s.heap.objs.size+1) scope.names []++cl)=QJ c:=h;rw[iw,e] at h;cases h;exact abv y _ (dZ e)
 .have ha:=Hf h2;have hi:i<(vs++vcs).length:=(aN.mp ha).1;have lv:(vs++vcs).length=(ps++fv).length:=by rw[aK,aK,hl,<- hc.len,cll]
  have hp:(ps++fv)[i]?=QJ y:=by
   rw[<- S.pre,oW ca];exact h1
  have ndA:(ps++fv).Nodup:=by rw[<- S.pre];exact S.nd.sublist (TM _ _)
  have ndP:ps.Nodup:=ndA.sublist (List.sublist_append_left _ _);by_cases hil:i<ps.length
  .rw[cx ca] at ha;rw[cx hil] at hp;obtain⟨u,hu,rv⟩:=r.get ha;refine⟨u,rv,?_⟩
   rcases S.par y (aC hp) with k|k
   .exact .inl ⟨k,rN ndP hp hu k⟩
   .obtain⟨c,e⟩:=mL (n:=s.heap.objs.size+1) k;refine .inr ⟨.inl k,c,by show RT y (Ri (s.heap.objs.size+1) scope.names []++cl)=QJ c;rw[iw,e],?_⟩;have q:=x.cell y c e;rw[rO ndP hp hu (by rw[k];decide)] at q;exact q
  .rw[cu ca,hl] at ha;rw[cu ca] at hp;have hm:=aC hp;have hqc:(cl.map (·.1))[i-ps.length]?=QJ y:=by rw[hcl];exact hp
   rw[aW] at hqc
   obtain⟨q,eq,e1⟩:∃q,cl[i-ps.length]?=QJ q/\q.1=y:=by
    cases z:cl[i-ps.length]? with
    |none=>rw[z] at hqc;cases hqc
    |some q=>rw[z] at hqc;exact⟨q,rfl,bN hqc⟩
   obtain⟨v',u,e2,ru,ic⟩:=celv _ q eq;rw[ha] at e2;cases e2;have ndF:(cl.map (·.1)).Nodup:=by rw[hcl];exact ndA.sublist (List.sublist_append_right _ _)
   have lkq:cl.lookup y=QJ q.2:=by rw[<- e1];exact xp ndF (aC eq)
   have own0:(Ri (s.heap.objs.size+1) scope.names []).lookup y=QM:=pI (S.own y hm);exact⟨u,ru,.inr ⟨.inr (S.fre y hm),q.2,by show RT y (Ri (s.heap.objs.size+1) scope.names []++cl)=QJ q.2;rw[iw,own0];exact lkq,ic⟩⟩
 .rcases lk y c h with m|m
  .have h:RT y (Ri (s.heap.objs.size+1) scope.names []++cl)=QJ c:=h;rw[iw] at h
   cases e:(Ri (s.heap.objs.size+1) scope.names []).lookup y with
   |some c2=>rw[e] at h;cases h;exact⟨_,x.cell y _ e⟩
   |none=>
    rw[e] at h;obtain⟨i,ei⟩:=pJ.mp (dZ h);obtain⟨v,u,_,_,ic⟩:=celv i _ ei;exact⟨_,ic⟩
  .obtain⟨i,ei⟩:=pJ.mp m;obtain⟨v,u,_,_,ic⟩:=celv i _ ei;exact⟨_,ic⟩
 .rcases lk y c h with m|m
  .exact(e0.hok.minC hc).fresh (abv y c m)
  .exact pK m
 .unfold VF;show _=N.length;have lv:(vs++vcs).length=(ps++fv).length:=by rw[aK,aK,hl,<- hc.len,cll]
  rw[aK,ag,dO];lia
def pL(P:QX)(w:QY)(K:FG)(mg:SV)(base:Re)(k:Nat)(fa:QO)(vs:List V)(H:Hp)(Q:VK):Prop :=
 ∀(A:QZ) (outer:List Env) (s:QP) (us:LV),Room k A->WK P w K mg base A outer s H->Vals vs us->RP (QU P w) A (.call (.ref fa) ⟨us,[]⟩) (CR VI outer P w H s Q λ _ _ _=>False) s
end _L
namespace _L
open PySem PySem.Spec PyProof.Rows PySem.W PySem.Calls
def FnV(H:Hp)(fa:QO):Prop:=∃φ,H fa=QJ (.ext φ)/\∀h,φ h->FnAt fa h
def FnV.lam{H:Hp}{cl:LA}(h:H fa=QJ (fN fa c' qual params body scope cl)):FnV H fa:=⟨_,h,λ _ ⟨_,_,e⟩=>⟨_,_,_,_,e⟩⟩
def Hh(P:QX)(w:QY)(K:FG)(mg:SV)(base:Re)(k i:Nat)(t:TA):TE:=λ σ H Q=>∃fa,σ[i]?=QJ (QJ (.ref fa))/\FnV H fa/\t σ H λ vs H1=>FnV H1 fa/\pL P w K mg base k fa vs H1 Q
variable {X:Cx}
section
variable {k:Nat}{x:Str}{p pos:Pos}{e:Expr}{es:List Expr}{t:TA}
theorem Hi{i:Nat}(hr:Room k X.A)(hN:X.N[i]?=QJ x)(hv:Yh X.env.scope x)(ha:PA X (e::es) t)(hd:autoParam ((x == ("__debug__" : Str))=QL) on._auto_1)(hcd:autoParam ((x == ("__classdict__" : Str))=QL) on._auto_1)
  (he:autoParam (Rf (e::es) X.env=(QL,eval e X.env)::Rf es X.env) A8._auto_1) (hpl:autoParam ((RQ pos (Rf es X.env)).any (·.1)=QL) A8._auto_1) :
  PE X (.Call (.Name x p) (e::es) [] pos) (Hh X.prog X.w X.K X.mg X.base k i t):=by
 intro Vu s σ H Q I h;obtain⟨fa,es',fn,h⟩:=h;refine kN (VD ((iR (pos:=p) hN hv hd hcd) Vu s σ H (λ v H1=>v=.ref fa/\H1=H) I (by unfold cZ;rw[es'];exact⟨O,O⟩)) λ u s1 ⟨v,H1,I1,r1,e1,e2⟩=>?_);subst e1 e2;cases r1;have at1:∀ {H':Hp}{s':QP},Inv X Vu σ H' s'->FnV H' fa->FnAt fa s'.heap:=λ J ⟨φ,e,k⟩=>k _ (J.hok _ _ e).1;refine callWith_F (at1 I1 fn) (VD (ha pos Vu s1 σ _ _ I1 h) λ us s2 ⟨vs,H2,I2,r2,fn2,cv⟩=>⟨at1 I2 fn2,?_⟩) he hpl;refine Ux (mK (cv X.A X.stack s2 us hr I2.env0 r2) λ r s' hq=>?_)
 cases r with
 |error e=>exact RA hq
 |ok fl=>
  cases fl with
  |ret u=>exact I2.after hq
  |next|brk|cont=>exact RA hq
end
def OwnCl(ec:LA)(fv:List Str)(cl:LA):Prop:=cl.map (·.1)=fv/\∀q∈cl,ec.lookup q.1=QJ q.2
theorem OwnCl.uniq:∀ {fv:List Str}{cl cl':LA},OwnCl ec fv cl->OwnCl ec fv cl'->cl=cl'
 |[],[],[],_,_=>rfl
 |[],_::_,_,h,_=>by cases h.1
 |[],[],_::_,_,h=>by cases h.1
 |_::_,[],_,h,_=>by cases h.1
 |_::_,_::_,[],_,h=>by cases h.1
 |n::fv,(a,c)::cl,(b,d)::cl',h,h'=>by
  have e1:a=n:=(pM h.1).1;have e2:b=n:=(pM h'.1).1;subst e1 e2;have l1:=h.2 (b,c) bc;have l2:=h'.2 (b,d) bc;rw[show ec.lookup b=QJ c from l1] at l2;cases l2;rw[OwnCl.uniq (fv:=fv) ⟨(pM h.1).2,λ q hq=>h.2 q (bg _ hq)⟩ ⟨(pM h'.1).2,λ q hq=>h'.2 q (bg _ hq)⟩]
def TabOk(H:Hp)(T:QO)(pos:Pos)(qual:Str):Prop:=∃ps,H T=QJ (.tbl ps)/\SN ps.toList/\(codeAmong pos ps.toList=QM\/∃c',codeAmong pos ps.toList=QJ (.ref c')/\H c'=QJ (gR c' qual))
def Hj{c:Value}(l:LV)(h:SN l):SN (l++[Ro a,Ro b,c]):=by
 fun_induction SN l with
 |case1=>simp[SN,Ro]
 |case2 i t j u v Vz ih=>simpa [SN] using ih h
 |case3=>exact h.elim
structure Wm (base:Re)(mg:SV)(c T:QO):Prop where
 hd:CodeHd base c T
 none_:base.get? T=QM
 blt:∃bm o,mg "__builtins__"=QJ (.ref bm)/\bm≠Si/\bm≠Rc/\bm≠T/\base.get? bm=QJ o/\o.cls=.type "module" /\ o.dict=QJ Si/\o.data=.plain
 ne:Rc≠T
def Hk(ec:LA)(fv:List Str)(T:QO)(pos:Pos)(qual:Str)(params:RN)(body:Expr)(scope:Scope):TE:=λ _ H Q=>TabOk H T pos qual /\
 ∀fa c' cl H2,OwnCl ec fv cl->H fa=QM->H2 fa=QJ (fN fa c' qual params body scope cl)->H2 c'=QJ (gR c' qual)->TabOk H2 T pos qual->(∀b o,b≠T->H b=QJ o->H2 b=QJ o)->Q (.ref fa) H2
def xq{h1 h2:Re}(x:h1.CodeRec (.ref c) qual)(k:∀o,h1.get? c=QJ o->h2.get? c=QJ o):h2.CodeRec (.ref c) qual:=by
 obtain⟨c',o,vs,t,e,ho,r⟩:=x;cases e;exact⟨c,o,vs,t,O,k _ ho,r⟩
section
variable {params:RN}{body:Expr}{scope:Scope}{pos:Pos}{fv:List Str}{c T:QO}{cl:LA}
theorem Hl{qual:Str}(hq:X.env.qual ++ "<lambda>"=qual)(hcode:X.env.code=.ref c)(TF:Wm X.base X.mg c T)(hdef:Sj params X.env=([],[]))(hcl:RZ scope X.env=Rj cl)(own:OwnCl X.env.cells fv cl) :
  PE X (.Lambda params body scope pos) (Hk X.env.cells fv T pos qual params body scope):=by
 intro Vu s σ H Q I h;obtain⟨⟨ps,hT,ht,hz⟩,h⟩:=h;subst hq;have eT:s.heap.get? T=QJ (tabObj ps):=I.hok _ _ hT;have hg:s.heap.Ns Rc X.mg:=I.mod.glob.keeps I.bk;obtain⟨bm,ob,b1,b2,b3,b4,b5,b6⟩:=TF.blt;have hb:s.heap.BuiltinsAt X.mg T:=⟨bm,ob,b1,b2,b3,b4,I.bk _ _ b5,b6⟩;have C:CodeHd s.heap c T:=TF.hd.keeps I.bk;refine kla_eval hdef ?_
 rcases hz with hnf|⟨c',hf,hc'⟩
 .refine kla_makeFunction hcl I.ok.glob hg hcode C eT ht hnf TF.ne hb λ c' ctv h' tk hx hge hlt hrec htb=>?_;have hfa:H h'.objs.size=QM:=I.hok.fresh (fD (s1i hge hlt));have hc0:H c'=QM:=I.hok.fresh hge;have nTc:c'≠T:=λ z=>by rw[z,hT] at hc0;cases hc0
  have nTf:h'.objs.size≠T:=λ z=>by rw[z,hT] at hfa;cases hfa
  have ncf:c'≠h'.objs.size:=bx hlt;have old:∀b o,b≠T->s.heap.get? b=QJ o->(h'.push (kla_obj "<lambda>" (X.env.qual ++ "<lambda>") params body scope cl ((X.mg "__name__").getD .none) c' ctv)).get? b=QJ o:=λ b o n e=>aV _ (hx b o n e);have eP:(h'.push (kla_obj "<lambda>" (X.env.qual ++ "<lambda>") params body scope cl ((X.mg "__name__").getD .none) c' ctv)).get? T=QJ (tabObj (ps++#[Ro pos.line,Ro pos.col,.ref c'])):=aV _ htb;have eF:(h'.push (kla_obj "<lambda>" (X.env.qual ++ "<lambda>") params body scope cl ((X.mg "__name__").getD .none) c' ctv)).get? h'.objs.size=QJ (kla_obj "<lambda>" (X.env.qual ++ "<lambda>") params body scope cl ((X.mg "__name__").getD .none) c' ctv):=bF _ rfl;have eC:(h'.push (kla_obj "<lambda>" (X.env.qual ++ "<lambda>") params body scope cl ((X.mg "__name__").getD .none) c' ctv)).CodeRec (.ref c') (X.env.qual ++ "<lambda>"):=xq hrec λ o e=>aV _ e;generalize h'.push (kla_obj "<lambda>" (X.env.qual ++ "<lambda>") params body scope cl ((X.mg "__name__").getD .none) c' ctv)=h2 at *;generalize h'.objs.size=fa at *;have lowT:∀b o,s.heap.get? b=QJ o->b≠c'/\(H b=QM->b≠T):=λ b o e=>⟨bx (bQ (aP e) hge),λ n z=>by rw[z,hT] at n;cases n⟩;have lowF:∀b o,s.heap.get? b=QJ o->b≠fa:=λ b o e=>bx (Nat.lt_trans (bQ (aP e) hge) hlt);have out:∀b,b≠T->b≠c'->b≠fa->VA (VA (VA H T (.tbl (ps++#[Ro pos.line,Ro pos.col,.ref c']))) c' (gR c' (X.env.qual ++ "<lambda>"))) fa (fN fa c' (X.env.qual ++ "<lambda>") params body scope cl) b=H b:=λ b n1 n2 n3=>by rw[aG n3,aG n2,aG n1]
  have WI:∀b o,H b=QJ o->b≠c'/\b≠fa:=λ b o e=>⟨(λ z=>by rw[z,hc0] at e;cases e),(λ z=>by rw[z,hfa] at e;cases e)⟩;have _H:VA (VA (VA H T (.tbl (ps++#[Ro pos.line,Ro pos.col,.ref c']))) c' (gR c' (X.env.qual ++ "<lambda>"))) fa (fN fa c' (X.env.qual ++ "<lambda>") params body scope cl) T=QJ (.tbl (ps++#[Ro pos.line,Ro pos.col,.ref c'])):=by rw[aG nTf.symm,aG nTc.symm,cK]
  have HC:VA (VA (VA H T (.tbl (ps++#[Ro pos.line,Ro pos.col,.ref c']))) c' (gR c' (X.env.qual ++ "<lambda>"))) fa (fN fa c' (X.env.qual ++ "<lambda>") params body scope cl) c'=QJ (gR c' (X.env.qual ++ "<lambda>")):=by rw[aG ncf,cK]
  have HF:VA (VA (VA H T (.tbl (ps++#[Ro pos.line,Ro pos.col,.ref c']))) c' (gR c' (X.env.qual ++ "<lambda>"))) fa (fN fa c' (X.env.qual ++ "<lambda>") params body scope cl) fa=QJ (fN fa c' (X.env.qual ++ "<lambda>") params body scope cl):=cK;generalize VA (VA (VA H T (.tbl (ps++#[Ro pos.line,Ro pos.col,.ref c']))) c' (gR c' (X.env.qual ++ "<lambda>"))) fa (fN fa c' (X.env.qual ++ "<lambda>") params body scope cl)=H2 at *;have same:∀b o,b≠T->H b=QJ o->H2 b=QJ o:=λ b o n e=>by rw[out b n (WI b o e).1 (WI b o e).2];exact e
  have un:Un X.fs [] H H2 s.heap h2:=⟨λ b o e n _ _=>old b o ((lowT b o e).2 n) e,λ b o e n _ _=>⟨o.slots,old b o ((lowT b o e).2 n) e⟩,λ b o e n _=>by rw[out b ((lowT b o e).2 n) (lowT b o e).1 (lowF b o e)];exact n,λ b o e _=>by
   by_cases z:b=T
   .rw[z];exact⟨_,eP⟩
   .exact⟨o,old b o z e⟩,λ b xs e=>same b _ (λ z=>by rw[z,hT] at e;cases e) e,λ b o u e=>same b _ (λ z=>by rw[z,hT] at e;cases e) e,λ b qs e=>by
   by_cases z:b=T
   .subst z;rw[hT] at e;cases e;exact⟨_,_H⟩
   .exact⟨#[],by rw[same b _ z e];simp⟩⟩
  have hok:HOk X.prog X.w H2 h2:=λ b o e=>by
   by_cases zf:b=fa
   .subst zf;rw[HF] at e;cases e;exact⟨⟨_,_,eF⟩,⟨_,eF⟩,λ h1 h3 ⟨pm,cv,e1⟩ k=>⟨pm,cv,k _ e1⟩⟩
   .by_cases zc:b=c'
    .subst zc;rw[HC] at e;cases e;obtain⟨c2,o2,vs2,t2,e2,ho2,r2⟩:=id eC;cases e2;exact⟨eC,⟨_,ho2⟩,λ h1 h3 x k=>xq x k⟩
    .by_cases zT:b=T
     .subst zT;rw[_H] at e;cases e;exact eP
     .rw[out b zT zc zf] at e;refine(I.hok b o e).stay (λ d u hd q=>old d u (λ z=>?_) q) (λ d q=>same d _ (λ z=>by rw[z,hT] at q;cases q) q) λ d xs q=>same d _ (λ z=>by rw[z,hT] at q;cases q) q
      rcases hd with hd|hd
      .exact zT (hd.symm.trans z)
      .rw[z,hT] at hd;cases hd
  exact⟨.ref fa,H2,I.un un hok,O,h fa c' cl H2 own hfa HF HC ⟨_,_H,by simpa using Hj ps.toList ht,.inr ⟨c',by simpa using codeAmong_snoc ps.toList ht hnf,HC⟩⟩ same⟩
 .refine kla_makeFunctionHit hcl I.ok.glob hg hcode C eT ht hf hb λ ctv h' tk hx hsz=>?_;have hfa:H h'.objs.size=QM:=I.hok.fresh hsz;have same:∀b o,H b=QJ o->VA H h'.objs.size (fN h'.objs.size c' (X.env.qual ++ "<lambda>") params body scope cl) b=QJ o:=λ b o e=>by rw[aG (kH e hfa)];exact e
  refine⟨.ref h'.objs.size,VA H h'.objs.size (fN h'.objs.size c' (X.env.qual ++ "<lambda>") params body scope cl),I.laid (t':=tk) (λ b u e=>aV _ (hx b u e)) hsz ?_,O,h _ c' cl _ own hfa cK (same _ _ hc') ⟨ps,same _ _ hT,ht,.inr ⟨c',hf,same _ _ hc'⟩⟩ λ b o _ e=>same b o e⟩;exact⟨⟨_,_,bF _ rfl⟩,⟨_,bF _ rfl⟩,λ h1 h3 ⟨pm,cv,e1⟩ k=>⟨pm,cv,k _ e1⟩⟩
end
noncomputable def Ww(h:Re)(H:Hp):LA->List V->Hp
 |q::cl,v::vs=>VA (Ww h H cl vs) q.2 (.frz ((h.get? q.2).getD { cls:=.none,data:=.plain }) (kW q.2 v))
 |_,_=>H
theorem xr{b:QO}:∀ {cl:LA}{vs:List V},(∀q∈cl,q.2≠b)->Ww h H cl vs b=H b
 |[],_,_=>rfl
 |_::_,[],_=>rfl
 |q::cl,v::vs,n=>by
  show VA _ _ _ b=_;rw[aG (cL (n q bc))];exact xr λ q' hq=>n q' (bg _ hq)
theorem xt:∀ {cl:LA}{vs:List V},(cl.Pairwise λ x y=>x.2≠y.2)->cl.length=vs.length->∀(i:Nat) q,cl[i]?=QJ q->∃v,vs[i]?=QJ v/\Ww h H cl vs q.2=QJ (.frz ((h.get? q.2).getD { cls:=.none,data:=.plain }) (kW q.2 v))
 |[],_,_,_,i,q,e=>by simp at e
 |_::_,[],_,l,_,_,_=>by simp at l
 |a::cl,v::vs,pw,l,0,q,e=>by
  cases (bN e);exact⟨v,O,cK⟩
 |a::cl,v::vs,pw,l,i+1,q,e=>by
  have e:cl[i]?=QJ q:=by simpa using e
  obtain⟨u,e1,e2⟩:=xt (nq.mp pw).2 (by simpa using l) i q e;refine⟨u,by simpa using e1,?_⟩;show VA _ _ _ _=_;rw[aG (cL ((nq.mp pw).1 q (aC e)))];exact e2
def Hn(ec:LA)(fv:List Str)(js:List Nat)(sp:Sp)(t:TA):TE:=λ σ H Q=>t σ H λ vs H1=>∃vcs:List V,js.map (λ j=>σ[j]?)=vcs.map (λ v=>QJ (QJ v)) /\
 ∀cl H2,OwnCl ec fv cl->(∀q∈cl,H1 q.2=QM)->CelAt H2 cl vcs->(∀b,(∀q∈cl,q.2≠b)->H2 b=H1 b)->sp vs H2 (λ v H'=>Q v (minC H' cl)) E0
section
variable {k:Nat}{x:Str}{ps:List Str}{sp:Sp}{p pos:Pos}{e:Expr}{es:List Expr}{t:TA}{fv:List Str}{js:List Nat}{cl:LA}
theorem Ho(c:Callee X.prog X.w X.K X.mg X.base VI k x ps sp)(hr:Room k X.A)(hg:Gl X x)(own:OwnCl X.env.cells fv cl)(hj:js.map (λ j=>X.N[j]?)=fv.map QJ)(hk:∀n∈fv,X.env.scope.names.lookup n=QJ .cell)(hf:∀n∈fv,X.fn n=QK)(nd:fv.Nodup)
  (ha:PA X (e::es) t) (hdb:autoParam ((x == ("__debug__" : Str))=QL) on._auto_1)
  (he:autoParam (Rf (e::es) X.env=(QL,eval e X.env)::Rf es X.env) A8._auto_1) (hpl:autoParam ((RQ pos (Rf es X.env)).any (·.1)=QL) A8._auto_1) :
  PE X (.Call (.Name x p) (e::es) [] pos) (Hn X.env.cells fv js sp t):=by
 obtain⟨f,fd,F,hm,kp,hb⟩:=c.has;intro Vu s0 σ H0 Q I0 h;refine kN (oF I0 hg hm ?_ hdb);refine W.callWith_K (h₀:=X.base) I0.ok.mod.kin kp (VD (ha pos Vu s0 σ H0 _ I0 h) λ us s ⟨vs,H,I,r,vcs,hv,q⟩=>⟨I.kIn,?_⟩) he hpl;have mfv:∀q∈cl,q.1∈fv:=λ q hq=>by rw[<- own.1];exact bn.mpr ⟨q,hq,rfl⟩
 have free:∀q∈cl,H q.2=QM:=λ q hq=>I.freeC q.1 q.2 (own.2 q hq)
 have apart:cl.Pairwise λ x y=>x.2≠y.2:=by
  have nd':(cl.map (·.1)).Nodup:=by rw[own.1];exact nd
  have ec:=own.2;clear own mfv free
  induction cl with
  |nil=>exact .nil
  |cons a r ih=>
   refine nq.mpr ⟨λ y hy z=>?_,ih (gM.mp nd').2 (λ q hq=>ec q (bg _ hq))⟩;have:=I.ok.inj a.1 y.1 a.2 (ec a bc) (by rw[z];exact ec y (bg _ hy));exact(gM.mp nd').1 (bn.mpr ⟨y,hy,this.symm⟩)
 have lf:js.length=fv.length:=by have:=bO RO hj;simpa using this
 have lv:js.length=vcs.length:=by have:=bO RO hv;simpa using this
 have lc:cl.length=fv.length:=by rw[<- own.1,ag]
 have l:cl.length=vcs.length:=by rw[lc,<- lf,lv]
 have holds:∀(i:Nat) q,cl[i]?=QJ q->∃v u,vcs[i]?=QJ v/\RelV v u/\s.heap.IsCell q.2 (QJ u):=λ i q e=>by
  have il:i<cl.length:=(aN.mp e).1;have ej:=aL (l:=js) (i:=i) ca;have ev:=aL (l:=vcs) (i:=i) ca
  have en:X.N[js[i]' ca]?=QJ q.1:=by
   have z:=bO (λ l=>l[i]?) hj;simp only[aW,ej,Th] at z;have y:fv[i]?=QJ q.1:=by rw[<- own.1,aW,e];rfl
   rw[y] at z;exact bN z
  have eσ:σ[js[i]' ca]?=QJ (QJ (vcs[i]' ca)):=by
   have z:=bO (λ l=>l[i]?) hv;simp only[aW,ej,ev,Th] at z;exact bN z
  obtain⟨m,_,lo⟩:=I.loc;have kq:=hk q.1 (mfv q (aC e));obtain⟨u,ru,lk⟩:=lo _ _ _ en eσ (.inr (.inl kq));refine⟨_,u,ev,ru,?_⟩
  rcases lk with ⟨k1,_⟩|⟨_,c,ec,ic⟩
  .have k1:X.env.scope.names.lookup q.1=QJ .local:=k1;rw[kq] at k1;cases k1
  .rw[own.2 q (aC e)] at ec;cases ec;exact ic
 have hat:=xt (h:=s.heap) (H:=H) apart l;have hC:CelAt (Ww s.heap H cl vcs) cl vcs:=⟨l,λ i q e=>let ⟨v,e1,e2⟩:=hat i q e;⟨v,_,e1,e2⟩,apart⟩;have hout:∀b,(∀q∈cl,q.2≠b)->Ww s.heap H cl vcs b=H b:=λ b n=>xr n
 have split:∀b,(∃q∈cl,q.2=b)\/∀q∈cl,q.2≠b:=λ b=>by
  by_cases c:∃q∈cl,q.2=b
  .exact .inl c
  .exact .inr λ q hq e=>c ⟨q,hq,e⟩
 have gobj:∀q∈cl,∃o v,Ww s.heap H cl vcs q.2=QJ (.frz o (kW q.2 v))/\s.heap.get? q.2=QJ o/\∃u,RelV v u/\s.heap.IsCell q.2 (QJ u):=λ q hq=>by
  obtain⟨i,e⟩:=pJ.mp hq;obtain⟨v,e1,e2⟩:=hat i q e;obtain⟨v',u,e3,ru,ic⟩:=holds i q e;rw[e1] at e3;cases e3;obtain⟨o,eo,d⟩:=id ic;rw[eo] at e2;exact⟨o,v,e2,eo,u,ru,ic⟩
 have WI:∀b o,H b=QJ o->Ww s.heap H cl vcs b=QJ o:=λ b o e=>by
  rw[hout b λ q hq z=>by rw[<- z,free q hq] at e;cases e];exact e
 have hok:HOk X.prog X.w (Ww s.heap H cl vcs) s.heap:=λ b o e=>by
  rcases split b with ⟨q,hq,rfl⟩|hn
  .obtain⟨o',v,e1,eo,u,ru,ic⟩:=gobj q hq;rw[e1] at e;cases e;exact⟨eo,⟨u,ru,ic⟩,⟨_,eo⟩,λ h1 h2 ⟨u,ru,o2,e2,d2⟩ k=>⟨u,ru,o2,k _ e2,d2⟩⟩
  .rw[hout b hn] at e;exact(I.hok b o e).stay (λ _ _ _ z=>z) (λ d z=>WI d _ z) λ d xs z=>WI d _ z
 have abv:∀q∈cl,X.s₀.heap.objs.size<=q.2:=λ q hq=>I.ok.cab q.1 q.2 (hf q.1 (mfv q hq)) (own.2 q hq)
 have nfr:∀b∈WD X.stack,∀q∈cl,q.2≠b:=λ b hb q hq z=>by
  rcases aH.mp (I.stkSub b hb) with y|y
  .exact I.cne q.1 q.2 (own.2 q hq) (z.trans y)
  .obtain⟨_,o,eo,_⟩:=I.ok.funs.mem y;have:=aP eo;rw[<- z] at this;exact m8 this (Nat.not_lt_of_le (abv q hq))
 have e0:WK X.prog X.w X.K X.mg X.base X.A X.stack s (Ww s.heap H cl vcs):=by
  have b0:=I.env0;refine⟨b0.frames,b0.mod,λ b o e=>⟨(b0.bs b o e).1,?_⟩,b0.bsz,b0.funs,λ b hb=>?_,hok,b0.bare⟩
  .rw[hout b λ q hq z=>?_]
   .exact(b0.bs b o e).2
   .have:=aP e;rw[<- z] at this;exact m8 (bQ this I.ok.bsz) (Nat.not_lt_of_le (abv q hq))
  .rw[hout b (nfr b hb)];exact b0.frf b hb
 have hl:us.length=ps.length:=by rw[<- r.length];exact F.len _ _ _ _ (q cl _ own free hC hout)
 have hb':=hb s us I.kIn (by simpa using hl);rw[fF] at hb';refine Ux (mK (F.run X.A X.stack s (Ww s.heap H cl vcs) ⟨us,[]⟩ us vs _ E0 hr e0 hb' r (q cl _ own free hC hout)) λ r s' hq=>?_)
 cases r with
 |error e=>exact RA hq
 |ok fl=>
  cases fl with
  |next|brk|cont=>exact RA hq
  |ret u=>
   obtain⟨v,H',os,bare,un,hok',rv,q'⟩:=hq;have hC':CelAt H' cl vcs:=⟨l,λ i q e=>let ⟨v,o,e1,e2⟩:=hC.at_ i q e;⟨v,o,e1,un.frzs _ _ _ e2⟩,apart⟩;obtain⟨hh,gg,dd,tt,os'⟩:=s';obtain rfl:os'=s.os:=os
   have un2:Un (WD X.stack) [] H (minC H' cl) s.heap hh:=by
    refine⟨λ b o e n hb hx=>?_,λ b o e n hb hx=>?_,λ b o e n hx=>?_,un.there,λ b xs e=>?_,λ b o u e=>?_,λ b qs e=>?_⟩
    .rcases split b with ⟨q,hq,rfl⟩|hn
     .obtain⟨o',v',e1,eo,_⟩:=gobj q hq;rw[e] at eo;cases eo;exact(hok' _ _ (un.frzs _ _ _ e1)).1
     .exact un.keep b o e (by rw[hout b hn];exact n) hb hx
    .exact un.slot b o e (by rw[hout b (nfr b hb)];exact n) hb hx
    .rcases split b with ⟨q,hq,rfl⟩|hn
     .exact pK hq
     .exact kX (un.free b o e (by rw[hout b hn];exact n) hx)
    .have hn:∀q∈cl,q.2≠b:=λ q hq z=>by rw[<- z,free q hq] at e;cases e
     rw[dI hn];exact un.tups b xs (WI b _ e)
    .have hn:∀q∈cl,q.2≠b:=λ q hq z=>by rw[<- z,free q hq] at e;cases e
     rw[dI hn];exact un.frzs b o u (WI b _ e)
    .have hn:∀q∈cl,q.2≠b:=λ q hq z=>by rw[<- z,free q hq] at e;cases e
     rw[dI hn];exact un.tbls b qs (WI b _ e)
   exact⟨v,minC H' cl,I.call (h':=hh) (g':=gg) (d':=dd) (t':=tt) (ch:=[]) un2 (hok'.minC hC') bare (λ b z=>m8 z pv),rv,q'⟩
end
theorem Fun.okT{K:FG}{st:Ra}{sp:Sp}(F:Fun K x qual st f fd)(hcd:fd.code=.ref c)(S:VO N ps (aI st))(len:∀vs H Q E,sp vs H Q E->vs.length=ps.length)
  (hbody:∀(A:QZ) (outer:List Env) (s:QP) (H:Hp) (vs:List V) (Q:VK) (E:XK),Room k (A.deeper (RG qual (aI st) s.heap.objs.size f (.ref c)))->sp vs H Q E ->
   ∃t,PSs (eO VI P w K mg base N qual (aI st) f (.ref c) A outer s H E).nox (aR st) t/\t { nx:=λ _ H'=>Q .non H',rt:=Q } (VF N vs) H):FnOk P w K mg base VI (k+1) f fd ps sp:=by
 obtain⟨oc,od,kV,doc,pm,an,cdv,ct,osl,rfl,lk,hc⟩:=F.ex;obtain rfl:cdv=.ref c:=hcd;refine wa lk hc S len λ A outer s H vs Q E hr hsp=>?_;obtain⟨t,h,q⟩:=hbody A outer s H vs Q E hr hsp;exact⟨t,h.nox,q⟩
theorem Hq{K:FG}{mg mb:SV}{fa a:QO}{x:Str}{s₁:QP}{vs:LV}(tbs:List (QO×QO))
  (hT:TabsAt tbs s₁.heap) (hK0:noTabs K=QK) (hbm:∃bm ob,mg "__builtins__"=QJ (.ref bm)/\bm≠Si/\s₁.heap.get? bm=QJ ob/\ob.cls=.type "module" /\ ob.dict=QJ Si/\ob.data=.plain)
  (KX:K.In s₁.heap) (hns:s₁.heap.Ns Rc mg) (hb:s₁.heap.Ns Si mb) (hbb:∀x:Str,x ≠ "__name__" -> mb x=RW x) (hlim:s₁.heap.NoLimit) (hg:s₁.gens=#[])
  (ha:s₁.heap.get? a=QJ { cls:=.type "list",data:=.seq vs.toArray }) (hi:Sw vs ns) (hl:ns.length<=QR) (hr:Room k SH)
  (F:∀base:Re,K.In base->base.Ns Rc mg->(∀q∈tbs,Wm base mg q.1 q.2)->FnOk P w K mg base CX k fa fd [x] sp) (hbind:∀(s:QP) (u:Value),Tn s fd ⟨[u],[]⟩ [(x,u)])
  (hsp:∀H:Hp,(∀q∈tbs,H q.2=QJ (.tbl #[]))->SqL K H a (ns.map V.int)->sp [.ref a] H (λ v _=>v=.bl QK) λ _ _ _=>False)
  (hCX:∀H e s',CX [] H s₁ (λ _ _ _=>False) e s'->False) :
  RP (QU P w) SH (.call (.ref fa) ⟨[.ref a],[]⟩) (λ r s'=>r=.ok (.ret (.bool QK))/\OldK s₁.heap s'.heap/\s'.os=s₁.os/\Sg s'.gens) s₁:=by
 have rv:=sj hi;have lenV:=hi.length;have tab:∀q∈tbs,s₁.heap.get? q.2=QJ (tabObj #[]):=λ q hq=>(hT q hq).2
 have naT:∀q∈tbs,q.2≠a:=λ q hq z=>by
  have e:=tab q hq;rw[z,ha] at e;cases e
 have kT:∀q∈tbs,K.lookup q.2=QM:=λ q hq=>by
  cases e:K.lookup q.2 with
  |none=>rfl
  |some o=>
   have e1:=KX _ _ e;rw[tab q hq] at e1;have h2:=gU.mp hK0 (q.2,o) (mem_of_lookupK e);cases e1;exact m8 (show QL=QK from h2) bT
 have core:∀H:Hp,(∀q∈tbs,H q.2=QJ (.tbl #[]))->(∀b,H b=QM\/(∃o xs,H b=QJ (.frz o (.lst xs)))\/∃q∈tbs,q.2=b)->SqL K H a (ns.map V.int)->HOk P w H s₁.heap->(∀b,H b≠QM->b=a\/∃q∈tbs,q.2=b)->(H a≠QM->K.lookup a=QM) ->
   RP (QU P w) SH (.call (.ref fa) ⟨[.ref a],[]⟩) (λ r s'=>r=.ok (.ret (.bool QK))/\OldK s₁.heap s'.heap/\s'.os=s₁.os/\Sg s'.gens) s₁:=by
  intro H hH hO hS hok hA hK;have base_of:∀ {b:QO}{o:Obj},s₁.heap.get? b=QJ o->H b=QM->(fY s₁.heap H).get? b=QJ o:=λ e n=>CQ e n
  have noA:∀ {b:QO}{o:Obj},s₁.heap.get? b=QJ o->o≠{ cls:=.type "list",data:=.seq vs.toArray }->o≠tabObj #[]->H b=QM:=λ {b o} e n1 n2=>by
   cases q:H b with
   |none=>rfl
   |some u=>
    rcases hA b (by rw[q];simp) with z|⟨p,hp,z⟩
    .subst z;rw[ha] at e;cases e;exact m8 rfl n1
    .subst z;rw[tab p hp] at e;cases e;exact m8 rfl n2
  have nsK:∀ {b:QO}{m:SV},s₁.heap.Ns b m->(fY s₁.heap H).Ns b m:=λ {b m} ⟨o,es,ep,e,d,r⟩=>⟨o,es,ep,base_of e (noA e (λ z=>by rw[z] at d;cases d) (λ z=>by rw[z] at d;cases d)),d,r⟩
  have hKb:K.In (fY s₁.heap H):=λ b o e=>base_of (KX b o e) (by
   cases q:H b with
   |none=>rfl
   |some u=>
    rcases hA b (by rw[q];simp) with z|⟨p,hp,z⟩
    .subst z;rw[hK (by rw[q];simp)] at e;cases e
    .subst z;rw[kT p hp] at e;cases e)
  have hM:Mod K mg (fY s₁.heap H):=⟨hKb,nsK hns,⟨mb,nsK hb,hbb⟩,let ⟨mc,h1,h2⟩:=hlim;⟨mc,nsK h1,h2⟩⟩;have e0:WK P w K mg (fY s₁.heap H) SH [] s₁ H:=⟨rfl,hM,λ b o e=>vy e,s1t (CP _ _),trivial,λ b hb=>m8 (show b∈([]:List QO) from hb) pv,hok,.of_eq hg⟩
  have tf:∀q∈tbs,Wm (fY s₁.heap H) mg q.1 q.2:=λ q hq=>by
   obtain⟨o,vs',file,tf,flags,tg,inF,text,tt,e1,r1,r2⟩:=(hT q hq).1;obtain⟨bm,ob,b1,b2,b3,b4,b5,b6⟩:=hbm;have bmT:bm≠q.2:=λ z=>by rw[z,tab q hq] at b3;cases b3;cases b4
   have bmG:bm≠Rc:=λ z=>by
    obtain⟨o,es,ep,e,d,_⟩:=hns;rw[<- z,b3] at e;cases e;rw[b6] at d;cases d
   have gT:Rc≠q.2:=λ z=>by
    obtain⟨o,es,ep,e,d,_⟩:=hns;rw[z,tab q hq] at e;cases e;cases d
   refine⟨⟨o,vs',file,tf,flags,tg,inF,text,tt,base_of e1 (noA e1 (λ z=>by rw[z] at r1;exact m8 (show RL "list"=RL "code" from r1) on) (λ z=>by rw[z] at r1;cases r1)),r1,r2⟩,?_,⟨bm,ob,b1,b2,bmG,bmT,base_of b3 (noA b3 (λ z=>by rw[z] at b4;exact m8 (show RL "list"=RL "module" from b4) on) (λ z=>by rw[z] at b4;cases b4)),b4,b5,b6⟩,gT⟩
   cases e:(fY s₁.heap H).get? q.2 with
   |none=>rfl
   |some o=>have:=(vy e).2;rw[hH q hq] at this;cases this
  refine mK ((F _ hKb (nsK hns) tf).run SH [] s₁ H ⟨[.ref a],[]⟩ [.ref a] [.ref a] _ _ hr e0 (hbind s₁ (.ref a)) (.cons rfl .nil) (hsp H hH hS)) λ r s' h=>?_
  cases r with
  |error e=>exact(hCX H e s' h).elim
  |ok fl=>
   cases fl with
   |next|brk|cont=>exact RA h
   |ret u=>
    obtain⟨v,H',os,bare,un,hok',r',q⟩:=h;have q':v=.bl QK:=q;subst q';obtain rfl:u=RY QK:=r';refine⟨O,⟨λ b o e=>?_,λ b o e=>un.there b o e pv⟩,os,bare⟩
    rcases hO b with z|⟨ob,xs,z⟩|⟨p,hp,z⟩
    .exact .inl (un.keep b o e z (by intro z;exact m8 (show b∈([]:List QO) from z) pv) pv)
    .have z2:=un.frzs b ob _ z;obtain⟨e1,_⟩:=hok b _ z;obtain⟨e2,_⟩:=hok' b _ z2;rw[e] at e1;cases e1;exact .inl e2
    .subst z;obtain⟨more,z2⟩:=un.tbls p.2 #[] (hH p hp);have e2:s'.heap.get? p.2=QJ (tabObj (#[]++more)):=hok' _ _ z2;have e1:=tab p hp;rw[e] at e1;cases e1;obtain⟨o,vs',file,tf,flags,tg,inF,text,tt,c1,c2,c3,c4,_⟩:=(hT p hp).1;exact .inr (.inl ⟨⟨p.1,o,vs',c1,c2,c3,c4⟩,O,#[],more,O,e2⟩)
 have withT:∀H:Hp,(∀b,H b=QM\/∃o xs,H b=QJ (.frz o (.lst xs)))->SqL K H a (ns.map V.int)->HOk P w H s₁.heap->(∀b,H b≠QM->b=a)->(H a≠QM->K.lookup a=QM) ->
   RP (QU P w) SH (.call (.ref fa) ⟨[.ref a],[]⟩) (λ r s'=>r=.ok (.ret (.bool QK))/\OldK s₁.heap s'.heap/\s'.os=s₁.os/\Sg s'.gens) s₁:=by
  intro H hO hS hok hA hK;have inT:∀q∈tbs,(λ b=>if (tbs.any λ q=>q.2 == b)=QK then QJ (HO.tbl #[]) else H b) q.2=QJ (.tbl #[]):=λ q hq=>m7 (iZ.mpr ⟨q,hq,pv⟩)
  have split:∀b,(∃q∈tbs,q.2=b)\/(λ b=>if (tbs.any λ q=>q.2 == b)=QK then QJ (HO.tbl #[]) else H b) b=H b:=λ b=>by
   by_cases c:(tbs.any λ q=>q.2 == b)=QK
   .obtain⟨q,hq,e⟩:=iZ.mp c;exact .inl ⟨q,hq,iU e⟩
   .exact .inr (k9 c)
  have aT:(λ b=>if (tbs.any λ q=>q.2 == b)=QK then QJ (HO.tbl #[]) else H b) a=H a:=by
   rcases split a with ⟨q,hq,z⟩|z
   .exact m8 z (naT q hq)
   .exact z
  generalize (λ b=>if (tbs.any λ q=>q.2 == b)=QK then QJ (HO.tbl #[]) else H b)=G at *
  have noneT:∀q∈tbs,H q.2=QM:=λ q hq=>by
   cases e:H q.2 with
   |none=>rfl
   |some u=>exact m8 (hA q.2 (by rw[e];simp)) (naT q hq)
  refine core G inT (λ b=>?_) ?_ (λ b o e=>?_) (λ b n=>?_) (λ n=>hK (by rw[<- aT];exact n))
  .rcases split b with z|z
   .exact .inr (.inr z)
   .rw[z];rcases hO b with y|y
    .exact .inl y
    .exact .inr (.inl y)
  .rcases hS with (z|⟨o,z⟩)|z
   .exact .inl (.inl (by rw[aT];exact z))
   .exact .inl (.inr ⟨o,by rw[aT];exact z⟩)
   .exact .inr z
  .rcases split b with ⟨q,hq,z⟩|z
   .subst z;rw[inT q hq] at e;cases e;exact tab q hq
   .rw[z] at e
    rcases hO b with y|⟨ob,xs,y⟩
    .rw[y] at e;cases e
    .rw[y] at e;cases e;obtain⟨e1,l,its,n,r,e2⟩:=hok b _ y;exact⟨e1,l,its,n,r,e2⟩
  .rcases split b with z|z
   .exact .inr z
   .rw[z] at n;exact .inl (hA b n)
 cases hk:K.lookup a with
 |some o=>
  have e:=KX a o hk;rw[ha] at e;cases e;refine withT (λ _=>QM) (λ _=>.inl rfl) (.inr ⟨_,vs.toArray,_,hk,O,O,O,by rw[aY,lenV];exact hl,by simpa using rv⟩) (λ b u z=>by have z':(QM:Option HO)=QJ u:=z;cases z') (λ b z=>m8 rfl z) λ z=>m8 rfl z
 |none=>
  refine withT (λ b=>if b=a then QJ (.frz { cls:=.type "list",data:=.seq vs.toArray } (.lst (ns.map V.int))) else QM) (λ b=>?_) (.inl (.inr ⟨{ cls:=.type "list",data:=.seq vs.toArray },m7 rfl⟩)) (λ b u z=>?_) (λ b z=>?_) λ _=>hk
  .by_cases hb:b=a
   .exact .inr ⟨_,_,m7 hb⟩
   .exact .inl (k9 hb)
  .by_cases hb:b=a
   .have z':=(m7 hb).symm.trans z;cases z';subst hb;exact⟨ha,by rw[ag];exact hl,vs,_,rv,ha⟩
   .have z':=(k9 hb).symm.trans z;cases z'
  .by_cases hb:b=a
   .exact hb
   .exact m8 (k9 hb) z
def Hr{K:FG}{oc oc2:Value}{od od2:OA}{fd:Rn}{sl sl2:AV}{vs:Array Value}(h1:nsIn K Rc x=QJ (QJ (.ref f)))(h2:K.lookup f=QJ ⟨oc,od,.func fd,sl⟩)(h3:fd.code=.ref c)(h4:K.lookup c=QJ ⟨oc2,od2,.fields vs,sl2⟩)(h5:vs[11]?=QJ (.ref T)):tabIn K x=QJ (c,T):=by
 unfold tabIn;simp only[h1,h2,h3,h4,h5]
theorem walk_ofT{l:W.OpenLaw}{YP:QY->Re->Prop}{d:DefRec}{K:Params->FG}{CX:QY->WN}{sp:QY->List QO->Sp}{x:Str}
  (hn:l.most=QJ n) (hn2:n<=QR) (hdf:d.params.defaults=[]) (hr:Room k SH)
  (hY:∀(w:QY) (h:Re),YP w h->(K w.params).In h) (hK0:∀w:QY,noTabs (K w.params)=QK)
  (F:∀(w:QY) (mg:SV) (fa:QO) (h:Re),(K w.params).In h->h.Ns Rc mg->mg d.name=QJ (.ref fa) ->
   ∃(fd:Rn) (tbs:List (Str×QO×QO)),(∀p∈tbs,tabIn (K w.params) p.1=QJ p.2/\((recsOf q).find? λ e=>e.name == p.1).isSome=QK)/\(∀(s:QP) (u:Value),Tn s fd ⟨[u],[]⟩ [(x,u)]) /\
    ∀base:Re,(K w.params).In base->base.Ns Rc mg->(∀p∈tbs,Wm base mg p.2.1 p.2.2)->FnOk l.prog w (K w.params) mg base (CX w) k fa fd [x] (sp w (tbs.map λ p=>p.2.2)))
  (hsp:∀(w:QY) (H:Hp) (a:QO) (ns:LI) (ts:List QO),ns.length<=n->(∀T∈ts,H T=QJ (.tbl #[]))->SqL (K w.params) H a (ns.map V.int)->sp w ts [.ref a] H (λ v _=>v=.bl QK) λ _ _ _=>False)
  (hCX:∀(w:QY) (H:Hp) (s:QP) (e:Value) (s':QP),CX w [] H s (λ _ _ _=>False) e s'->False) :
  W.WalkO q loose XP YP l.row.toRowW d [] (λ f vs=>Uo f vs):=by
 refine Att.attach_call hn hdf λ w s₀ s₁ mg mb fa o pm cd doc a vs ns G Y ho hd hcd hmg hobj hints VC hg=>?_;have KX:=hY w _ Y;obtain⟨fd,tbs,ht,hb,hF⟩:=F w mg fa _ KX G.T.g hmg
 have hT:TabsAt (tbs.map (·.2)) s₁.heap:=λ p hp=>by
  obtain⟨t,htm,rfl⟩:=bn.mp hp;obtain⟨h1,h2⟩:=ht t htm;obtain⟨d',hd'⟩:=kO.mp h2;exact tab_of G.T KX hd' (show tabIn (K w.params) t.1=QJ (t.2.1,t.2.2) from h1)
 refine Hq (tbs.map (·.2)) hT (hK0 w) G.T.bmain KX G.T.g G.T.b G.T.builtins G.T.nolimit hg hobj hints (cY VC hn2) hr (λ base kb nb tf=>hF base kb nb λ p hp=>tf p.2 (bn.mpr ⟨p,hp,O⟩)) hb (λ H hH hS=>hsp w H a ns _ VC (λ T hT=>?_) hS) λ H e s'=>hCX w H s₁ e s';obtain⟨t,htm,rfl⟩:=bn.mp hT;exact hH t.2 (bn.mpr ⟨t,htm,O⟩)
section
variable {params:RN}{scope:Scope}{pos:Pos}{fv:List Str}{c T:QO}{cl:LA}
end
section
variable {prog:QX}{w:QY}{A:QZ}{R:Tz->QP->Prop}{I:QO}{fp wr:List QO}{n:Nat}{P:Nat->Value->Prop}{St:Nat->Re->Prop}
end
def Hs(hc:X.calm=QK):cz X (.builtin "min") (λ xs H Q=>∃a ns,xs=[.ref a]/\SqL X.K H a (RE V.int ns)/\0<ns.length/\∀M:Int,M∈ns->(∀z∈ns,M<=z)->Q (.int M) H):=by
 intro Vu s σ H xs us Q I r h;obtain⟨a,ns,rfl,hq,hne,q⟩:=h;obtain⟨u,rfl,ru⟩:=cM r;cases (show u=Rk a from ru);obtain⟨its,rv,pl,hz⟩:=I.list hq;have hi:=mM rv;obtain⟨xs,e⟩:=hi.allInts.items;have hns:ns=xs.toList.map (·.1):=by rw[<- hi.numsOf,<- s1l,<- e]
 have hl:=pl.isList;rw[e] at hl;have hsz:0<xs.size:=by rw[hns,ag,Rt] at hne;exact hne
 refine min_intList (I.ok.hd hc) hl hsz λ v h' tk hv kk=>?_;obtain⟨t,rfl⟩:=intItems_at hv;obtain⟨h1,h2⟩:=argBest_lt (numAt xs) (xs.size-1);refine⟨.int _,H,I.kept kk,⟨t,O⟩,q _ ?_ λ z hz=>?_⟩
 .rw[hns,s1y];exact getD_mem (by rw[ag,Rt];lia)
 .rw[hns] at hz;obtain⟨j,hj,rfl⟩:=mem_getD hz;rw[ag,Rt] at hj;rw[<- s1y];exact h2 j ca
def Ht(hc:X.calm=QK):cz X (.builtin "max") (λ xs H Q=>∃a ns,xs=[.ref a]/\SqL X.K H a (RE V.int ns)/\0<ns.length/\∀M:Int,M∈ns->(∀z∈ns,z<=M)->Q (.int M) H):=by
 intro Vu s σ H xs us Q I r h;obtain⟨a,ns,rfl,hq,hne,q⟩:=h;obtain⟨u,rfl,ru⟩:=cM r;cases (show u=Rk a from ru);obtain⟨its,rv,pl,hz⟩:=I.list hq;have hi:=mM rv;obtain⟨xs,e⟩:=hi.allInts.items;have hns:ns=xs.toList.map (·.1):=by rw[<- hi.numsOf,<- s1l,<- e]
 have hl:=pl.isList;rw[e] at hl;have hsz:0<xs.size:=by rw[hns,ag,Rt] at hne;exact hne
 refine max_intList (I.ok.hd hc) hl hsz λ v h' tk hv kk=>?_;obtain⟨t,rfl⟩:=intItems_at hv;obtain⟨h1,h2⟩:=argBest_gt (numAt xs) (xs.size-1);refine⟨.int _,H,I.kept kk,⟨t,O⟩,q _ ?_ λ z hz=>?_⟩
 .rw[hns,s1y];exact getD_mem (by rw[ag,Rt];lia)
 .rw[hns] at hz;obtain⟨j,hj,rfl⟩:=mem_getD hz;rw[ag,Rt] at hj;rw[<- s1y];exact h2 j ca
section
variable {pg:QX}{wd:QY}{B:QZ}{X0:VS}{s0:QP}
end
section
variable {es:List Expr}{x1:Nat}{pp:Pos}
end
def pN:V->List V->Hp->VK->Prop:=λ x vs H Q=>∃l xs i y,x=.ref l/\vs=[.int i,y]/\H l=QJ (.lst xs)/\0<=i/\i<=xs.length/\xs.length<QR/\Q .non (VA H l (.lst (xs.take i.toNat++y::xs.drop i.toNat)))
def Hu:Yk X "list.insert" pN:=by
 intro Vu s σ H x vs v us Q I rx rv h;obtain⟨l,xs,i,y,rfl,rfl,hH,i0,i1,hz,q⟩:=h;cases rx;obtain⟨u,w,rfl,⟨t,rfl⟩,rw'⟩:=oR rv;obtain⟨z,its,n,r,hl,e⟩:=I.lstM hH;have s63:QR<=2 ^ 62:=by rw[kM];decide
 have hf:RH i=QK:=s0r ca ca
 refine gm F.slot_list_insert ⟨_,e,O⟩ F.entry_list_insert (F.args_list_insert_3 _ _ _)
  (AutoSeq1.list_insert_list_int_val_1 l its.toArray n i t w (by simp[hf]) (by rw[aY];lia)) ⟨e,?_⟩
 refine⟨.non,_,I.lset (its':=its.take i.toNat++w::its.drop i.toNat) hH e ?_ ((r.take _).append (.cons rw' (r.drop _))) ?_,O,q⟩
 .show(its.toArray.extract 0 (if i<0 then (i+(its.toArray.size:Int)).toNat else min i.toNat its.toArray.size)).push w++its.toArray.extract (if i<0 then (i+(its.toArray.size:Int)).toNat else min i.toNat its.toArray.size)=_;rw[k9 ca,aY,gq ca];apply Array.ext';simp[List.extract_eq_take_drop,ce]
 .rw[aK,Rs,bh,da];lia
section
variable {pg:QX}{wd:QY}{B:QZ}{X0:VS}{s0:QP}
end
section
variable {es:List Expr}{x1:Nat}{pp:Pos}
end
section
variable {prog:QX}{w:QY}{A:QZ}{R:Tz->QP->Prop}{I:QO}{fp wr:List QO}{n:Nat}{P:Nat->Value->Prop}{St:Nat->Re->Prop}
def xv(h0:Re)(S:QO)(wr:List QO)(kf:Nat->Int)(P:Nat->Value->Prop):Prop:=∀i v,P i v->∃a its,v=.ref a/\¬a∈wr/\a≠S/\h0.IsTuple a its/\(its.size:Int)<2 ^ 63/\kf i=its.size
def sO(kf:Nat->Int)(m i:Nat):Prop:=∀j,j<m->kf j<=kf i/\(j<i->kf j<kf i)
theorem Hv(W:Walks prog w A.in1 I fp wr n P St)(kf:Nat->Int)(S:QO)(hSf:¬S∈fp)(h0:Re)(hk:xv h0 S wr kf P):∀(k j i:Nat) (s:QP) (vb:Value) (tb:Tok) (c:Nat),n-(j+1)=k->j+1<=n->St (j+1) s.heap->P i vb->i<=j->sO kf (j+1) i->(∀b o,¬b∈wr->b≠S->h0.get? b=QJ o->s.heap.get? b=QJ o)->s.heap.get? S=QJ ⟨.type "list",QM,.seq #[vb,.int (kf i) tb] c,#[]⟩ ->
  (∀i v h' tk,P i v->i<n->sO kf n i->(∀b o,¬b∈wr->b≠S->h0.get? b=QJ o->h'.get? b=QJ o)->R (.ok (.ret v)) { s with heap:=h',toks:=tk })->RP (QU prog w) A (.builtin "max.loop" ⟨[.ref I,.builtin "len",.ref S],[]⟩) R s:=by
 have hSw:¬S∈wr:=λ h=>hSf (W.sub _ h);have nm:(SJ "max" ++ SJ ".loop" : String)="max.loop" := by decide
 intro k;induction k with
 |zero=>
  intro j i s vb tb c hk' hj hst hPb hij hb kp0 hS hR;have e0:j+1=n:=ca;refine iq sP ?_;rw[iu jP _];show QS (QU prog w) A.in1 (Sd (.ref S) >>= _) _ _ s;refine ae (m:=Sd (.ref S)) (jO hS rfl ?_);show QS (QU prog w) A.in1 (Se (RI (.ref I)) _ >>= _) _ _ s;refine ae (m:=Se (RI (.ref I)) _) (kZ (W.done s _ _ (e0 ▸ hst) λ h' tk kp=>?_));have hS1:=kp S _ hSw hS;show QS (QU prog w) A.in1 (Sf S (λ _=>#[]) >>= _) _ _ _;refine ae (m:=Sf S (λ _=>#[])) (kS hS1 rfl (ae (s0x (ay ?_))));exact hR i vb _ tk hPb ca (e0 ▸ hb) λ b o hbw hbS e=>(fG _ _ (cL hbS)).trans (kp b o hbw (kp0 b o hbw hbS e))
 |succ k ih=>
  intro j i s vb tb c hk' hj hst hPb hij hb kp0 hS hR;have lt0:j+1<n:=ca;refine iq sP ?_;rw[iu jP _];show QS (QU prog w) A.in1 (Sd (.ref S) >>= _) _ _ s;refine ae (m:=Sd (.ref S)) (jO hS rfl ?_);show QS (QU prog w) A.in1 (Se (RI (.ref I)) _ >>= _) _ _ s;refine ae (m:=Se (RI (.ref I)) _) (kZ (W.item (j+1) s _ _ lt0 hst λ v h' tk hP hst1 kp=>?_));have hS1:=kp S _ hSw hS;have kp1:∀b o,¬b∈wr->b≠S->h0.get? b=QJ o->h'.get? b=QJ o:=λ b o hbw hbS e=>kp b o hbw (kp0 b o hbw hbS e);obtain⟨a,its,rfl,aw,aS,at0,a63,ek⟩:=hk _ _ hP;show QS (QU prog w) A.in1 (Se (RX [.ref a] (call (.builtin "len") [.ref a])) _ >>= _) _ _ _;refine ae (kZ (fE (s1g (pE at0 λ o e=>kp1 a o aw aS e) a63 ?_)));rw[<- ek];show QS (QU prog w) A.in1 (Se (RX [.ref a,.int (kf (j+1)) _] (richCompare .Gt (.int (kf (j+1)) _) (.int (kf i) tb) >>= _)) _ >>= _) _ _ _;refine ae (kZ (fE (ae (CmpOf.ints_gt (prog:=prog) (w:=w) (A:=A.in1) (P:=λ i v=>∃t,v=.int (kf i) t) kf (λ i v h=>h) (j+1) i _ _ _ _ _ ⟨_,O⟩ ⟨tb,O⟩ ?_))));refine ae (fE (gI ?_));refine ae (s0x (ay ?_));by_cases hb':kf (j+1) > kf i
  .simp only[hb',decide_true,gN];refine ae (m:=Sf S _) (kS hS1 rfl (ae (s0x ?_)));rw[nm];refine ay (a:=_) ⟨gp jP _,ih (j+1) (j+1) _ (.ref a) _ _ ca lt0 (W.frame _ _ _ hst1 λ b hbf o e=>(fG _ _ (λ h:S=b=>hSf (by rw[h];exact hbf))).trans e) hP (ak _) (λ j' hj'=>?_) (λ b o hbw hbS e=>(fG _ _ (cL hbS)).trans (kp1 b o hbw hbS e)) (iV _ hS1 rfl) λ i2 v2 h2 tk2 q1 q2 q3 q4=>hR i2 v2 h2 tk2 q1 q2 q3 q4⟩;by_cases e:j'=j+1
   .subst e;exact⟨fO _,λ z=>m8 z (dY _)⟩
   .have:=(hb j' ca).1;exact⟨ca,λ _=>by lia⟩
  .simp only[hb',decide_false,nh,XJ];refine ae (m:=letGo _) (s0x ?_);rw[nm];refine ay (a:=_) ⟨gp jP _,ih (j+1) i _ vb tb c ca lt0 hst1 hPb ca (λ j' hj'=>?_) kp1 hS1 λ i2 v2 h2 tk2 q1 q2 q3 q4=>hR i2 v2 h2 tk2 q1 q2 q3 q4⟩;by_cases e:j'=j+1
   .subst e;exact⟨ca,λ z=>by lia⟩
   .exact hb j' ca
theorem Hw(W:Walks prog w A.in1 I fp wr n P St)(kf:Nat->Int)(S:QO)(hSf:¬S∈fp)(h0:Re)(hk:xv h0 S wr kf P)(hn:0<n){s:QP}(hst:St 0 s.heap)(kp0:∀b o,¬b∈wr->b≠S->h0.get? b=QJ o->s.heap.get? b=QJ o)(hS:s.heap.get? S=QJ ⟨.type "list",QM,.seq #[] c,#[]⟩)
  (hR:∀i v h' tk,P i v->i<n->sO kf n i->(∀b o,¬b∈wr->b≠S->h0.get? b=QJ o->h'.get? b=QJ o)->R (.ok (.ret v)) { s with heap:=h',toks:=tk }):RP (QU prog w) A (.builtin "max.loop" ⟨[.ref I,.builtin "len",.ref S],[]⟩) R s:=by
 have hSw:¬S∈wr:=λ h=>hSf (W.sub _ h);have nm:(SJ "max" ++ SJ ".loop" : String)="max.loop" := by decide
 refine iq sP ?_;rw[iu jP _];show QS (QU prog w) A.in1 (Sd (.ref S) >>= _) _ _ s;refine ae (m:=Sd (.ref S)) (jO hS rfl ?_);show QS (QU prog w) A.in1 (Se (RI (.ref I)) _ >>= _) _ _ s;refine ae (m:=Se (RI (.ref I)) _) (kZ (W.item 0 s _ _ hn hst λ v h' tk hP hst1 kp=>?_));have hS1:=kp S _ hSw hS;have kp1:∀b o,¬b∈wr->b≠S->h0.get? b=QJ o->h'.get? b=QJ o:=λ b o hbw hbS e=>kp b o hbw (kp0 b o hbw hbS e);obtain⟨a,its,rfl,aw,aS,at0,a63,ek⟩:=hk _ _ hP;show QS (QU prog w) A.in1 (Se (RX [.ref a] (call (.builtin "len") [.ref a])) _ >>= _) _ _ _;refine ae (kZ (fE (s1g (pE at0 λ o e=>kp1 a o aw aS e) a63 ?_)));rw[<- ek];show QS (QU prog w) A.in1 (Sf S (λ _=>#[.ref a,.int (kf 0) _]) >>= _) _ _ _;refine ae (m:=Sf S _) (kS hS1 rfl ?_);rw[nm];refine ay (a:=_) ⟨gp jP _,Hv W kf S hSf h0 hk _ 0 0 _ (.ref a) _ _ rfl hn (W.frame _ _ _ hst1 λ b hbf o e=>(fG _ _ (λ h:S=b=>hSf (by rw[h];exact hbf))).trans e) hP (ak _) (λ j' hj'=>?_) (λ b o hbw hbS e=>(fG _ _ (cL hbS)).trans (kp1 b o hbw hbS e)) (iV _ hS1 rfl) λ i2 v2 h2 tk2 q1 q2 q3 q4=>hR i2 v2 h2 tk2 q1 q2 q3 q4⟩;have z:j'=0:=ca;subst z;exact⟨fO _,λ z=>m8 z (dY _)⟩
end
section
variable {st:Ra}{Vz:List Ra}{t u:TS}{e:Expr}{es:List Expr}{te:TE}{ta:TA}{pos:Pos}
end
section
variable {prog:QX}{w:QY}{A:QZ}
def Hx(a b v:Value):Te "max" ⟨[a,b],[(Rh "key",v)]⟩:=by unfold Te;kernel_rfl
theorem Hy{s:QP}{i1 i2:Array Value}{Q:VS}(hh:A.handled=QM)(h1:s.heap.IsTuple a1 i1)(h2:s.heap.IsTuple a2 i2)(z1:(i1.size:Int)<2 ^ 63)(z2:(i2.size:Int)<2 ^ 63)
  (hQ:∀v h' tk,(v=.ref a1/\i2.size<=i1.size\/v=.ref a2/\i1.size<i2.size)->(∀b o,s.heap.get? b=QJ o->h'.get? b=QJ o)->Q v { s with heap:=h',toks:=tk }):QS (QU prog w) A (call (.builtin "max") [.ref a1,.ref a2] [(Rh "key",.builtin "len")]) Q E s:=by
 have nm:(SJ "max" ++ SJ ".loop" : String)="max.loop" := by decide
 have hT:(s.heap.push { cls:=.type "tuple",data:=.seq #[.ref a1,.ref a2] }).IsTuple s.heap.objs.size #[.ref a1,.ref a2]:=⟨_,bF _ rfl,rfl,0,rfl⟩;have hsz:(s.heap.push { cls:=.type "tuple",data:=.seq #[.ref a1,.ref a2] }).objs.size=s.heap.objs.size+1:=jL ..;refine kmb_tree PySem.F.kind_max PySem.F.plain_max PySem.F.entry_max (Hx _ _ _) ?_;show QS _ A.in1 (Builtin.Builtins.bindParams "max" ["key","default"] 0 ⟨[],[(Rh "key",.builtin "len")]⟩ >>= _) _ _ s;refine ae (fK (show Builtin.Builtins.bindParams "max" ["key","default"] 0 ⟨[],[(Rh "key",.builtin "len")]⟩=Rj [QJ (.builtin "len"),QM] from rfl) ?_);show QS _ A.in1 (Vo [.ref a1,.ref a2] >>= _) _ _ s;refine ae (dB ?_);refine ae (m:=Ut _) (pF hT ?_);refine ae (m:=TL _) (dB ?_);rw[nm];have W:=Walks.tuple (prog:=prog) (w:=w) (A:=A.in1) hh (s.heap.push { cls:=.type "tuple",data:=.seq #[.ref a1,.ref a2] }).objs.size s.heap.objs.size (by rw[hsz];exact bx (jM _)) #[.ref a1,.ref a2];have hI:((s.heap.push { cls:=.type "tuple",data:=.seq #[.ref a1,.ref a2] }).push { cls:=.type "tuple_iterator",data:=.fields #[.ref s.heap.objs.size,.int 0 0] }).objs.size=s.heap.objs.size+2:=by rw[jL,hsz]
 have e1:a1<s.heap.objs.size:=by obtain⟨o,g,_⟩:=h1;exact aP g
 have e2:a2<s.heap.objs.size:=by obtain⟨o,g,_⟩:=h2;exact aP g
 refine ay (a:=_) ⟨gp jP _,Hw W (λ i=>([(i1.size:Int),(i2.size:Int)].getD i 0)) ((s.heap.push { cls:=.type "tuple",data:=.seq #[.ref a1,.ref a2] }).push { cls:=.type "tuple_iterator",data:=.fields #[.ref s.heap.objs.size,.int 0 0] }).objs.size ?_ s.heap (λ i v hv=>?_) (pO _) ?_ (λ b o _ _ e=>aV _ (aV _ (aV _ e))) (bF _ rfl) λ i v h' tk q1 q2 q3 q4=>?_⟩
 .rw[hI,hsz];intro z
  rcases aH.mp z with z|z
  .exact m8 z (sK _)
  .exact m8 (aJ.mp z) (s1q (eR (jM _)))
 .have nw:∀a,a<s.heap.objs.size->¬a∈[(s.heap.push { cls:=.type "tuple",data:=.seq #[.ref a1,.ref a2] }).objs.size]:=λ a h z=>by
   have:=aJ.mp z;rw[hsz] at this;exact bx (eR h) this
  match i,hv with
  |0,hv=>cases hv;exact⟨a1,i1,rfl,nw _ e1,by rw[hI];exact bx (eR (eR e1)),h1,z1,rfl⟩
  |1,hv=>cases hv;exact⟨a2,i2,rfl,nw _ e2,by rw[hI];exact bx (eR (eR e2)),h2,z2,rfl⟩
  |i+2,hv=>simp at hv
 .exact W.frame _ _ _ ⟨⟨_,bF _ rfl,O,O⟩,hT.push _⟩ λ b _ o e=>aV _ e
 .have kp:∀b o,s.heap.get? b=QJ o->h'.get? b=QJ o:=λ b o e=>by
   have bl:=aP e;exact q4 b o (λ z=>by have:=aJ.mp z;rw[hsz] at this;exact bx (eR bl) this) (by rw[hI];exact bx (eR (eR bl))) e
  match i,q1 with
  |0,q1=>
   cases q1;have b:=(q3 1 (jM _)).1;have b:(i2.size:Int)<=(i1.size:Int):=b;exact hQ _ _ _ (.inl ⟨O,ca⟩) kp
  |1,q1=>
   cases q1;have b:=(q3 0 (pO _)).2 (pO _);have b:(i1.size:Int)<(i2.size:Int):=b;exact hQ _ _ _ (.inr ⟨O,ca⟩) kp
  |i+2,q1=>simp at q1
end
def Hz(r:V->V->Hp->VK->Prop)(te tf:TE):TE:=λ σ H Q=>te σ H λ x H1=>tf σ H1 λ y H2=>r x y H2 Q
section
variable {M:Model}{A:QZ}{E:VS}{s:QP}{B:Re}{env:Env}{outer:List Env}{L e dx:QO}{cls:Value}
end
end _L
namespace _L
open PySem PySem.Spec PyProof.Rows Builtin Builtin.ObjectAttr
section
variable {prog:QX}{w:QY}{A:QZ}{E:VS}{h:Re}{g:Array SD}{dr:Vc}{tk:Nat}{os:OsState}{C:QO}{bmB:LV}{B nid initId:String}
end
section
variable {prog:QX}{w:QY}{A:QZ}{E:VS}{h:Re}{g:Array SD}{dr:Vc}{tk:Nat}{os:OsState}{C x:QO}{bmB:LV}{B nid initId:String}{K:FG}
end
section
variable {P:QX}{w:QY}{K:FG}{mg:SV}{base:Re}{N:List Str}{qual:Str}{scope:Scope}{f:QO}{cd:Value}{A:QZ}{outer:List Env}{s:QP}{H:Hp}{E:XK}
end
section
variable {M:Model}{A:QZ}{E:VS}{env:Env}{C:QO}{bmB:LV}{nid:String}
end
end _L
namespace _L
open PySem PySem.Spec PyProof.Rows PySem.W
variable {X:Cx}
section
variable {o e value:Expr}{f:Str}{pos pos' tpos:Pos}{ta tv:TE}
end
section
variable {CX:WN}{k:Nat}{f C:QO}{fd:Rn}{ps:List Str}{sp:Sp}{dvs:List V}{ds:LV}{E:XK}{EE:St->XK}{x m:Str}{p pos apos:Pos}{e o:Expr}{es:List Expr}{ta:TE}{t:TA}
end
section
open PySem.Builtin PySem.Builtin.Str
end
section
variable {a b e:Expr}{es:List Expr}{ta tb te:TE}{t:TA}{u v:TS}{st:Ra}{Vz bl:List Ra}{pos p pos':Pos}{x:Str}
end
section
variable {k j:Nat}{ps:List Str}{sp:Sp}{E:XK}{x:Str}{p pos:Pos}{e:Expr}{es:List Expr}{t:TA}
end
end _L
namespace _L
open PySem PyProof.Rows
section
variable {a p q:QO}{b:Bool}{i j:Int}{x y:Str}{v:V}{vs:List V}{r:_L.St}{H:Hp}{Q:VK}{K:FG}{o:Option V}{n:Nat}{α β:Type}
end
variable {X:Cx}
section
variable {st:Ra}{Vz:List Ra}{t u:TS}{e a b:Expr}{es:List Expr}{te tb:TE}{ta:TA}{pos:Pos}
end
section
variable {CX:WN}{k:Nat}{f:QO}{fd:Rn}{ps:List Str}{sp:Sp}{E:XK}{x:Str}{p pos:Pos}{e:Expr}{es:List Expr}{te:TE}{t:TA}{st:Ra}{Vz:List Ra}{ts u:TS}
end
section
open PySem.W
end
end _L
namespace _L
open PySem PySem.Spec PyProof.Rows PySem.W PySem.Calls
theorem HA{X:Cx}{h₀:Tv}{hl:List Tv}(hb:∀(xe:VS) (pn:LO),PSs (X.more xe pn) body tb) :
  PS X (.Try body (h₀::hl) [] [] pos) tb:=by
 intro Vu s σ H D I h;refine wpAny_Try_except ?_;generalize (λ e s₁=>QS (QU X.prog X.w) X.A (UM e X.env) (λ _ s₂=>QS (QU X.prog X.w) X.A (setFlight e QM) (λ _ s₃=>QS (QU X.prog X.w) X.A (handleBy e X.env (h₀::hl)) (SP X Vu D) X.xe s₃) X.xe s₂) X.xe s₁:VS)=XE;have toY:Inv (X.more XE (X.pn++Vu)) [] σ H s:=⟨I.ok.more _ _,I.os,I.bare,I.base,I.loc,I.cell,I.free,I.freeC,λ p hp=>I.pin p (by simpa using hp),I.hok,I.len⟩;have ofY:∀ {σ':St}{H':Hp}{s':QP}{pp:LO},Inv (X.more XE (X.pn++Vu)) pp σ' H' s'->Inv X Vu σ' H' s':=λ J=>⟨I.ok,J.os,J.bare,J.base,J.loc,J.cell,J.free,J.freeC,λ p hp=>J.pin p (fZ _ hp),J.hok,J.len⟩;refine VD (hb XE (X.pn++Vu) [] s σ H D toY h) λ fl s' q=>?_
 cases fl with
 |next=>obtain⟨σ',H',J,z⟩:=q;exact oG ⟨σ',H',ofY J,z⟩
 |brk|cont=>obtain⟨σ',H',J,z⟩:=q;exact⟨σ',H',ofY J,z⟩
 |ret u=>obtain⟨v,σ',H',J,r,z⟩:=q;exact⟨v,σ',H',ofY J,r,z⟩
variable {X:Cx}
section
variable {pg:QX}{wd:QY}{B:QZ}{X0:VS}{s0:QP}{r:QO}{j:Int}{t u v:Tok}{n:Nat}
end
end _L
namespace _H
open PySem PyProof.Rows
section
open PySem.SeqAt
open PySem.AutoSeq1 (wpAny_loadPart')
open PySem.MeetsSeq PySem.MeetsSeq2 PySem.MeetsSeq3
end
section
variable {prog:QX}{w:QY}{A:QZ}{E:VS}{s:QP}
end
end _H
namespace _L
open PySem PySem.Spec PyProof.Rows
variable {X:Cx}
end _L
namespace _L
set_option backward.match.sparseCases false
open PySem PySem.Spec PyProof.Rows
def nl{a b:Nat}(h:a<b\/b<a):a≠b:=ca
section
variable {pg:QX}{wd:QY}{B:QZ}{X0:VS}{s0:QP}
end
def YF(K:FG)(b:Bool)(H:Hp)(a:QO)(vs:List V):Prop:=if b=QK then SqT K H a vs else SqL K H a vs
variable {X:Cx}
section
variable {Vu:LO}{σ:St}{H:Hp}{s:QP}
end
section
variable {es:List Expr}{x1:Nat}{pp:Pos}
end
set_option genInjectivity true in
set_option genSizeOfSpec true in
inductive SO where
 |dct (l:List (Int×Int))|fn (a:QO)|lls (as:List QO) (ll:List (LL))
set_option genInjectivity true in
set_option genSizeOfSpec true in
inductive TV where
 |non|bl (b:Bool)|int (i:Int)|str (x:Str)|tup (l:List TV)|lst (l:List TV)|bor (l:List TV)|own (l:List TV)|obj (o:SO)
open TV renaming int->m9,tup->n6,str->n9
abbrev dcO(l:List (Int×Int)):HO:=.dK (l.map λ q=>((SE q.1:Wb),V.int q.2))
abbrev Fz:=QO->Prop
def Ls(K:FG)(F:Fz)(H:Hp)(a:QO)(vs:List V):Prop:=(F a/\SqL K H a vs) \/
 ∃(o:Obj) (its:Array Value) (n:Nat),K.lookup a=QJ o/\o.cls=.type "list" /\ o.dict=QM/\o.data=.seq its n/\its.size<=QR/\Vals vs its.toList
def Ls.sq{K:FG}{vs:List V}(h:Ls K F H a vs):SqL K H a vs:=h.elim (λ h=>h.2) λ h=>.inr h
def Ls.imp{K:FG}{F F':Fz}{vs:List V}(h:Ls K F H a vs)(i:F a->SqL K H a vs->F' a/\SqL K H' a vs):Ls K F' H' a vs:=h.elim (λ h=>.inl (i h.1 h.2)) .inr
mutual
def Rp(K:FG)(F:Fz)(H:Hp):TV->V->Prop
 |.non,v=>v=.non
 |.bl b,v=>v=.bl b
 |.int i,v=>v=.int i
 |.str x,v=>v=.str x
 |.tup l,v=>∃a vs,v=.ref a/\SqT K H a vs/\RpL K F H l vs
 |.lst l,v=>∃a vs,v=.ref a/\Ls K F H a vs/\RpL K F H l vs
 |.bor _,_=>False
 |.own _,_=>False
 |.obj _,_=>False
def RpL(K:FG)(F:Fz)(H:Hp):List TV->List V->Prop
 |[],vs=>vs=[]
 |t::ts,vs=>∃v r,vs=v::r/\Rp K F H t v/\RpL K F H ts r
end
structure Wd (J:Hp->Prop)(F:Fz)(H:Hp):Prop where
 j:J H
 d:∀a,F a->H a≠QM
structure Grow (J:Hp->Prop)(F:Fz)(H:Hp)(F':Fz)(H':Hp):Prop where
 sm:∀a o,(∀ps,o≠.tbl ps)->H a=QJ o->H' a=QJ o
 dm:∀a,H a≠QM->H' a≠QM
 up:∀a,F a->F' a
 nw:∀a,F' a->F a\/H a=QM
 w:Wd J F' H'
section
variable {K:FG}{J:Hp->Prop}{F F' F1 F2:Fz}{H H' H1 H2:Hp}
def Grow.refl(w:Wd J F H):Grow J F H F H:=⟨λ _ _ _ e=>e,λ _ e=>e,λ _ e=>e,λ _ e=>.inl e,w⟩
def Grow.trans(g:Grow J F H F1 H1)(k:Grow J F1 H1 F2 H2):Grow J F H F2 H2 :=
 ⟨λ a o n e=>k.sm a o n (g.sm a o n e),λ a e=>k.dm a (g.dm a e),λ a e=>k.up a (g.up a e),λ a e=>by
  rcases k.nw a e with q|q
  .exact g.nw a q
  .by_cases z:H a=QM
   .exact .inr z
   .exact m8 q (g.dm a z),k.w⟩
def Rd.sm{a:QO}{u:HO}(s:∀a o,(∀ps,o≠.tbl ps)->H a=QJ o->H' a=QJ o)(n:∀ps,u≠.tbl ps)(h:Rd H a u):Rd H' a u:=by
 rcases h with h|⟨o,h⟩
 .exact .inl (s _ _ n h)
 .exact .inr ⟨o,s _ _ (λ ps z=>by cases z) h⟩
def SqT.sm{a:QO}{vs:List V}(s:∀a o,(∀ps,o≠.tbl ps)->H a=QJ o->H' a=QJ o)(h:SqT K H a vs):SqT K H' a vs:=by
 rcases h with h|h
 .exact .inl (h.sm s λ ps z=>by cases z)
 .exact .inr h
def SqL.sm{a:QO}{vs:List V}(s:∀a o,(∀ps,o≠.tbl ps)->H a=QJ o->H' a=QJ o)(h:SqL K H a vs):SqL K H' a vs:=by
 rcases h with h|h
 .exact .inl (h.sm s λ ps z=>by cases z)
 .exact .inr h
structure Ke (K:FG)(F:Fz)(H:Hp)(F':Fz)(H':Hp):Prop where
 t:∀a vs,SqT K H a vs->SqT K H' a vs
 l:∀a vs,Ls K F H a vs->Ls K F' H' a vs
mutual
theorem Rp.ke(k:Ke K F H F' H'):∀ {t:TV}{v:V},Rp K F H t v->Rp K F' H' t v
 |.non,_,h=>h
 |.bl _,_,h=>h
 |.int _,_,h=>h
 |.str _,_,h=>h
 |.tup _,_,⟨a,vs,e,q,r⟩=>⟨a,vs,e,k.t _ _ q,RpL.ke k r⟩
 |.lst _,_,⟨a,vs,e,f,r⟩=>⟨a,vs,e,k.l _ _ f,RpL.ke k r⟩
 |.bor _,_,h=>h.elim
 |.own _,_,h=>h.elim
 |.obj _,_,h=>h.elim
theorem RpL.ke(k:Ke K F H F' H'):∀ {ts:List TV}{vs:List V},RpL K F H ts vs->RpL K F' H' ts vs
 |[],_,h=>h
 |_::_,_,⟨v,r,e,h1,h2⟩=>⟨v,r,e,Rp.ke k h1,RpL.ke k h2⟩
end
def Grow.ke(g:Grow J F H F' H'):Ke K F H F' H':=⟨λ _ _ h=>h.sm g.sm,λ a _ h=>h.imp λ f h=>⟨g.up a f,h.sm g.sm⟩⟩
def Ke.up(h:∀a,F a->F' a):Ke K F H F' H:=⟨λ _ _ h=>h,λ a _ q=>q.imp λ f q=>⟨h a f,q⟩⟩
def Rr(K:FG)(H:Hp)(F':Fz)(H':Hp):TV->V->Prop
 |.own l,v=>∃a vs,v=.ref a/\H a=QM/\¬F' a/\H' a=QJ (.lst vs)/\RpL K F' H' l vs
 |.bor l,v=>∃a vs,v=.ref a/\¬F' a/\H' a=QJ (.lst vs)/\RpL K F' H' l vs
 |t,v=>Rp K F' H' t v
def Rr.of(h:Rp K F' H' t v):Rr K H F' H' t v:=by
 cases t<;>first|exact h|exact h.elim
def Rr.grow(g:Grow J F1 H1 F2 H2)(h:Rr K H F1 H1 t v):Rr K H F2 H2 t v:=by
 have nf:∀ {a vs},¬F1 a->H1 a=QJ (.lst vs)->¬F2 a:=λ n e z=>by
  rcases g.nw _ z with q|q
  .exact n q
  .rw[q] at e;cases e
 cases t with
 |own l=>obtain⟨a,vs,e,n,f,q,r⟩:=h;exact⟨a,vs,e,n,nf f q,g.sm _ _ (λ ps z=>by cases z) q,r.ke g.ke⟩
 |bor l=>obtain⟨a,vs,e,f,q,r⟩:=h;exact⟨a,vs,e,nf f q,g.sm _ _ (λ ps z=>by cases z) q,r.ke g.ke⟩
 |_=>exact Rp.ke g.ke h
def Rr.late(g:Grow J F H F1 H1)(h:Rr K H1 F2 H2 t v):Rr K H F2 H2 t v:=by
 cases t with
 |own l=>
  obtain⟨a,vs,e,n,f,q,r⟩:=h;refine⟨a,vs,e,?_,f,q,r⟩;by_cases z:H a=QM
  .exact z
  .exact m8 n (g.dm a z)
 |_=>exact h
abbrev RrL(K:FG)(H:Hp)(F':Fz)(H':Hp):List TV->List V->Prop:=RV (Rr K H F' H')
def RrL.grow{vs:List V}(g:Grow J F1 H1 F2 H2)(h:RrL K H F1 H1 ts vs):RrL K H F2 H2 ts vs:=Paired.mapP h λ _ _ r=>r.grow g
theorem RpL.length:∀ {ts:List TV}{vs:List V},RpL K F H ts vs->ts.length=vs.length
 |[],_,h=>by cases h;rfl
 |_::_,_,⟨_,_,e,_,h⟩=>by rw[e,Rs,Rs,RpL.length h]
theorem RpL.get:∀ {ts:List TV}{vs:List V}{i:Nat}{t:TV},RpL K F H ts vs->ts[i]?=QJ t->∃v,vs[i]?=QJ v/\Rp K F H t v
 |[],_,_,_,_,e=>by simp at e
 |_::_,_,0,_,⟨v,r,e,h1,_⟩,q=>by cases q;exact⟨v,by rw[e];rfl,h1⟩
 |_::_,_,i+1,_,⟨v,r,e,_,h2⟩,q=>by
  obtain⟨w,e1,h⟩:=RpL.get (i:=i) h2 q;exact⟨w,by rw[e];exact e1,h⟩
theorem RpL.append:∀ {ts us:List TV}{vs ws:List V},RpL K F H ts vs->RpL K F H us ws->RpL K F H (ts++us) (vs++ws)
 |[],_,_,_,h,g=>by cases h;exact g
 |_::_,_,_,_,⟨v,r,e,h1,h2⟩,g=>by subst e;exact⟨v,_,rfl,h1,RpL.append h2 g⟩
theorem RpL.take:∀ {ts:List TV}{vs:List V}(n:Nat),RpL K F H ts vs->RpL K F H (ts.take n) (vs.take n)
 |_,_,0,_=>rfl
 |[],_,_+1,h=>by cases h;rfl
 |_::_,_,n+1,⟨v,r,e,h1,h2⟩=>by subst e;exact⟨v,_,rfl,h1,RpL.take n h2⟩
theorem RpL.drop:∀ {ts:List TV}{vs:List V}(n:Nat),RpL K F H ts vs->RpL K F H (ts.drop n) (vs.drop n)
 |_,_,0,h=>h
 |[],_,_+1,h=>by cases h;rfl
 |_::_,_,n+1,⟨v,r,e,h1,h2⟩=>by subst e;exact RpL.drop n h2
theorem RpL.set(h:Rp K F H t v):∀ {ts:List TV}{vs:List V}(i:Nat),RpL K F H ts vs->RpL K F H (ts.set i t) (vs.set i v)
 |[],_,_,q=>by cases q;rfl
 |_::_,_,0,⟨w,r,e,_,h2⟩=>by subst e;exact⟨v,r,rfl,h,h2⟩
 |_::_,_,i+1,⟨w,r,e,h1,h2⟩=>by subst e;exact⟨w,_,rfl,h1,RpL.set h i h2⟩
def RpL.reverse{vs:List V}(h:RpL K F H ts vs):RpL K F H ts.reverse vs.reverse:=by
 induction ts generalizing vs with
 |nil=>cases h;rfl
 |cons t r ih=>
  obtain⟨v,q,e,h1,h2⟩:=h;subst e;rw[oZ,oZ];exact(ih h2).append ⟨v,[],O,h1,O⟩
theorem RpL.ints:∀ {ns:LI}{vs:List V},RpL K F H (ns.map m9) vs->vs=ns.map V.int
 |[],_,h=>h
 |_::_,_,⟨v,r,e,h1,h2⟩=>by rw[e,RpL.ints h2,show v=_ from h1];rfl
theorem RpL.ofInts:∀(ns:LI),RpL K F H (ns.map m9) (ns.map V.int)
 |[]=>rfl
 |_::r=>⟨_,_,rfl,rfl,RpL.ofInts r⟩
theorem RpL.bls:∀ {ns:List Bool}{vs:List V},RpL K F H (ns.map TV.bl) vs->vs=ns.map V.bl
 |[],_,h=>h
 |_::_,_,⟨v,r,e,h1,h2⟩=>by rw[e,RpL.bls h2,show v=_ from h1];rfl
noncomputable def TV.items:TV->Option (Bool×List TV)
 |.tup l=>QJ (QK,l)
 |.lst l=>QJ (QL,l)
 |.bor l=>QJ (QL,l)
 |.own l=>QJ (QL,l)
 |_=>QM
def Rr.sq{b:Bool}{l:List TV}(h:Rr K H F' H' t v)(e:t.items=QJ (b,l)):∃a vs,v=.ref a/\RpL K F' H' l vs/\((b=QK/\SqT K H' a vs)\/(b=QL/\SqL K H' a vs)):=by
 cases t<;>cases e
 .obtain⟨a,vs,e,q,r⟩:=h;exact⟨a,vs,e,r,.inl ⟨rfl,q⟩⟩
 .obtain⟨a,vs,e,q,r⟩:=h;exact⟨a,vs,e,r,.inr ⟨rfl,q.sq⟩⟩
 .obtain⟨a,vs,e,_,q,r⟩:=h;exact⟨a,vs,e,r,.inr ⟨rfl,.of q⟩⟩
 .obtain⟨a,vs,e,_,_,q,r⟩:=h;exact⟨a,vs,e,r,.inr ⟨rfl,.of q⟩⟩
structure JS (J:Hp->Prop):Prop where
 nw:∀(H:Hp) (p:QO) (o:HO),H p=QM->J H->J (VA H p o)
 mu:∀(H:Hp) (p:QO) (vs ws:List V),H p=QJ (.lst vs)->J H->J (VA H p (.lst ws))
def Grow.new(hJ:JS J)(w:Wd J F H)(o:HO)(h:H p=QM):Grow J F H F (VA H p o):=by
 have k:∀a x,H a=QJ x->VA H p o a=QJ x:=λ a x e=>by rw[aG (λ z=>by rw[z,h] at e;cases e)];exact e
 have d:∀a,H a≠QM->VA H p o a≠QM:=λ a e z=>by
  cases q:H a with
  |none=>exact e q
  |some x=>rw[k a x q] at z;cases z
 exact⟨λ a x _ e=>k a x e,d,λ _ e=>e,λ _ e=>.inl e,hJ.nw H p o h w.j,λ a f=>d a (w.d a f)⟩
def Grow.frz(g:Grow J F H F1 H1)(n:H a=QM)(e:H1 a≠QM):Grow J F H (λ b=>F1 b\/b=a) H1 :=
 ⟨g.sm,g.dm,λ b f=>.inl (g.up b f),λ b f=>by
  rcases f with f|rfl
  .exact g.nw b f
  .exact .inr n,g.w.j,λ b f=>by
  rcases f with f|rfl
  .exact g.w.d b f
  .exact e⟩
noncomputable def TV.fz:TV->TV
 |.own l=>.lst l
 |.bor l=>.lst l
 |t=>t
noncomputable def TV.nb:TV->Bool
 |.bor _=>QL
 |_=>QK
def Rr.frz(g:Grow J F H F1 H1)(h:Rr K H F1 H1 t v)(n:t.nb=QK):∃F2,Grow J F H F2 H1/\(∀a,F1 a->F2 a)/\(∀a,F2 a->F1 a\/v=.ref a)/\Rp K F2 H1 t.fz v:=by
 cases t with
 |own l=>
  obtain⟨a,vs,e,n,f,q,r⟩:=h;refine⟨λ b=>F1 b\/b=a,g.frz n (by rw[q];simp),λ _ f=>.inl f,λ b f=>?_,a,vs,e,.inl ⟨.inr rfl,.of q⟩,r.ke (.up λ _ f=>.inl f)⟩
  rcases f with f|rfl
  .exact .inl f
  .exact .inr e
 |bor l=>cases n
 |_=>exact⟨F1,g,λ _ f=>f,λ _ f=>.inl f,h⟩
end
mutual
def eqT:TV->TV->Bool
 |.non,.non=>QK
 |.bl a,.bl b=>a == b
 |.bl a,.int b=>(if a then 1 else 0) == b
 |.int a,.bl b=>a == (if b then 1 else 0)
 |.int a,.int b=>decide (a=b)
 |.str a,.str b=>decide (a=b)
 |.tup l,.tup m=>eqTL l m
 |.lst l,.lst m=>eqTL l m
 |_,_=>QL
def eqTL:List TV->List TV->Bool
 |[],[]=>QK
 |x::xs,y::ys=>eqT x y&&eqTL xs ys
 |_,_=>QL
end
def pP(l m:List TV):eqT (.lst l) (.lst m)=eqTL l m:=rfl
def xw(l m:List TV):eqT (.tup l) (.tup m)=eqTL l m:=rfl
def eqTL_c(x y:TV)(xs ys:List TV):eqTL (x::xs) (y::ys)=(eqT x y&&eqTL xs ys):=rfl
def dp:Nat->TV->Prop
 |_,.non=>True|_,.bl _=>True|_,.int _=>True|_,.str _=>True
 |n+1,.tup l=>∀x∈l,dp n x
 |n+1,.lst l=>∀x∈l,dp n x
 |_,_=>False
theorem lg:∀ {l m:List TV},l.length≠m.length->eqTL l m=QL
 |[],[],h=>m8 rfl h
 |[],_::_,_=>rfl
 |_::_,[],_=>rfl
 |x::xs,y::ys,h=>by rw[eqTL_c,lg (l:=xs) (m:=ys) (λ z=>h (by rw[Rs,Rs,z])),lh]
theorem lj:∀ {l m:List TV},l.length=m.length->(QW l.length).all (λ j=>eqT (l.getD j .non) (m.getD j .non))=eqTL l m
 |[],[],_=>rfl
 |x::xs,y::ys,h=>by
  rw[Rs,List.range_succ_eq_map,dh,Vh];show(eqT x y&&(QW xs.length).all λ j=>eqT (xs.getD j .non) (ys.getD j .non))=eqTL (x::xs) (y::ys);rw[lj (l:=xs) (m:=ys) (by simpa using h),eqTL_c]
mutual
theorem HB:∀ {t:TV}{n:Nat},dp n t->eqT t t=QK
 |.non,_,_=>rfl
 |.bl b,_,_=>kU b
 |.int _,_,_=>bJ rfl
 |.str _,_,_=>bJ rfl
 |.tup l,0,h=>h.elim
 |.tup l,n+1,h=>eqTL_self (l:=l) (n:=n) h
 |.lst l,0,h=>h.elim
 |.lst l,n+1,h=>eqTL_self (l:=l) (n:=n) h
 |.bor _,0,h=>h.elim
 |.bor _,_+1,h=>h.elim
 |.own _,0,h=>h.elim
 |.own _,_+1,h=>h.elim
 |.obj _,0,h=>h.elim
 |.obj _,_+1,h=>h.elim
theorem eqTL_self:∀ {l:List TV}{n:Nat},(∀x∈l,dp n x)->eqTL l l=QK
 |[],_,_=>rfl
 |x::xs,n,h=>by rw[eqTL_c,HB (h x pv),eqTL_self λ y hy=>h y (by simp[hy])];rfl
end
def RelV.uniq(h:RelV x u)(g:RelV y u):x=y:=by
 cases x<;>cases y<;>first
  |(cases h;cases g;rfl)
  |(obtain⟨_,rfl⟩:=h;obtain⟨_,e⟩:=g;cases e;rfl)
  |(cases h;cases g;done)
  |(cases h;obtain⟨_,e⟩:=g;cases e;done)
  |(obtain⟨_,rfl⟩:=h;cases g;done)
  |(obtain⟨_,rfl⟩:=h;obtain⟨_,e⟩:=g;cases e;done)
theorem Vals.uniq:∀ {xs ys:List V}{us:LV},Vals xs us->Vals ys us->xs=ys
 |_,_,_,.nil,.nil=>rfl
 |_,_,_,.cons r t,.cons r' t'=>by rw[r.uniq r',Vals.uniq t t']
section
variable {Vu:LO}{σ:St}{H:Hp}{s:QP}{F:Fz}
def Inv.tup_uniq(I:Inv X Vu σ H s)(h:SqT X.K H a xs)(g:SqT X.K H a ys):xs=ys:=by
 obtain⟨us,r1,p1,_⟩:=I.tuple h;obtain⟨ws,r2,p2,_⟩:=I.tuple g;obtain⟨o,e,_,n,d⟩:=p1;obtain⟨o',e',_,n',d'⟩:=p2;rw[e] at e';cases e';rw[d] at d';have:us.toArray=ws.toArray:=by injection d'
 have:us=ws:=by simpa using bO Tc this
 subst this;exact r1.uniq r2
def Inv.lst_uniq(I:Inv X Vu σ H s)(h:SqL X.K H a xs)(g:SqL X.K H a ys):xs=ys:=by
 obtain⟨us,r1,p1,_⟩:=I.list h;obtain⟨ws,r2,p2,_⟩:=I.list g;obtain⟨o,n,e,_,_,d⟩:=p1;obtain⟨o',n',e',_,_,d'⟩:=p2;rw[e] at e';cases e';rw[d] at d';have:us.toArray=ws.toArray:=by injection d'
 have:us=ws:=by simpa using bO Tc this
 subst this;exact r1.uniq r2
def Inv.tl(I:Inv X Vu σ H s)(h:SqT X.K H a xs)(g:SqL X.K H a ys):False:=by
 obtain⟨us,r1,p1,_⟩:=I.tuple h;obtain⟨ws,r2,p2,_⟩:=I.list g;obtain⟨o,e,c,_⟩:=p1;obtain⟨o',n',e',c',_⟩:=p2;rw[e] at e';cases e';rw[c] at c';simp at c'
mutual
theorem Inv.rp_uniq(I:Inv X Vu σ H s):∀ {t u:TV}{v:V},Rp X.K F H t v->Rp X.K F H u v->t=u
 |.non,u,v,h,g=>by cases h;cases u<;>first|rfl|(cases g;done)|(obtain⟨_,_,e,_⟩:=g;cases e)|exact g.elim
 |.bl _,u,v,h,g=>by cases h;cases u<;>first|(cases g;rfl)|(cases g;done)|(obtain⟨_,_,e,_⟩:=g;cases e)|exact g.elim
 |.int _,u,v,h,g=>by cases h;cases u<;>first|(cases g;rfl)|(cases g;done)|(obtain⟨_,_,e,_⟩:=g;cases e)|exact g.elim
 |.str _,u,v,h,g=>by cases h;cases u<;>first|(cases g;rfl)|(cases g;done)|(obtain⟨_,_,e,_⟩:=g;cases e)|exact g.elim
 |.tup l,u,v,⟨a,vs,e,q,r⟩,g=>by
  subst e
  cases u with
  |tup m=>
   obtain⟨b,ws,e,q',r'⟩:=g;cases e;have:=I.tup_uniq q q';subst this;rw[Inv.rpl_uniq I r r']
  |lst m=>obtain⟨b,ws,e,q',r'⟩:=g;cases e;exact(I.tl q q'.sq).elim
  |_=>first|exact g.elim|cases g
 |.lst l,u,v,⟨a,vs,e,q,r⟩,g=>by
  subst e
  cases u with
  |lst m=>
   obtain⟨b,ws,e,q',r'⟩:=g;cases e;have:=I.lst_uniq q.sq q'.sq;subst this;rw[Inv.rpl_uniq I r r']
  |tup m=>obtain⟨b,ws,e,q',r'⟩:=g;cases e;exact(I.tl q' q.sq).elim
  |_=>first|exact g.elim|cases g
 |.bor _,_,_,h,_=>h.elim
 |.own _,_,_,h,_=>h.elim
 |.obj _,_,_,h,_=>h.elim
theorem Inv.rpl_uniq(I:Inv X Vu σ H s):∀ {ts us:List TV}{vs:List V},RpL X.K F H ts vs->RpL X.K F H us vs->ts=us
 |[],us,_,h,g=>by
  cases h
  cases us with
  |nil=>rfl
  |cons t r=>obtain⟨_,_,e,_⟩:=g;cases e
 |t::ts,us,_,⟨v,r,e,h1,h2⟩,g=>by
  subst e
  cases us with
  |nil=>cases g
  |cons u us=>obtain⟨_,_,e,g1,g2⟩:=g;cases e;rw[Inv.rp_uniq I h1 g1,Inv.rpl_uniq I h2 g2]
end
def ja{K:FG}{vs:List V}(r:RpL K F H l vs)(q:Vals vs us){j:Nat}(h:j<us.toArray.size):∃z,Rp K F H (l.getD j .non) z/\RelV z us.toArray[j]/\l.getD j .non∈l:=by
 obtain⟨z,e,rz⟩:=GY q h;have k:j<l.length:=by rw[r.length,q.length];simpa using h
 obtain⟨v,e',rv⟩:=r.get (aL k);rw[e] at e';cases e';have ee:l.getD j .non=l[j]:=by simp[aA,aL k]
 rw[ee];exact⟨z,rv,rz,lw k⟩
def xx(I:Inv X Vu σ H s){n:Nat}(ih:∀m,n=m+1->∀(A:QZ) (t u:TV) (x y:V) (v w:Value),A.units+m<RR->dp m t->Rp X.K F H t x->Rp X.K F H u y->RelV x v->RelV y w->Sh A s v w (eqT t u))(A:QZ)(t u:TV)(x y:V)(v w:Value)(hu:A.units+n<RR)(d:dp n t)(h:Rp X.K F H t x)(g:Rp X.K F H u y)(rx:RelV x v)(ry:RelV y w):Sh A s v w (eqT t u):=by
 have hu0:A.units<RR:=ca;have tupI:∀ {a vs},SqT X.K H a vs->∃us:LV,Vals vs us/\s.heap.IsTuple a us.toArray:=λ q=>by obtain⟨us,r,p,_⟩:=I.tuple q;exact⟨us,r,p⟩
 have lstI:∀ {a vs},SqL X.K H a vs->∃us:LV,Vals vs us/\s.heap.IsList a us.toArray:=λ q=>by obtain⟨us,r,p,_⟩:=I.list q;exact⟨us,r,p.isList⟩
 cases t with
 |bor l|own l|obj l=>exact h.elim
 |tup l=>
  obtain⟨a,vs,rfl,q,r⟩:=h;cases rx;obtain⟨us,r1,p1⟩:=tupI q
  cases u with
  |bor l|own l|obj l=>exact g.elim
  |non=>cases g;cases ry;exact SeqAt.EqAt.tuple_none p1 hu0
  |bl b=>cases g;cases ry;exact SeqAt.EqAt.tuple_bool b p1 hu0
  |int b=>cases g;obtain⟨tk,rfl⟩:=ry;exact SeqAt.EqAt.tuple_int b tk p1 hu0
  |str b=>cases g;obtain⟨tk,rfl⟩:=ry;exact SeqAt.EqAt.tuple_str b tk p1 hu0
  |lst m=>
   obtain⟨b,ws,rfl,q',r'⟩:=g;cases ry;obtain⟨us2,r2,p2⟩:=lstI q'.sq;exact SeqAt.EqAt.tuple_list p1 p2 hu0
  |tup m=>
   obtain⟨b,ws,rfl,q',r'⟩:=g;cases ry;obtain⟨us2,r2,p2⟩:=tupI q'
   cases n with
   |zero=>exact RA d
   |succ n=>
    have d':∀x∈l,dp n x:=d;by_cases ab:a=b
    .subst ab;have:=I.tup_uniq q q';subst this;have:=I.rpl_uniq r r';subst this;rw[xw,eqTL_self d'];exact sg _
    .refine s1m ab ?_
     have z:=SeqAt.RcAt.tuples (A:=A) p1 p2 (e:=λ j=>eqT (l.getD j .non) (m.getD j .non)) hu0 (λ j k1 k2=>by
      obtain⟨z1,h1,r1',m1⟩:=ja r r1 k1;obtain⟨z2,h2,r2',_⟩:=ja r' r2 k2
      exact ih n rfl A.in1 _ _ z1 z2 _ _ (by show A.units+1+n<RR;lia) (d' _ m1) h1 h2 r1' r2')
     have e1:us.toArray.size=l.length:=by simp[r.length,r1.length]
     have e2:us2.toArray.size=m.length:=by simp[r'.length,r2.length]
     rw[e1,e2] at z;rw[xw];by_cases c:l.length=m.length
     .rw[<- c,Nat.min_self,lj c] at z;simpa using z
     .rw[lg c];have c':(l.length == m.length)=QL:=by simpa using c
      rw[c',lh] at z;exact z
 |lst l=>
  obtain⟨a,vs,rfl,q,r⟩:=h;cases rx;obtain⟨us,r1,p1⟩:=lstI q.sq
  cases u with
  |bor l|own l|obj l=>exact g.elim
  |non=>cases g;cases ry;exact SeqAt.EqAt.list_none p1 hu0
  |bl b=>cases g;cases ry;exact SeqAt.EqAt.list_bool b p1 hu0
  |int b=>cases g;obtain⟨tk,rfl⟩:=ry;exact SeqAt.EqAt.list_int b tk p1 hu0
  |str b=>cases g;obtain⟨tk,rfl⟩:=ry;exact SeqAt.EqAt.list_str b tk p1 hu0
  |tup m=>
   obtain⟨b,ws,rfl,q',r'⟩:=g;cases ry;obtain⟨us2,r2,p2⟩:=tupI q';exact SeqAt.EqAt.list_tuple p1 p2 hu0
  |lst m=>
   obtain⟨b,ws,rfl,q',r'⟩:=g;cases ry;obtain⟨us2,r2,p2⟩:=lstI q'.sq
   cases n with
   |zero=>exact RA d
   |succ n=>
    have d':∀x∈l,dp n x:=d;have e1:us.toArray.size=l.length:=by simp[r.length,r1.length]
    have e2:us2.toArray.size=m.length:=by simp[r'.length,r2.length]
    by_cases ab:a=b
    .subst ab;have:=I.lst_uniq q.sq q'.sq;subst this;have:=I.rpl_uniq r r';subst this;rw[pP,eqTL_self d'];exact sg _
    .refine s1m ab ?_;rw[pP];by_cases c:l.length=m.length
     .have z:=SeqAt.RcAt.lists (A:=A) p1 p2 (e:=λ j=>eqT (l.getD j .non) (m.getD j .non)) (by rw[e1,e2,c]) hu0 (λ j k1 k2=>by
       obtain⟨z1,h1,r1',m1⟩:=ja r r1 k1;obtain⟨z2,h2,r2',_⟩:=ja r' r2 k2
       exact ih n rfl A.in1 _ _ z1 z2 _ _ (by show A.units+1+n<RR;lia) (d' _ m1) h1 h2 r1' r2')
      rwa [e1,lj c] at z
     .rw[lg c];exact SeqAt.RcAt.lists_lengths p1 p2 (by rw[e1,e2];simpa using c) hu0
 |non=>
  cases h
  cases u with
  |bor l|own l|obj l=>exact g.elim
  |tup m=>obtain⟨b,ws,rfl,q',_⟩:=g;cases ry;obtain⟨us2,r2,p2⟩:=tupI q';cases rx;exact SeqAt.EqAt.none_tuple p2 hu0
  |lst m=>obtain⟨b,ws,rfl,q',_⟩:=g;cases ry;obtain⟨us2,r2,p2⟩:=lstI q'.sq;cases rx;exact SeqAt.EqAt.none_list p2 hu0
  |_=>cases g;exact mN rx ry rfl rfl
 |bl k=>
  cases h
  cases u with
  |bor l|own l|obj l=>exact g.elim
  |tup m=>obtain⟨b,ws,rfl,q',_⟩:=g;cases ry;obtain⟨us2,r2,p2⟩:=tupI q';cases rx;exact SeqAt.EqAt.bool_tuple k p2 hu0
  |lst m=>obtain⟨b,ws,rfl,q',_⟩:=g;cases ry;obtain⟨us2,r2,p2⟩:=lstI q'.sq;cases rx;exact SeqAt.EqAt.bool_list k p2 hu0
  |_=>cases g;exact mN rx ry rfl rfl
 |int k=>
  cases h
  cases u with
  |bor l|own l|obj l=>exact g.elim
  |tup m=>obtain⟨b,ws,rfl,q',_⟩:=g;cases ry;obtain⟨us2,r2,p2⟩:=tupI q';obtain⟨tk,rfl⟩:=rx;exact SeqAt.EqAt.int_tuple k tk p2 hu0
  |lst m=>obtain⟨b,ws,rfl,q',_⟩:=g;cases ry;obtain⟨us2,r2,p2⟩:=lstI q'.sq;obtain⟨tk,rfl⟩:=rx;exact SeqAt.EqAt.int_list k tk p2 hu0
  |_=>cases g;exact mN rx ry rfl rfl
 |str k=>
  cases h
  cases u with
  |bor l|own l|obj l=>exact g.elim
  |tup m=>obtain⟨b,ws,rfl,q',_⟩:=g;cases ry;obtain⟨us2,r2,p2⟩:=tupI q';obtain⟨tk,rfl⟩:=rx;exact SeqAt.EqAt.str_tuple k tk p2 hu0
  |lst m=>obtain⟨b,ws,rfl,q',_⟩:=g;cases ry;obtain⟨us2,r2,p2⟩:=lstI q'.sq;obtain⟨tk,rfl⟩:=rx;exact SeqAt.EqAt.str_list k tk p2 hu0
  |_=>cases g;exact mN rx ry rfl rfl
def xy(I:Inv X Vu σ H s)(n:Nat):∀(A:QZ) (t u:TV) (x y:V) (v w:Value),A.units+n<RR->dp n t->Rp X.K F H t x->Rp X.K F H u y->RelV x v->RelV y w->Sh A s v w (eqT t u):=by
 induction n with
 |zero=>exact xx I λ m e=>nomatch e
 |succ n ih=>exact xx I λ m e=>by cases e;exact ih
end
inductive BI where
 |len|tuple|list|sum|max|min|abs|int|str|sorted|any|all|isI|isB|isT|isL|isS|maxlen|trev (b:Bool)|lrange (k:Bool)
inductive IK where
 |seq|rng|rng2|rng3|zip (a b:Bool)|zip3|enum (a:Bool)|rev (a:Bool)|str
inductive Cd where
 |v (i:Nat)|c (t:TV)|g (k:Nat)
 |bin (o:Tu) (a b:Cd)|neg (a:Cd)|not (a:Cd)|cmp (o:SK) (a b:Cd)|cm2 (o o':SK) (a b c:Cd)
 |and (a b:Cd)|or (a b:Cd)|ite (c a b:Cd)
 |nil|cons (a r:Cd)|tup (l:Cd)|lst (l:Cd)|ix (a b:Cd)|sl (a lo hi:Cd)
 |call (f:Nat) (l:Cd)|bi (f:BI) (l:Cd)|mxl (a b:Cd)|trev (k:Bool) (a:Cd)|lrng (k:Bool) (a:Cd)|dk (k:Nat) (a:Cd)|ap (i f:Nat) (l:Cd)|cf (i f:Nat) (x:Str) (a:Cd)
 |comp (own:List Str) (fv:List Str) (js:List Nat) (tg:List Nat) (k:IK) (it:Cd) (e:Cd)|compI (own:List Str) (fv:List Str) (js:List Nat) (tg:List Nat) (k:IK) (it:Cd) (c e:Cd)
abbrev Vv:=List TV->(TV->Prop)->Prop
abbrev En:=List (Option TV)
def i2(t u:TV)(P:Int->Int->Prop):Prop:=match t,u with|.int i,.int j=>P i j|_,_=>False
def i1(t:TV)(P:Int->Prop):Prop:=match t with|.int i=>P i|_=>False
def b1(t:TV)(P:Bool->Prop):Prop:=match t with|.bl i=>P i|_=>False
def l1(t:TV)(P:List TV->Prop):Prop:=match t with|.lst l=>P l|.bor l=>P l|.own l=>P l|_=>False
def s1(t:TV)(P:List TV->Prop):Prop:=match t with|.lst l=>P l|.bor l=>P l|.own l=>P l|.tup l=>P l|_=>False
noncomputable def aU(i j:Int):Int:=if 0<j then i%j else i.fmod j
noncomputable def be(i j:Int):Int:=if 0<j then i/j else i.fdiv j
def sQ(t u:TV)(K:TV->Prop):Prop:=match t,u with
 |.int i,.int j=>K (.int (i+j))
 |.tup l,.tup m=>l.length+m.length<=QR/\K (.tup (l++m))
 |t,u=>l1 t λ l=>l1 u λ m=>l.length+m.length<=QR/\K (.own (l++m))
def sR(t u:TV)(K:TV->Prop):Prop:=match t,u with
 |.int i,.int j=>Tq i j/\K (.int (i*j))
 |.tup l,.int k=>l≠[]/\(0<=k/\k<2 ^ 63)/\l.length*k.toNat<=QR/\K (.tup (QT k.toNat l).flatten)
 |t,.int k=>(match t with|.own l=>(0<=k/\k<2 ^ 63)/\l.length*k.toNat<=QR/\K (.own (QT k.toNat l).flatten)|_=>False)
 |_,_=>False
def YG:Tu->TV->TV->(TV->Prop)->Prop
 |.Add,t,u,K=>sQ t u K
 |.Sub,t,u,K=>i2 t u λ i j=>K (.int (i-j))
 |.Mult,t,u,K=>sR t u K
 |.FloorDiv,t,u,K=>i2 t u λ i j=>(j≠0/\-18446744073709551616<j/\j<1606938044258990275541962092341162602522202993782792835301376)/\K (.int (be i j))
 |.Mod,t,u,K=>i2 t u λ i j=>j≠0/\K (.int (aU i j))
 |.Pow,t,u,K=>i2 t u λ i j=>mG i j/\K (.int (i ^ j.toNat))
 |.RShift,t,u,K=>i2 t u λ i j=>0<=j/\K (.int (i/2 ^ j.toNat))
 |.BitAnd,t,u,K=>i2 t u λ i j=>K (.int (Builtin.bitAnd i j))
 |.BitOr,t,u,K=>i2 t u λ i j=>K (.int (Builtin.bitOr i j))
 |.BitXor,t,u,K=>i2 t u λ i j=>K (.int (Builtin.bitXor i j))
 |_,_,_,_=>False
def ZO(t u:TV):Prop:=match t,u with
 |.tup l,.tup _=>dp 99 (.tup l)
 |.lst l,.lst _=>dp 99 (.lst l)
 |.int _,.int _=>True|.str _,.str _=>True|.bl _,.bl _=>True|.non,.non=>True
 |.non,.int _=>True|.int _,.non=>True|.non,.str _=>True|.str _,.non=>True|.int _,.str _=>True|.str _,.int _=>True
 |.non,.bl _=>True|.bl _,.non=>True
 |_,_=>False
noncomputable def Wa:TV->Bool
 |.non=>QK|.bl _=>QK|.int _=>QK|.str _=>QK|_=>QL
noncomputable def inT(x:TV)(l:List TV):Bool:=l.any λ y=>eqT y x
def Ze(t u:TV)(K:TV->Prop):Prop:=match t,u with
 |t,u=>i2 t u λ i j=>K (.bl (decide (j<i)))
def jb:SK->TV->TV->(TV->Prop)->Prop
 |.Eq,t,u,K=>ZO t.fz u.fz/\K (.bl (eqT t.fz u.fz))
 |.NotEq,t,u,K=>ZO t.fz u.fz/\K (.bl (!eqT t.fz u.fz))
 |.Lt,t,u,K=>i2 t u λ i j=>K (.bl (decide (i<j)))
 |.LtE,t,u,K=>i2 t u λ i j=>K (.bl (decide (i<=j)))
 |.Gt,t,u,K=>Ze t u K
 |.GtE,t,u,K=>i2 t u λ i j=>K (.bl (decide (j<=i)))
 |.In,t,u,K=>s1 u λ l=>Wa t=QK/\(∀x∈l,Wa x=QK)/\K (.bl (inT t l))
 |.NotIn,t,u,K=>s1 u λ l=>Wa t=QK/\(∀x∈l,Wa x=QK)/\K (.bl (!inT t l))
 |.Is,t,u,K=>u=.non/\K (.bl (match t with|.non=>QK|_=>QL))
 |.IsNot,t,u,K=>u=.non/\K (.bl (match t with|.non=>QL|_=>QK))
def aq(l:List TV)(lo hi:Option Int):List TV:=(l.drop (_H.sIx l.length 0 lo)).take (_H.sIx l.length l.length hi-_H.sIx l.length 0 lo)
def oI(t:TV)(P:Option Int->Prop):Prop:=match t with|.non=>P QM|.int i=>P (QJ i)|_=>False
def YH(t:TV)(a b:Option Int)(K:TV->Prop):Prop:=match t with
 |.tup l=>K (.tup (aq l a b))
 |.str x=>x.length<=4000000/\K (.str (Txt.slice x a b))
 |t=>l1 t λ l=>K (.own (aq l a b))
def YI(t u:TV)(K:TV->Prop):Prop:=match t with
 |.str x=>i1 u λ i=>x.length<=QR/\∃c,VY x.cps.toList i=QJ c/\K (.str ⟨#[c]⟩)
 |t=>s1 t λ l=>i1 u λ i=>∃x,VY l i=QJ x/\K x
def LF:TV->Prop
 |.tup l=>∀x∈l,LF x
 |.lst _=>False|.bor _=>False|.own _=>False|.obj _=>False
 |_=>True
def k1(b:Bool)(t:TV)(P:List TV->Prop):Prop:=if b=QK then (match t with|.tup l=>P l|_=>False) else l1 t P
def WQ:BI->List TV->(TV->Prop)->Prop
 |.len,[t],K=>(match t with|.str x=>x.length<=QR/\K (.int x.length)|t=>s1 t λ l=>K (.int l.length))
 |.tuple,[t],K=>s1 t λ l=>K (.tup l)
 |.list,[t],K=>s1 t λ l=>K (.own l)
 |.sum,[t],K=>l1 t λ l=>∃ns:LI,l=ns.map .int/\K (.int ns.sum)
 |.max,[t,u],K=>i2 t u λ i j=>K (.int (if j > i then j else i))
 |.max,[t],K=>l1 t λ l=>∃ns:LI,l=ns.map .int/\0<ns.length/\∀M:Int,M∈ns->(∀z∈ns,z<=M)->K (.int M)
 |.min,[t],K=>l1 t λ l=>∃ns:LI,l=ns.map .int/\0<ns.length/\∀M:Int,M∈ns->(∀z∈ns,M<=z)->K (.int M)
 |.min,[t,u],K=>i2 t u λ i j=>K (.int (if j<i then j else i))
 |.abs,[t],K=>i1 t λ i=>K (.int (if i<0 then -i else i))
 |.int,[t],K=>(match t with|.int i=>K (.int i)|.bl k=>K (.int (if k then 1 else 0))|_=>False)
 |.str,[t],K=>i1 t λ i=>i.natAbs.log2<1920/\K (.str (Rh (SJ i)))
 |.sorted,[t],K=>s1 t λ l=>∃ns:LI,l=ns.map .int/\ns.length<64/\∀ns':LI,ns'.Perm ns->ns'.Pairwise (·<=·)->K (.own (ns'.map .int))
 |.any,[t],K=>l1 t λ l=>∃bs:List Bool,l=bs.map .bl/\K (.bl (bs.any id))
 |.all,[t],K=>l1 t λ l=>∃bs:List Bool,l=bs.map .bl/\K (.bl (bs.all id))
 |.isI,[t],K=>(match t with|.int _=>K (.bl QK)|.bl _=>K (.bl QK)|.str _=>K (.bl QL)|.non=>K (.bl QL)|.tup _=>K (.bl QL)|_=>False)
 |.isB,[t],K=>(match t with|.bl _=>K (.bl QK)|.int _=>K (.bl QL)|.str _=>K (.bl QL)|.non=>K (.bl QL)|.tup _=>K (.bl QL)|_=>False)
 |.isT,[t],K=>(match t with|.tup _=>K (.bl QK)|.int _=>K (.bl QL)|.str _=>K (.bl QL)|.non=>K (.bl QL)|.bl _=>K (.bl QL)|_=>False)
 |.isL,[t],K=>(match t with|.tup _=>K (.bl QL)|.int _=>K (.bl QL)|.str _=>K (.bl QL)|.non=>K (.bl QL)|.bl _=>K (.bl QL)|.lst _=>K (.bl QK)|.bor _=>K (.bl QK)|.own _=>K (.bl QK)|.obj _=>False)
 |.isS,[t],K=>(match t with|.tup _=>K (.bl QL)|.int _=>K (.bl QL)|.str _=>K (.bl QK)|.non=>K (.bl QL)|.bl _=>K (.bl QL)|_=>False)
 |.trev b,[t],K=>k1 b t λ l=>K (.tup l.reverse)
 |.maxlen,[t,u],K=>(match t,u with|.tup l,.tup m=>K (.tup (if l.length<m.length then m else l))|_,_=>False)
 |.lrange k,[t],K=>i1 t λ j=>(0<=j/\j<=1000)/\K (if k=QK then .tup ((QW j.toNat).map λ i=>.int (i:Nat)) else .own ((QW j.toNat).map λ i=>.int (i:Nat)))
 |_,_,_=>False
noncomputable def z3(l m n:List TV):List TV:=Vj (λ x (p:TV×TV)=>.tup [x,p.1,p.2]) l (m.zip n)
def Xz:IK->List TV->(List TV->Prop)->Prop
 |.seq,[t],K=>s1 t K
 |.rng,[t],K=>i1 t λ j=>(-(2 ^ 62)<=j/\j<2 ^ 62)/\K ((QW j.toNat).map λ i=>.int (i:Nat))
 |.rng2,[t,u],K=>i2 t u λ i j=>(-(2 ^ 62)<=i/\i<2 ^ 62/\-(2 ^ 62)<=j/\j<2 ^ 62)/\K ((QW (j-i).toNat).map λ k=>.int (i+(k:Nat)))
 |.rng3,[t,u,w],K=>i2 t u λ i j=>i1 w λ c=>(c≠0/\c.natAbs<1073741824/\RF i j c=QK)/\K ((QW (Rg i j c).toNat).map λ k=>.int (i+(k:Nat)*c))
 |.zip a b,[t,u],K=>k1 a t λ l=>k1 b u λ m=>K (Vj (λ x y=>.tup [x,y]) l m)
 |.zip3,[t,u,w],K=>k1 QK t λ l=>k1 QK u λ m=>k1 QK w λ n=>(m.length=l.length/\n.length=l.length)/\K (z3 l m n)
 |.enum a,[t],K=>k1 a t λ l=>K (l.mapIdx λ i x=>.tup [.int (i:Nat),x])
 |.rev a,[t],K=>k1 a t λ l=>K l.reverse
 |.str,[t],K=>(match t with|.str x=>K (x.cps.toList.map λ c=>.str ⟨#[c]⟩)|_=>False)
 |_,_,_=>False
def XX(s:Option TV)(K:TV->Prop):Prop:=match s with|some (.bor _)=>False|some t=>K t|none=>False
def Yl(s:Option TV)(P:List TV->Prop):Prop:=match s with|some (.bor l)=>P l|_=>False
def t1(t:TV)(P:Str->Prop):Prop:=match t with|.str x=>P x|_=>False
noncomputable def Ym:List TV->Str->Option TV
 |.tup [.str k,t]::r,x=>if decide (k=x)=QK then QJ t else Ym r x
 |_,_=>QM
noncomputable abbrev kT(k:LI):TV:=.tup (k.map .int)
def XN(s:Option (Option TV))(P:QO->Prop):Prop:=match s with|some (QJ (.obj (.fn a)))=>P a|_=>False
def Yn:Option (Option TV)->(TV->Prop)->Prop
 |some (QJ (.obj _)),_=>False
 |some (QJ t),K=>K (match t with|.own l=>.bor l|t=>t)
 |_,_=>False
def Wq(ρ:En)(is:List Nat)(t:TV)(K:En->Prop):Prop:=match is with
 |[i]=>K (ρ.set i (QJ t))
 |[i,j]=>(match t with|.tup [x,y]=>K ((ρ.set i (QJ x)).set j (QJ y))|_=>False)
 |[i,j,k]=>(match t with|.tup [x,y,z]=>K (((ρ.set i (QJ x)).set j (QJ y)).set k (QJ z))|_=>False)
 |[i,j,k,m]=>(match t with|.tup [x,y,z,w]=>K ((((ρ.set i (QJ x)).set j (QJ y)).set k (QJ z)).set m (QJ w))|_=>False)
 |_=>False
def WO(b:TV->(List TV->Prop)->Prop):List TV->(List TV->Prop)->Prop
 |[],K=>K []
 |t::r,K=>b t λ y=>WO b r λ ys=>K (y++ys)
section
variable (FT:List Vv)(GT:List TV)
mutual
def wE:Cd->En->(TV->Prop)->Prop
 |.v i,ρ,K=>Yn ρ[i]? K
 |.c t,_,K=>K t
 |.g k,_,K=>XX GT[k]? K
 |.bin o a b,ρ,K=>wE a ρ λ x=>wE b ρ λ y=>YG o x y K
 |.neg a,ρ,K=>wE a ρ λ x=>i1 x λ i=>K (.int (-i))
 |.not a,ρ,K=>wE a ρ λ x=>b1 x λ i=>K (.bl (!i))
 |.cmp o a b,ρ,K=>wE a ρ λ x=>wE b ρ λ y=>jb o x y K
 |.cm2 o o' a b c,ρ,K=>wE a ρ λ x=>wE b ρ λ y=>jb o x y λ z=>b1 z λ k=>if k=QK then wE c ρ λ w=>jb o' y w K else K (.bl QL)
 |.and a b,ρ,K=>wE a ρ λ x=>b1 x λ k=>if k=QK then wE b ρ K else K (.bl QL)
 |.or a b,ρ,K=>wE a ρ λ x=>b1 x λ k=>if k=QK then K (.bl QK) else wE b ρ K
 |.ite c a b,ρ,K=>wE c ρ λ x=>b1 x λ k=>if k=QK then wE a ρ K else wE b ρ K
 |.tup l,ρ,K=>wL l ρ λ ts=>ts.all TV.nb=QK/\ts.length<=QR/\K (.tup (ts.map .fz))
 |.lst l,ρ,K=>wL l ρ λ ts=>ts.all TV.nb=QK/\ts.length<=QR/\K (.own (ts.map .fz))
 |.ix a b,ρ,K=>wE a ρ λ x=>wE b ρ λ y=>YI x y K
 |.sl a lo hi,ρ,K=>wE a ρ λ x=>wE lo ρ λ y=>oI y λ p=>wE hi ρ λ z=>oI z λ q=>YH x p q K
 |.call f l,ρ,K=>wL l ρ λ ts=>∃P,(∃S,FT[f]?=QJ S/\S (ts.map .fz) P)/\∀t,P t->(ts.all TV.nb=QL->LF t)/\K t
 |.bi f l,ρ,K=>wL l ρ λ ts=>WQ f ts K
 |.mxl a b,ρ,K=>wE a ρ λ t=>wE b ρ λ u=>WQ .maxlen [t,u] K
 |.trev k a,ρ,K=>wE a ρ λ t=>WQ (.trev k) [t] K
 |.lrng k a,ρ,K=>wE a ρ λ t=>WQ (.lrange k) [t] K
 |.dk k a,ρ,K=>Yl GT[k]? λ kvs=>wE a ρ λ y=>t1 y λ x=>∃t,Ym kvs x=QJ t/\K t
 |.ap i f l,ρ,K=>(FT[f]?).isSome=QK/\XN ρ[i]? λ a=>wL l ρ λ ts=>ts.all TV.nb=QK/\∃P,(∃S,FT[f]?=QJ S/\S (.str "" :: .obj (.fn a)::ts.map .fz) P)/\∀t,P t->K t
 |.cf i f x c,ρ,K=>(∃S,FT[f]?=QJ S/\S [.str x] λ _=>True)/\XN ρ[i]? λ a=>wE c ρ λ u=>u.nb=QK/\∃P,(∃S,FT[f]?=QJ S/\S [.str x,.obj (.fn a),u.fz] P)/\∀t,P t->K t
 |.comp own _ js tg k it e,ρ,K=>wL it ρ λ ts=>Xz k ts λ its=>its.length<QR /\
   WO (λ t K'=>Wq (QT own.length QM++js.map λ j=>(ρ[j]?).join) tg t λ ρ'=>wE e ρ' λ y=>(y.nb=QK/\K' [y.fz])) its λ ys=>K (.own ys)
 |.compI own _ js tg k it c e,ρ,K=>wL it ρ λ ts=>Xz k ts λ its=>its.length<QR /\
   WO (λ t K'=>Wq (QT own.length QM++js.map λ j=>(ρ[j]?).join) tg t λ ρ'=>wE c ρ' λ x=>b1 x λ q=>if q=QK then wE e ρ' λ y=>(y.nb=QK/\K' [y.fz]) else K' []) its λ ys=>K (.own ys)
 |_,_,_=>False
def wL:Cd->En->(List TV->Prop)->Prop
 |.nil,_,K=>K []
 |.cons a r,ρ,K=>wE a ρ λ t=>wL r ρ λ ts=>K (t::ts)
 |_,_,_=>False
end
end
section
variable {K K':TV->Prop}{t u w:TV}
def lx{P P':Int->Int->Prop}(h:∀i j,P i j->P' i j)(q:i2 t u P):i2 t u P':=by
 cases t<;>cases u<;>first|exact h _ _ q|exact q.elim
def gW{P P':Int->Prop}(h:∀i,P i->P' i)(q:i1 t P):i1 t P':=by
 cases t<;>first|exact h _ q|exact q.elim
def dn{P P':Bool->Prop}(h:∀i,P i->P' i)(q:b1 t P):b1 t P':=by
 cases t<;>first|exact h _ q|exact q.elim
def sU{P P':List TV->Prop}(h:∀i,P i->P' i)(q:l1 t P):l1 t P':=by
 cases t<;>first|exact h _ q|exact q.elim
def pQ{P P':List TV->Prop}(h:∀i,P i->P' i)(q:s1 t P):s1 t P':=by
 cases t<;>first|exact h _ q|exact q.elim
def jc{P P':List TV->Prop}(h:∀i,P i->P' i)(q:k1 b t P):k1 b t P':=by
 cases b
 .exact sU h q
 .cases t<;>first|exact h _ q|exact q.elim
def pR{P P':Option Int->Prop}(h:∀i,P i->P' i)(q:oI t P):oI t P':=by
 cases t<;>first|exact h _ q|exact q.elim
def HD(h:∀t,K t->K' t)(q:sQ t u K):sQ t u K':=by
 cases t<;>cases u<;>first|exact h _ q|exact iy q.1 (h _ q.2)|exact q.elim
def HE(h:∀t,K t->K' t)(q:sR t u K):sR t u K':=by
 cases t<;>cases u<;>first|exact q.elim|exact iy q.1 (h _ q.2)|exact iy q.1 (iy q.2.1 (iy q.2.2.1 (h _ q.2.2.2)))|exact iy q.1 (iy q.2.1 (h _ q.2.2))
def HG(h:∀t,K t->K' t)(q:YG o t u K):YG o t u K':=by
 cases o<;>first
  |exact q.elim
  |exact HD h q
  |exact HE h q
  |exact lx (λ _ _ q=>h _ q) q
  |exact lx (λ _ _ q=>⟨q.1,h _ q.2⟩) q
def HH(h:∀t,K t->K' t)(q:Ze t u K):Ze t u K':=by
 cases t<;>cases u<;>first|exact q.elim|exact h _ q|(obtain⟨ns,ms,a,b,q⟩:=q;exact⟨ns,ms,a,b,h _ q⟩)
def iz(h:∀t,K t->K' t)(q:jb o t u K):jb o t u K':=by
 cases o<;>first
  |exact⟨q.1,h _ q.2⟩
  |exact lx (λ _ _ q=>h _ q) q
  |exact HH h q
  |exact pQ (λ _ q=>⟨q.1,q.2.1,h _ q.2.2⟩) q
def HI(h:∀t,K t->K' t)(q:YH t a b K):YH t a b K':=by
 cases t<;>first|exact h _ q|exact iy q.1 (h _ q.2)|exact q.elim
def HJ(h:∀t,K t->K' t)(q:YI t u K):YI t u K':=by
 have a:∀l,(i1 u λ i=>∃x,VY l i=QJ x/\K x)->i1 u λ i=>∃x,VY l i=QJ x/\K' x:=λ l q=>gW (λ i ⟨c,e,q⟩=>⟨c,e,h _ q⟩) q;have b:∀x:Str,(i1 u λ i=>x.length<=QR/\∃c,VY x.cps.toList i=QJ c/\K (.str ⟨#[c]⟩))->i1 u λ i=>x.length<=QR/\∃c,VY x.cps.toList i=QJ c/\K' (.str ⟨#[c]⟩):=λ l q=>gW (λ i ⟨z,c,e,q⟩=>⟨z,c,e,h _ q⟩) q
 cases t with
 |str x=>exact b x q
 |tup l|lst l|bor l|own l=>exact a l q
 |_=>exact q.elim
def sV(h:∀t,K t->K' t)(q:WQ f ts K):WQ f ts K':=by
 have sl:∀ {t:TV}{g:List TV->TV},(s1 t λ l=>K (g l))->s1 t λ l=>K' (g l):=λ q=>pQ (λ _ q=>h _ q) q;have il:∀ {t:TV}{g:Int->TV},(i1 t λ l=>K (g l))->i1 t λ l=>K' (g l):=λ q=>gW (λ _ q=>h _ q) q;have i2l:∀ {t u:TV}{g:Int->Int->TV},(i2 t u λ i j=>K (g i j))->i2 t u λ i j=>K' (g i j):=λ q=>lx (λ _ _ q=>h _ q) q
 rcases ts with _|⟨t,_|⟨u,_|⟨w,r⟩⟩⟩
 .cases f<;>exact q.elim
 .cases f with
  |len=>cases t<;>first|exact h _ q|exact q.elim|exact iy q.1 (h _ q.2)
  |tuple|list=>exact sl q
  |trev b=>exact jc (λ _ q=>h _ q) q
  |sum|any|all=>exact sU (λ _ ⟨ns,e,q⟩=>⟨ns,e,h _ q⟩) q
  |max|min=>exact sU (λ _ ⟨ns,e,l,q⟩=>⟨ns,e,l,λ M m z=>h _ (q M m z)⟩) q
  |abs=>exact il q
  |int|isI|isB|isT|isL|isS=>cases t<;>first|exact h _ q|exact q.elim
  |str|lrange k=>exact gW (λ _ ⟨a,q⟩=>⟨a,h _ q⟩) q
  |sorted=>exact pQ (λ _ ⟨ns,e,l,q⟩=>⟨ns,e,l,λ M m z=>h _ (q M m z)⟩) q
  |maxlen=>exact q.elim
 .cases f with
  |max|min=>exact i2l q
  |maxlen=>cases t<;>cases u<;>first|exact h _ q|exact q.elim
  |_=>exact q.elim
 .cases f<;>exact q.elim
def jd{K K':List TV->Prop}(h:∀t,K t->K' t)(q:Xz k ts K):Xz k ts K':=by
 rcases ts with _|⟨t,_|⟨u,_|⟨w,_|⟨y,r⟩⟩⟩⟩
 .cases k<;>exact q.elim
 .cases k with
  |seq=>exact pQ h q
  |rng=>exact gW (λ _ ⟨a,q⟩=>⟨a,h _ q⟩) q
  |enum a|rev a=>exact jc (λ _ q=>h _ q) q
  |str=>cases t<;>first|exact h _ q|exact q.elim
  |_=>exact q.elim
 .cases k with
  |rng2=>exact lx (λ _ _ ⟨a,q⟩=>⟨a,h _ q⟩) q
  |zip a b=>exact jc (λ _ q=>jc (λ _ q=>h _ q) q) q
  |_=>exact q.elim
 .cases k with
  |rng3=>exact lx (λ _ _ q=>gW (λ _ ⟨a,q⟩=>⟨a,h _ q⟩) q) q
  |zip3=>exact jc (λ _ q=>jc (λ _ q=>jc (λ _ ⟨a,q⟩=>⟨a,h _ q⟩) q) q) q
  |_=>exact q.elim
 .cases k<;>exact q.elim
def HK(h:∀t,K t->K' t)(q:XX s K):XX s K':=by
 cases s with
 |none=>exact q
 |some t=>cases t<;>first|exact h _ q|exact q.elim
def xz(q:Yl s P):∃l,s=QJ (.bor l)/\P l:=by
 cases s with
 |none=>exact q.elim
 |some t=>cases t<;>first|exact⟨_,rfl,q⟩|exact q.elim
def sW(q:XN s P):∃a,s=QJ (QJ (.obj (.fn a)))/\P a:=by
 rcases s with _|_|t
 .exact q.elim
 .exact q.elim
 .cases t with
  |obj o=>cases o<;>first|exact⟨_,rfl,q⟩|exact q.elim
  |_=>exact q.elim
def xA{P P':QO->Prop}(h:∀a,P a->P' a)(q:XN s P):XN s P':=by
 obtain⟨a,e,p⟩:=sW q;subst e;exact h a p
def HL{P P':List TV->Prop}(h:∀l,P l->P' l)(q:Yl s P):Yl s P':=by
 obtain⟨l,e,p⟩:=xz q;subst e;exact h l p
def xB(q:t1 t P):∃x,t=.str x/\P x:=by cases t<;>first|exact⟨_,rfl,q⟩|exact q.elim
def HM{P P':Str->Prop}(h:∀x,P x->P' x)(q:t1 t P):t1 t P':=by
 obtain⟨x,e,p⟩:=xB q;subst e;exact h x p
def HN(h:∀t,K t->K' t)(q:Yn s K):Yn s K':=by
 rcases s with _|_|t
 .exact q
 .exact q
 .cases t<;>first|exact h _ q|exact q.elim
def iA{K K':En->Prop}(h:∀t,K t->K' t)(q:Wq ρ is t K):Wq ρ is t K':=by
 rcases is with _|⟨i,_|⟨j,_|⟨k,_|⟨l,_|⟨l',r⟩⟩⟩⟩⟩
 .exact q.elim
 .exact h _ q
 .cases t with
  |tup l=>rcases l with _|⟨x,_|⟨y,_|⟨z,r⟩⟩⟩<;>first|exact h _ q|exact q.elim
  |_=>exact q.elim
 .cases t with
  |tup l=>rcases l with _|⟨x,_|⟨y,_|⟨z,_|⟨w,r⟩⟩⟩⟩<;>first|exact h _ q|exact q.elim
  |_=>exact q.elim
 .cases t with
  |tup l=>rcases l with _|⟨x,_|⟨y,_|⟨z,_|⟨w,_|⟨w',r⟩⟩⟩⟩⟩<;>first|exact h _ q|exact q.elim
  |_=>exact q.elim
 .exact q.elim
theorem pS{b b':TV->(List TV->Prop)->Prop}(hb:∀t K K',(∀y,K y->K' y)->b t K->b' t K'):∀ {l:List TV}{K K':List TV->Prop},(∀y,K y->K' y)->WO b l K->WO b' l K'
 |[],_,_,h,q=>h _ q
 |_::_,_,_,h,q=>hb _ _ _ (λ y q=>pS hb (λ ys q=>h _ q) q) q
variable {FT:List Vv}{GT:List TV}
structure Mo (FT:List Vv)(GT:List TV)(c:Cd):Prop where
 e:∀ {ρ:En}{K K':TV->Prop},(∀t,K t->K' t)->wE FT GT c ρ K->wE FT GT c ρ K'
 l:∀ {ρ:En}{K K':List TV->Prop},(∀t,K t->K' t)->wL FT GT c ρ K->wL FT GT c ρ K'
def ly{k:Bool}{A A' B B':Prop}(ha:A->A')(hb:B->B')(q:if k=QK then A else B):if k=QK then A' else B':=by
 cases k
 .exact hb q
 .exact ha q
def mo(FT:List Vv)(GT:List TV):∀c,Mo FT GT c:=λ c=>by
 induction c with
 |v i=>exact⟨λ h q=>HN h q,λ _ q=>q.elim⟩
 |c t=>exact⟨λ h q=>h _ q,λ _ q=>q.elim⟩
 |g k=>exact⟨λ h q=>HK h q,λ _ q=>q.elim⟩
 |bin o a b ia ib=>exact⟨λ h q=>ia.e (λ x q=>ib.e (λ y q=>HG h q) q) q,λ _ q=>q.elim⟩
 |neg a ia=>exact⟨λ h q=>ia.e (λ x q=>gW (λ _ q=>h _ q) q) q,λ _ q=>q.elim⟩
 |not a ia=>exact⟨λ h q=>ia.e (λ x q=>dn (λ _ q=>h _ q) q) q,λ _ q=>q.elim⟩
 |cmp o a b ia ib=>exact⟨λ h q=>ia.e (λ x q=>ib.e (λ y q=>iz h q) q) q,λ _ q=>q.elim⟩
 |cm2 o o' a b c ia ib ic=>exact⟨λ h q=>ia.e (λ x q=>ib.e (λ y q=>iz (λ z q=>dn (λ k q=>ly (λ q=>ic.e (λ w q=>iz h q) q) (λ q=>h _ q) q) q) q) q) q,λ _ q=>q.elim⟩
 |and a b ia ib=>exact⟨λ h q=>ia.e (λ x q=>dn (λ k q=>ly (λ q=>ib.e h q) (λ q=>h _ q) q) q) q,λ _ q=>q.elim⟩
 |or a b ia ib=>exact⟨λ h q=>ia.e (λ x q=>dn (λ k q=>ly (λ q=>h _ q) (λ q=>ib.e h q) q) q) q,λ _ q=>q.elim⟩
 |ite c a b ic ia ib=>exact⟨λ h q=>ic.e (λ x q=>dn (λ k q=>ly (λ q=>ia.e h q) (λ q=>ib.e h q) q) q) q,λ _ q=>q.elim⟩
 |nil=>exact⟨λ _ q=>q.elim,λ h q=>h _ q⟩
 |cons a r ia ir=>exact⟨λ _ q=>q.elim,λ h q=>ia.e (λ t q=>ir.l (λ ts q=>h _ q) q) q⟩
 |tup l il|lst l il=>exact⟨λ h q=>il.l (λ ts ⟨a,b,q⟩=>⟨a,b,h _ q⟩) q,λ _ q=>q.elim⟩
 |ix a b ia ib=>exact⟨λ h q=>ia.e (λ x q=>ib.e (λ y q=>HJ h q) q) q,λ _ q=>q.elim⟩
 |sl a lo hi ia il ih=>exact⟨λ h q=>ia.e (λ x q=>il.e (λ y q=>pR (λ p q=>ih.e (λ z q=>pR (λ r q=>HI h q) q) q) q) q) q,λ _ q=>q.elim⟩
 |call f l il=>exact⟨λ h q=>il.l (λ ts q=>let ⟨P,s,q⟩:=q;⟨P,s,λ t p=>⟨(q t p).1,h _ (q t p).2⟩⟩) q,λ _ q=>q.elim⟩
 |bi f l il=>exact⟨λ h q=>il.l (λ ts q=>sV h q) q,λ _ q=>q.elim⟩
 |mxl a b ia ib=>exact⟨λ h q=>ia.e (λ t q=>ib.e (λ u q=>sV h q) q) q,λ _ q=>q.elim⟩
 |trev k a ia|lrng k a ia=>exact⟨λ h q=>ia.e (λ t q=>sV h q) q,λ _ q=>q.elim⟩
 |dk k a ia=>exact⟨λ h q=>HL (λ kvs q=>ia.e (λ y q=>HM (λ x ⟨t,e,q⟩=>⟨t,e,h _ q⟩) q) q) q,λ _ q=>q.elim⟩
 |ap i f l il=>exact⟨λ h q=>⟨q.1,xA (λ a q=>il.l (λ ts q=>⟨q.1,let ⟨P,s,q⟩:=q.2;⟨P,s,λ t p=>h _ (q t p)⟩⟩) q) q.2⟩,λ _ q=>q.elim⟩
 |cf i f x c ic=>exact⟨λ h q=>⟨q.1,xA (λ a q=>ic.e (λ u q=>⟨q.1,let ⟨P,s,q⟩:=q.2;⟨P,s,λ t p=>h _ (q t p)⟩⟩) q) q.2⟩,λ _ q=>q.elim⟩
 |comp own fv js tg k it e ii ie=>exact⟨λ h q=>ii.l (λ ts q=>jd (λ its q=>⟨q.1,pS (λ t K K' h q=>iA (λ ρ' q=>ie.e (λ y q=>⟨q.1,h _ q.2⟩) q) q) (λ ys q=>h _ q) q.2⟩) q) q,λ _ q=>q.elim⟩
 |compI own fv js tg k it c e ii ic ie=>exact⟨λ h q=>ii.l (λ ts q=>jd (λ its q=>⟨q.1,pS (λ t K K' h q=>iA (λ ρ' q=>ic.e (λ x q=>dn (λ z q=>ly (λ q=>ie.e (λ y q=>⟨q.1,h _ q.2⟩) q) (λ q=>h _ q) q) q) q) q) (λ ys q=>h _ q) q.2⟩) q) q,λ _ q=>q.elim⟩
def au(c:Cd){K K':TV->Prop}(h:∀t,K t->K' t)(q:wE FT GT c ρ K):wE FT GT c ρ K':=(mo FT GT c).e h q
def cj(c:Cd){K K':List TV->Prop}(h:∀t,K t->K' t)(q:wL FT GT c ρ K):wL FT GT c ρ K':=(mo FT GT c).l h q
end
example (FT:List Vv) (GT:List TV) (K:TV->Prop):wE FT GT (.neg (.v 0)) [QJ (.int 3)] K=K (.int (-3)):=rfl
section
variable {J:Hp->Prop}
def r2(X:Cx)(J:Hp->Prop)(p:TV->TV->(TV->Prop)->Prop):R2:=λ x y H1 Q=>∃F H F1 t u,Grow J F H F1 H1/\Rr X.K H F1 H1 t x/\Rr X.K H F1 H1 u y/\p t u λ r=>∀F' H' v,Grow J F H F' H'->Rr X.K H F' H' r v->Q v H'
def eE(h:i2 t u P):∃i j,t=.int i/\u=.int j/\P i j:=by
 cases t<;>cases u<;>first|exact⟨_,_,rfl,rfl,h⟩|exact h.elim
def gX(h:i1 t P):∃i,t=.int i/\P i:=by
 cases t<;>first|exact⟨_,rfl,h⟩|exact h.elim
def jf(h:b1 t P):∃i,t=.bl i/\P i:=by
 cases t<;>first|exact⟨_,rfl,h⟩|exact h.elim
def jQ(h:l1 t P):∃l,t.items=QJ (QL,l)/\P l:=by
 cases t<;>first|exact⟨_,rfl,h⟩|exact h.elim
def lA(h:s1 t P):∃b l,t.items=QJ (b,l)/\P l:=by
 cases t<;>first|exact⟨_,_,rfl,h⟩|exact h.elim
def Rr.lq{K:FG}{l:List TV}(h:Rr K H F' H' t v)(e:t.items=QJ (QL,l)):∃a vs,v=.ref a/\RpL K F' H' l vs/\SqL K H' a vs:=by
 obtain⟨a,vs,e,r,q⟩:=h.sq e
 rcases q with ⟨z,_⟩|⟨_,q⟩
 .cases z
 .exact⟨a,vs,e,r,q⟩
def jR(hJ:JS J){K:FG}{Q:VK}{vs:List V}(g:Grow J F H F1 H1)(r:RpL K F1 H1 l vs)(q:∀F' H' v,Grow J F H F' H'->Rr K H F' H' (.tup l) v->Q v H')(p:QO)(hp:H1 p=QM):Q (.ref p) (VA H1 p (.tup vs)) :=
 q F1 _ _ (g.trans (.new hJ g.w _ hp)) ⟨p,vs,rfl,.of cK,r.ke (Grow.new hJ g.w _ hp).ke⟩
def Grow.none(g:Grow J F H F1 H1)(h:H1 a=QM):H a=QM:=by
 by_cases z:H a=Option.none
 .exact z
 .exact m8 h (g.dm a z)
def jg(hJ:JS J){K:FG}{Q:VK}{vs:List V}(g:Grow J F H F1 H1)(r:RpL K F1 H1 l vs)(q:∀F' H' v,Grow J F H F' H'->Rr K H F' H' (.own l) v->Q v H')(p:QO)(hp:H1 p=QM):Q (.ref p) (VA H1 p (.lst vs)) :=
 q F1 _ _ (g.trans (.new hJ g.w _ hp)) ⟨p,vs,rfl,g.none hp,λ z=>g.w.d p z hp,cK,r.ke (Grow.new hJ g.w _ hp).ke⟩
def HP(X:Cx):R2:=λ x y H Q=>∃a k xs,x=.ref a/\y=.int k/\SqT X.K H a xs/\xs≠[]/\(0<=k/\k<2 ^ 63)/\xs.length*k.toNat<=QR/\(k=1->Q (.ref a) H)/\(k≠1->∀p,H p=QM->Q (.ref p) (VA H p (.tup (QT k.toNat xs).flatten)))
def HQ:VQ X (Rx .Mult) (HP X):=by
 intro Vu s σ H x y v u Q I rx ry h;obtain⟨a,k,xs,rfl,rfl,hH,hx,⟨h1,h2⟩,hz,q1,q2⟩:=h;cases rx;obtain⟨t,rfl⟩:=ry;obtain⟨its,r,pl,_⟩:=I.tuple hH;obtain⟨⟨c,dd,dt,sl⟩,g,hc,n,hd⟩:=id pl;simp only at hc hd;subst hc hd;have hl:=r.length
 have ne:its.toArray.isEmpty=QL:=by
  cases its with
  |nil=>exact m8 (r.nil_iff.mp rfl) hx
  |cons _ _=>rfl
 have hz':its.toArray.size*k.toNat<=QR:=by rw[aY,<- hl];exact hz
 refine wD (T := "tuple") (U := "int") on ⟨_,g,O⟩ (λ s'=>s0h s' k t) FS F.fills_int_mul ph FU F.slot_int_index.lookup
  (gm ph (s0h s k t) F.entry_int_rmul (F.args_int_rmul_2 _ _) (FV k t a its.toArray n dd sl) ⟨g,rfl,⟨_,g,rfl⟩,?_⟩)
 by_cases e1:k=1
 .subst e1;exact gm sX ⟨_,g,O⟩ sY (sZ _ _) (FW a its.toArray n t dd sl) ⟨g,.ref a,H,I,O,q1 rfl⟩
 have fl:∀(m:Nat) (b:LV),(QT m its.toArray).foldl (·++·) b.toArray=(b++(QT m its).flatten).toArray:=by
  intro m
  induction m with
  |zero=>intro b;simp
  |succ m ih=>
   intro b;rw[fH,gk,List.append_toArray,ih,fH,gP,jK]
 have fin:∀bs:LV,bs=(QT k.toNat its).flatten->EP X Vu σ Q (.ref s.heap.objs.size) { s with heap:=s.heap.push { cls:=.type "tuple",data:=.seq bs.toArray } }:=by
  rintro bs rfl;refine⟨.ref s.heap.objs.size,_,I.laid (t':=s.toks) (o:=.tup (QT k.toNat xs).flatten) (λ b ob q=>aV _ q) (ak _) ?_,O,q2 e1 _ (I.hok.fresh (ak _))⟩;exact⟨by rw[wC,s1s];exact hz,_,r.rep k.toNat,TupO.new _ _⟩
 by_cases e0:k=0
 .subst e0;exact gm sX ⟨_,g,O⟩ sY (sZ _ _) (FX a its.toArray n 0 t dd sl ca ca ne) ⟨g,fin [] rfl⟩
 .refine gm sX ⟨_,g,O⟩ sY (sZ _ _) (FY a its.toArray n k t dd sl ca h2 ne hz') ⟨g,?_⟩;have e:=fl k.toNat [];rw[si] at e;show EP X Vu σ Q (.ref s.heap.objs.size) { s with heap:=s.heap.push { cls:=.type "tuple",data:=.seq ((QT k.toNat its.toArray).foldl (·++·) ([]:LV).toArray) } };rw[e];exact fin _ rfl
def HR(hJ:JS J)(o:Tu):VQ X (Rx o) (r2 X J (YG o)):=by
 intro Vu s σ H1 x y v u Q I rx ry h;obtain⟨F,H,F1,t,w,g,rt,rw',p⟩:=h
 cases o with
 |Add=>
  cases t with
  |int i=>
   cases rt
   cases w with
   |int j=>cases rw';exact DI Vu s σ H1 _ _ v u Q I rx ry (p F1 H1 _ g rfl)
   |_=>exact p.elim
  |tup l=>
   cases w with
   |tup m=>
    obtain⟨a,vs,rfl,q1,r1⟩:=rt;obtain⟨b,ws,rfl,q2,r2⟩:=rw';obtain⟨lz,p⟩:=p;have rr:=r1.append r2;refine FL Vu s σ H1 _ _ v u Q I rx ry ⟨a,b,vs,ws,O,O,q1,q2,by rw[<- r1.length,<- r2.length];exact lz,λ e=>?_,λ _ e=>?_,λ _ _=>jR hJ g rr p⟩
    .subst e;exact p F1 H1 _ g ⟨b,_,rfl,q2,rr⟩
    .subst e;rw[fF] at rr;exact p F1 H1 _ g ⟨a,_,rfl,q1,rr⟩
   |_=>exact p.elim
  |lst l|bor l|own l=>
   obtain⟨m,em,lz,p⟩:=jQ p;obtain⟨a,vs,rfl,r1,q1⟩:=rt.lq rfl;obtain⟨b,ws,rfl,r2,q2⟩:=rw'.lq em;exact GH Vu s σ H1 _ _ v u Q I rx ry ⟨a,b,vs,ws,O,O,q1,q2,by rw[<- r1.length,<- r2.length];exact lz,jg hJ g (r1.append r2) p⟩
  |_=>exact p.elim
 |Sub=>
  obtain⟨i,j,rfl,rfl,p⟩:=eE p;cases rt;cases rw';exact DJ Vu s σ H1 _ _ v u Q I rx ry (p F1 H1 _ g rfl)
 |Mult=>
  cases t with
  |int i=>
   cases rt
   cases w with
   |int j=>cases rw';exact GJ Vu s σ H1 _ _ v u Q I rx ry ⟨p.1,p.2 F1 H1 _ g rfl⟩
   |_=>exact p.elim
  |own l=>
   cases w with
   |int k=>
    cases rw';obtain⟨a,vs,rfl,n,f,q,r⟩:=rt;obtain⟨k0,lz,p⟩:=p
    have rr:RpL X.K F1 H1 (QT k.toNat l).flatten (QT k.toNat vs).flatten:=by
     generalize k.toNat=m
     induction m with
     |zero=>rfl
     |succ m ih=>rw[fH,fH,gP,gP];exact r.append ih
    exact Fc Vu s σ H1 _ _ v u Q I rx ry ⟨a,k,vs,O,O,q,ca,k0.2,by rw[<- r.length];exact lz,jg hJ g rr p⟩
   |_=>exact p.elim
  |tup l=>
   cases w with
   |int k=>
    cases rw';obtain⟨a,vs,rfl,q,r⟩:=rt;obtain⟨l0,k0,lz,p⟩:=p
    have rr:RpL X.K F1 H1 (QT k.toNat l).flatten (QT k.toNat vs).flatten:=by
     generalize k.toNat=m
     induction m with
     |zero=>rfl
     |succ m ih=>rw[fH,fH,gP,gP];exact r.append ih
    have vn:vs≠[]:=λ z=>l0 (nr (by rw[r.length,z];rfl))
    exact HQ Vu s σ H1 _ _ v u Q I rx ry ⟨a,k,vs,O,O,q,vn,k0,by rw[← r.length];exact lz,λ e=>by
     subst e;rw[show((1:Int).toNat)=1 from rfl,List.replicate_one,gP,List.flatten_nil,fF] at p
     exact p F1 H1 _ g ⟨a,vs,O,q,r⟩,λ _=>jR hJ g rr p⟩
   |_=>exact p.elim
  |_=>cases w<;>exact p.elim
 |FloorDiv=>
  obtain⟨i,j,rfl,rfl,⟨c1,c2,c3⟩,p⟩:=eE p;cases rt;cases rw';by_cases c:0<j
  .rw[show be i j=i/j by unfold be;rw[m7 c]] at p;exact Gm Vu s σ H1 _ _ v u Q I rx ry ⟨⟨c,c3⟩,p F1 H1 _ g rfl⟩
  .rw[show be i j=i.fdiv j by unfold be;rw[k9 c]] at p;exact Fm Vu s σ H1 _ _ v u Q I rx ry ⟨⟨c1,c2,ca⟩,p F1 H1 _ g rfl⟩
 |Mod=>
  obtain⟨i,j,rfl,rfl,c1,p⟩:=eE p;cases rt;cases rw';by_cases c:0<j
  .rw[show aU i j=i%j by unfold aU;rw[m7 c]] at p;exact DK Vu s σ H1 _ _ v u Q I rx ry ⟨c,p F1 H1 _ g rfl⟩
  .rw[show aU i j=i.fmod j by unfold aU;rw[k9 c]] at p;exact DM Vu s σ H1 _ _ v u Q I rx ry ⟨c1,p F1 H1 _ g rfl⟩
 |Pow=>
  obtain⟨i,j,rfl,rfl,c1,p⟩:=eE p;cases rt;cases rw';exact DN Vu s σ H1 _ _ v u Q I rx ry ⟨c1,p F1 H1 _ g rfl⟩
 |RShift=>
  obtain⟨i,j,rfl,rfl,c1,p⟩:=eE p;cases rt;cases rw';exact DO Vu s σ H1 _ _ v u Q I rx ry ⟨c1,p F1 H1 _ g rfl⟩
 |BitAnd=>
  obtain⟨i,j,rfl,rfl,p⟩:=eE p;cases rt;cases rw';exact DP Vu s σ H1 _ _ v u Q I rx ry (p F1 H1 _ g rfl)
 |BitOr=>
  obtain⟨i,j,rfl,rfl,p⟩:=eE p;cases rt;cases rw';exact DQ Vu s σ H1 _ _ v u Q I rx ry (p F1 H1 _ g rfl)
 |BitXor=>
  obtain⟨i,j,rfl,rfl,p⟩:=eE p;cases rt;cases rw';exact DS Vu s σ H1 _ _ v u Q I rx ry (p F1 H1 _ g rfl)
 |_=>exact p.elim
end
section
variable {J:Hp->Prop}{Vu:LO}{σ:St}{H H1:Hp}{s:QP}{F F1:Fz}
def FA:Fz:=λ _=>True
def Rr.top{K:FG}(h:Rr K H F1 H1 t v):Rp K FA H1 t.fz v:=by
 have k:Ke K F1 H1 FA H1:=.up λ _ _=>trivial
 cases t with
 |own l=>obtain⟨a,vs,e,_,_,q,r⟩:=h;exact⟨a,vs,e,.inl ⟨trivial,.of q⟩,r.ke k⟩
 |bor l=>obtain⟨a,vs,e,_,q,r⟩:=h;exact⟨a,vs,e,.inl ⟨trivial,.of q⟩,r.ke k⟩
 |_=>exact Rp.ke k h
def tj{K:FG}(h:Rp K F H t v)(f:Wa t=QK):gO v=QK:=by
 cases t<;>first|(cases h;rfl)|(cases f)
def HS{K:FG}(h:Rp K F H t v)(g:Rp K F H u w)(f:Wa t=QK)(f':Wa u=QK):Xt v w=eqT t u:=by
 cases t<;>cases u<;>first|(cases h;cases g;rfl)|(cases f;done)|(cases f';done)
theorem tm{K:FG}:∀ {l:List TV}{vs:List V},RpL K F H l vs->(∀x∈l,Wa x=QK)->vs.all gO=QK
 |[],_,h,_=>by cases h;rfl
 |t::ts,_,⟨v,r,e,h1,h2⟩,f=>by subst e;rw[dh,tj h1 (f t pv),tm h2 λ x hx=>f x (by simp[hx])];rfl
theorem tq{K:FG}(ht:Rp K F H t v)(f:Wa t=QK):∀ {l:List TV}{vs:List V},RpL K F H l vs->(∀x∈l,Wa x=QK)->YC v vs=inT t l
 |[],_,h,_=>by cases h;rfl
 |u::ts,_,⟨w,r,e,h1,h2⟩,g=>by
  subst e;have ih:=tq ht f h2 λ x hx=>g x (by simp[hx]);unfold YC inT at *;rw[mP,mP,ih,HS h1 ht (g u pv) f]
theorem xC(I:Inv X Vu σ H s){A:QZ}{vs ws:List V}(hu:A.units+99<RR)(d:dp 99 (.tup l))(q:SqT X.K H a vs)(r:RpL X.K F H l vs)(q':SqT X.K H b ws)(r':RpL X.K F H m ws) :
  ∃(us us2:LV),s.heap.IsTuple a us.toArray/\s.heap.IsTuple b us2.toArray/\(∀j (h1:j<us.toArray.size) (h2:j<us2.toArray.size),Sh A.in1 s us.toArray[j] us2.toArray[j] (eqT (l.getD j .non) (m.getD j .non))) /\
   ((QW (min us.toArray.size us2.toArray.size)).all (λ j=>eqT (l.getD j .non) (m.getD j .non))&&us.toArray.size == us2.toArray.size)=eqTL l m:=by
 obtain⟨us,r1,p1,_⟩:=I.tuple q;obtain⟨us2,r2,p2,_⟩:=I.tuple q';have d':∀x∈l,dp 98 x:=d;refine⟨us,us2,p1,p2,λ j k1 k2=>?_,?_⟩
 .obtain⟨z1,h1,r1',m1⟩:=ja r r1 k1;obtain⟨z2,h2,r2',_⟩:=ja r' r2 k2;exact xy I 98 A.in1 _ _ z1 z2 _ _ (by show A.units+1+98<RR;lia) (d' _ m1) h1 h2 r1' r2'
 .have e1:us.toArray.size=l.length:=by simp[r.length,r1.length]
  have e2:us2.toArray.size=m.length:=by simp[r'.length,r2.length]
  rw[e1,e2];by_cases c:l.length=m.length
  .rw[<- c,Nat.min_self,lj c];simp
  .rw[lg c];have c':(l.length == m.length)=QL:=by simpa using c
   rw[c',lh]
theorem xD(I:Inv X Vu σ H s){A:QZ}{vs ws:List V}(hu:A.units+99<RR)(d:dp 99 (.lst l))(q:SqL X.K H a vs)(r:RpL X.K F H l vs)(q':SqL X.K H b ws)(r':RpL X.K F H m ws) :
  ∃(us us2:LV),s.heap.IsList a us.toArray/\s.heap.IsList b us2.toArray/\(∀j (h1:j<us.toArray.size) (h2:j<us2.toArray.size),Sh A.in1 s us.toArray[j] us2.toArray[j] (eqT (l.getD j .non) (m.getD j .non)))/\us.toArray.size=l.length/\us2.toArray.size=m.length:=by
 obtain⟨us,r1,p1,_⟩:=I.list q;obtain⟨us2,r2,p2,_⟩:=I.list q';have d':∀x∈l,dp 98 x:=d;refine⟨us,us2,p1.isList,p2.isList,λ j k1 k2=>?_,by simp[r.length,r1.length],by simp[r'.length,r2.length]⟩;obtain⟨z1,h1,r1',m1⟩:=ja r r1 k1;obtain⟨z2,h2,r2',_⟩:=ja r' r2 k2;exact xy I 98 A.in1 _ _ z1 z2 _ _ (by show A.units+1+98<RR;lia) (d' _ m1) h1 h2 r1' r2'
def Zf(X:Cx)(J:Hp->Prop)(p:TV->TV->(TV->Prop)->Prop):R2:=λ x y H1 Q=>∃F H F1 t u,Grow J F H F1 H1/\Rr X.K H F1 H1 t x/\Rr X.K H F1 H1 u y/\p t u λ r=>∀v,Rr X.K H F1 H1 r v->Q v H1
def HU(hu:X.A.units+120<RR):VQ X (Ru .Eq) (Zf X J (jb .Eq)):=by
 intro Vu s σ H1 x y v u Q I rx ry h;obtain⟨F,H,F1,t,w,g,rt,rw',c,p⟩:=h;replace p:=p _ rfl;have ht:=rt.top;have hw:=rw'.top;generalize t.fz=t at *;generalize w.fz=w at *;clear rt rw';have fin:EP X Vu σ Q (.bool (eqT t w)) s:=⟨.bl _,H1,I,rfl,p⟩
 cases t with
 |tup l=>
  cases w with
  |tup m=>
   obtain⟨a,vs,rfl,q,r⟩:=ht;obtain⟨b,ws,rfl,q',r'⟩:=hw;cases rx;cases ry;obtain⟨us,us2,p1,p2,e,z⟩:=xC I (A:=X.A) ca c q r q' r';exact SeqAt.eq_tupleAt p1 p2 ca e (by rw[z];exact fin)
  |_=>exact c.elim
 |lst l=>
  cases w with
  |lst m=>
   obtain⟨a,vs,rfl,q,r⟩:=ht;obtain⟨b,ws,rfl,q',r'⟩:=hw;cases rx;cases ry;obtain⟨us,us2,p1,p2,e,e1,e2⟩:=xD I (A:=X.A) ca c q.sq r q'.sq r';by_cases k:l.length=m.length
   .exact SeqAt.eq_listAt p1 p2 (by rw[e1,e2,k]) ca e (by rw[e1,lj k];exact fin)
   .refine SeqAt.eq_list_lengthsAt p1 p2 (by rw[e1,e2];simpa using k) ca ?_;rw[pP,lg k] at fin;exact fin
  |_=>exact c.elim
 |int i=>
  cases w with
  |int j=>cases ht;cases hw;exact jH Vu s σ H1 _ _ v u Q I rx ry p
  |non|str j=>cases ht;cases hw;exact jH Vu s σ H1 _ _ v u Q I rx ry (show dG _ _=QK/\_ from ⟨rfl,p⟩)
  |_=>exact c.elim
 |str i=>
  cases w with
  |str j=>cases ht;cases hw;exact jH Vu s σ H1 _ _ v u Q I rx ry p
  |non|int j=>cases ht;cases hw;exact jH Vu s σ H1 _ _ v u Q I rx ry (show dG _ _=QK/\_ from ⟨rfl,p⟩)
  |_=>exact c.elim
 |bl i=>
  cases w with
  |bl j=>cases ht;cases hw;refine jH Vu s σ H1 _ _ v u Q I rx ry (show dG _ _=QK/\_ from ⟨rfl,?_⟩);cases i<;>cases j<;>exact p
  |non=>cases ht;cases hw;exact jH Vu s σ H1 _ _ v u Q I rx ry (show dG _ _=QK/\_ from ⟨rfl,p⟩)
  |_=>exact c.elim
 |non=>
  cases w with
  |non|int j|str j|bl j=>cases ht;cases hw;exact jH Vu s σ H1 _ _ v u Q I rx ry (show dG _ _=QK/\_ from ⟨rfl,p⟩)
  |_=>exact c.elim
 |_=>exact ht.elim
def HV(hu:X.A.units+120<RR):VQ X (Ru .NotEq) (Zf X J (jb .NotEq)):=by
 intro Vu s σ H1 x y v u Q I rx ry h;obtain⟨F,H,F1,t,w,g,rt,rw',c,p⟩:=h;replace p:=p _ rfl;have ht:=rt.top;have hw:=rw'.top;generalize t.fz=t at *;generalize w.fz=w at *;clear rt rw';have fin:EP X Vu σ Q (.bool (!eqT t w)) s:=⟨.bl _,H1,I,rfl,p⟩
 cases t with
 |tup l=>
  cases w with
  |tup m=>
   obtain⟨a,vs,rfl,q,r⟩:=ht;obtain⟨b,ws,rfl,q',r'⟩:=hw;cases rx;cases ry;obtain⟨us,us2,p1,p2,e,z⟩:=xC I (A:=X.A) ca c q r q' r';exact SeqAt.RcNeAt.tuples p1 p2 ca e _ _ _ _ (by rw[z];exact fin)
  |_=>exact c.elim
 |lst l=>
  cases w with
  |lst m=>
   obtain⟨a,vs,rfl,q,r⟩:=ht;obtain⟨b,ws,rfl,q',r'⟩:=hw;cases rx;cases ry;obtain⟨us,us2,p1,p2,e,e1,e2⟩:=xD I (A:=X.A) ca c q.sq r q'.sq r';by_cases k:l.length=m.length
   .exact SeqAt.RcNeAt.lists p1 p2 (by rw[e1,e2,k]) ca e _ _ _ _ (by rw[e1,lj k];exact fin)
   .refine SeqAt.RcNeAt.lists_lengths p1 p2 (by rw[e1,e2];simpa using k) ca _ _ _ _ ?_;rw[pP,lg k] at fin;exact fin
  |_=>exact c.elim
 |int i=>
  cases w with
  |int j=>cases ht;cases hw;exact jI Vu s σ H1 _ _ v u Q I rx ry p
  |non|str j=>cases ht;cases hw;exact jI Vu s σ H1 _ _ v u Q I rx ry (show dG _ _=QK/\_ from ⟨rfl,p⟩)
  |_=>exact c.elim
 |str i=>
  cases w with
  |str j=>cases ht;cases hw;exact jI Vu s σ H1 _ _ v u Q I rx ry p
  |non|int j=>cases ht;cases hw;exact jI Vu s σ H1 _ _ v u Q I rx ry (show dG _ _=QK/\_ from ⟨rfl,p⟩)
  |_=>exact c.elim
 |bl i=>
  cases w with
  |bl j=>cases ht;cases hw;refine jI Vu s σ H1 _ _ v u Q I rx ry (show dG _ _=QK/\_ from ⟨rfl,?_⟩);cases i<;>cases j<;>exact p
  |non=>cases ht;cases hw;exact jI Vu s σ H1 _ _ v u Q I rx ry (show dG _ _=QK/\_ from ⟨rfl,p⟩)
  |_=>exact c.elim
 |non=>
  cases w with
  |non|int j|str j|bl j=>cases ht;cases hw;exact jI Vu s σ H1 _ _ v u Q I rx ry (show dG _ _=QK/\_ from ⟨rfl,p⟩)
  |_=>exact c.elim
 |_=>exact ht.elim
def lC(hu:X.A.units+120<RR)(o:SK):VQ X (Ru o) (Zf X J (jb o)):=by
 cases o with
 |Eq=>exact HU hu
 |NotEq=>exact HV hu
 |In=>
  intro Vu s σ H1 x y v u Q I rx ry h;obtain⟨F,H,F1,t,w,g,rt,rw',p⟩:=h;obtain⟨b,l,e,f1,f2,p⟩:=lA p;obtain⟨a,vs,rfl,r,q⟩:=rw'.sq e
  have ht:Rp X.K F1 H1 t x:=by cases t<;>first|exact rt|cases f1
  refine EN Vu s σ H1 _ _ v u Q I rx ry ⟨a,vs,O,?_,tj ht f1,tm r f2,?_⟩
  .rcases q with ⟨_,q⟩|⟨_,q⟩
   .exact .inr q
   .exact .inl q
  .rw[k9 on,tq ht f1 r f2];exact p _ rfl
 |NotIn=>
  intro Vu s σ H1 x y v u Q I rx ry h;obtain⟨F,H,F1,t,w,g,rt,rw',p⟩:=h;obtain⟨b,l,e,f1,f2,p⟩:=lA p;obtain⟨a,vs,rfl,r,q⟩:=rw'.sq e
  have ht:Rp X.K F1 H1 t x:=by cases t<;>first|exact rt|cases f1
  refine EO Vu s σ H1 _ _ v u Q I rx ry ⟨a,vs,O,?_,tj ht f1,tm r f2,?_⟩
  .rcases q with ⟨_,q⟩|⟨_,q⟩
   .exact .inr q
   .exact .inl q
  .rw[m7 rfl,tq ht f1 r f2];exact p _ rfl
 |Is=>
  intro Vu s σ H1 x y v u Q I rx ry h;obtain⟨F,H,F1,t,w,g,rt,rw',rfl,p⟩:=h;cases rw';have hx:=rt.top;refine Ea Vu s σ H1 _ _ v u Q I rx ry ⟨O,?_⟩;replace p:=p _ rfl
  cases t<;>first|exact RA hx|(cases hx;exact p)|(obtain⟨a,vs,rfl,_⟩:=hx;exact p)
 |IsNot=>
  intro Vu s σ H1 x y v u Q I rx ry h;obtain⟨F,H,F1,t,w,g,rt,rw',rfl,p⟩:=h;cases rw';have hx:=rt.top;refine Eb Vu s σ H1 _ _ v u Q I rx ry ⟨O,?_⟩;replace p:=p _ rfl
  cases t<;>first|exact RA hx|(cases hx;exact p)|(obtain⟨a,vs,rfl,_⟩:=hx;exact p)
 |Lt=>intro Vu s σ H1 x y v u Q I rx ry h;obtain⟨F,H,F1,t,w,g,rt,rw',p⟩:=h;obtain⟨i,j,rfl,rfl,p⟩:=eE p;cases rt;cases rw';exact DW Vu s σ H1 _ _ v u Q I rx ry (p _ rfl)
 |LtE=>intro Vu s σ H1 x y v u Q I rx ry h;obtain⟨F,H,F1,t,w,g,rt,rw',p⟩:=h;obtain⟨i,j,rfl,rfl,p⟩:=eE p;cases rt;cases rw';exact DX Vu s σ H1 _ _ v u Q I rx ry (p _ rfl)
 |Gt=>
  intro Vu s σ H1 x y v u Q I rx ry h;obtain⟨F,H,F1,t,w,g,rt,rw',p⟩:=h;cases t<;>cases w<;>try exact p.elim
  .cases rt;cases rw';exact DY Vu s σ H1 _ _ v u Q I rx ry (p _ rfl)
 |GtE=>intro Vu s σ H1 x y v u Q I rx ry h;obtain⟨F,H,F1,t,w,g,rt,rw',p⟩:=h;obtain⟨i,j,rfl,rfl,p⟩:=eE p;cases rt;cases rw';exact DZ Vu s σ H1 _ _ v u Q I rx ry (p _ rfl)
def HW{K:FG}{vs:List V}(r:RpL K F H l vs)(e:VY l i=QJ t):∃v,VY vs i=QJ v/\Rp K F H t v:=by
 unfold VY at *;rw[<- r.length]
 cases q:Xb l.length i with
 |none=>rw[q] at e;cases e
 |some j=>rw[q] at e;exact r.get e
def HX:IxR X (r2 X J YI):=by
 intro value slice Vu s σ H1 x y v u Q I rx ry h hs;obtain⟨F,H,F1,t,w,g,rt,rw',p⟩:=h
 have key:∀b l,t.items=QJ (b,l)->(i1 w λ i=>∃x,VY l i=QJ x/\∀F' H' v,Grow J F H F' H'->Rr X.K H F' H' x v->Q v H')->QS (QU X.prog X.w) X.A (SY value slice v u) (EP X Vu σ Q) X.xe s:=λ b l e p=>by
  obtain⟨i,rfl,z,ez,p⟩:=gX p;cases rw';obtain⟨a,vs,rfl,r,q⟩:=rt.sq e;obtain⟨zv,e1,rz⟩:=HW r ez;have fin:=p F1 H1 _ g (Rr.of rz)
  rcases q with ⟨_,q⟩|⟨_,q⟩
  .exact se value slice Vu s σ H1 _ _ v u Q I rx ry (.inr (.inl ⟨a,vs,i,zv,O,O,q,e1,fin⟩)) hs
  .exact se value slice Vu s σ H1 _ _ v u Q I rx ry (.inl ⟨a,vs,i,zv,O,O,q,e1,fin⟩) hs
 cases t with
 |str x=>
  obtain⟨i,rfl,lz,c,ec,p⟩:=gX p;cases rw';cases rt;exact se value slice Vu s σ H1 _ _ v u Q I rx ry (.inr (.inr ⟨x,i,c,O,O,lz,ec,p F1 H1 _ g rfl⟩)) hs
 |tup l|lst l|bor l|own l=>exact key _ _ rfl p
 |_=>exact p.elim
def rsl(X:Cx)(J:Hp->Prop):V->Option Int->Option Int->Hp->VK->Prop:=λ x lo hi H1 Q=>∃F H F1 t,Grow J F H F1 H1/\Rr X.K H F1 H1 t x /\
 YH t lo hi λ r=>∀F' H' v,Grow J F H F' H'->Rr X.K H F' H' r v->Q v H'
def tu{K:FG}{vs:List V}(r:RpL K F H l vs)(lo hi:Option Int):RpL K F H (aq l lo hi) (ik vs lo hi):=by
 unfold aq ik;rw[<- r.length];exact(r.drop _).take _
def HY(hJ:JS J):Yj X (rsl X J):=by
 intro Vu s σ H1 x v vl vu lo hi sl Q I rx hs pl pu h;obtain⟨F,H,F1,t,g,rt,p⟩:=h
 have key:∀l,t.items=QJ (QL,l)->(∀F' H' v,Grow J F H F' H'->Rr X.K H F' H' (.own (aq l lo hi)) v->Q v H')->∃T id,RM (.type T) "__getitem__"=Rj (QJ (.builtin id))/\s.TypeIs v T/\QS (QU X.prog X.w) X.A (Sk v (.ref sl)) (EP X Vu σ Q) X.xe s:=λ l e p=>by
  obtain⟨a,vs,rfl,r,q⟩:=rt.lq e;exact EM Vu s σ H1 _ v vl vu lo hi sl Q I rx hs pl pu ⟨a,vs,O,q,jg hJ g (tu r lo hi) p⟩
 cases t with
 |tup l=>
  obtain⟨a,xs,rfl,ha,r⟩:=rt;by_cases c:_H.sIx xs.length 0 lo=0/\_H.sIx xs.length xs.length hi=xs.length
  .cases rx;obtain⟨its,rr,ht,hz⟩:=I.tuple ha;have VC:its.toArray.size=xs.length:=by rw[aY];exact rr.length.symm
   refine⟨"tuple",_,PyProof.Rows.slot_tuple_getitem.lookup,ht.typeIs,_H.whole_tup ht hs pl pu (by rw[VC];exact c.1) (by rw[VC];exact c.2) ⟨.ref a,H1,I,O,p F1 H1 _ g ⟨a,xs,O,ha,?_⟩⟩⟩;have z:=tu r lo hi;unfold ik at z
   rwa [c.1,c.2,UA,Nat.sub_zero,bG] at z
  .exact EA Vu s σ H1 _ v vl vu lo hi sl Q I rx hs pl pu ⟨a,xs,O,ha,c,jR hJ g (tu r lo hi) p⟩
 |str z=>cases rt;exact GP Vu s σ H1 _ v vl vu lo hi sl Q I rx hs pl pu ⟨z,rfl,p.1,p.2 F1 H1 _ g rfl⟩
 |lst l|bor l|own l=>exact key l rfl p
 |_=>exact p.elim
end
section
variable {J:Hp->Prop}
def xE(X:Cx):V->V->Hp->VK->Prop:=λ x y H Q=>∃(a b:QO) (xs ys:List V),x=.ref a/\y=.ref b/\SqT X.K H a xs/\SqT X.K H b ys/\(ys.length<=xs.length->Q (.ref a) H)/\(xs.length<ys.length->Q (.ref b) H)
def HZ{p kp pos p2:Pos}(hc:X.calm=QK)(hg:Gl X "max")(hm:X.mg "max"=QM)(hg2:Gl X "len")(hm2:X.mg "len"=QM)(he:PE X e te)(hf:PE X f tf)(hs:autoParam (Rf [e,f] X.env=(QL,eval e X.env)::Rf [f] X.env) A8._auto_1)(hs2:autoParam (Rf [f] X.env=[(QL,eval f X.env)]) A8._auto_1):PE X (.Call (.Name "max" p) [e,f] [⟨QJ (Rh "key"),.Name "len" p2,kp⟩] pos) (Hz (xE X) te tf):=by
 intro Vu s σ H Q I h;refine kN (eK I hg hm boot_max ?_);have hA:=(dA he (dA hf (pa_nil (X:=X)) hs2) hs) pos Vu s σ H (λ vs H1=>match vs with|[x,y]=>xE X x y H1 Q|_=>False) I h;refine callWith_kw (VD hA λ us s1 ⟨vs,H1,I1,r1,q1⟩=>?_) (by rw[hs,hs2];rfl) (by rw[hs,hs2];rfl)
 match vs,q1 with
 |[x0,y0],q1=>
  obtain⟨u,v,rfl,ru,rv⟩:=oR r1;refine kws_cons (eK I1 hg2 hm2 boot_len (kws_nil ?_));obtain⟨a,b,xs,ys,rfl,rfl,ha,hb,qa,qb⟩:=q1;cases (show u=Rk a from ru);cases (show v=Rk b from rv);obtain⟨i1,t1,p1,y1⟩:=I1.tuple ha;obtain⟨i2,t2,p2',y2⟩:=I1.tuple hb;have l1:=t1.length;have l2:=t2.length;have hsz:QR=16777216:=kM;refine Hy (I1.ok.hd hc) p1 p2' (by rw[aY];omega) (by rw[aY];omega) λ v h' tk hv kk=>?_;simp only[aY] at hv
  rcases hv with ⟨rfl,hl⟩|⟨rfl,hl⟩
  .exact⟨.ref a,H1,I1.kept kk,O,qa (by omega)⟩
  .exact⟨.ref b,H1,I1.kept kk,O,qb (by omega)⟩
def rL(X:Cx)(J:Hp->Prop)(p:List TV->(TV->Prop)->Prop):List V->Hp->VK->Prop:=λ xs H1 Q=>∃F H F1 ts,Grow J F H F1 H1/\RrL X.K H F1 H1 ts xs/\p ts λ r=>∀F' H' v,Grow J F H F' H'->Rr X.K H F' H' r v->Q v H'
noncomputable def ZP:BI->Value
 |.len=>.builtin "len" |.tuple=>.type "tuple" |.list=>.type "list" |.sum=>.builtin "sum" |.max=>.builtin "max" |.min=>.builtin "min" |.abs=>.builtin "abs" |.int=>.type "int" |.str=>.type "str"
 |.sorted=>.builtin "sorted" |.any=>.builtin "any" |.all=>.builtin "all" |_=>.none
def lD{K:FG}{t:TV}(h:RrL K H F1 H1 [t] xs):∃x,xs=[x]/\Rr K H F1 H1 t x:=by
 cases h with
 |cons r q=>cases q;exact⟨_,rfl,r⟩
def tz{K:FG}{t u:TV}(h:RrL K H F1 H1 [t,u] xs):∃x y,xs=[x,y]/\Rr K H F1 H1 t x/\Rr K H F1 H1 u y:=by
 cases h with
 |cons r q=>obtain⟨y,rfl,r'⟩:=lD q;exact⟨_,y,rfl,r,r'⟩
def Ia(h:rL X J p xs H1 Q)(n:∀ts K,p ts K->ts.length=1):∃F H F1 t x,xs=[x]/\Grow J F H F1 H1/\Rr X.K H F1 H1 t x/\p [t] λ r=>∀F' H' v,Grow J F H F' H'->Rr X.K H F' H' r v->Q v H':=by
 obtain⟨F,H,F1,ts,g,r,q⟩:=h
 match ts,n _ _ q with
 |[t],_=>obtain⟨x,rfl,rx⟩:=lD r;exact⟨F,H,F1,t,x,rfl,g,rx,q⟩
def tD{K:FG}{b:Bool}{vs:List V}(q:(b=QK/\SqT K H' a vs)\/(b=QL/\SqL K H' a vs)):SqL K H' a vs\/SqT K H' a vs:=q.elim (λ z=>.inr z.2) λ z=>.inl z.2
def bi1{f:BI}(h:f=.len\/f=.tuple\/f=.list\/f=.sum\/f=.abs\/f=.int\/f=.sorted\/f=.any):∀ts K,WQ f ts K->ts.length=1:=by
 intro ts K q
 rcases ts with _|⟨t,_|⟨u,_|⟨w,r⟩⟩⟩
 .rcases h with rfl|rfl|rfl|rfl|rfl|rfl|rfl|rfl<;>exact q.elim
 .rfl
 .rcases h with rfl|rfl|rfl|rfl|rfl|rfl|rfl|rfl<;>exact q.elim
 .rcases h with rfl|rfl|rfl|rfl|rfl|rfl|rfl|rfl<;>exact q.elim
def ji(hJ:JS J)(hc:X.calm=QK)(f:BI)(h:f=.len\/f=.tuple\/f=.list\/f=.sum\/f=.abs\/f=.int\/f=.sorted\/f=.any):cz X (ZP f) (rL X J (WQ f)):=by
 intro Vu s σ H1 xs us Q I rs hh;obtain⟨F,H,F1,t,x,rfl,g,rt,p⟩:=Ia hh (bi1 h)
 rcases h with rfl|rfl|rfl|rfl|rfl|rfl|rfl|rfl
 .have key:∀b l,t.items=QJ (b,l)->(∀F' H' v,Grow J F H F' H'->Rr X.K H F' H' (.int l.length) v->Q v H')->QS (QU X.prog X.w) X.A (call (ZP .len) us) (EP X Vu σ Q) X.xe s:=λ b l e p=>by
   obtain⟨a,vs,rfl,r,q⟩:=rt.sq e;exact EQ Vu s σ H1 _ us Q I rs ⟨a,vs,O,tD q,by rw[<- r.length];exact p F1 H1 _ g rfl⟩
  cases t with
  |str z=>cases rt;exact ES Vu s σ H1 _ us Q I rs ⟨z,rfl,p.1,p.2 F1 H1 _ g rfl⟩
  |tup l|lst l|bor l|own l=>exact key _ _ rfl p
  |_=>exact p.elim
 .obtain⟨b,l,e,p⟩:=lA p;obtain⟨a,vs,rfl,r,q⟩:=rt.sq e;refine EU Vu s σ H1 _ us Q I rs ⟨a,vs,O,?_⟩
  rcases q with ⟨_,q⟩|⟨_,q⟩
  .exact .inr ⟨q,p F1 H1 _ g ⟨a,vs,O,q,r⟩⟩
  .exact .inl ⟨q,jR hJ g r p⟩
 .obtain⟨b,l,e,p⟩:=lA p;obtain⟨a,vs,rfl,r,q⟩:=rt.sq e;exact ET Vu s σ H1 _ us Q I rs ⟨a,vs,O,tD q,jg hJ g r p⟩
 .obtain⟨l,e,ns,rfl,p⟩:=jQ p;obtain⟨a,vs,rfl,r,q⟩:=rt.lq e;cases r.ints;exact FN hc Vu s σ H1 _ us Q I rs ⟨a,ns,O,q,p F1 H1 _ g rfl⟩
 .obtain⟨i,rfl,p⟩:=gX p;cases rt;exact Eg Vu s σ H1 _ us Q I rs ⟨i,O,p F1 H1 _ g rfl⟩
 .cases t with
  |int i=>cases rt;exact vW Vu s σ H1 _ us Q I rs (.inl ⟨i,rfl,p F1 H1 _ g rfl⟩)
  |bl i=>cases rt;exact vW Vu s σ H1 _ us Q I rs (.inr ⟨i,rfl,p F1 H1 _ g rfl⟩)
  |_=>exact p.elim
 .obtain⟨b,l,e,ns,rfl,n64,p⟩:=lA p;obtain⟨a,vs,rfl,r,q⟩:=rt.sq e;cases r.ints;exact GK Vu s σ H1 _ us Q I rs ⟨a,ns,O,tD q,n64,λ ns' p1 p2=>jg hJ g (RpL.ofInts ns') (p ns' p1 p2)⟩
 .obtain⟨l,e,ns,rfl,p⟩:=jQ p;obtain⟨a,vs,rfl,r,q⟩:=rt.lq e;cases r.bls;exact GQ hc Vu s σ H1 _ us Q I rs ⟨a,ns,O,q,p F1 H1 _ g rfl⟩
def Ib(hc:X.calm=QK):cz X (.builtin "max") (rL X J (WQ .max)):=by
 intro Vu s σ H1 xs us Q I rs h;obtain⟨F,H,F1,ts,g,r,p⟩:=h
 rcases ts with _|⟨t,_|⟨u,_|⟨w,r⟩⟩⟩
 .exact p.elim
 .obtain⟨x,rfl,rt⟩:=lD r;obtain⟨l,e,ns,rfl,l0,p⟩:=jQ p;obtain⟨a,vs,rfl,r,q⟩:=rt.lq e;cases r.ints;exact Ht hc Vu s σ H1 _ us Q I rs ⟨a,ns,O,q,l0,λ M m z=>p M m z F1 H1 _ g rfl⟩
 .obtain⟨x,y,rfl,rt,ru⟩:=tz r;obtain⟨i,j,rfl,rfl,p⟩:=eE p;cases rt;cases ru;exact Eh hc Vu s σ H1 _ us Q I rs ⟨i,j,O,p F1 H1 _ g rfl⟩
 .exact p.elim
def Ic(hc:X.calm=QK):cz X (.builtin "min") (rL X J (WQ .min)):=by
 intro Vu s σ H1 xs us Q I rs h;obtain⟨F,H,F1,ts,g,r,p⟩:=h
 rcases ts with _|⟨t,_|⟨u,_|⟨w,r⟩⟩⟩
 .exact p.elim
 .obtain⟨x,rfl,rt⟩:=lD r;obtain⟨l,e,ns,rfl,l0,p⟩:=jQ p;obtain⟨a,vs,rfl,r,q⟩:=rt.lq e;cases r.ints;exact Hs hc Vu s σ H1 _ us Q I rs ⟨a,ns,O,q,l0,λ M m z=>p M m z F1 H1 _ g rfl⟩
 .obtain⟨x,y,rfl,rt,ru⟩:=tz r;obtain⟨i,j,rfl,rfl,p⟩:=eE p;cases rt;cases ru;exact Ei hc Vu s σ H1 _ us Q I rs ⟨i,j,O,p F1 H1 _ g rfl⟩
 .exact p.elim
end
section
variable {K:FG}{J:Hp->Prop}
def Vw(K:FG)(F:Fz)(H:Hp)(t:TV)(x:V):Prop:=match t.items with
 |some (QK,l)=>∃a vs,x=.ref a/\SqT K H a vs/\RpL K F H l vs
 |some (QL,l)=>∃a vs,x=.ref a/\SqL K H a vs/\RpL K F H l vs
 |none=>Rp K F H t x
def Vw.l{t:TV}{l:List TV}(h:Vw K F H t x)(e:t.items=QJ (QL,l)):∃a vs,x=.ref a/\SqL K H a vs/\RpL K F H l vs:=by
 unfold Vw at h;rw[e] at h;exact h
def Vw.t{t:TV}{l:List TV}(h:Vw K F H t x)(e:t.items=QJ (QK,l)):∃a vs,x=.ref a/\SqT K H a vs/\RpL K F H l vs:=by
 unfold Vw at h;rw[e] at h;exact h
def Rr.vw{H F1 H1}(h:Rr K H F1 H1 t x):Vw K F1 H1 t x:=by
 unfold Vw
 cases e:t.items with
 |none=>cases t<;>first|exact h|cases e
 |some p=>
  obtain⟨b,l⟩:=p;obtain⟨a,vs,rfl,r,q⟩:=h.sq e;cases b
  .rcases q with ⟨z,_⟩|⟨_,q⟩
   .cases z
   .exact⟨a,vs,O,q,r⟩
  .rcases q with ⟨_,q⟩|⟨z,_⟩
   .exact⟨a,vs,O,q,r⟩
   .cases z
def Rp.vw{F1 H1}{t:TV}(h:Rp K F1 H1 t.fz x):Vw K F1 H1 t x:=by
 cases t with
 |bor l|own l|lst l=>obtain⟨a,vs,e,q,r⟩:=h;exact⟨a,vs,e,q.sq,r⟩
 |_=>exact h
structure VZ (K:FG)(J:Hp->Prop)(Jt:It)(its ts:List TV)(xs:List V):Prop where
 go:∀F H i,Wd J F H->RV (Vw K F H) ts xs->i<its.length->Jt.go i H
 stop:∀F H,Wd J F H->RV (Vw K F H) ts xs->Jt.stop its.length H
 yld:∀F H i x H',Wd J F H->RV (Vw K F H) ts xs->i<its.length->Jt.yld i H x H'->∃t,its[i]?=QJ t/\Grow J F H F H'/\Rp K F H' t x
def dQ{t:TV}{x:V}(h:RV (Vw K F H) [t] [x]):Vw K F H t x:=by cases h with|cons r _=>exact r
def gu{α:Type}{l:List α}{i:Nat}(h:i<l.length):∃x,l[i]?=QJ x:=⟨_,aL h⟩
theorem Ie{t:TV}{l:List TV}(e:t.items=QJ (QL,l)):VZ K J (YW K a) l [t] [.ref a] where
 go F H i w h hi:=by
  obtain⟨b,vs,eb,q,r⟩:=(dQ h).l e;cases eb;obtain⟨x,ex⟩:=gu (l:=vs) (by rw[<- r.length];exact hi);exact⟨vs,x,q,ex⟩
 stop F H w h:=by
  obtain⟨b,vs,eb,q,r⟩:=(dQ h).l e;cases eb;exact⟨vs,q,by rw[r.length];exact ak _⟩
 yld F H i x H' w h hi y:=by
  obtain⟨b,vs,eb,q,r⟩:=(dQ h).l e;cases eb;obtain⟨rfl,y⟩:=y;obtain⟨t,et⟩:=gu hi;obtain⟨v,ev,rv⟩:=r.get et;have:=y vs q;rw[ev] at this;cases this;exact⟨t,et,.refl w,rv⟩
theorem Ig{t:TV}{l:List TV}(e:t.items=QJ (QK,l)):VZ K J (YX K a) l [t] [.ref a] where
 go F H i w h hi:=by
  obtain⟨b,vs,eb,q,r⟩:=(dQ h).t e;cases eb;obtain⟨x,ex⟩:=gu (l:=vs) (by rw[<- r.length];exact hi);exact⟨vs,x,q,ex⟩
 stop F H w h:=by
  obtain⟨b,vs,eb,q,r⟩:=(dQ h).t e;cases eb;exact⟨vs,q,by rw[r.length];exact ak _⟩
 yld F H i x H' w h hi y:=by
  obtain⟨b,vs,eb,q,r⟩:=(dQ h).t e;cases eb;obtain⟨rfl,y⟩:=y;obtain⟨t,et⟩:=gu hi;obtain⟨v,ev,rv⟩:=r.get et;have:=y vs q;rw[ev] at this;cases this;exact⟨t,et,.refl w,rv⟩
theorem Ih(lo:Int)(n:Nat):VZ K J (YB lo n) ((QW n).map λ k=>.int (lo+(k:Nat))) ts xs where
 go F H i w h hi:=by show i<n;simpa using hi
 stop F H w h:=by show n<=_;simp
 yld F H i x H' w h hi y:=by
  obtain⟨rfl,rfl⟩:=y;have hi':i<n:=by simpa using hi
  exact⟨.int (lo+(i:Nat)),by rw[aW,iB hi'];rfl,.refl w,O⟩
theorem Ii(lo st:Int)(n:Nat):VZ K J (Zd lo st n) ((QW n).map λ k=>.int (lo+(k:Nat)*st)) ts xs where
 go F H i w h hi:=by show i<n;simpa using hi
 stop F H w h:=by show n<=_;simp
 yld F H i x H' w h hi y:=by
  obtain⟨rfl,rfl⟩:=y;have hi':i<n:=by simpa using hi
  exact⟨.int (lo+(i:Nat)*st),by rw[aW,iB hi'];rfl,.refl w,O⟩
def Ij{α:Type}{l:List α}{i:Nat}(h:i<l.length):l.reverse[i]?=l[l.length-1-i]?:=mY h
theorem Ik{t:TV}{l:List TV}{n:Nat}(e:t.items=QJ (QK,l))(hn:n=l.length):VZ K J (pq K a n) l.reverse [t] [.ref a] where
 go F H i w h hi:=by
  obtain⟨b,vs,eb,q,r⟩:=(dQ h).t e;cases eb;exact⟨vs,q,by rw[<- r.length,hn],by rw[lE] at hi;lia⟩
 stop F H w h:=by
  obtain⟨b,vs,eb,q,r⟩:=(dQ h).t e;cases eb;exact⟨vs,q,by rw[<- r.length,hn],by rw[lE,hn]⟩
 yld F H i x H' w h hi y:=by
  obtain⟨b,vs,eb,q,r⟩:=(dQ h).t e;cases eb;obtain⟨rfl,y⟩:=y;rw[lE] at hi;obtain⟨t,et⟩:=gu (l:=l) (i:=l.length-1-i) ca;obtain⟨v,ev,rv⟩:=r.get et;have:=y vs q;rw[hn,ev] at this;cases this;exact⟨t,by rw[Ij hi];exact et,.refl w,rv⟩
theorem Il(hJ:JS J){t:TV}{l:List TV}(e:t.items=QJ (QK,l)):VZ K J (YE K a) (l.mapIdx λ i x=>.tup [.int (i:Nat),x]) [t] [.ref a] where
 go F H i w h hi:=by
  obtain⟨b,vs,eb,q,r⟩:=(dQ h).t e;cases eb;obtain⟨x,ex⟩:=gu (l:=vs) (by rw[<- r.length];simpa using hi);exact⟨vs,x,q,ex⟩
 stop F H w h:=by
  obtain⟨b,vs,eb,q,r⟩:=(dQ h).t e;cases eb;exact⟨vs,q,by rw[<- r.length];simp⟩
 yld F H i x H' w h hi y:=by
  obtain⟨b,vs,eb,q,r⟩:=(dQ h).t e;cases eb;obtain⟨T,z,rfl,hT,rfl,y⟩:=y;obtain⟨t,et⟩:=gu (l:=l) (i:=i) (by simpa using hi);obtain⟨v,ev,rv⟩:=r.get et;have:=y vs q;rw[ev] at this;cases this;have g:Grow J F H F (VA H T (.tup [.int i,z])):=.new hJ w _ hT;exact⟨.tup [.int (i:Nat),t],by rw[pU,et];rfl,g,T,_,O,.of cK,_,_,O,O,_,_,O,rv.ke g.ke,O⟩
theorem Im(hJ:JS J){t:TV}{l:List TV}(e:t.items=QJ (QL,l)):VZ K J (pH K a) (l.mapIdx λ i x=>.tup [.int (i:Nat),x]) [t] [.ref a] where
 go F H i w h hi:=by
  obtain⟨b,vs,eb,q,r⟩:=(dQ h).l e;cases eb;obtain⟨x,ex⟩:=gu (l:=vs) (by rw[<- r.length];simpa using hi);exact⟨vs,x,q,ex⟩
 stop F H w h:=by
  obtain⟨b,vs,eb,q,r⟩:=(dQ h).l e;cases eb;exact⟨vs,q,by rw[<- r.length];simp⟩
 yld F H i x H' w h hi y:=by
  obtain⟨b,vs,eb,q,r⟩:=(dQ h).l e;cases eb;obtain⟨T,z,rfl,hT,rfl,y⟩:=y;obtain⟨t,et⟩:=gu (l:=l) (i:=i) (by simpa using hi);obtain⟨v,ev,rv⟩:=r.get et;have:=y vs q;rw[ev] at this;cases this;have g:Grow J F H F (VA H T (.tup [.int i,z])):=.new hJ w _ hT;exact⟨.tup [.int (i:Nat),t],by rw[pU,et];rfl,g,T,_,O,.of cK,_,_,O,O,_,_,O,rv.ke g.ke,O⟩
theorem Vw.b{t:TV}{b:Bool}{l:List TV}(h:Vw K F H t x)(e:t.items=QJ (b,l)):∃a vs,x=.ref a/\YF K b H a vs/\RpL K F H l vs:=by
 cases b
 .exact h.l e
 .exact h.t e
end
noncomputable def gl(nm:List (Str×Rb))(x:Str):Bool:=decide (nm.lookup x=QJ .globalImplicit)
noncomputable def vs(nm:List (Str×Rb))(x:Str):Bool:=decide (nm.lookup x=QJ .local) || decide (nm.lookup x=QJ .cell) || decide (nm.lookup x=QJ .free)
noncomputable def cf(nm:List (Str×Rb))(x:Str):Bool:=decide (nm.lookup x=QJ .cell) || decide (nm.lookup x=QJ .free)
noncomputable def Wt(x:Str):Bool:=!decide (x=("__debug__" : Str)) && !decide (x=("__classdict__" : Str)) && !decide (x=("__name__" : Str))
noncomputable def ZQ:TV->Const->Bool
 |.int i,.int j=>decide (i=j)
 |.str x,.str y=>decide (x=y)
 |.bl x,.bool y=>decide (x=y)
 |.non,.none=>QK
 |_,_=>QL
noncomputable def xF:Cd->Bool
 |.nil=>QK|_=>QL
noncomputable def lF:Cd->Bool
 |.c .non=>QK|_=>QL
noncomputable def aZ:Expr->Bool
 |.Starred ..=>QL|_=>QK
noncomputable def eG:Expr->Bool
 |.Set ..=>QL|_=>QK
noncomputable def jS:Expr->Bool
 |.Name ..=>QK|.Constant (.int _) _ _=>QK|.BinOp ..=>QK|.Subscript ..=>QK|.Call ..=>QK|.UnaryOp ..=>QK|_=>QL
noncomputable def ZR:BI->Option Str
 |.len=>QJ "len" |.tuple=>QJ "tuple" |.list=>QJ "list" |.sum=>QJ "sum" |.max=>QJ "max" |.min=>QJ "min" |.abs=>QJ "abs" |.int=>QJ "int"
 |.sorted=>QJ "sorted" |.any=>QJ "any" |_=>QM
noncomputable def bS(e:Expr)(k:Str->Pos->Bool):Bool:=match e with|.Name x p=>k x p|_=>QL
@[elab_as_elim] theorem bC{motive:Expr->Prop}{e:Expr}{k:Str->Pos->Bool}(h:bS e k=QK)(f:∀x p,k x p=QK->motive (.Name x p)):motive e:=by cases e<;>first|exact f _ _ h|exact QN h
def Io(h:bS e k=QK):∃x p,e=.Name x p/\k x p=QK:=by cases e<;>first|exact⟨_,_,rfl,h⟩|exact QN h
noncomputable def xG(e:Expr)(k:Const->Nat->Pos->Bool):Bool:=match e with|.Constant x p q=>k x p q|_=>QL
@[elab_as_elim] theorem Ip{motive:Expr->Prop}{e:Expr}{k:Const->Nat->Pos->Bool}(h:xG e k=QK)(f:∀x p q,k x p q=QK->motive (.Constant x p q)):motive e:=by cases e<;>first|exact f _ _ _ h|exact QN h
noncomputable def xH(e:Expr)(k:Expr->Tu->Expr->Pos->Bool):Bool:=match e with|.BinOp x p q r=>k x p q r|_=>QL
@[elab_as_elim] theorem Iq{motive:Expr->Prop}{e:Expr}{k:Expr->Tu->Expr->Pos->Bool}(h:xH e k=QK)(f:∀x p q r,k x p q r=QK->motive (.BinOp x p q r)):motive e:=by cases e<;>first|exact f _ _ _ _ h|exact QN h
noncomputable def Zg(e:Expr)(k:UnaryOp->Expr->Pos->Bool):Bool:=match e with|.UnaryOp x p q=>k x p q|_=>QL
@[elab_as_elim] theorem xI{motive:Expr->Prop}{e:Expr}{k:UnaryOp->Expr->Pos->Bool}(h:Zg e k=QK)(f:∀x p q,k x p q=QK->motive (.UnaryOp x p q)):motive e:=by cases e<;>first|exact f _ _ _ h|exact QN h
noncomputable def tE(e:Expr)(k:Expr->List SK->List Expr->Pos->Bool):Bool:=match e with|.Compare x p q r=>k x p q r|_=>QL
@[elab_as_elim] theorem xJ{motive:Expr->Prop}{e:Expr}{k:Expr->List SK->List Expr->Pos->Bool}(h:tE e k=QK)(f:∀x p q r,k x p q r=QK->motive (.Compare x p q r)):motive e:=by cases e<;>first|exact f _ _ _ _ h|exact QN h
noncomputable def YJ(e:Expr)(k:Uh->List Expr->Pos->Bool):Bool:=match e with|.BoolOp x p q=>k x p q|_=>QL
@[elab_as_elim] theorem xK{motive:Expr->Prop}{e:Expr}{k:Uh->List Expr->Pos->Bool}(h:YJ e k=QK)(f:∀x p q,k x p q=QK->motive (.BoolOp x p q)):motive e:=by cases e<;>first|exact f _ _ _ h|exact QN h
def xL(h:YJ e k=QK):∃x p q,e=.BoolOp x p q/\k x p q=QK:=by cases e<;>first|exact⟨_,_,_,rfl,h⟩|exact QN h
noncomputable def ZS(e:Expr)(k:Expr->Expr->Expr->Pos->Bool):Bool:=match e with|.IfExp x p q r=>k x p q r|_=>QL
@[elab_as_elim] theorem Ir{motive:Expr->Prop}{e:Expr}{k:Expr->Expr->Expr->Pos->Bool}(h:ZS e k=QK)(f:∀x p q r,k x p q r=QK->motive (.IfExp x p q r)):motive e:=by cases e<;>first|exact f _ _ _ _ h|exact QN h
noncomputable def ny(e:Expr)(k:List Expr->Nat->Pos->Bool):Bool:=match e with|.Tuple x p q=>k x p q|_=>QL
@[elab_as_elim] theorem pV{motive:Expr->Prop}{e:Expr}{k:List Expr->Nat->Pos->Bool}(h:ny e k=QK)(f:∀x p q,k x p q=QK->motive (.Tuple x p q)):motive e:=by cases e<;>first|exact f _ _ _ h|exact QN h
noncomputable def xM(e:Expr)(k:List Expr->Pos->Bool):Bool:=match e with|.List x p=>k x p|_=>QL
@[elab_as_elim] theorem xN{motive:Expr->Prop}{e:Expr}{k:List Expr->Pos->Bool}(h:xM e k=QK)(f:∀x p,k x p=QK->motive (.List x p)):motive e:=by cases e<;>first|exact f _ _ h|exact QN h
noncomputable def lG(e:Expr)(k:Expr->Expr->Pos->Bool):Bool:=match e with|.Subscript x p q=>k x p q|_=>QL
@[elab_as_elim] theorem nz{motive:Expr->Prop}{e:Expr}{k:Expr->Expr->Pos->Bool}(h:lG e k=QK)(f:∀x p q,k x p q=QK->motive (.Subscript x p q)):motive e:=by cases e<;>first|exact f _ _ _ h|exact QN h
noncomputable def xO(e:Expr)(k:Option Expr->Option Expr->Option Expr->Pos->Bool):Bool:=match e with|.Slice x p q r=>k x p q r|_=>QL
@[elab_as_elim] theorem Iu{motive:Expr->Prop}{e:Expr}{k:Option Expr->Option Expr->Option Expr->Pos->Bool}(h:xO e k=QK)(f:∀x p q r,k x p q r=QK->motive (.Slice x p q r)):motive e:=by cases e<;>first|exact f _ _ _ _ h|exact QN h
noncomputable def dJ(e:Expr)(k:Expr->List Expr->List Tb->Pos->Bool):Bool:=match e with|.Call x p q r=>k x p q r|_=>QL
@[elab_as_elim] theorem dR{motive:Expr->Prop}{e:Expr}{k:Expr->List Expr->List Tb->Pos->Bool}(h:dJ e k=QK)(f:∀x p q r,k x p q r=QK->motive (.Call x p q r)):motive e:=by cases e<;>first|exact f _ _ _ _ h|exact QN h
noncomputable def pW(e:Expr)(k:Expr->Str->Pos->Bool):Bool:=match e with|.Attribute x p q=>k x p q|_=>QL
@[elab_as_elim] theorem tF{motive:Expr->Prop}{e:Expr}{k:Expr->Str->Pos->Bool}(h:pW e k=QK)(f:∀x p q,k x p q=QK->motive (.Attribute x p q)):motive e:=by cases e<;>first|exact f _ _ _ h|exact QN h
noncomputable def Zh(e:Expr)(k:Expr->List Comprehension->Scope->Pos->Bool):Bool:=match e with|.ListComp x p q r=>k x p q r|_=>QL
def nA(h:Zh e k=QK):∃x p q r,e=.ListComp x p q r/\k x p q r=QK:=by cases e<;>first|exact⟨_,_,_,_,rfl,h⟩|exact QN h
noncomputable def c1{α:Type}(l:List α)(k:α->Bool):Bool:=match l with|[x]=>k x|_=>QL
noncomputable def c2{α:Type}(l:List α)(k:α->α->Bool):Bool:=match l with|[x,y]=>k x y|_=>QL
noncomputable def c4{α:Type}(l:List α)(k:α->α->α->α->Bool):Bool:=match l with|[x,y,z,w]=>k x y z w|_=>QL
noncomputable def c3{α:Type}(l:List α)(k:α->α->α->Bool):Bool:=match l with|[x,y,z]=>k x y z|_=>QL
noncomputable def cC{α:Type}(l:List α)(k:α->List α->Bool):Bool:=match l with|x::r=>k x r|_=>QL
section
variable {α:Type}{l:List α}{a b c d e f g h i:Bool}
@[elab_as_elim] theorem fP{motive:List α->Prop}{k:α->Bool}(h:c1 l k=QK)(f:∀x,k x=QK->motive ([x])):motive l:=by rcases l with _|⟨x,_|⟨_,_⟩⟩<;>first|exact f _ h|exact QN h
def jm{k:α->Bool}(h:c1 l k=QK):∃x,l=[x]/\k x=QK:=by rcases l with _|⟨x,_|⟨_,_⟩⟩<;>first|exact⟨_,rfl,h⟩|exact QN h
@[elab_as_elim] theorem nC{motive:List α->Prop}{k:α->α->Bool}(h:c2 l k=QK)(f:∀x y,k x y=QK->motive ([x,y])):motive l:=by rcases l with _|⟨x,_|⟨y,_|⟨_,_⟩⟩⟩<;>first|exact f _ _ h|exact QN h
@[elab_as_elim] theorem Iv{motive:List α->Prop}{k:α->α->α->α->Bool}(h:c4 l k=QK)(f:∀x y z w,k x y z w=QK->motive ([x,y,z,w])):motive l:=by
 match l,h with
 |[x,y,z,w],h=>exact f x y z w h
@[elab_as_elim] theorem Iw{motive:List α->Prop}{k:α->α->α->Bool}(h:c3 l k=QK)(f:∀x y z,k x y z=QK->motive ([x,y,z])):motive l:=by rcases l with _|⟨x,_|⟨y,_|⟨z,_|⟨_,_⟩⟩⟩⟩<;>first|exact f _ _ _ h|exact QN h
@[elab_as_elim] theorem pX{motive:List α->Prop}{k:α->List α->Bool}(h:cC l k=QK)(f:∀x r,k x r=QK->motive (x::r)):motive l:=by rcases l with _|⟨x,r⟩<;>first|exact f _ _ h|exact QN h
@[elab_as_elim] theorem dC{motive:List α->Prop}(h:l.isEmpty=QK)(f:motive []):motive l:=by cases l<;>first|exact f|exact QN h
def an{a b:Bool}(h:(a&&b)=QK):a=QK/\b=QK:=nD.mp h
def a3(z:(a&&b&&c)=QK):a=QK/\b=QK/\c=QK:=let ⟨x,y⟩:=an z;⟨(an x).1,(an x).2,y⟩
def a4(z:(a&&b&&c&&d)=QK):a=QK/\b=QK/\c=QK/\d=QK:=let ⟨x,y⟩:=an z;let ⟨p,q,r⟩:=a3 x;⟨p,q,r,y⟩
def a5(z:(a&&b&&c&&d&&e)=QK):a=QK/\b=QK/\c=QK/\d=QK/\e=QK:=let ⟨x,y⟩:=an z;let ⟨p,q,r,s⟩:=a4 x;⟨p,q,r,s,y⟩
def a6(z:(a&&b&&c&&d&&e&&f)=QK):a=QK/\b=QK/\c=QK/\d=QK/\e=QK/\f=QK:=let ⟨x,y⟩:=an z;let ⟨p,q,r,s,t⟩:=a5 x;⟨p,q,r,s,t,y⟩
def a7(z:(a&&b&&c&&d&&e&&f&&g)=QK):a=QK/\b=QK/\c=QK/\d=QK/\e=QK/\f=QK/\g=QK:=let ⟨x,y⟩:=an z;let ⟨p,q,r,s,t,u⟩:=a6 x;⟨p,q,r,s,t,u,y⟩
def a8(z:(a&&b&&c&&d&&e&&f&&g&&h)=QK):a=QK/\b=QK/\c=QK/\d=QK/\e=QK/\f=QK/\g=QK/\h=QK:=let ⟨x,y⟩:=an z;let ⟨p,q,r,s,t,u,v⟩:=a7 x;⟨p,q,r,s,t,u,v,y⟩
def a9(z:(a&&b&&c&&d&&e&&f&&g&&h&&i)=QK):a=QK/\b=QK/\c=QK/\d=QK/\e=QK/\f=QK/\g=QK/\h=QK/\i=QK:=let ⟨x,y⟩:=an z;let ⟨p,q,r,s,t,u,v,w⟩:=a8 x;⟨p,q,r,s,t,u,v,w,y⟩
end
def XA(cells:Bool)(N:List Str)(nm:List (Str×Rb))(is:List Nat)(tg:Expr):Bool :=
 let one (i:Nat) (e:Expr):Bool:=bS e λ x _=>decide (N[i]?=QJ x)&&(decide (nm.lookup x=QJ .local) || (cells&&decide (nm.lookup x=QJ .cell)))
 match is with
 |[i]=>one i tg
 |[i,j]=>ny tg λ es _ _=>c2 es λ a b=>one i a&&one j b
 |[i,j,k]=>ny tg λ es _ _=>c3 es λ a b c=>one i a&&one j b&&one k c
 |[i,j,k,m]=>ny tg λ es _ _=>c4 es λ a b c d=>one i a&&one j b&&one k c&&one m d
 |_=>QL
noncomputable def Zi:Expr->Bool
 |.BoolOp ..=>QL|.UnaryOp .Not ..=>QL|.Compare ..=>QL|.IfExp ..=>QL|.NamedExpr ..=>QL|.Constant ..=>QL|_=>QK
def tB':Cd->Expr->Bool
 |.and ..,_=>QK|.or ..,_=>QK|.not ..,_=>QK|.cmp ..,_=>QK|.cm2 ..,_=>QK
 |_,e=>Zi e
noncomputable def lH:Expr->Bool
 |.Tuple ..=>QK|_=>QL
noncomputable def XO:IK->Option (Str×Nat)
 |.rng=>QJ ("range",0)|.rng3=>QJ ("range",2)|.enum _=>QJ ("enumerate",0)|.rev QK=>QJ ("reversed",0)|_=>QM
noncomputable def YK:IK->Bool
 |.zip _ _=>QK|.zip3=>QK|.enum _=>QK|_=>QL
noncomputable def dq(nm names:List (Str×Rb)):List (Str×Rb):=names.map λ(x,k)=>if (k == .free&&nm.lookup x == QJ .cell) then (x,.cell) else (x,k)
def XY(N:List Str)(nm:List (Str×Rb))(sc:Scope)(own fv:List Str)(js:List Nat):Bool :=
 decide (sc.kind=.function)&&sc.names.all (λ y=>!decide (y.2=.cell))&&sc.names.all (λ y=>!decide (y.2=.local) || decide (sc.names.lookup y.1=QJ .local))&&sc.names.all (λ y=>!decide (y.2=.free) || cf nm y.1)
  && decide (js.length=fv.length)&&(fv.zip js).all (λ p=>decide (N[p.2]?=QJ p.1)&&cf nm p.1&&cf (dq nm sc.names) p.1)&&decide (own++fv).Nodup
section
variable (fs gs:List Str)
mutual
def ck:Cd->List Str->List (Str×Rb)->Expr->Bool
 |.v i,N,nm,e=>bS e λ x _=>decide (N[i]?=QJ x)&&vs nm x&&Wt x
 |.c t,_,_,e=>xG e λ k _ _=>ZQ t k
 |.g k,_,nm,e=>bS e λ x _=>decide (gs[k]?=QJ x)&&gl nm x&&Wt x
 |.bin o a b,N,nm,e=>xH e λ l op r _=>decide (op=o)&&ck a N nm l&&ck b N nm r
 |.neg a,N,nm,e=>Zg e λ op x _=>decide (op=.USub)&&ck a N nm x
 |.not a,N,nm,e=>Zg e λ op x _=>decide (op=.Not)&&tB' a x&&ck a N nm x
 |.cmp o a b,N,nm,e=>tE e λ l os rs _=>c1 os λ op=>c1 rs λ r=>decide (op=o)&&ck a N nm l&&ck b N nm r&&eG r
 |.cm2 o o' a b c,N,nm,e=>tE e λ l os rs _=>c2 os λ op op'=>c2 rs λ r w=>decide (op=o)&&decide (op'=o')&&ck a N nm l&&ck b N nm r&&ck c N nm w&&eG w
 | .and a b,N,nm,e=>YJ e λ op es p=>decide (op=.And) && (match es with
   |[x,y]=>tB' a x&&tB' b y&&ck a N nm x&&ck b N nm y
   |x::y::z::r=>tB' a x&&ck a N nm x&&ck b N nm (.BoolOp .And (y::z::r) p)
   |_=>QL)
 | .or a b,N,nm,e=>YJ e λ op es p=>decide (op=.Or) && (match es with
   |[x,y]=>tB' a x&&tB' b y&&ck a N nm x&&ck b N nm y
   |x::y::z::r=>tB' a x&&ck a N nm x&&ck b N nm (.BoolOp .Or (y::z::r) p)
   |_=>QL)
 |.ite c a b,N,nm,e=>ZS e λ x y z _=>tB' c x&&ck c N nm x&&ck a N nm y&&ck b N nm z
 |.tup l,N,nm,e=>ny e λ es _ _=>ckL l N nm es
 |.lst l,N,nm,e=>xM e λ es _=>ckL l N nm es
 |.ix a b,N,nm,e=>lG e λ x y _=>jS y&&ck a N nm x&&ck b N nm y
 |.sl a lo hi,N,nm,e=>lG e λ x y _=>xO y λ l h s _=>s.isNone&&ck a N nm x&&(match l with|none=>lF lo|some l=>ck lo N nm l && !lF lo)&&(match h with|none=>lF hi|some h=>ck hi N nm h && !lF hi)
 |.call f l,N,nm,e=>dJ e λ g as w _=>bS g λ x _=>cC as λ a es=>w.isEmpty&&decide (fs[f]?=QJ x)&&gl nm x&&Wt x&&ckL l N nm (a::es)
 |.bi f l,N,nm,e=>dJ e λ g as w _=>bS g λ x _=>cC as λ a es=>w.isEmpty&&decide (ZR f=QJ x)&&gl nm x&&ckL l N nm (a::es)
 |.mxl a b,N,nm,e=>dJ e λ g as w _=>bS g λ x _=>c2 as λ y z=>c1 w λ k=>bS k.value λ u _=>decide (x="max")&&gl nm x&&decide (k.arg=QJ (Rh "key"))&&decide (u="len")&&gl nm u&&aZ y&&aZ z&&ck a N nm y&&ck b N nm z
 |.trev _ a,N,nm,e=>dJ e λ g as w _=>bS g λ x _=>c1 as λ u=>dJ u λ g' as' w' _=>bS g' λ y _=>c1 as' λ z=>w.isEmpty&&w'.isEmpty&&decide (x="tuple")&&gl nm x&&decide (y="reversed")&&gl nm y&&aZ z&&ck a N nm z
 |.lrng k a,N,nm,e=>dJ e λ g as w _=>bS g λ x _=>c1 as λ u=>dJ u λ g' as' w' _=>bS g' λ y _=>c1 as' λ z=>(w.isEmpty && !k)&&w'.isEmpty&&decide (x=if k=QK then "tuple" else "list")&&gl nm x&&decide (y="range")&&gl nm y&&aZ z&&ck a N nm z
 |.ap i f l,N,nm,e=>dJ e λ g as w _=>bS g λ x _=>cC as λ a es=>w.isEmpty&&decide (f=fs.length)&&decide (N[i]?=QJ x)&&vs nm x&&Wt x&&ckL l N nm (a::es)
 |.cf i f x c,N,nm,e=>dJ e λ g as w _=>bS g λ y _=>c2 as λ u v=>bS v λ z _=>(w.isEmpty&&decide (f=fs.length)&&decide (y=x)&&gl nm y&&Wt y)&&decide (N[i]?=QJ z)&&vs nm z&&Wt z&&aZ u&&ck c N nm u
 |.dk k a,N,nm,e=>lG e λ o y _=>bS o λ x _=>decide (gs[k]?=QJ x)&&gl nm x&&Wt x&&jS y&&ck a N nm y
 |.comp own fv js tg k it e,N,nm,x=>Zh x λ elt gn sc _=>c1 gn λ g=>g.ifs.isEmpty&&decide (g.is_async=0)&&XY N nm sc own fv js&&ckI it k g.target N nm g.iter&&XA QL (own++fv) (dq nm sc.names) tg g.target&&tg.all (λ i=>decide (i<own.length))&&ck e (own++fv) (dq nm sc.names) elt
 |.compI own fv js tg k it c e,N,nm,x=>Zh x λ elt gn sc _=>c1 gn λ g=>c1 g.ifs λ cnd=>decide (g.is_async=0)&&XY N nm sc own fv js&&ckI it k g.target N nm g.iter&&XA QL (own++fv) (dq nm sc.names) tg g.target&&tg.all (λ i=>decide (i<own.length))&&tB' c cnd&&ck c (own++fv) (dq nm sc.names) cnd&&ck e (own++fv) (dq nm sc.names) elt
 |_,_,_,_=>QL
def ckL:Cd->List Str->List (Str×Rb)->List Expr->Bool
 |.nil,_,_,es=>(match es with|[]=>QK|_=>QL)
 |.cons a r,N,nm,es=>(match es with|e::es=>aZ e&&ck a N nm e&&ckL r N nm es|[]=>QL)
 |_,_,_,_=>QL
def ckI:Cd->IK->Expr->List Str->List (Str×Rb)->Expr->Bool
 | .cons a r,k,tg,N,nm,it=>(match k with
   |.seq=>eG it&&xF r&&ck a N nm it
   |.str=>QL
   |k=>dJ it λ g as w _=>bS g λ x _=>cC as λ e es=>w.isEmpty&&decide (XO k=QJ (x,es.length))&&gl nm x&&(!YK k || lH tg)&&aZ e&&ck a N nm e&&ckL r N nm es)
 |_,_,_,_,_,_=>QL
end
end
section
variable {K:FG}{J:Hp->Prop}
def Sr(K:FG)(F:Fz)(H:Hp)(t:TV)(v:V):Prop:=match t with
 |.own l=>Rr K H F H (.bor l) v
 |.obj (.dct l)=>∃a,v=.ref a/\H a=QJ (dcO l)
 |.obj (.fn a)=>v=.ref a/\FnV H a
 |.obj (.lls as ll)=>∃a0,v=.ref a0/\Ls K F H a0 (as.map V.ref)/\as.Nodup/\as.length=ll.length/\∀(j:Nat) a ks,as[j]?=QJ a->ll[j]?=QJ ks->¬F a/\∃us,H a=QJ (.lst us)/\RpL K F H (ks.map kT) us
 |t=>Rp K F H t v
structure EV (K:FG)(J:Hp->Prop)(F:Fz)(H:Hp)(σ:St)(ρ:En):Prop where
 w:Wd J F H
 sl:∀(i:Nat) t,ρ[i]?=QJ (QJ t)->∃v,σ[i]?=QJ (QJ v)/\Sr K F H t v
def Sr.grow(g:Grow J F H F' H')(h:Sr K F H t v):Sr K F' H' t v:=by
 cases t with
 |own l=>exact Rr.grow (t:=.bor l) (H:=H') g h
 |obj o=>
  cases o with
  |dct l=>obtain⟨a,e,q⟩:=h;exact⟨a,e,g.sm _ _ (λ ps z=>by cases z) q⟩
  |fn a=>obtain⟨e,φ,q,k⟩:=h;exact⟨e,φ,g.sm _ _ (λ ps z=>by cases z) q,k⟩
  |lls as ll=>
   obtain⟨a0,e,l0,nd,hl,h⟩:=h;refine⟨a0,e,g.ke.l _ _ l0,nd,hl,λ j a ks e1 e2=>?_⟩;obtain⟨nf,us,q,r⟩:=h j a ks e1 e2;refine⟨λ z=>?_,us,g.sm _ _ (λ ps z=>by cases z) q,r.ke g.ke⟩
   rcases g.nw _ z with y|y
   .exact nf y
   .rw[q] at y;cases y
 |_=>exact Rp.ke g.ke h
def EV.grow(e:EV K J F H σ ρ)(g:Grow J F H F' H'):EV K J F' H' σ ρ :=
 ⟨g.w,λ i t h=>let ⟨v,q,r⟩:=e.sl i t h;⟨v,q,r.grow g⟩⟩
def Wz(K:FG)(J:Hp->Prop)(S:Vv):Sp:=λ vs H Q _=>∃F ts P,Wd J F H/\RpL K F H ts vs/\S ts P/\∀t,P t->∀F' H' v,Grow J F H F' H'->Rp K F' H' t v->Q v H'
theorem iC(g:Grow J F H F1 H1):∀ {ts:List TV}{vs:List V},RrL K H F1 H1 ts vs->ts.all TV.nb=QK->∃F2,Grow J F H F2 H1/\(∀a,F1 a->F2 a)/\RpL K F2 H1 (ts.map TV.fz) vs
 |[],_,h,_=>by cases h;exact⟨F1,g,λ _ f=>f,rfl⟩
 |t::ts,_,h,n=>by
  cases h with
  |cons r q=>
   rw[dh,bj] at n;obtain⟨F2,g2,u2,r2⟩:=iC g q n.2
   cases t with
   |own l=>
    obtain⟨a,vs,e,na,f,qa,ra⟩:=r;refine⟨λ b=>F2 b\/b=a,g2.frz na (by rw[qa];simp),λ b f=>.inl (u2 b f),_,_,O,⟨a,vs,e,.inl ⟨.inr rfl,.of qa⟩,ra.ke (.up λ b f=>.inl (u2 b f))⟩,r2.ke (.up λ b f=>.inl f)⟩
   |bor l=>cases n.1
   |_=>exact⟨F2,g2,u2,_,_,rfl,Rp.ke (.up u2) r,r2⟩
mutual
theorem LF.rp:∀ {t:TV}{v:V},LF t->Rp K F H t v->Rp K F' H t v
 |.non,_,_,h=>h
 |.bl _,_,_,h=>h
 |.int _,_,_,h=>h
 |.str _,_,_,h=>h
 |.tup l,_,f,⟨a,vs,e,q,r⟩=>⟨a,vs,e,q,LF.rpl (λ x hx=>by simp only[LF] at f;exact f x hx) r⟩
 |.lst _,_,f,_=>by simp[LF] at f
 |.bor _,_,f,_=>by simp[LF] at f
 |.own _,_,f,_=>by simp[LF] at f
 |.obj _,_,f,_=>by simp[LF] at f
theorem LF.rpl:∀ {ts:List TV}{vs:List V},(∀x∈ts,LF x)->RpL K F H ts vs->RpL K F' H ts vs
 |[],_,_,h=>h
 |t::ts,_,f,⟨v,r,e,h1,h2⟩=>⟨v,r,e,LF.rp (f t pv) h1,LF.rpl (λ x hx=>f x (by simp[hx])) h2⟩
end
end
noncomputable def BN:List Str:=["len","tuple","list","sum","max","min","abs","int","str","sorted","any","all","isinstance","bool","range","zip","enumerate","reversed","set","dict"]
def ZT(P:QX)(w:QY)(K:FG)(mg:SV)(x:Str)(l:List TV):Prop:=∃d kvs,mg x=QJ (.ref d)/\KTab P w K d kvs/\∀y t,Ym l y=QJ t->∃a,kvs.lookup y=QJ a/\∀F H,Rp K F H t (.ref a)
def Ix(K:FG)(J:Hp->Prop)(S:Vv):Sp:=λ vs H Q _=>∃F a ts vs' P,vs=vs'++[.ref a]/\Wd J F H/\FnV H a/\RpL K F H ts vs'/\S (.obj (.fn a)::ts) P/\∀t,P t->∀F' H' v,Grow J F H F' H'->Rp K F' H' t v->Q v H'
structure Zj (P:QX)(w:QY)(K:FG)(mg:SV)(base:Re)(A:QZ)(J:Hp->Prop)(S:Vv):Prop where
 ap:∃k,Room k A/\∀a ts vs P' F H Q,Wd J F H->FnV H a->RpL K F H ts vs->S (.str "" :: .obj (.fn a)::ts) P'->(∀t,P' t->∀F' H' v,Grow J F H F' H'->Rp K F' H' t v->Q v H')->pL P w K mg base k a vs H Q
 cf:∀x,S [.str x] (λ _=>True)->∃k ps,Room k A/\Callee P w K mg base VI k x ps (Ix K J λ l=>S (.str x::l))
structure VM (X:Cx)(J:Hp->Prop)(FT:List Vv)(GT:List TV)(fs gs:List Str):Prop where
 calm:X.calm=QK
 units:X.A.units+120<RR
 hJ:JS J
 fns:∀(f:Nat) x S,fs[f]?=QJ x->FT[f]?=QJ S->∃k ps,Room k X.A/\Callee X.prog X.w X.K X.mg X.base VI k x ps (Wz X.K J S)
 glb:∀(g:Nat) x t,gs[g]?=QJ x->GT[g]?=QJ t->t.nb=QK->∃v u,X.mg x=QJ u/\RelV v u/\∀F H,Rp X.K F H t v
 dic:∀(g:Nat) x l,gs[g]?=QJ x->GT[g]?=QJ (.bor l)->ZT X.prog X.w X.K X.mg x l
 blt:∀x∈BN,X.mg x=QM
 len:fs.length<=FT.length
 hof:∀S,FT[fs.length]?=QJ S->Zj X.prog X.w X.K X.mg X.base X.A J S
def xP{K:FG}{FT:List Vv}{fs:List Str}(h:fs.length=FT.length):∀S,FT[fs.length]?=QJ S->Zj P w K mg base A J S:=λ S e=>by rw[h,eI (ak _)] at e;cases e
structure XS (X:Cx)(N:List Str)(nm:List (Str×Rb)):Prop where
 N:X.N=N
 nm:X.env.scope.names=nm
section
variable {J:Hp->Prop}{FT:List Vv}{GT:List TV}{fs gs:List Str}
def rE(K:FG)(J:Hp->Prop)(FT:List Vv)(GT:List TV)(c:Cd):TE:=λ σ H Q=>∃F ρ,EV K J F H σ ρ/\wE FT GT c ρ λ t=>∀F' H' v,Grow J F H F' H'->Rr K H F' H' t v->Q v H'
def rT(K:FG)(J:Hp->Prop)(FT:List Vv)(GT:List TV)(c:Cd):TT:=λ σ H Q=>∃F ρ,EV K J F H σ ρ/\wE FT GT c ρ λ t=>b1 t λ b=>∀F' H',Grow J F H F' H'->Q b H'
def rA(K:FG)(J:Hp->Prop)(FT:List Vv)(GT:List TV)(c:Cd):TA:=λ σ H Q=>∃F ρ,EV K J F H σ ρ/\wL FT GT c ρ λ ts=>∀F' H' vs,Grow J F H F' H'->RrL K H F' H' ts vs->Q vs H'
def PE.imp{t t':TE}(h:PE X e t)(i:∀σ H Q,t' σ H Q->t σ H Q):PE X e t':=λ Vu s σ H Q I q=>h Vu s σ H Q I (i σ H Q q)
def PT.imp{t t':TT}(h:PT X e t)(i:∀σ H Q,t' σ H Q->t σ H Q):PT X e t':=λ Vu s σ H Q I q=>h Vu s σ H Q I (i σ H Q q)
def PA.imp{t t':TA}(h:PA X e t)(i:∀σ H Q,t' σ H Q->t σ H Q):PA X e t':=λ pos Vu s σ H Q I q=>h pos Vu s σ H Q I (i σ H Q q)
def bz{es:List Expr}(h:aZ e=QK):Rf (e::es) env=(QL,eval e env)::Rf es env:=by cases e<;>first|rfl|cases h
theorem tG:∀ {es:List Expr}{env:Env},es.all aZ=QK->(Rf es env).any (·.1)=QL
 |[],_,_=>rfl
 |e::es,env,h=>by
  rw[dh,bj] at h;rw[bz h.1,mP,tG h.2];rfl
def gY{es:List Expr}(h:es.all aZ=QK):(RQ pos (Rf es env)).any (·.1)=QL:=by
 unfold RQ;rw[List.any_map];exact tG h
def WR(xs:XS X N nm)(h:gl nm x=QK):Gl X x:=by
 show X.env.scope.names.lookup x=_;rw[xs.nm];exact aD h
def jn(xs:XS X N nm)(h:vs nm x=QK):Yh X.env.scope x:=by
 unfold vs at h;rw[jo,jo] at h;unfold Yh;rw[xs.nm]
 rcases h with (h|h)|h
 .exact .inl (aD h)
 .exact .inr (.inl (aD h))
 .exact .inr (.inr (aD h))
def eU(h:Wt x=QK):(x == ("__debug__" : Str))=QL/\(x == ("__classdict__" : Str))=QL/\x ≠ "__name__" := by
 simp only[Wt,bj,tH,xQ] at h;exact⟨by simpa using h.1.1,by simpa using h.1.2,h.2⟩
end
theorem tJ{env:Env}:∀(l:List (Str×Rb)) (cs:LA),(∀x,(x,Rv)∈l->∃c,env.cells.lookup x=QJ c) ->
  ∃cl,(forIn l cs (λ(x:Str × Rb) (r:LA)=>(match x with
   |(name,kind)=>if (kind == Rv)=QK then (do let y <- TD env name;Rj (Sz ((name,y)::r))) else Rj (Sz r):Sem (ForInStep (LA)))):Sem (LA))=Rj cl /\
   (∀x c,cl.lookup x=QJ c->cs.lookup x=QJ c\/env.cells.lookup x=QJ c)/\(∀x,(x,Rv)∈l\/(∃c,cs.lookup x=QJ c)->∃c,cl.lookup x=QJ c)
 | [],cs,_=>⟨cs,rfl,λ _ _ h=>.inl h,λ x h=>by
  rcases h with h|h
  .cases h
  .exact h⟩
 |(n,k)::l,cs,h=>by
  by_cases hk:k=.free
  .subst hk;obtain⟨c,hc⟩:=h n pv;obtain⟨cl,e,q1,q2⟩:=tJ l ((n,c)::cs) λ x hx=>h x (by simp[hx]);refine⟨cl,?_,λ x d hx=>?_,λ x hx=>?_⟩
   .rw[ng];have:TD env n=Rj c:=by unfold TD;rw[hc]
    simp only[this,kU,gN,s1x];exact e
   .rcases q1 x d hx with z|z
    .rw[eh] at z;split at z
     .rename_i en;have:x=n:=by simpa using en
      subst this;cases z;exact .inr hc
     .exact .inl z
    .exact .inr z
   .refine q2 x ?_
    rcases hx with hx|⟨d,hd⟩
    .rcases aH.mp hx with z|z
     .cases z;exact .inr ⟨c,by simp[eh]⟩
     .exact .inl z
    .by_cases en:x=n
     .subst en;exact .inr ⟨c,by simp[eh]⟩
     .have:(x == n)=QL:=by simpa using en
      exact .inr ⟨d,by rw[eh,this];exact hd⟩
  .obtain⟨cl,e,q1,q2⟩:=tJ l cs λ x hx=>h x (by simp[hx]);refine⟨cl,?_,q1,λ x hx=>q2 x ?_⟩
   .rw[ng];have:(k == Rv)=QL:=by simpa using hk
    simp only[this,nh,XJ,s1x];exact e
   .rcases hx with hx|hx
    .rcases aH.mp hx with z|z
     .cases z;exact m8 rfl hk
     .exact .inl z
    .exact .inr hx
theorem Iy{scope:Scope}{env:Env}(h:∀x,(x,Rv)∈scope.names->∃c,env.cells.lookup x=QJ c) :
  ∃cl,RZ scope env=Rj cl/\(∀x c,cl.lookup x=QJ c->env.cells.lookup x=QJ c)/\∀x,(x,Rv)∈scope.names->∃c,cl.lookup x=QJ c:=by
 obtain⟨cl,e,q1,q2⟩:=tJ (env:=env) scope.names [] h;refine⟨cl,?_,λ x c hx=>?_,λ x hx=>q2 x (.inl hx)⟩
 .unfold RZ;simp only[bind_pure];exact e
 .rcases q1 x c hx with z|z
  .cases z
  .exact z
section
variable {N:List Str}{nm:List (Str×Rb)}{sc:Scope}{own fv:List Str}{js:List Nat}
def Iz{α β:Type} [BEq α] [LawfulBEq α] {l:List (α×β)}{x:α}{y:β}(h:l.lookup x=QJ y):(x,y)∈l:=by
 induction l with
 |nil=>cases h
 |cons p r ih=>
  obtain⟨a,b⟩:=p;rw[eh] at h;split at h
  .rename_i e;have:x=a:=by simpa using e
   subst this;cases h;simp
  .exact bg _ (ih h)
structure ZU (X:Cx)(N:List Str)(nm:List (Str×Rb))(sc:Scope)(own fv:List Str)(js:List Nat)(cl:LA):Prop where
 clos:RZ sc X.env=Rj cl
 cell:∀y∈sc.names,y.2≠.cell
 kind:sc.kind=.function
 names:∀y∈sc.names,y.2=.local->sc.names.lookup y.1=QJ .local
 sub:∀x c,cl.lookup x=QJ c->X.env.cells.lookup x=QJ c
 has:∀x,((Sm sc X.env).names.lookup x=QJ .cell\/(Sm sc X.env).names.lookup x=QJ .free)->∃c,cl.lookup x=QJ c
 len:js.length=fv.length
 cap:∀(i:Nat) x j,fv[i]?=QJ x->js[i]?=QJ j->ZK X sc cl x j
 nd:(own++fv).Nodup
 rel:(Sm sc X.env).names=dq nm sc.names
def tK(h:cf nm x=QK):nm.lookup x=QJ .cell\/nm.lookup x=QJ .free:=by
 unfold cf at h;rw[jo] at h;exact h.imp aD aD
def lJ(ok:X.Ok)(xs:XS X N nm)(h:XY N nm sc own fv js=QK):∃cl,ZU X N nm sc own fv js cl:=by
 unfold XY at h;simp only[bj] at h;obtain⟨⟨⟨⟨⟨⟨h1,h2⟩,h3⟩,h4⟩,h5⟩,h6⟩,h7⟩:=h
 have hfree:∀x,(x,Rv)∈sc.names->nm.lookup x=QJ .cell\/nm.lookup x=QJ .free:=λ x hx=>by
  have:=gU.mp h4 _ hx;simp only[decide_true,Bool.not_true,jT] at this;exact tK this
 obtain⟨cl,e,s1,s2⟩:=Iy (scope:=sc) (env:=X.env) λ x hx=>ok.has x (by
  have:=hfree x hx;rw[<- xs.nm] at this
  exact this)
 have hcell:∀y∈sc.names,y.2≠.cell:=λ y hy=>by simpa using gU.mp h2 y hy
 have hrel:(Sm sc X.env).names=dq nm sc.names:=by
  unfold Sm dq;rw[<- xs.nm];apply jp;intro y hy;obtain⟨n,k⟩:=y;have:(X.env.scope.kind == ScopeKind.function)=QK:=by rw[ok.kind];rfl
  simp only[this,UN];rfl
 refine⟨cl,e,hcell,aD h1,λ y hy e=>?_,s1,λ x hx=>s2 x ?_,aD h5,λ i x j e1 e2=>?_,aD h7,hrel⟩
 .have:=gU.mp h3 y hy;simpa [e] using this
 .have:∀k,(Sm sc X.env).names.lookup x=QJ k->k=.cell\/k=.free->(x,Rv)∈sc.names:=λ k hk hz=>by
   have m:=Iz hk;obtain⟨⟨n,k0⟩,hm,he⟩:=bn.mp m;have he:(if (k0 == Rv&&X.env.scope.kind == .function&&X.env.kindOf n == QJ .cell)=QK then (n,UR) else (n,k0))=(x,k):=he;split at he
   .rename_i c;cases he;simp only[bj] at c;have:k0=.free:=by simpa using c.1.1
    subst this;exact hm
   .cases he
    rcases hz with rfl|rfl
    .exact m8 rfl (hcell _ hm)
    .exact hm
  rcases hx with hx|hx
  .exact this _ hx (.inl rfl)
  .exact this _ hx (.inr rfl)
 .have m:(x,j)∈fv.zip js:=by
   refine aC (i:=i) ?_;rw[xR];exact⟨e1,e2⟩
  have:=gU.mp h6 _ m;simp only[bj] at this;refine⟨by rw[xs.N];exact aD this.1.1,?_,?_⟩
  .rw[xs.nm];exact tK this.1.2
  .rw[hrel];exact tK this.2
end
section
variable {K:FG}{J:Hp->Prop}{F:Fz}{H:Hp}{σ:St}{ρ:En}
def xS(h:Rp K F H t v):Sr K F H t v:=by cases t<;>first|exact h|exact h.elim
def EV.set{i:Nat}(e:EV K J F H σ ρ)(h:Rp K F H t v)(hi:i<σ.length):EV K J F H (σ.set i (QJ v)) (ρ.set i (QJ t)) :=
 ⟨e.w,λ j u hj=>by
  rw[cV] at hj;split at hj
  .rename_i c;subst c;split at hj
   .cases hj;exact⟨v,by rw[cV];simp[hi],xS h⟩
   .cases hj
  .rename_i c;obtain⟨w,e1,r⟩:=e.sl j u hj
   exact⟨w,by rw[cV,k9 c];exact e1,r⟩⟩
def EV.any{i:Nat}(e:EV K J F H σ ρ)(h:∀t,ρ[i]?≠QJ (QJ t)):EV K J F H (σ.set i v) ρ :=
 ⟨e.w,λ j u hj=>by
  obtain⟨w,e1,r⟩:=e.sl j u hj;refine⟨w,?_,r⟩;rw[cV,k9 (λ z=>by subst z;exact h u hj)]
  exact e1⟩
def WJ(K:FG):List Nat->TG
 |[i]=>dz i
 |[i,j]=>oK K 2 (gJ (dz i) (gJ (dz j) oJ))
 |[i,j,k]=>oK K 3 (gJ (dz i) (gJ (dz j) (gJ (dz k) oJ)))
 |[i,j,k,m]=>oK K 4 (gJ (dz i) (gJ (dz j) (gJ (dz k) (gJ (dz m) oJ))))
 |_=>λ _ _ _ _=>False
theorem xT{Q:St->Hp->Prop}(h:Wq ρ is t P)(e:EV K J F H σ ρ)(rt:Rp K F H t v)(hl:∀i∈is,i<σ.length)
  (fin:∀σ' ρ',P ρ'->EV K J F H σ' ρ'->σ'.length=σ.length->(∀ρ0,EV K J F H σ ρ0->(∀i∈is,∀u,ρ0[i]?≠QJ (QJ u))->EV K J F H σ' ρ0)->Q σ' H):WJ K is v σ H Q:=by
 match is,h with
 |[i],h=>exact fin _ _ h (e.set rt (hl i pv)) pv λ ρ0 e0 n=>e0.any (n i pv)
 |[i,j],h=>
  cases t with
  |tup l=>
   match l,h with
   |[x,y],h=>
    obtain⟨a,ws,rfl,q,v1,r1,rfl,h1,v2,r2,rfl,h2,rfl⟩:=rt;exact⟨a,_,O,q,O,v1,_,O,v2,_,O,O,fin _ _ h ((e.set h1 (hl i pv)).set h2 (by simpa using hl j pv)) pv λ ρ0 e0 n=>(e0.any (n i pv)).any (n j pv)⟩
   |[],h=>exact h.elim
   |[_],h=>exact h.elim
   |_::_::_::_,h=>exact h.elim
  |_=>exact h.elim
 |[i,j,k],h=>
  cases t with
  |tup l=>
   match l,h with
   |[x,y,z],h=>
    obtain⟨a,ws,rfl,q,v1,r1,rfl,h1,v2,r2,rfl,h2,v3,r3,rfl,h3,rfl⟩:=rt;exact⟨a,_,O,q,O,v1,_,O,v2,_,O,v3,_,O,O,fin _ _ h (((e.set h1 (hl i pv)).set h2 (by simpa using hl j pv)).set h3 (by simpa using hl k pv)) pv λ ρ0 e0 n=>((e0.any (n i pv)).any (n j pv)).any (n k pv)⟩
   |[],h=>exact h.elim
   |[_],h=>exact h.elim
   |[_,_],h=>exact h.elim
   |_::_::_::_::_,h=>exact h.elim
  |_=>exact h.elim
 |[i,j,k,m],h=>
  cases t with
  |tup l=>
   match l,h with
   |[x,y,z,w],h=>
    obtain⟨a,ws,rfl,q,v1,r1,rfl,h1,v2,r2,rfl,h2,v3,r3,rfl,h3,v4,r4,rfl,h4,rfl⟩:=rt;exact⟨a,_,O,q,O,v1,_,O,v2,_,O,v3,_,O,v4,_,O,O,fin _ _ h ((((e.set h1 (hl i pv)).set h2 (by simpa using hl j pv)).set h3 (by simpa using hl k pv)).set h4 (by simpa using hl m pv)) pv λ ρ0 e0 n=>(((e0.any (n i pv)).any (n j pv)).any (n k pv)).any (n m pv)⟩
   |[],h=>exact h.elim
   |[_],h=>exact h.elim
   |[_,_],h=>exact h.elim
   |[_,_,_],h=>exact h.elim
   |_::_::_::_::_::_,h=>exact h.elim
  |_=>exact h.elim
 |[],h=>exact h.elim
 |_::_::_::_::_::_,h=>exact h.elim
end
section
variable {N:List Str}{nm:List (Str×Rb)}
def tM{cells:Bool}(hN:X.N.Nodup)(hc:X.calm=QK)(xs:XS X N nm)(hf:cells=QK->∀x,X.env.scope.names.lookup x=QJ .cell->X.fn x=QK)(h:XA cells N nm is tg=QK):PG X tg (WJ X.K is)/\∀i∈is,i<N.length:=by
 have one:∀(i:Nat) (x:Str) (p:Pos),(decide (N[i]?=QJ x)&&(decide (nm.lookup x=QJ .local) || (cells&&decide (nm.lookup x=QJ .cell))))=QK->PG X (.Name x p) (dz i)/\i<N.length:=λ i x p h=>by
  rw[bj,jo,bj] at h;obtain⟨h1,h2⟩:=h;have e:=aD h1;refine⟨?_,(aN.mp e).1⟩
  rcases h2 with h2|⟨h2,h3⟩
  .have k:X.env.scope.names.lookup x=QJ .local:=by rw[xs.nm];exact aD h2
   exact vK hN (by rw[xs.N];exact e) (.inl k) (.inr k)
  .have k:X.env.scope.names.lookup x=QJ .cell:=by rw[xs.nm];exact aD h3
   exact vK hN (by rw[xs.N];exact e) (.inr k) (.inl (hf h2 x k))
 match is,h with
 |[i],h=>
  refine bC h λ x p g=>?_;obtain⟨a,b⟩:=one _ _ p g;exact⟨a,λ i hi=>by rw[aJ.mp hi];exact b⟩
 |[i,j],h=>
  refine pV h λ es _ _ g=>?_;refine nC g λ e1 e2 g=>?_;refine bC (an g).1 λ x p g1=>?_;refine bC (an g).2 λ y q g2=>?_;obtain⟨a1,b1⟩:=one _ _ p g1;obtain⟨a2,b2⟩:=one _ _ q g2;refine⟨rD hc (ig a1 (ig a2 rC)),λ i hi=>?_⟩;simp only[aH,cn,bZ] at hi
  rcases hi with rfl|rfl<;>assumption
 |[i,j,k],h=>
  refine pV h λ es _ _ g=>?_;refine Iw g λ e1 e2 e3 g=>?_;obtain⟨g1,g2,g3⟩:=a3 g;refine bC g1 λ x p g1=>?_;refine bC g2 λ y q g2=>?_;refine bC g3 λ z r g3=>?_;obtain⟨a1,b1⟩:=one _ _ p g1;obtain⟨a2,b2⟩:=one _ _ q g2;obtain⟨a3,b3⟩:=one _ _ r g3;refine⟨rD hc (ig a1 (ig a2 (ig a3 rC))),λ i hi=>?_⟩;simp only[aH,cn,bZ] at hi
  rcases hi with rfl|rfl|rfl<;>assumption
 |[i,j,k,m],h=>
  refine pV h λ es _ _ g=>?_;refine Iv g λ e1 e2 e3 e4 g=>?_;obtain⟨g1,g2,g3,g4⟩:=a4 g;refine bC g1 λ x p g1=>?_;refine bC g2 λ y q g2=>?_;refine bC g3 λ z r g3=>?_;refine bC g4 λ w t g4=>?_;obtain⟨a1,b1⟩:=one _ _ p g1;obtain⟨a2,b2⟩:=one _ _ q g2;obtain⟨a3,b3⟩:=one _ _ r g3;obtain⟨a4,b4⟩:=one _ _ t g4;refine⟨rD hc (ig a1 (ig a2 (ig a3 (ig a4 rC)))),λ i hi=>?_⟩;simp only[aH,cn,bZ] at hi
  rcases hi with rfl|rfl|rfl|rfl<;>assumption
 |[],h=>exact QN h
 |_::_::_::_::_::_,h=>exact QN h
end
section
variable {J:Hp->Prop}{FT:List Vv}{GT:List TV}{fs gs:List Str}{N:List Str}{nm:List (Str×Rb)}
def rW(K:FG)(J:Hp->Prop)(FT:List Vv)(GT:List TV)(k:IK)(c:Cd):TI:=λ σ H R=>∃F ρ,EV K J F H σ ρ/\wL FT GT c ρ λ ts=>Xz k ts λ its=>∀F' H' xs Jt,Grow J F H F' H'->RrL K H F' H' ts xs->VZ K J Jt its ts xs->R Jt H'
def PI.imp{t t':TI}(h:PI X tg e t)(i:∀σ H Q,t' σ H Q->t σ H Q):PI X tg e t':=λ Vu s σ H Q I q=>h Vu s σ H Q I (i σ H Q q)
def tN(h:eG e=QK):SX op e=QL:=by cases e<;>first|rfl|cases h
def xU{o o':SK}{r w:Expr}(h:eG w=QK):UL [o,o'] [r,w]=QL:=by
 show SX o' w=QL;exact tN h
def xV(h:eG e=QK):SZ e env x=Rj x:=by cases e<;>first|rfl|cases h
def tO(h:jS e=QK):wl e:=by
 intro o i
 cases e<;>first|rfl|(cases h;done)
def s_v(xs:XS X N nm)(h:ck fs gs (.v i) N nm e=QK):PE X e (rE X.K J FT GT (.v i)):=by
 refine bC h λ x p h0=>?_;have h':=nD.mp h0;obtain⟨h1,h2⟩:=nD.mp h'.1;obtain⟨d1,d2,_⟩:=eU h'.2;refine(iR (by rw[xs.N];exact aD h1) (jn xs h2) d1 d2).imp λ σ H Q q=>?_;obtain⟨F,ρ,ev,w⟩:=q;have w:Yn ρ[i]? _:=w
 rcases hs:ρ[i]? with _|_|t
 .rw[hs] at w;exact w.elim
 .rw[hs] at w;exact w.elim
 .rw[hs] at w;obtain⟨v,e,r⟩:=ev.sl i t hs;unfold cZ;rw[e]
  cases t with
  |bor l=>exact r.elim
  |obj l=>exact w.elim
  |_=>exact w F H v (.refl ev.w) r
def s_c(h:ck fs gs (.c t) N nm e=QK):PE X e (rE X.K J FT GT (.c t)):=by
 refine Ip h λ k _ _ h0=>?_;replace h:ZQ t k=QK:=h0
 cases t<;>cases k<;>first
  |exact QN h
  |(cases aD h;exact pe_int.imp λ σ H Q ⟨F,ρ,ev,w⟩=>w F H _ (.refl ev.w) rfl)
  |(cases aD h;exact pe_str.imp λ σ H Q ⟨F,ρ,ev,w⟩=>w F H _ (.refl ev.w) rfl)
  |(cases aD h;exact pe_bl.imp λ σ H Q ⟨F,ρ,ev,w⟩=>w F H _ (.refl ev.w) rfl)
  |exact pe_non.imp λ σ H Q ⟨F,ρ,ev,w⟩=>w F H _ (.refl ev.w) rfl
def s_g(xo:VM X J FT GT fs gs)(xs:XS X N nm)(h:ck fs gs (.g k) N nm e=QK):PE X e (rE X.K J FT GT (.g k)):=by
 refine bC h λ x p h0=>?_;have h':=nD.mp h0;obtain⟨h1,h2⟩:=nD.mp h'.1;obtain⟨d1,_,_⟩:=eU h'.2
 cases et:GT[k]? with
 |none=>exact λ Vu s σ H Q I ⟨F,ρ,ev,w⟩=>by have w:XX GT[k]? _:=w;rw[et] at w;exact w.elim
 |some t=>
  cases nb:t.nb with
  |false=>
   intro Vu s σ H Q I ⟨F,ρ,ev,w⟩;have w:XX GT[k]? _:=w;rw[et] at w
   cases t<;>first|exact w.elim|exact QN nb
  |true=>
   obtain⟨v,u,m,r,p⟩:=xo.glb k _ t (aD h1) et nb;refine(CW (WR xs h2) m r d1).imp λ σ H Q ⟨F,ρ,ev,w⟩=>?_;have w:XX GT[k]? _:=w;rw[et] at w
   cases t with
   |bor l=>cases nb
   |_=>exact w F H v (.refl ev.w) (Rr.of (p F H))
def IA{k:Nat}(xo:VM X J FT GT fs gs)(xs:XS X N nm)(h1:gs[k]?=QJ x)(h2:gl nm x=QK)(h3:Wt x=QK)(h4:jS y=QK)(ha:PE X y (rE X.K J FT GT a)):PE X (.Subscript (.Name x p1) y p2) (rE X.K J FT GT (.dk k a)):=by
 intro Vu s σ H Q I ⟨F,ρ,ev,w⟩;obtain⟨l,et,w⟩:=xz (show Yl GT[k]? _ from w);obtain⟨d,kvs,hm,T,look⟩:=xo.dic k x l h1 et;refine GX (WR xs h2) hm T ha (tO h4) (eU h3).1 Vu s σ H Q I ⟨F,ρ,ev,au a (λ t w F1 H1 v g r=>?_) w⟩;obtain⟨z,rfl,t,el,w⟩:=xB w;cases r;obtain⟨b,eb,rp⟩:=look z t el;exact⟨z,b,O,eb,w F1 H1 _ g (Rr.of (rp F1 H1))⟩
def IB(xo:VM X J FT GT fs gs)(ha:PE X l (rE X.K J FT GT a))(hb:PE X r (rE X.K J FT GT b)):PE X (.BinOp l o r p) (rE X.K J FT GT (.bin o a b)) :=
 (DF (HR xo.hJ o) ha hb).imp λ σ H Q ⟨F,ρ,ev,w⟩=>⟨F,ρ,ev,au a (λ x w F1 H1 v g1 r1=>⟨F1,ρ,ev.grow g1,au b (λ y w F2 H2 v2 g2 r2=>⟨F,H,F2,x,y,g1.trans g2,r1.grow g2,r2.late g1,w⟩) w⟩) w⟩
def IC{o:SK}(xo:VM X J FT GT fs gs)(ha:PE X l (rE X.K J FT GT a))(hb:PE X r (rE X.K J FT GT b))(hs:eG r=QK):PE X (.Compare l [o] [r] p) (rE X.K J FT GT (.cmp o a b)) :=
 (Ec (lC xo.units o) ha hb (tN hs)).imp λ σ H Q ⟨F,ρ,ev,w⟩=>⟨F,ρ,ev,au a (λ x w F1 H1 v g1 r1=>⟨F1,ρ,ev.grow g1,au b (λ y w F2 H2 v2 g2 r2=>⟨F,H,F2,x,y,g1.trans g2,r1.grow g2,r2.late g1,iz (λ z w v r=>w F2 H2 v (g1.trans g2) r) w⟩) w⟩) w⟩
def ID(ha:PE X l (rE X.K J FT GT a))(hb:PE X r (rE X.K J FT GT b))(hs:jS r=QK):PE X (.Subscript l r p) (rE X.K J FT GT (.ix a b)) :=
 (wn HX ha hb (tO hs)).imp λ σ H Q ⟨F,ρ,ev,w⟩=>⟨F,ρ,ev,au a (λ x w F1 H1 v g1 r1=>⟨F1,ρ,ev.grow g1,au b (λ y w F2 H2 v2 g2 r2=>⟨F,H,F2,x,y,g1.trans g2,r1.grow g2,r2.late g1,w⟩) w⟩) w⟩
def IE(ha:PE X l (rE X.K J FT GT a)):PE X (.UnaryOp .USub l p) (rE X.K J FT GT (.neg a)) :=
 (DG DT ha).imp λ σ H Q ⟨F,ρ,ev,w⟩=>⟨F,ρ,ev,au a (λ x w F1 H1 v g1 r1=>by
  obtain⟨i,rfl,w⟩:=gX w;cases r1
  exact w F1 H1 _ g1 rfl) w⟩
def IF(ha:PE X l (rE X.K J FT GT a)):PE X (.UnaryOp .Not l p) (rE X.K J FT GT (.not a)) :=
 (Dl ha).imp λ σ H Q ⟨F,ρ,ev,w⟩=>⟨F,ρ,ev,au a (λ x w F1 H1 v g1 r1=>by
  obtain⟨i,rfl,w⟩:=jf w;cases r1
  exact⟨i,O,w F1 H1 _ g1 rfl⟩) w⟩
def pY{Q:VK}(g:Grow J F H F1 H1)(w:∀F' H' v,Grow J F H F' H'->Rr X.K H F' H' t v->Q v H'):∀F' H' v,Grow J F1 H1 F' H'->Rr X.K H1 F' H' t v->Q v H':=λ F' H' v g' r=>w F' H' v (g.trans g') (r.late g)
def IG{o o':SK}(xo:VM X J FT GT fs gs)(ha:PE X l (rE X.K J FT GT a))(hb:PE X r (rE X.K J FT GT b))(hc:PE X w' (rE X.K J FT GT c))(hs:eG w'=QK):PE X (.Compare l [o,o'] [r,w'] p) (rE X.K J FT GT (.cm2 o o' a b c)) :=
 (Ee (lC xo.units o) (lC xo.units o') ha hb hc (xU hs)).imp λ σ H Q ⟨F,ρ,ev,w⟩=>⟨F,ρ,ev,au a (λ x w F1 H1 v g1 r1=>⟨F1,ρ,ev.grow g1,au b (λ y w F2 H2 v2 g2 r2=>⟨F,H,F2,x,y,g1.trans g2,r1.grow g2,r2.late g1,iz (λ z w v3 r3=>by
  obtain⟨k,ek,w2⟩:=jf w;subst ek;cases r3;refine⟨k,O,?_⟩;split at w2
  .rw[m7 (by assumption)];exact⟨F2,ρ,(ev.grow g1).grow g2,au c (λ z w F4 H4 v4 g4 r4=>⟨F,H,F4,y,z,(g1.trans g2).trans g4,(r2.late g1).grow g4,r4.late (g1.trans g2),iz (λ u w v r=>w F4 H4 v ((g1.trans g2).trans g4) r) w⟩) w2⟩
  .rw[k9 (by assumption)];exact w2 F2 H2 _ (g1.trans g2) rfl) w⟩) w⟩) w⟩
def xW{l r:Expr}{Vz:List Expr}(ha:PE X l (rE X.K J FT GT a))(hb:PE X (.BoolOp .And (r::Vz) p) (rE X.K J FT GT b)):PE X (.BoolOp .And (l::r::Vz) p) (rE X.K J FT GT (.and a b)) :=
 (Dj ha hb).imp λ σ H Q ⟨F,ρ,ev,w⟩=>⟨F,ρ,ev,au a (λ x w F1 H1 v g1 r1=>by
  obtain⟨k,ek,w2⟩:=jf w;subst ek;cases r1;show if k=QK then _ else _;split at w2
  .rw[m7 (by assumption)];exact⟨F1,ρ,ev.grow g1,au b (λ y w=>pY g1 w) w2⟩
  .rw[k9 (by assumption)];exact w2 F1 H1 _ g1 rfl) w⟩
def xX{l r:Expr}{Vz:List Expr}(ha:PE X l (rE X.K J FT GT a))(hb:PE X (.BoolOp .Or (r::Vz) p) (rE X.K J FT GT b)):PE X (.BoolOp .Or (l::r::Vz) p) (rE X.K J FT GT (.or a b)) :=
 (Dk ha hb).imp λ σ H Q ⟨F,ρ,ev,w⟩=>⟨F,ρ,ev,au a (λ x w F1 H1 v g1 r1=>by
  obtain⟨k,ek,w2⟩:=jf w;subst ek;cases r1;show if k=QK then _ else _;split at w2
  .rw[m7 (by assumption)];exact w2 F1 H1 _ g1 rfl
  .rw[k9 (by assumption)];exact⟨F1,ρ,ev.grow g1,au b (λ y w=>pY g1 w) w2⟩) w⟩
def IH(hc:PT X x (rT X.K J FT GT c))(ha:PE X y (rE X.K J FT GT a))(hb:PE X z (rE X.K J FT GT b)):PE X (.IfExp x y z p) (rE X.K J FT GT (.ite c a b)) :=
 (Dm hc ha hb).imp λ σ H Q ⟨F,ρ,ev,w⟩=>⟨F,ρ,ev,au c (λ x w=>dn (λ k w2 F1 H1 g1=>by
  split at w2
  .rw[m7 (by assumption)];exact⟨F1,ρ,ev.grow g1,au a (λ y w=>pY g1 w) w2⟩
  .rw[k9 (by assumption)];exact⟨F1,ρ,ev.grow g1,au b (λ y w=>pY g1 w) w2⟩) w) w⟩
def xY(ha:PE X e (rE X.K J FT GT a))(hr:PA X es (rA X.K J FT GT r))(hs:aZ e=QK):PA X (e::es) (rA X.K J FT GT (.cons a r)) :=
 (dA ha hr (bz hs)).imp λ σ H Q ⟨F,ρ,ev,w⟩=>⟨F,ρ,ev,au a (λ x w F1 H1 v g1 r1=>⟨F1,ρ,ev.grow g1,cj r (λ ts w F2 H2 vs g2 r2=>w F2 H2 _ (g1.trans g2) (.cons (r1.grow g2) (Paired.mapP r2 λ _ _ z=>z.late g1))) w⟩) w⟩
def II:PA X [] (rA X.K J FT GT .nil):=pa_nil.imp λ σ H Q ⟨F,ρ,ev,w⟩=>w F H _ (.refl ev.w) .nil
def IJ(xo:VM X J FT GT fs gs)(h:PA X es (rA X.K J FT GT l)):PE X (.Tuple es k p) (rE X.K J FT GT (.tup l)) :=
 (El h).imp λ σ H Q ⟨F,ρ,ev,w⟩=>⟨F,ρ,ev,cj l (λ ts ⟨n,z,w⟩ F1 H1 vs g1 r1=>by
  obtain⟨F2,g2,_,r2⟩:=iC g1 r1 n
  exact⟨by rw[<- r2.length,ag];exact z,jR xo.hJ g2 r2 w⟩) w⟩
def IL(xo:VM X J FT GT fs gs)(h:PA X es (rA X.K J FT GT l)):PE X (.List es p) (rE X.K J FT GT (.lst l)) :=
 (rK h).imp λ σ H Q ⟨F,ρ,ev,w⟩=>⟨F,ρ,ev,cj l (λ ts ⟨n,z,w⟩ F1 H1 vs g1 r1=>by
  obtain⟨F2,g2,_,r2⟩:=iC g1 r1 n
  exact⟨by rw[<- r2.length,ag];exact z,jg xo.hJ g2 r2 w⟩) w⟩
theorem IM{a lo hi:Cd}(xo:VM X J FT GT fs gs)(ha:PE X e (rE X.K J FT GT a))(hl:PO X l (λ σ H Q=>∃F ρ,EV X.K J F H σ ρ/\wE FT GT lo ρ λ t=>oI t λ o=>∀F' H',Grow J F H F' H'->Q o H'))(hh:PO X h (λ σ H Q=>∃F ρ,EV X.K J F H σ ρ/\wE FT GT hi ρ λ t=>oI t λ o=>∀F' H',Grow J F H F' H'->Q o H')) :
  PE X (.Subscript e (.Slice l h QM p2) p) (rE X.K J FT GT (.sl a lo hi)) :=
 (Ey (HY xo.hJ) ha hl hh).imp λ σ H Q ⟨F,ρ,ev,w⟩=>⟨F,ρ,ev,au a (λ x w F1 H1 v g1 r1=>⟨F1,ρ,ev.grow g1,au lo (λ y w=>pR (λ a w F2 H2 g2=>⟨F2,ρ,(ev.grow g1).grow g2,au hi (λ z w=>pR (λ b w F3 H3 g3=>⟨F,H,F3,x,(g1.trans g2).trans g3,(r1.grow g2).grow g3,w⟩) w) w⟩) w) w⟩) w⟩
end
section
variable {J:Hp->Prop}{FT:List Vv}{GT:List TV}{fs gs:List Str}{N:List Str}{nm:List (Str×Rb)}
set_option tactic.hygienic true in
def xZ{K:FG}{vs:List V}(w:Wd J F1 H1)(h:RrL K H F1 H1 ts vs):∃F2,Wd J F2 H1/\RpL K F2 H1 (ts.map TV.fz) vs:=by
 refine⟨λ b=>H1 b≠QM,⟨w.j,λ a f=>f⟩,?_⟩;have up:∀a,F1 a->H1 a≠QM:=w.d
 induction h with
 |nil=>rfl
 |cons r q ih=>
  refine⟨_,_,O,?_,ih⟩;rename_i t v _ _
  cases t with
  |own l=>obtain⟨a,vs,e,_,_,qa,ra⟩:=r;exact⟨a,vs,e,(.inl ⟨(λ z=>by rw[qa] at z;cases z),.of qa⟩),ra.ke (.up up)⟩
  |bor l=>obtain⟨a,vs,e,_,qa,ra⟩:=r;exact⟨a,vs,e,(.inl ⟨(λ z=>by rw[qa] at z;cases z),.of qa⟩),ra.ke (.up up)⟩
  |_=>exact Rp.ke (.up up) r
theorem IN{f:Nat}{a:Expr}{es:List Expr}(xo:VM X J FT GT fs gs)(hf:fs[f]?=QJ x)(hg:Gl X x)(hd:(x == ("__debug__" : Str))=QL)(ha:PA X (a::es) (rA X.K J FT GT l))(hs:aZ a=QK)(hss:es.all aZ=QK) :
  PE X (.Call (.Name x p) (a::es) [] pos) (rE X.K J FT GT (.call f l)):=by
 obtain⟨S,eS⟩:∃S,FT[f]?=QJ S:=gu (bQ (aN.mp hf).1 xo.len);obtain⟨k,ps,hr,c⟩:=xo.fns f x S hf eS;refine(so c hr hg sk ha hd (bz hs) (gY hss)).imp λ σ H Q ⟨F,ρ,ev,w⟩=>⟨F,ρ,ev,cj l (λ ts w F1 H1 vs g1 r1=>?_) w⟩;obtain⟨P,⟨S',e',sp⟩,w⟩:=w;rw[eS] at e';cases e';rw[fF]
 cases n:ts.all TV.nb with
 |true=>
  obtain⟨F2,g2,_,r2⟩:=iC g1 r1 n;exact⟨F2,_,P,g2.w,r2,sp,λ t pt F' H' v g' r'=>(w t pt).2 F' H' v (g2.trans g') (Rr.of r')⟩
 |false=>
  obtain⟨F2,w2,r2⟩:=xZ g1.w r1;refine⟨F2,_,P,w2,r2,sp,λ t pt F' H' v g' r'=>?_⟩;obtain⟨lf,w⟩:=w t pt;have gg:Grow J F1 H1 F1 H':=⟨g'.sm,g'.dm,λ _ h=>h,λ _ h=>.inl h,g'.w.j,λ b f=>g'.dm b (g1.w.d b f)⟩;exact w F1 H' v (g1.trans gg) (Rr.of ((lf n).rp r'))
theorem jU{a:Expr}{es:List Expr}{id:String}(hc:cz X (.builtin id) (rL X J (WQ f)))(hg:Gl X x)(hm:X.mg x=QM)(hv:RW x=QJ (.builtin id))(hn:x ≠ "__name__")(hd:(x == ("__debug__" : Str))=QL)(ha:PA X (a::es) (rA X.K J FT GT l))(hs:aZ a=QK)(hss:es.all aZ=QK) :
  PE X (.Call (.Name x p) (a::es) [] pos) (rE X.K J FT GT (.bi f l)) :=
 (Er hc hg hm hv ha hn hd (bz hs) (gY hss)).imp λ σ H Q ⟨F,ρ,ev,w⟩=>⟨F,ρ,ev,cj l (λ ts w F1 H1 vs g1 r1=>⟨F,H,F1,ts,g1,r1,w⟩) w⟩
theorem tP{a:Expr}{es:List Expr}{id:String}(hc:cz X (.type id) (rL X J (WQ f)))(hg:Gl X x)(hm:X.mg x=QM)(hv:RW x=QJ (.type id))(hn:x ≠ "__name__")(hd:(x == ("__debug__" : Str))=QL)(ha:PA X (a::es) (rA X.K J FT GT l))(hs:aZ a=QK)(hss:es.all aZ=QK) :
  PE X (.Call (.Name x p) (a::es) [] pos) (rE X.K J FT GT (.bi f l)) :=
 (rP hc hg hm hv ha hn hd (bz hs) (gY hss)).imp λ σ H Q ⟨F,ρ,ev,w⟩=>⟨F,ρ,ev,cj l (λ ts w F1 H1 vs g1 r1=>⟨F,H,F1,ts,g1,r1,w⟩) w⟩
theorem IP{a:Expr}{es:List Expr}(xo:VM X J FT GT fs gs)(hx:ZR f=QJ x)(hg:Gl X x)(ha:PA X (a::es) (rA X.K J FT GT l))(hs:aZ a=QK)(hss:es.all aZ=QK) :
  PE X (.Call (.Name x p) (a::es) [] pos) (rE X.K J FT GT (.bi f l)):=by
 have bm:∀y,y∈BN->X.mg y=QM:=xo.blt
 cases f with
 |len=>cases hx;exact jU (ji xo.hJ xo.calm .len pv) hg (bm _ on) (by decide +kernel) on on ha hs hss
 |tuple=>cases hx;exact tP (ji xo.hJ xo.calm .tuple pv) hg (bm _ on) (by decide +kernel) on on ha hs hss
 |list=>cases hx;exact tP (ji xo.hJ xo.calm .list pv) hg (bm _ on) (by decide +kernel) on on ha hs hss
 |sum=>cases hx;exact jU (ji xo.hJ xo.calm .sum pv) hg (bm _ on) (by decide +kernel) on on ha hs hss
 |max=>cases hx;exact jU (Ib xo.calm) hg (bm _ on) (by decide +kernel) on on ha hs hss
 |min=>cases hx;exact jU (Ic xo.calm) hg (bm _ on) (by decide +kernel) on on ha hs hss
 |abs=>cases hx;exact jU (ji xo.hJ xo.calm .abs pv) hg (bm _ on) (by decide +kernel) on on ha hs hss
 |int=>cases hx;exact tP (ji xo.hJ xo.calm .int pv) hg (bm _ on) (by decide +kernel) on on ha hs hss
 |sorted=>cases hx;exact jU (ji xo.hJ xo.calm .sorted pv) hg (bm _ on) (by decide +kernel) on on ha hs hss
 |any=>cases hx;exact jU (ji xo.hJ xo.calm .any pv) hg (bm _ on) (by decide +kernel) on on ha hs hss
 |_=>cases hx
theorem IQ{p pos kp p2:Pos}(xo:VM X J FT GT fs gs)(hg:Gl X "max")(hg2:Gl X "len")(hs:aZ y=QK)(hs2:aZ z=QK)(hy:PE X y (rE X.K J FT GT a))(hz:PE X z (rE X.K J FT GT b)) :
  PE X (.Call (.Name "max" p) [y,z] [⟨QJ (Rh "key"),.Name "len" p2,kp⟩] pos) (rE X.K J FT GT (.mxl a b)):=by
 refine(HZ xo.calm hg (xo.blt _ on) hg2 (xo.blt _ on) hy hz (bz hs) (bz hs2)).imp λ σ H Q ⟨F,ρ,ev,w⟩=>⟨F,ρ,ev,au a (λ t w F1 H1 v g1 r1=>⟨F1,ρ,ev.grow g1,au b (λ u w F2 H2 v2 g2 r2=>?_) w⟩) w⟩;have w:WQ .maxlen [t,u] λ t=>∀F' H' v,Grow J F H F' H'->Rr X.K H F' H' t v->Q v H':=w
 cases t with
 |tup l=>
  cases u with
  |tup m=>
   obtain⟨A,xs,rfl,q1,s1⟩:=r1.grow g2;obtain⟨B,ys,rfl,q2,s2⟩:=r2;refine⟨A,B,xs,ys,O,O,q1,q2,λ z=>?_,λ z=>?_⟩
   .have w:∀F' H' v,Grow J F H F' H'->Rr X.K H F' H' (.tup (if l.length<m.length then m else l)) v->Q v H':=w;rw[k9 (by rw[s1.length,s2.length];lia)] at w;exact w F2 H2 _ (g1.trans g2) ⟨A,xs,O,q1,s1⟩
   .have w:∀F' H' v,Grow J F H F' H'->Rr X.K H F' H' (.tup (if l.length<m.length then m else l)) v->Q v H':=w;rw[m7 (by rw[s1.length,s2.length];lia)] at w;exact w F2 H2 _ (g1.trans g2) ⟨B,ys,O,q2,s2⟩
  |_=>exact w.elim
 |_=>cases u<;>exact w.elim
theorem IR{p pos p2 pos2:Pos}(xo:VM X J FT GT fs gs)(hg:Gl X "tuple")(hg2:Gl X "reversed")(hs:aZ y=QK)(hy:PE X y (rE X.K J FT GT a)) :
  PE X (.Call (.Name "tuple" p) [.Call (.Name "reversed" p2) [y] [] pos2] [] pos) (rE X.K J FT GT (.trev k a)):=by
 cases k with
 |false=>
  refine(FJ xo.calm hg hg2 (xo.blt _ on) (xo.blt _ on) hy (bz hs)).imp λ σ H Q ⟨F,ρ,ev,w⟩=>⟨F,ρ,ev,au a (λ t w F1 H1 v g1 r1=>?_) w⟩;obtain⟨l,e,w⟩:=jQ (show l1 t λ l=>∀F' H' v,Grow J F H F' H'->Rr X.K H F' H' (.tup l.reverse) v->Q v H' from w);obtain⟨b,vs,rfl,r,q⟩:=r1.lq e;exact⟨b,vs,O,q,jR xo.hJ g1 r.reverse w⟩
 |true=>
  refine(GC xo.calm hg hg2 (xo.blt _ on) (xo.blt _ on) hy (bz hs)).imp λ σ H Q ⟨F,ρ,ev,w⟩=>⟨F,ρ,ev,au a (λ t w F1 H1 v g1 r1=>?_) w⟩;have w:k1 QK t λ l=>∀F' H' v,Grow J F H F' H'->Rr X.K H F' H' (.tup l.reverse) v->Q v H':=w
  cases t with
  |tup l=>obtain⟨b,vs,rfl,q,r⟩:=r1;exact⟨b,vs,rfl,q,jR xo.hJ g1 r.reverse w⟩
  |_=>exact w.elim
theorem IS{k:Bool}{p pos p2 pos2:Pos}(hk:(!k)=QK)(xo:VM X J FT GT fs gs)(hg:Gl X (Rh (if k=QK then "tuple" else "list")))(hg2:Gl X "range")(hs:aZ y=QK)(hy:PE X y (rE X.K J FT GT a)) :
  PE X (.Call (.Name (Rh (if k=QK then "tuple" else "list")) p) [.Call (.Name "range" p2) [y] [] pos2] [] pos) (rE X.K J FT GT (.lrng k a)):=by
 have hr:=rP (p:=p2) (pos:=pos2) GL hg2 (xo.blt _ on) (by decide +kernel) (dA hy pa_nil (bz hs)) on on (bz hs) rfl;have e:∀j:Int,(VR j.toNat).map m9=(QW j.toNat).map λ i=>m9 (i:Nat):=λ j=>by unfold VR;rw[cg];rfl
 cases k with
 |false=>
  refine(rP (GM xo.calm) hg (xo.blt _ on) (by decide +kernel) (dA hr pa_nil rfl) on on rfl rfl).imp λ σ H Q ⟨F,ρ,ev,w⟩=>⟨F,ρ,ev,au a (λ t w F1 H1 v g1 r1=>?_) w⟩;obtain⟨j,rfl,⟨c0,c1⟩,w⟩:=gX (show i1 t λ j=>(0<=j/\j<=1000)/\∀F' H' v,Grow J F H F' H'->Rr X.K H F' H' (.own ((QW j.toNat).map λ i=>.int (i:Nat))) v->Q v H' from w);cases r1;refine⟨j,O,λ r hr=>?_⟩;have g2:Grow J F1 H1 F1 (VA H1 r (.rng 0 j)):=.new xo.hJ g1.w _ hr;refine⟨r,j.toNat,O,by rw[cK];congr 2;exact(nE c0).symm,ca,λ l hl=>?_⟩;rw[<- e] at w;exact jg xo.hJ (g1.trans g2) (RpL.ofInts _) w l hl
 |true=>exact QN hk
end
section
variable {J:Hp->Prop}{FT:List Vv}{GT:List TV}{fs gs:List Str}{N:List Str}{nm:List (Str×Rb)}{tg:Expr}
def IT(hy:PE X y (rE X.K J FT GT a)):PI X tg y (rW X.K J FT GT .seq (.cons a .nil)) :=
 (Ha hy).imp λ σ H R ⟨F,ρ,ev,w⟩=>⟨F,ρ,ev,au a (λ t w F1 H1 v g r=>by
  obtain⟨b,l,e,w⟩:=lA (show s1 t λ its=>∀F' H' xs Jt,Grow J F H F' H'->RrL X.K H F' H' [t] xs->VZ X.K J Jt its [t] xs->R Jt H' from w);obtain⟨p,vs,rfl,_,q⟩:=r.sq e
  rcases q with ⟨rfl,q⟩|⟨rfl,q⟩
  .exact .inr ⟨p,O,⟨vs,q⟩,w F1 H1 _ _ g (.cons r .nil) (Ig e)⟩
  .exact .inl ⟨p,O,⟨vs,q⟩,w F1 H1 _ _ g (.cons r .nil) (Ie e)⟩) w⟩
def IU(n:Nat):((QW n).map λ k=>m9 (0+(k:Nat)))=(QW n).map λ k=>m9 (k:Nat):=pv
def IV{p pos:Pos}(xo:VM X J FT GT fs gs)(hg:Gl X "range")(hs:aZ e=QK)(he:PE X e (rE X.K J FT GT a)):PI X tg (.Call (.Name "range" p) [e] [] pos) (rW X.K J FT GT .rng (.cons a .nil)) :=
 (DB hg (xo.blt _ on) (dA he pa_nil (bz hs)) (bz hs)).imp λ σ H R ⟨F,ρ,ev,w⟩=>⟨F,ρ,ev,au a (λ t w F1 H1 v g r=>by
  obtain⟨j,rfl,c,w⟩:=gX (show i1 t λ j=>(-(2 ^ 62)<=j/\j<2 ^ 62)/\∀F' H' xs Jt,Grow J F H F' H'->RrL X.K H F' H' [t] xs->VZ X.K J Jt ((QW j.toNat).map λ i=>.int (i:Nat)) [t] xs->R Jt H' from w);cases r
  exact⟨j,O,c.1,c.2,w F1 H1 _ _ g (.cons rfl .nil) (by rw[<- IU];exact Ih 0 _)⟩) w⟩
def IW{K:FG}{t u z:TV}(h:RrL K H F1 H1 [t,u,z] xs):∃x y w,xs=[x,y,w]/\Rr K H F1 H1 t x/\Rr K H F1 H1 u y/\Rr K H F1 H1 z w:=by
 cases h with
 |cons r q=>obtain⟨y,w,rfl,r',r''⟩:=tz q;exact⟨_,y,w,rfl,r,r',r''⟩
def IY{p pos:Pos}(xo:VM X J FT GT fs gs)(hg:Gl X "range")(hs:aZ e=QK)(hs2:aZ e2=QK)(hs3:aZ e3=QK)(hp:PA X [e,e2,e3] (rA X.K J FT GT l)):PI X tg (.Call (.Name "range" p) [e,e2,e3] [] pos) (rW X.K J FT GT .rng3 l) :=
 (FR hg (xo.blt _ on) hp (by rw[bz hs,bz hs2,bz hs3];rfl) (by rw[bz hs2,bz hs3];rfl)).imp λ σ H R ⟨F,ρ,ev,w⟩=>⟨F,ρ,ev,cj l (λ ts w F1 H1 vs g r=>by
  rcases ts with _|⟨t,_|⟨u,_|⟨z,_|⟨_,ts⟩⟩⟩⟩
  .exact w.elim
  .exact w.elim
  .exact w.elim
  .obtain⟨i,j,rfl,rfl,w⟩:=eE w;obtain⟨c,rfl,cc,w⟩:=gX w;have w:=w F1 H1 vs _ g r (Ii i c _);obtain⟨x,y,v,rfl,r1,r2,r3⟩:=IW r;cases r1;cases r2;cases r3;exact⟨i,j,c,O,cc,w⟩
  .exact w.elim) w⟩
def pZ(h:k1 b t P):∃l,t.items=QJ (b,l)/\P l:=by
 cases b with
 |true=>cases t<;>first|exact⟨_,rfl,h⟩|exact h.elim
 |false=>exact jQ h
def Rr.sb{K:FG}{b:Bool}{l:List TV}(h:Rr K H F' H' t v)(e:t.items=QJ (b,l)):∃a vs,v=.ref a/\YF K b H' a vs:=by
 obtain⟨a,vs,rfl,q,_⟩:=h.vw.b e;exact⟨a,vs,O,q⟩
def IZ{p pos:Pos}(xo:VM X J FT GT fs gs)(hg:Gl X "enumerate")(hs:aZ e=QK)(he:PE X e (rE X.K J FT GT a)):PI X (.Tuple es x1 pp) (.Call (.Name "enumerate" p) [e] [] pos) (rW X.K J FT GT (.enum c) (.cons a .nil)):=by
 cases c with
 |true=>
  exact(Gi hg (xo.blt _ on) he (bz hs)).imp λ σ H R ⟨F,ρ,ev,w⟩=>⟨F,ρ,ev,au a (λ t w F1 H1 v g r=>by
   obtain⟨l,e1,w⟩:=pZ (show k1 QK t λ l=>∀F' H' xs Jt,Grow J F H F' H'->RrL X.K H F' H' [t] xs->VZ X.K J Jt (l.mapIdx λ i x=>.tup [.int (i:Nat),x]) [t] xs->R Jt H' from w);obtain⟨A,vs,rfl,q⟩:=r.sb e1
   exact⟨A,vs,O,q,w F1 H1 _ _ g (.cons r .nil) (Il xo.hJ e1)⟩) w⟩
 |false=>
  exact(GF hg (xo.blt _ on) he (bz hs)).imp λ σ H R ⟨F,ρ,ev,w⟩=>⟨F,ρ,ev,au a (λ t w F1 H1 v g r=>by
   obtain⟨l,e1,w⟩:=pZ (show k1 QL t λ l=>∀F' H' xs Jt,Grow J F H F' H'->RrL X.K H F' H' [t] xs->VZ X.K J Jt (l.mapIdx λ i x=>.tup [.int (i:Nat),x]) [t] xs->R Jt H' from w);obtain⟨A,vs,rfl,q⟩:=r.sb e1
   exact⟨A,vs,O,q,w F1 H1 _ _ g (.cons r .nil) (Im xo.hJ e1)⟩) w⟩
def Ja{p pos:Pos}(xo:VM X J FT GT fs gs)(hg:Gl X "reversed")(hs:aZ e=QK)(he:PE X e (rE X.K J FT GT a)):PI X tg (.Call (.Name "reversed" p) [e] [] pos) (rW X.K J FT GT (.rev QK) (.cons a .nil)):=by
 exact(Fy hg (xo.blt _ on) he (bz hs)).imp λ σ H R ⟨F,ρ,ev,w⟩=>⟨F,ρ,ev,au a (λ t w F1 H1 v g r=>by
   obtain⟨l,e1,w⟩:=pZ (show k1 QK t λ l=>∀F' H' xs Jt,Grow J F H F' H'->RrL X.K H F' H' [t] xs->VZ X.K J Jt l.reverse [t] xs->R Jt H' from w);obtain⟨A,vs,rfl,q,rl⟩:=r.vw.t e1
   exact⟨A,vs,O,q,w F1 H1 _ _ g (.cons r .nil) (Ik e1 rl.length.symm)⟩) w⟩
noncomputable def Xc(own:List Str)(js:List Nat)(ρ:En):En:=QT own.length QM++js.map λ j=>(ρ[j]?).join
def EV.comp{K:FG}{own:List Str}(e:EV K J F H σ ρ):EV K J F H (ef own.length js σ) (Xc own js ρ) :=
 ⟨e.w,λ i t h=>by
  unfold Xc at h;unfold ef;by_cases hi:i<own.length
  .rw[cx (by simpa using hi),dH] at h;split at h<;>cases h
  .rw[cu (by simpa using hi),dO,aW] at h;rw[cu (by simpa using hi),dO,aW]
   cases ej:js[i-own.length]? with
   |none=>rw[ej] at h;cases h
   |some j=>
    rw[ej] at h;have h:(ρ[j]?).join=QJ t:=bN h
    have h2:ρ[j]?=QJ (QJ t):=by
     cases q:ρ[j]? with
     |none=>rw[q] at h;cases h
     |some o=>rw[q] at h;cases o<;>cases h;rfl
    obtain⟨v,e1,r⟩:=e.sl j t h2
    exact⟨v,by rw[Th,e1];rfl,r⟩⟩
def yg{own:List Str}{i:Nat}(h:i<own.length):∀u,(Xc own js ρ)[i]?≠QJ (QJ u):=λ u z=>by
 unfold Xc at z;rw[cx (by simpa using h),dH] at z;split at z<;>cases z
theorem yh{K:Td}{own:List Str}{js tgs:List Nat}{Q:VK}{tc:TT}{te:TE}
  (hJ:JS J) (g1:Grow J F H F1 H1) (rx:RrL K H F1 H1 ts xs) (ok:VZ K J Jt its ts xs) (ev:EV K J F H σ ρ) (lt:∀i∈tgs,i<own.length) (hn:its.length<QR) (b:TV->(List TV->Prop)->Prop)
  (hm:∀t K K',(∀y,K y->K' y)->b t K->b t K') (w:WO b its λ ys=>∀F' H' v,Grow J F H F' H'->Rr K H F' H' (.own ys) v->Q v H')
  (st:∀t P x F' H' σ',b t P->EV K J F' H' σ' (Xc own js ρ)->σ'.length=(ef own.length js σ).length->Rp K F' H' t x ->
   ∀R:List V->St->Hp->Prop,(∀ys vs σ2 F2 H2,P ys->ys.length<=1->Grow J F' H' F2 H2->RpL K F2 H2 ys vs->EV K J F2 H2 σ2 (Xc own js ρ)->σ2.length=σ'.length->R vs σ2 H2) ->
    WJ K tgs x σ' H' λ σ3 H3=>tc σ3 H3 λ q H4=>if q=QK then te σ3 H4 λ v H5=>R [v] σ3 H5 else R [] σ3 H4) :
  ∃W:Nat->Nat->List V->St->Hp->Prop,(∃m,W 0 m [] (ef own.length js σ) H1)/\∀i m ys σ' H',W i m ys σ' H' ->
   (Jt.stop i H'/\∀p,H' p=QM->Q (.ref p) (VA H' p (.lst ys))) \/
   (Jt.go i H'/\ys.length < QR/\∃N:List V->St->Hp->Prop,(∀zs σ2 H2,N zs σ2 H2->∃m',m' < m/\W (i+1) m' zs σ2 H2) /\
    ∀x H2,Jt.yld i H' x H2->WJ K tgs x σ' H2 λ σ3 H3=>tc σ3 H3 λ q H4=>if q=QK then te σ3 H4 λ v H5=>N (ys++[v]) σ3 H5 else N ys σ3 H4):=by
 refine⟨λ i m ys σ' H'=>i≤its.length/\m=its.length - i/\∃F' zs,Grow J F1 H1 F' H'/\EV K J F' H' σ' (Xc own js ρ)/\σ'.length=(ef own.length js σ).length/\RpL K F' H' zs ys/\zs.length≤i/\WO b (its.drop i) λ ws=>∀F' H' v,Grow J F H F' H'->Rr K H F' H' (.own (zs++ws)) v->Q v H',
  ⟨_,bY _,rfl,F1,[],.refl g1.w,(ev.grow g1).comp,rfl,rfl,bY _,w⟩,?_⟩
 rintro i m ys σ' H' ⟨hi,rfl,F',zs,g',ev',sl,rz,zl,w'⟩;have vw:RV (Vw K F' H') ts xs:=Paired.mapP (rx.grow g') λ _ _ r=>r.vw;by_cases c:i<its.length
 .refine .inr ⟨ok.go F' H' i g'.w vw c,by rw[← rz.length];lia,λ zs' σ2 H2=>∃F2 ws,Grow J F1 H1 F2 H2/\EV K J F2 H2 σ2 (Xc own js ρ)/\σ2.length=(ef own.length js σ).length/\RpL K F2 H2 ws zs'/\ws.length≤i+1/\WO b (its.drop (i+1)) λ us=>∀F' H' v,Grow J F H F' H'->Rr K H F' H' (.own (ws++us)) v->Q v H',
   λ zs' σ2 H2 ⟨F2,ws,q⟩=>⟨_,ca,c,rfl,F2,ws,q⟩,λ x H2 y=>?_⟩
  obtain⟨t,et,gy,rt⟩:=ok.yld F' H' i x H2 g'.w vw c y
  have ed:its.drop i=t::its.drop (i+1):=by
   rw[tQ c]
   congr 1
   rw[aL c] at et;exact bN et
  rw[ed] at w'
  have z:=st t _ x F' H2 σ' w' (ev'.grow gy) sl rt (λ vs σ2 H3=>∃F2 ws,Grow J F1 H1 F2 H3/\EV K J F2 H3 σ2 (Xc own js ρ)/\σ2.length=(ef own.length js σ).length/\RpL K F2 H3 ws (ys++vs)/\ws.length<=i+1/\WO b (its.drop (i+1)) λ us=>∀F' H' v,Grow J F H F' H'->Rr K H F' H' (.own (ws++us)) v->Q v H')
   (λ zs2 vs σ2 F2 H3 q l1 g2 r2 e2 s2=>⟨F2,zs++zs2,(g'.trans gy).trans g2,e2,s2.trans sl,(rz.ke (gy.trans g2).ke).append r2,by rw[aK];lia,by
    exact pS hm (λ us q=>by rw[jK];exact q) q⟩)
  simp only[fF] at z;exact z
 .have e:i=its.length:=by lia
  subst e;rw[tR] at w';have w':∀F' H' v,Grow J F H F' H'->Rr K H F' H' (.own (zs++[])) v->Q v H':=w';rw[fF] at w';exact .inl ⟨ok.stop F' H' g'.w vw,jg hJ (g1.trans g') rz w'⟩
end
section
variable {J:Hp->Prop}{FT:List Vv}{GT:List TV}{fs gs:List Str}{N:List Str}{nm:List (Str×Rb)}
def lK{cl:LA}(xo:VM X J FT GT fs gs):VM (eQ X N' sc cl C ex s H) J FT GT fs gs:=⟨xo.calm,xo.units,xo.hJ,xo.fns,xo.glb,xo.dic,xo.blt,xo.len,xo.hof⟩
def yi{own fv:List Str}{js tgs:List Nat}(hJ:JS J)(lt:∀i∈tgs,i<own.length)(h:rE X.K J FT GT (.comp own fv js tgs k it e) σ H Q):iW (rW X.K J FT GT k it) own.length js (WJ X.K tgs) (λ _ H K=>K QK H) (rE X.K J FT GT e) σ H Q:=by
 obtain⟨F,ρ,ev,w⟩:=h;refine⟨F,ρ,ev,cj it (λ ts w=>jd (λ its w F1 H1 xs Jt g1 rx ok=>?_) w) w⟩;obtain⟨hn,w⟩:=w
 exact yh (tc:=λ _ H Q=>Q QK H) (te:=rE X.K J FT GT e) hJ g1 rx ok ev lt hn (λ t K'=>Wq (Xc own js ρ) tgs t λ ρ'=>wE FT GT e ρ' λ y=>(y.nb=QK/\K' [y.fz])) (λ t K K' h q=>iA (λ ρ' q=>au e (λ y q=>⟨q.1,h _ q.2⟩) q) q) w
  (λ t P x F' H' σ' b ev' sl rt R fin=>xT b ev' rt (λ i hi=>by rw[sl];unfold ef;simp;have:=lt i hi;lia) λ σ2 ρ2 p ev2 sl2 keep=>by
   show if QK=QK then _ else _;rw[m7 rfl];refine⟨F',ρ2,ev2,au e (λ y ⟨nb,p⟩ F2 H2 v g r=>?_) p⟩;obtain⟨F3,g3,_,_,rp⟩:=r.frz g nb
   exact fin [y.fz] [v] σ2 F3 H2 p (ak _) g3 ⟨v,[],O,rp,O⟩ ((keep _ ev' λ i hi u=>yg (lt i hi) u).grow g3) sl2)
def yj{own fv:List Str}{js tgs:List Nat}(hJ:JS J)(lt:∀i∈tgs,i<own.length)(h:rE X.K J FT GT (.compI own fv js tgs k it c e) σ H Q):iW (rW X.K J FT GT k it) own.length js (WJ X.K tgs) (rT X.K J FT GT c) (rE X.K J FT GT e) σ H Q:=by
 obtain⟨F,ρ,ev,w⟩:=h;refine⟨F,ρ,ev,cj it (λ ts w=>jd (λ its w F1 H1 xs Jt g1 rx ok=>?_) w) w⟩;obtain⟨hn,w⟩:=w
 exact yh (tc:=rT X.K J FT GT c) (te:=rE X.K J FT GT e) hJ g1 rx ok ev lt hn (λ t K'=>Wq (Xc own js ρ) tgs t λ ρ'=>wE FT GT c ρ' λ x=>b1 x λ q=>if q=QK then wE FT GT e ρ' λ y=>(y.nb=QK/\K' [y.fz]) else K' []) (λ t K K' h q=>iA (λ ρ' q=>au c (λ x q=>dn (λ z q=>by
   split at q
   .rw[m7 (by assumption)];exact au e (λ y q=>⟨q.1,h _ q.2⟩) q
   .rw[k9 (by assumption)];exact h _ q) q) q) q) w
  (λ t P x F' H' σ' b ev' sl rt R fin=>xT b ev' rt (λ i hi=>by rw[sl];unfold ef;simp;have:=lt i hi;lia) λ σ2 ρ2 p ev2 sl2 keep=>by
   have kp:=keep _ ev' λ i hi u=>yg (own:=own) (js:=js) (ρ:=ρ) (lt i hi) u;refine⟨F',ρ2,ev2,au c (λ x w=>dn (λ q w2 F2 H2 g2=>?_) w) p⟩;split at w2
   .rw[m7 (by assumption)];refine⟨F2,ρ2,ev2.grow g2,au e (λ y ⟨nb,p⟩ F3 H3 v g r=>?_) w2⟩;obtain⟨F4,g4,_,_,rp⟩:=r.frz g nb;exact fin [y.fz] [v] σ2 F4 H3 p (ak _) (g2.trans g4) ⟨v,[],O,rp,O⟩ ((kp.grow g2).grow g4) sl2
   .rw[k9 (by assumption)]
    exact fin [] [] σ2 F2 H2 w2 (bY _) g2 rfl (kp.grow g2) sl2)
structure CmP (X:Cx)(N:List Str)(nm:List (Str×Rb))(elt tg iter:Expr)(ifs:List Expr)(scope:Scope)(cl:LA)(own fv:List Str)(js tgs:List Nat)(wi:TI)(tc:TT)(te:TE):Prop where
 c:X.calm=QK
 i:PI X tg iter wi
 S:ZU X N nm scope own fv js cl
 T:XA QL (own++fv) (dq nm scope.names) tgs tg=QK
 e:∀(C:QO) (ex:List QO) (s:QP) (H:Hp),XS (eQ X (own++fv) scope cl C ex s H) (own++fv) (dq nm scope.names)->PE (eQ X (own++fv) scope cl C ex s H) elt te
 t:∃T0,mU ifs T0/\∀(C:QO) (ex:List QO) (s:QP) (H:Hp),XS (eQ X (own++fv) scope cl C ex s H) (own++fv) (dq nm scope.names)->PM (eQ X (own++fv) scope cl C ex s H) T0 tc
 n:eG iter=QK
section
variable {N:List Str}{nm:List (Str×Rb)}{elt tg iter:Expr}{ifs:List Expr}{scope:Scope}{cl:LA}{pos pos' lpos:Pos}{own fv:List Str}{js tgs:List Nat}{wi:TI}{tc:TT}{te:TE}{Vu:LO}{s:QP}{σ:St}{H:Hp}
theorem CmP.core(M:CmP X N nm elt tg iter ifs scope cl own fv js tgs wi tc te)(I:Inv X Vu σ H s)(h:iW wi own.length js (WJ X.K tgs) tc te σ H Q)
  (fin:∀(a C:QO) (s5:QP) (H5:Hp) (fl:Flow),Inv X Vu σ H5 s5->H5 C=QM->C≠X.env.locals->X.s₀.heap.objs.size<=C->(∀x c,X.env.cells.lookup x=QJ c->c≠C)->(∀p∈X.pn++Vu,p.1≠C)->(∃m,s5.heap.Ns C m)->Q (.ref a) H5->Vl (QU X.prog X.w) X.A X.xe use QQ (.ref a) C (.ok fl) s5) :
  QS (QU X.prog X.w) X.A (UV (.ListComp elt [⟨tg,iter,ifs,0⟩] scope pos) scope X.env fpos (TL []) QL (firstIter [⟨tg,iter,ifs,0⟩] X.env) use) QQ X.xe s:=by
 obtain⟨hc,hi,S,hT,he,⟨T0,lp,ht⟩,hs⟩:=M;have yx:=λ C ex s H=>(⟨rfl,S.rel⟩:XS (eQ X (own++fv) scope cl C ex s H) (own++fv) (dq nm scope.names));exact Fj hc hi S.clos S.cell S.kind S.names S.sub S.has S.len S.cap (λ C ex s H=>(tM (X:=eQ X (own++fv) scope cl C ex s H) S.nd hc (yx C ex s H) (λ z=>by cases z) hT).1) (λ C ex s H=>he C ex s H (yx C ex s H)) (λ C ex s H=>ht C ex s H (yx C ex s H)) lp (λ x=>xV hs) I h fin
def CmP.pe(M:CmP X N nm elt tg iter ifs scope cl own fv js tgs wi tc te)(I:Inv X Vu σ H s)(h:iW wi own.length js (WJ X.K tgs) tc te σ H Q):QS (QU X.prog X.w) X.A (eval (.ListComp elt [⟨tg,iter,ifs,0⟩] scope pos) X.env) (EP X Vu σ Q) X.xe s:=by
 rw[eval_ListComp];refine M.core (use:=QM) (QQ:=EP X Vu σ Q) I h λ a C s5 H5 fl I5 zC zL zS zc zp ⟨m,hn⟩ q=>⟨m,hn,λ h' sc=>?_⟩;exact⟨.ref a,H5,I5.turned (t':=s5.toks) (it:=C) (λ d o nd e=>sc.extBut d o nd e) zC zL (.inr zS) zc zp,O,q⟩
theorem CmP.ps(M:CmP X N nm elt tg iter ifs scope cl own fv js tgs wi tc te){i:Nat}
  (hN:X.N.Nodup) (hx1:X.N[i]?=QJ x) (hx:Xi X.env.scope x) (hf:X.fn x=QK\/X.env.scope.names.lookup x=QJ .local)
  (hsw:Sy (.ListComp elt [⟨tg,iter,ifs,0⟩] scope lpos) (QJ (.Name x pos')) pos.line X.env=Rj QK)
  (I:Inv X Vu σ H s) (h:kJ (iW wi own.length js (WJ X.K tgs) tc te) (dz i) D σ H):QS (QU X.prog X.w) X.A (exec (.Assign [.Name x pos'] (.ListComp elt [⟨tg,iter,ifs,0⟩] scope lpos) pos) X.env) (SP X Vu D) X.xe s:=by
 rw[exec_Assign_Name_used _ _ _ _ hsw];refine ae (mB ?_);rw[arm_evalThenUse_ListComp];have core:=M.core (use:=QJ (SB (.Name x pos') X.env)) (QQ:=λ _ s'=>SP X Vu D .next s') (fpos:=firstIterPos [⟨tg,iter,ifs,0⟩] lpos) (pos:=lpos) I h (λ a C s5 H5 fl I5 zC zL zS zc zp ⟨m,hn⟩ q=>?_)
 .refine ae (ae (VD core λ _ s' hq=>?_));exact ay (ay hq)
 .show QS (QU X.prog X.w) X.A (SB (.Name x pos') X.env (.ref a)) _ X.xe s5;show QS (QU X.prog X.w) X.A (do Tp pos';bindName X.env x (.ref a)) _ X.xe s5;refine ae (mB ?_);refine bindName_ ?_;refine vA I5 hN hx1 hx (show RelV (.ref a) (.ref a) from rfl) (λ s6 I6 ⟨b,sb,hb⟩=>?_) hf
  have cb:C≠b:=by
   rcases hb with rfl|hb
   .exact zL
   .exact λ z=>zc x b hb z.symm
  obtain⟨o,es,ep,e,r⟩:=hn;refine⟨m,⟨o,es,ep,(sb.2 C cb).trans e,r⟩,λ h' sc=>?_⟩;exact⟨_,H5,I6.turned (t':=s6.toks) (it:=C) (λ d o nd e=>sc.extBut d o nd e) zC zL (.inr zS) zc zp,q⟩
end
def qd{own fv:List Str}{cl:LA}:∃T0,mU [] T0/\∀(C:QO) (ex:List QO) (s:QP) (H:Hp),XS (eQ X (own++fv) scope cl C ex s H) N nm->PM (eQ X (own++fv) scope cl C ex s H) T0 λ _ H K=>K QK H:=⟨sn,Fi,λ _ _ _ _ _=>pm0⟩
theorem Jb{t iter elt:Expr}(xo:VM X J FT GT fs gs)(xs:XS X N nm)(hS:XY N nm sc own fv js=QK)(hi:PI X t iter (rW X.K J FT GT k it))(hT:XA QL (own++fv) (dq nm sc.names) tgs t=QK)(hl:tgs.all (λ i=>decide (i<own.length))=QK)(hns:eG iter=QK)
  (he:∀Y:Cx,VM Y J FT GT fs gs->XS Y (own++fv) (dq nm sc.names)->PE Y elt (rE Y.K J FT GT e)):PE X (.ListComp elt [⟨t,iter,[],0⟩] sc pos) (rE X.K J FT GT (.comp own fv js tgs k it e)):=by
 intro Vu s σ H Q I h;obtain⟨cl,S⟩:=lJ I.ok xs hS;exact CmP.pe ⟨xo.calm,hi,S,hT,λ C ex s H yx=>he _ (lK xo) yx,qd,hns⟩ I (yi xo.hJ (λ i hi=>aD (gU.mp hl i hi)) h)
theorem Jc{t iter elt cnd:Expr}(xo:VM X J FT GT fs gs)(xs:XS X N nm)(hS:XY N nm sc own fv js=QK)(hi:PI X t iter (rW X.K J FT GT k it))(hT:XA QL (own++fv) (dq nm sc.names) tgs t=QK)(hl:tgs.all (λ i=>decide (i<own.length))=QK)(hns:eG iter=QK)
  (hc:∀Y:Cx,VM Y J FT GT fs gs->XS Y (own++fv) (dq nm sc.names)->PT Y cnd (rT Y.K J FT GT c)) (he:∀Y:Cx,VM Y J FT GT fs gs->XS Y (own++fv) (dq nm sc.names)->PE Y elt (rE Y.K J FT GT e)):PE X (.ListComp elt [⟨t,iter,[cnd],0⟩] sc pos) (rE X.K J FT GT (.compI own fv js tgs k it c e)):=by
 intro Vu s σ H Q I h;obtain⟨cl,S⟩:=lJ I.ok xs hS;exact CmP.pe ⟨xo.calm,hi,S,hT,λ C ex s H yx=>he _ (lK xo) yx,⟨_,wY,λ C ex s H yx=>ZL rfl (hc _ (lK xo) yx)⟩,hns⟩ I (yj xo.hJ (λ i hi=>aD (gU.mp hl i hi)) h)
def Jd{es:List Expr}(h:es.all aZ=QK):(RQ pos (Rf es env)).all (λ x=>!x.1)=QK:=by
 unfold RQ;rw[Vh];have:=tG (env:=env) h;rw[List.all_eq_not_any_not];simpa using this
theorem lL{e:Expr}{es:List Expr}(h:(e::es).all aZ=QK)(hl:(e::es).length<20) :
  ((RQ cp (Rf (e::es) env)).all (λ x=>!x.1)&&(backToKw cp (keywordEach [] env)).all (λ x=>x.1.isSome)&&decide ((e::es).length+([]:List Tb).length+(if ([]:List Tb).isEmpty then 0 else 1)<30))=QK:=by
 rw[Jd h,bj,bj];refine⟨⟨O,O⟩,?_⟩;simp only[List.isEmpty_nil,gN,Uj];exact bJ ca
theorem Je{i f:Nat}{a:Expr}{es:List Expr}(xo:VM X J FT GT fs gs)(xs:XS X N nm)(hf:f=fs.length)(h1:N[i]?=QJ x)(h2:vs nm x=QK)(h3:Wt x=QK)(ha:PA X (a::es) (rA X.K J FT GT l))(hs:aZ a=QK)(hss:es.all aZ=QK) :
  PE X (.Call (.Name x p) (a::es) [] pos) (rE X.K J FT GT (.ap i f l)):=by
 subst hf;intro Vu s σ H Q I ⟨F,ρ,ev,hS,w⟩;obtain⟨S,hS⟩:=kO.mp hS;obtain⟨d1,d2,_⟩:=eU h3;obtain⟨fa,hs',w⟩:=sW (show XN ρ[i]? _ from w);obtain⟨v,e,rfl,fv⟩:=ev.sl i _ hs';obtain⟨k,hr,hc⟩:=(xo.hof S hS).ap;refine Hi (k:=k) (i:=i) hr (by rw[xs.N];exact h1) (jn xs h2) ha d1 d2 (bz hs) (gY hss) Vu s σ H Q I ⟨fa,e,fv,F,ρ,ev,cj l (λ ts w F1 H1 us g1 r1=>?_) w⟩;obtain⟨hn,P,⟨S',e',sp⟩,w⟩:=w;rw[hS] at e';cases e';obtain⟨F2,g2,_,r2⟩:=iC g1 r1 hn;have fv1:FnV H1 fa:=let ⟨φ,q,kf⟩:=fv;⟨φ,g1.sm _ _ (λ ps z=>by cases z) q,kf⟩;exact⟨fv1,hc fa _ us P F2 H1 Q g2.w fv1 r2 sp λ t pt F' H' v g' r'=>w t pt F' H' v (g2.trans g') (Rr.of r')⟩
theorem Jf{i f:Nat}(xo:VM X J FT GT fs gs)(xs:XS X N nm)(hf:f=fs.length)(hg:Gl X x)(hd:(x == ("__debug__" : Str))=QL)(h1:N[i]?=QJ z)(h2:vs nm z=QK)(h3:Wt z=QK)(hc:PE X u (rE X.K J FT GT c))(hs:aZ u=QK) :
  PE X (.Call (.Name x p) [u,.Name z q] [] pos) (rE X.K J FT GT (.cf i f x c)):=by
 subst hf;intro Vu s σ H Q I ⟨F,ρ,ev,⟨S,eS,sx⟩,w⟩;obtain⟨d1,d2,_⟩:=eU h3;obtain⟨k,ps,hr,cc⟩:=(xo.hof S eS).cf x sx;obtain⟨fa,hs',w⟩:=sW (show XN ρ[i]? _ from w);refine so cc hr hg sk (dA hc (dA (iR (pos:=q) (by rw[xs.N];exact h1) (jn xs h2) d1 d2) pa_nil rfl) (bz hs)) hd (bz hs) rfl Vu s σ H Q I ?_;refine⟨F,ρ,ev,au c (λ t w F1 H1 v g r=>?_) w⟩;obtain⟨v2,e2,rfl,fv⟩:=(ev.grow g).sl i _ hs';obtain⟨hn,P,⟨S',e',sp⟩,w⟩:=w;rw[eS] at e';cases e';obtain⟨F2,g2,_,_,r2⟩:=r.frz g hn;show cZ i σ H1 _;unfold cZ;rw[e2];exact⟨F2,fa,[t.fz],[v],P,O,g2.w,fv,⟨v,[],O,r2,O⟩,sp,λ t pt F' H' v' g' r'=>w t pt F' H' v' (g2.trans g') (Rr.of r')⟩
def Jg(h:PE X e (rE X.K J FT GT c))(he:∀whole,isTrue e X.env whole=(do let v <- whole;Tp e.pos;RX [v] (truthy v))):PT X e (rT X.K J FT GT c) :=
 (CY h he).imp λ σ H Q ⟨F,ρ,ev,w⟩=>⟨F,ρ,ev,au c (λ t w F1 H1 v g r=>by
  obtain⟨b,e,w2⟩:=jf w;subst e;cases r
  exact w2 F1 H1 g) w⟩
def Jh{o:SK}(xo:VM X J FT GT fs gs)(ha:PE X l (rE X.K J FT GT a))(hb:PE X r (rE X.K J FT GT b))(hs:eG r=QK):PT X (.Compare l [o] [r] p) (rT X.K J FT GT (.cmp o a b)) :=
 (Ed (lC xo.units o) ha hb (tN hs)).imp λ σ H Q ⟨F,ρ,ev,w⟩=>⟨F,ρ,ev,au a (λ x w F1 H1 v g1 r1=>⟨F1,ρ,ev.grow g1,au b (λ y w F2 H2 v2 g2 r2=>⟨F,H,F2,x,y,g1.trans g2,r1.grow g2,r2.late g1,iz (λ z w v r=>by
  obtain⟨b,e,w2⟩:=jf w;subst e;cases r
  exact w2 F2 H2 (g1.trans g2)) w⟩) w⟩) w⟩
def Ji{o o':SK}(xo:VM X J FT GT fs gs)(ha:PE X l (rE X.K J FT GT a))(hb:PE X r (rE X.K J FT GT b))(hc:PE X w' (rE X.K J FT GT c))(hs:eG w'=QK):PT X (.Compare l [o,o'] [r,w'] p) (rT X.K J FT GT (.cm2 o o' a b c)) :=
 (Ef (lC xo.units o) (lC xo.units o') ha hb hc (xU hs)).imp λ σ H Q ⟨F,ρ,ev,w⟩=>⟨F,ρ,ev,au a (λ x w F1 H1 v g1 r1=>⟨F1,ρ,ev.grow g1,au b (λ y w F2 H2 v2 g2 r2=>⟨F,H,F2,x,y,g1.trans g2,r1.grow g2,r2.late g1,iz (λ z w v3 r3=>by
  obtain⟨k,ek,w2⟩:=jf w;subst ek;cases r3;refine⟨k,O,?_⟩;split at w2
  .rw[m7 (by assumption)]
   exact⟨F2,ρ,(ev.grow g1).grow g2,au c (λ z w F4 H4 v4 g4 r4=>⟨F,H,F4,y,z,(g1.trans g2).trans g4,(r2.late g1).grow g4,r4.late (g1.trans g2),iz (λ u w v r=>by
    obtain⟨b,e,w3⟩:=jf w;subst e;cases r
    exact w3 F4 H4 ((g1.trans g2).trans g4)) w⟩) w2⟩
  .rw[k9 (by assumption)];exact w2 F2 H2 (g1.trans g2)) w⟩) w⟩) w⟩
def Jj(ha:PT X l (rT X.K J FT GT a)):PT X (.UnaryOp .Not l p) (rT X.K J FT GT (.not a)) :=
 (Df ha).imp λ σ H Q ⟨F,ρ,ev,w⟩=>⟨F,ρ,ev,au a (λ x w=>dn (λ b w F1 H1 g=>w F1 H1 g) w) w⟩
def yk{l r:Expr}{Vz:List Expr}(ha:PT X l (rT X.K J FT GT a))(hb:PW X (.BoolOp .And (r::Vz) p) (rT X.K J FT GT b)):PW X (.BoolOp .And (l::r::Vz) p) (rT X.K J FT GT (.and a b)):=by
 intro wh Vu s σ H Q I q;refine Dd ha hb wh Vu s σ H Q I ?_;obtain⟨F,ρ,ev,w⟩:=q;refine⟨F,ρ,ev,au a (λ x w=>dn (λ k w2 F1 H1 g1=>?_) w) w⟩;split at w2
 .rw[m7 (by assumption)];exact⟨F1,ρ,ev.grow g1,au b (λ y w=>dn (λ k w F2 H2 g2=>w F2 H2 (g1.trans g2)) w) w2⟩
 .rw[k9 (by assumption)];exact w2 F1 H1 g1
def ym{l r:Expr}{Vz:List Expr}(ha:PT X l (rT X.K J FT GT a))(hb:PW X (.BoolOp .Or (r::Vz) p) (rT X.K J FT GT b)):PW X (.BoolOp .Or (l::r::Vz) p) (rT X.K J FT GT (.or a b)):=by
 intro wh Vu s σ H Q I q;refine De ha hb wh Vu s σ H Q I ?_;obtain⟨F,ρ,ev,w⟩:=q;refine⟨F,ρ,ev,au a (λ x w=>dn (λ k w2 F1 H1 g1=>?_) w) w⟩;split at w2
 .rw[m7 (by assumption)];exact w2 F1 H1 g1
 .rw[k9 (by assumption)];exact⟨F1,ρ,ev.grow g1,au b (λ y w=>dn (λ k w F2 H2 g2=>w F2 H2 (g1.trans g2)) w) w2⟩
def yn{lo:Cd}(h:lF lo=QK):PO X QM (λ σ H Q=>∃F ρ,EV X.K J F H σ ρ/\wE FT GT lo ρ λ t=>oI t λ o=>∀F' H',Grow J F H F' H'->Q o H'):=by
 intro Vu s σ H Q I q;obtain⟨F,ρ,ev,w⟩:=q
 have e:lo=.c .non:=by unfold lF at h;split at h<;>first|rfl|cases h
 subst e;exact Ex Vu s σ H Q I (w F H (.refl ev.w))
def yp{lo:Cd}(he:PE X e (rE X.K J FT GT lo)):PO X (QJ e) (λ σ H Q=>∃F ρ,EV X.K J F H σ ρ/\wE FT GT lo ρ λ t=>oI t λ o=>∀F' H',Grow J F H F' H'->Q o H'):=by
 intro Vu s σ H Q I q;obtain⟨F,ρ,ev,w⟩:=q;rw[evalPart_some];refine VD (he Vu s σ H (λ x H1=>(x=.non/\Q QM H1)\/∃i,x=.int i/\Q (QJ i) H1) I ⟨F,ρ,ev,au lo (λ t w F1 H1 v g r=>?_) w⟩) λ u s1 ⟨x,H1,I1,r1,q1⟩=>?_
 .cases t with
  |non=>cases r;exact .inl ⟨rfl,w F1 H1 g⟩
  |int i=>cases r;exact .inr ⟨i,rfl,w F1 H1 g⟩
  |_=>exact w.elim
 .rcases q1 with ⟨rfl,q⟩|⟨i,rfl,q⟩
  .cases r1;exact⟨QM,H1,I1,.none,q⟩
  .obtain⟨tk,rfl⟩:=r1;exact⟨QJ i,H1,I1,.int _ _,q⟩
end
def Jk(h:xF c=QK):c=.nil:=by cases c<;>first|rfl|exact QN h
def yq(h:lH e=QK):∃es k p,e=.Tuple es k p:=by cases e<;>first|exact⟨_,_,_,rfl⟩|exact QN h
set_option tactic.hygienic true in
def Jl(h:Zi e=QK)(whole:Sem Value):isTrue e env whole=(do let v <- whole;Tp e.pos;RX [v] (truthy v)):=by
 cases e<;>first|rfl|(exact QN h)|skip
 rename_i op _ _
 cases op<;>first|rfl|exact QN h
section
variable {fs gs:List Str}
def jV:∀ {r:Cd}{N:List Str}{nm:List (Str×Rb)}{es:List Expr},ckL fs gs r N nm es=QK->es.all aZ=QK:=λ {r}=>by
 induction r with
 |nil=>intro N nm es h;cases es with|nil=>rfl|cons e es=>exact QN h
 |cons a r _ ih=>
  intro N nm es h
  cases es with
  |nil=>exact QN h
  |cons e es=>
   obtain⟨h1,h2⟩:=an h;rw[dh,(an h1).1,ih h2];rfl
 |_=>intro N nm es h;exact QN h
def jW(h:ckI fs gs c k tg N nm it=QK):eG it=QK:=by
 cases c with
 |cons a r=>
  cases k with
  |seq=>exact(an (an h).1).1
  |str=>exact QN h
  |_=>exact dR h λ _ _ _ _ _=>rfl
 |_=>exact QN h
end
section
variable {J:Hp->Prop}{FT:List Vv}{GT:List TV}{fs gs:List Str}
structure SA (J:Hp->Prop)(FT:List Vv)(GT:List TV)(fs gs:List Str)(c:Cd):Prop where
 e:∀ {X:Cx}{N:List Str}{nm:List (Str×Rb)}{e:Expr},VM X J FT GT fs gs->XS X N nm->ck fs gs c N nm e=QK->PE X e (rE X.K J FT GT c)
 l:∀ {X:Cx}{N:List Str}{nm:List (Str×Rb)}{es:List Expr},VM X J FT GT fs gs->XS X N nm->ckL fs gs c N nm es=QK->PA X es (rA X.K J FT GT c)
 i:∀ {k:IK}{X:Cx}{N:List Str}{nm:List (Str×Rb)}{tg it:Expr},VM X J FT GT fs gs->XS X N nm->ckI fs gs c k tg N nm it=QK->PI X tg it (rW X.K J FT GT k c)
 t:∀ {X:Cx}{N:List Str}{nm:List (Str×Rb)}{e:Expr},VM X J FT GT fs gs->XS X N nm->tB' c e=QK->ck fs gs c N nm e=QK->PT X e (rT X.K J FT GT c)
 w:∀ {X:Cx}{N:List Str}{nm:List (Str×Rb)}{op:Uh}{es:List Expr}{p:Pos},VM X J FT GT fs gs->XS X N nm->ck fs gs c N nm (.BoolOp op es p)=QK->PW X (.BoolOp op es p) (rT X.K J FT GT c)
abbrev EF(J:Hp->Prop)(FT:List Vv)(GT:List TV)(fs gs:List Str)(c:Cd):Prop:=∀ {X:Cx}{N:List Str}{nm:List (Str×Rb)}{e:Expr},VM X J FT GT fs gs->XS X N nm->ck fs gs c N nm e=QK->PE X e (rE X.K J FT GT c)
def SA.val(E:EF J FT GT fs gs c)(t:autoParam (∀e,tB' c e=Zi e) A7._auto_1)(l:autoParam (∀N nm es,ckL fs gs c N nm es=QL) A5._auto_1)(i:autoParam (∀k tg N nm it,ckI fs gs c k tg N nm it=QL) A5._auto_1)(w:autoParam (∀N nm op es p,ck fs gs c N nm (.BoolOp op es p)=QL) A5._auto_1):SA J FT GT fs gs c :=
 ⟨E,λ _ _ h=>by rw[l] at h;exact QN h,λ _ _ h=>by rw[i] at h;exact QN h,λ xo xs n h=>Jg (E xo xs h) (Jl (by rw[<- t];exact n)),λ _ _ h=>by rw[w] at h;exact QN h⟩
def SA.tst(E:EF J FT GT fs gs c)(T:∀ {X:Cx}{N:List Str}{nm:List (Str×Rb)}{e:Expr},VM X J FT GT fs gs->XS X N nm->ck fs gs c N nm e=QK->PT X e (rT X.K J FT GT c))(l:autoParam (∀N nm es,ckL fs gs c N nm es=QL) A5._auto_1)(i:autoParam (∀k tg N nm it,ckI fs gs c k tg N nm it=QL) A5._auto_1)(w:autoParam (∀N nm op es p,ck fs gs c N nm (.BoolOp op es p)=QL) A5._auto_1):SA J FT GT fs gs c :=
 ⟨E,λ _ _ h=>by rw[l] at h;exact QN h,λ _ _ h=>by rw[i] at h;exact QN h,λ xo xs _ h=>T xo xs h,λ _ _ h=>by rw[w] at h;exact QN h⟩
def sA(J:Hp->Prop)(FT:List Vv)(GT:List TV)(fs gs:List Str)(c:Cd):SA J FT GT fs gs c:=by
 induction c with
 |v i=>exact .val λ xo xs h=>s_v xs h
 |c t=>exact .val λ xo xs h=>s_c h
 |g k=>exact .val λ xo xs h=>s_g xo xs h
 |bin o a b ia ib=>
  refine .val λ {X N nm e} xo xs h=>?_;refine Iq h λ l op r p k1=>?_;obtain⟨g1,g2,g3⟩:=a3 k1;cases aD g1;exact IB xo (ia.e xo xs g2) (ib.e xo xs g3)
 |neg a ia=>
  refine .val λ {X N nm e} xo xs h=>?_;refine xI h λ op x p k1=>?_;cases aD (an k1).1;exact IE (ia.e xo xs (an k1).2)
 |not a ia=>
  refine .tst (λ {X N nm e} xo xs h=>?_) (λ {X N nm e} xo xs h=>?_)
  all_goals
   refine xI h λ op x p k1=>?_;obtain⟨g1,g2,g3⟩:=a3 k1;cases aD g1
  .exact IF (ia.e xo xs g3)
  .exact Jj (ia.t xo xs g2 g3)
 |cmp o a b ia ib=>
  refine .tst (λ {X N nm e} xo xs h=>?_) (λ {X N nm e} xo xs h=>?_)
  all_goals
   refine xJ h λ l os rs p k1=>?_;refine fP k1 λ op k2=>?_;refine fP k2 λ r k3=>?_;obtain⟨g1,g2,g3,g4⟩:=a4 k3;cases aD g1
  .exact IC xo (ia.e xo xs g2) (ib.e xo xs g3) g4
  .exact Jh xo (ia.e xo xs g2) (ib.e xo xs g3) g4
 |cm2 o o' a b c ia ib ic=>
  refine .tst (λ {X N nm e} xo xs h=>?_) (λ {X N nm e} xo xs h=>?_)
  all_goals
   refine xJ h λ l os rs p k1=>?_;refine nC k1 λ op op' k2=>?_;refine nC k2 λ r r' k3=>?_;obtain⟨g1,g2,g3,g4,g5,g6⟩:=a6 k3;cases aD g1;cases aD g2
  .exact IG xo (ia.e xo xs g3) (ib.e xo xs g4) (ic.e xo xs g5) g6
  .exact Ji xo (ia.e xo xs g3) (ib.e xo xs g4) (ic.e xo xs g5) g6
 |and a b ia ib=>
  have W:∀ {X:Cx}{N:List Str}{nm:List (Str×Rb)}{op:Uh}{es:List Expr}{p:Pos},VM X J FT GT fs gs->XS X N nm->ck fs gs (.and a b) N nm (.BoolOp op es p)=QK->PW X (.BoolOp op es p) (rT X.K J FT GT (.and a b)):=by
   intro X N nm op es p xo xs h;obtain⟨g,g'⟩:=an h;cases aD g
   rcases es with _|⟨x,_|⟨y,_|⟨z,r⟩⟩⟩<;>try exact QN g'
   .obtain⟨h1,h2,h3,h4⟩:=a4 g';exact yk (ia.t xo xs h1 h3) (Db (ib.t xo xs h2 h4))
   .obtain⟨h1,h3,h4⟩:=a3 g';exact yk (ia.t xo xs h1 h3) (ib.w xo xs h4)
  refine⟨λ {X N nm e} xo xs h=>?_,λ _ _ h=>QN h,λ _ _ h=>QN h,λ {X N nm e} xo xs n h=>?_,W⟩
  .refine xK h λ op es p g=>?_;obtain⟨g,g'⟩:=an g;cases aD g
   rcases es with _|⟨x,_|⟨y,_|⟨z,r⟩⟩⟩<;>try exact QN g'
   .obtain⟨h1,h2,h3,h4⟩:=a4 g';exact xW (ia.e xo xs h3) (vE (ib.e xo xs h4))
   .obtain⟨h1,h3,h4⟩:=a3 g';exact xW (ia.e xo xs h3) (ib.e xo xs h4)
  .obtain⟨op,es,p,rfl,g⟩:=xL h;exact(W xo xs h).pt
 |or a b ia ib=>
  have W:∀ {X:Cx}{N:List Str}{nm:List (Str×Rb)}{op:Uh}{es:List Expr}{p:Pos},VM X J FT GT fs gs->XS X N nm->ck fs gs (.or a b) N nm (.BoolOp op es p)=QK->PW X (.BoolOp op es p) (rT X.K J FT GT (.or a b)):=by
   intro X N nm op es p xo xs h;obtain⟨g,g'⟩:=an h;cases aD g
   rcases es with _|⟨x,_|⟨y,_|⟨z,r⟩⟩⟩<;>try exact QN g'
   .obtain⟨h1,h2,h3,h4⟩:=a4 g';exact ym (ia.t xo xs h1 h3) (Dc (ib.t xo xs h2 h4))
   .obtain⟨h1,h3,h4⟩:=a3 g';exact ym (ia.t xo xs h1 h3) (ib.w xo xs h4)
  refine⟨λ {X N nm e} xo xs h=>?_,λ _ _ h=>QN h,λ _ _ h=>QN h,λ {X N nm e} xo xs n h=>?_,W⟩
  .refine xK h λ op es p g=>?_;obtain⟨g,g'⟩:=an g;cases aD g
   rcases es with _|⟨x,_|⟨y,_|⟨z,r⟩⟩⟩<;>try exact QN g'
   .obtain⟨h1,h2,h3,h4⟩:=a4 g';exact xX (ia.e xo xs h3) (vE (ib.e xo xs h4))
   .obtain⟨h1,h3,h4⟩:=a3 g';exact xX (ia.e xo xs h3) (ib.e xo xs h4)
  .obtain⟨op,es,p,rfl,g⟩:=xL h;exact(W xo xs h).pt
 |ite c a b ic ia ib=>
  refine .val λ {X N nm e} xo xs h=>?_;refine Ir h λ x y z p k1=>?_;obtain⟨g1,g2,g3,g4⟩:=a4 k1;exact IH (ic.t xo xs g1 g2) (ia.e xo xs g3) (ib.e xo xs g4)
 |nil=>
  refine⟨λ _ _ h=>QN h,λ {X N nm es} xo xs h=>?_,λ _ _ h=>QN h,λ _ _ _ h=>QN h,λ _ _ h=>QN h⟩
  cases es with
  |nil=>exact II
  |cons e es=>exact QN h
 |cons a r ia ir=>
  refine⟨λ _ _ h=>QN h,λ {X N nm es} xo xs h=>?_,λ {k X N nm tg it} xo xs h=>?_,λ _ _ _ h=>QN h,λ _ _ h=>QN h⟩
  .cases es with
   |nil=>exact QN h
   |cons e es=>
    obtain⟨h1,h3⟩:=an h;obtain⟨h1,h2⟩:=an h1;exact xY (ia.e xo xs h2) (ir.l xo xs h3) h1
  .have call:∀ {x:Str}{p:Pos}{e:Expr}{es:List Expr}{pos:Pos},decide (XO k=QJ (x,es.length))=QK->gl nm x=QK->(!YK k || lH tg)=QK->aZ e=QK->ck fs gs a N nm e=QK->ckL fs gs r N nm es=QK->PI X tg (.Call (.Name x p) (e::es) [] pos) (rW X.K J FT GT k (.cons a r)):=by
    intro x p e es pos h1 h2 h3 h4 h5 h6;have hk:=aD h1;have he:=ia.e xo xs h5;have hr:=ir.l xo xs h6;have st:=jV h6;have g:=WR xs h2
    have n0:es=[]->r=.nil:=λ z=>by subst z;cases r<;>first|rfl|exact QN h6
    cases k with
    |seq|str|rng2|zip c d|zip3=>cases hk
    |rng=>
     simp only[XO,qg,qh] at hk;obtain⟨rfl,hk⟩:=hk;cases nr hk.symm;cases n0 rfl;exact IV xo g h4 he
    |rng3=>
     simp only[XO,qg,qh] at hk;obtain⟨rfl,hk⟩:=hk
     match es,hk with
     |[y,z],_=>exact IY xo g h4 (by simp at st;exact st.1) (by simp at st;exact st.2) (xY he hr h4)
    |enum c=>
     simp only[XO,qg,qh] at hk;obtain⟨rfl,hk⟩:=hk;obtain⟨tes,tk,tp,rfl⟩:=yq (show lH tg=QK by simpa [YK] using h3);cases nr hk.symm;cases n0 rfl;exact IZ xo g h4 he
    |rev c=>
     cases c<;>try (cases hk;done)
     simp only[XO,qg,qh] at hk;obtain⟨rfl,hk⟩:=hk;cases nr hk.symm;cases n0 rfl;exact Ja xo g h4 he
   have arg:(dJ it λ g as w _=>bS g λ x _=>cC as λ e es=>w.isEmpty&&decide (XO k=QJ (x,es.length))&&gl nm x&&(!YK k || lH tg)&&aZ e&&ck fs gs a N nm e&&ckL fs gs r N nm es)=QK->PI X tg it (rW X.K J FT GT k (.cons a r)):=λ h=>by
    refine dR h λ g as w pos k1=>?_;refine bC k1 λ x p k2=>?_;refine pX k2 λ e es k3=>?_;obtain⟨g0,g1,g2,g3,g4,g5,g6⟩:=a7 k3;refine dC g0 ?_;exact call g1 g2 g3 g4 g5 g6
   cases k with
   |seq=>
    obtain⟨h1,h3⟩:=an h;cases Jk (an h1).2;exact IT (ia.e xo xs h3)
   |str=>exact QN h
   |_=>exact arg h
 |tup l il=>
  refine .val λ {X N nm e} xo xs h=>?_;refine pV h λ es _ _ k1=>?_;exact IJ xo (il.l xo xs k1)
 |lst l il=>
  refine .val λ {X N nm e} xo xs h=>?_;refine xN h λ es _ k1=>?_;exact IL xo (il.l xo xs k1)
 |ix a b ia ib=>
  refine .val λ {X N nm e} xo xs h=>?_;refine nz h λ x y p k1=>?_;obtain⟨g1,g2,g3⟩:=a3 k1;exact ID (ia.e xo xs g2) (ib.e xo xs g3) g1
 |sl a lo hi ia il ih=>
  refine .val λ {X N nm e} xo xs h=>?_;refine nz h λ x y p k1=>?_;refine Iu k1 λ l u st q k2=>?_;obtain⟨g0,g1,g2,g3⟩:=a4 k2;cases Option.isNone_iff_eq_none.mp g0;refine IM xo (ia.e xo xs g1) ?_ ?_
  .cases l with
   |none=>exact yn g2
   |some l=>exact yp (il.e xo xs (an g2).1)
  .cases u with
   |none=>exact yn g3
   |some u=>exact yp (ih.e xo xs (an g3).1)
 |call f l il=>
  refine .val λ {X N nm e} xo xs h=>?_;refine dR h λ f' as w pos k1=>?_;refine bC k1 λ x p k2=>?_;refine pX k2 λ a es k3=>?_;obtain⟨g0,g1,g2,g3,g4⟩:=a5 k3;refine dC g0 ?_;have st:=jV g4;rw[dh,bj] at st;exact IN xo (aD g1) (WR xs g2) (eU g3).1 (il.l xo xs g4) st.1 st.2
 |bi f l il=>
  refine .val λ {X N nm e} xo xs h=>?_;refine dR h λ f' as w pos k1=>?_;refine bC k1 λ x p k2=>?_;refine pX k2 λ a es k3=>?_;obtain⟨g0,g1,g2,g4⟩:=a4 k3;refine dC g0 ?_;have st:=jV g4;rw[dh,bj] at st;exact IP xo (aD g1) (WR xs g2) (il.l xo xs g4) st.1 st.2
 |mxl a b ia ib=>
  refine .val λ {X N nm e} xo xs h=>?_;refine dR h λ f' as w pos k1=>?_;refine bC k1 λ x p k2=>?_;refine nC k2 λ y z k3=>?_;obtain⟨⟨kx,kv,kp⟩,rfl,k4⟩:=jm k3;obtain⟨u,_,e1,k5⟩:=Io k4;cases e1;obtain⟨g1,g2,g3,g4,g5,g6,g7,g8,g9⟩:=a9 k5;cases aD g1;cases aD g3;cases aD g4;exact IQ xo (WR xs g2) (WR xs g5) g6 g7 (ia.e xo xs g8) (ib.e xo xs g9)
 |trev k a ia=>
  refine .val λ {X N nm e} xo xs h=>?_;refine dR h λ f' as w pos k1=>?_;refine bC k1 λ x p k2=>?_;refine fP k2 λ u k3=>?_;refine dR k3 λ f'' as' w' pos' k4=>?_;refine bC k4 λ y p' k5=>?_;refine fP k5 λ z k6=>?_;obtain⟨g0,g0',g1,g2,g3,g4,g5,g6⟩:=a8 k6;refine dC g0 ?_;refine dC g0' ?_;cases aD g1;cases aD g3;exact IR xo (WR xs g2) (WR xs g4) g5 (ia.e xo xs g6)
 |ap i f l il=>
  refine .val λ {X N nm e} xo xs h=>?_;refine dR h λ f' as w pos k1=>?_;refine bC k1 λ x p k2=>?_;refine pX k2 λ a es k3=>?_;obtain⟨g0,g1,g2,g3,g4,g5⟩:=a6 k3;refine dC g0 ?_;have st:=jV g5;rw[dh,bj] at st;exact Je xo xs (aD g1) (aD g2) g3 g4 (il.l xo xs g5) st.1 st.2
 |cf i f x c ic=>
  refine .val λ {X N nm e} xo xs h=>?_;refine dR h λ f' as w pos k1=>?_;refine bC k1 λ y p k2=>?_;refine nC k2 λ u v k3=>?_;refine bC k3 λ z q k4=>?_;obtain⟨g0,g1,g2,g3,g4,g5⟩:=a6 k4;obtain⟨b0,b1,b2,b3,b4⟩:=a5 g0;refine dC b0 ?_;cases aD b2;exact Jf xo xs (aD b1) (WR xs b3) (eU b4).1 (aD g1) g2 g3 (ic.e xo xs g5) g4
 |lrng k a ia=>
  refine .val λ {X N nm e} xo xs h=>?_;refine dR h λ f' as w pos k1=>?_;refine bC k1 λ x p k2=>?_;refine fP k2 λ u k3=>?_;refine dR k3 λ f'' as' w' pos' k4=>?_;refine bC k4 λ y p' k5=>?_;refine fP k5 λ z k6=>?_;obtain⟨g0,g0',g1,g2,g3,g4,g5,g6⟩:=a8 k6;refine dC (an g0).1 ?_;refine dC g0' ?_;cases aD g1;cases aD g3;exact IS (k:=k) (an g0).2 xo (WR xs g2) (WR xs g4) g5 (ia.e xo xs g6)
 |dk k a ia=>
  refine .val λ {X N nm e} xo xs h=>?_;refine nz h λ o y p k1=>?_;refine bC k1 λ x q k2=>?_;obtain⟨g1,g2,g3,g4,g5⟩:=a5 k2;exact IA xo xs (aD g1) g2 g3 g4 (ia.e xo xs g5)
 |comp own fv js tg k it e ii ie=>
  refine .val λ {X N nm x} xo xs h=>?_;obtain⟨elt,gn,sc,p,rfl,k1⟩:=nA h;obtain⟨⟨t,iter,ifs,z⟩,rfl,k2⟩:=jm k1;obtain⟨g0,g1,g2,g3,g4,g5,g6⟩:=a7 k2;cases (show ifs=[] from tS.mp g0);cases aD g1;exact Jb xo xs g2 (ii.i xo xs g3) g4 g5 (jW g3) λ Y yo ys=>ie.e yo ys g6
 |compI own fv js tg k it c e ii ic ie=>
  refine .val λ {X N nm x} xo xs h=>?_;obtain⟨elt,gn,sc,p,rfl,k1⟩:=nA h;obtain⟨⟨t,iter,ifs,z⟩,rfl,k2⟩:=jm k1;obtain⟨cnd,e1,k3⟩:=jm k2;cases e1;obtain⟨g1,g2,g3,g4,g5,g6,g7,g8⟩:=a8 k3;cases aD g1;exact Jc xo xs g2 (ii.i xo xs g3) g4 g5 (jW g3) (λ Y yo ys=>ic.t yo ys g6 g7) λ Y yo ys=>ie.e yo ys g8
def sE(c:Cd)(xo:VM X J FT GT fs gs)(xs:XS X N nm)(h:ck fs gs c N nm e=QK):PE X e (rE X.K J FT GT c):=(sA J FT GT fs gs c).e xo xs h
def sL(c:Cd)(xo:VM X J FT GT fs gs)(xs:XS X N nm)(h:ckL fs gs c N nm es=QK):PA X es (rA X.K J FT GT c):=(sA J FT GT fs gs c).l xo xs h
def sI(c:Cd)(k:IK)(xo:VM X J FT GT fs gs)(xs:XS X N nm)(h:ckI fs gs c k tg N nm it=QK):PI X tg it (rW X.K J FT GT k c):=(sA J FT GT fs gs c).i xo xs h
def sT(c:Cd)(xo:VM X J FT GT fs gs)(xs:XS X N nm)(n:tB' c e=QK)(h:ck fs gs c N nm e=QK):PT X e (rT X.K J FT GT c):=(sA J FT GT fs gs c).t xo xs n h
end
inductive MM where
 |append|insert|extend (t:Bool)|pop
inductive Ct where
 |nil|never|ret (c:Cd)
 |set (i:Nat) (c:Cd) (r:Ct)|sets (is:List Nat) (c:Cd) (r:Ct)|fz (i:Nat) (r:Ct)|ex (c:Cd) (r:Ct)
 |met (m:MM) (i:Nat) (l:Cd) (r:Ct)|put (i:Nat) (c d:Cd) (r:Ct)
 |ite (c:Cd) (a b r:Ct)|«for» (tg:List Nat) (k:IK) (it:Cd) (b r:Ct)|tri (b r:Ct)
 |nl (i:Nat) (own:List Str) (k:IK) (it:Cd) (r:Ct)|pu (i j:Nat) (e:Cd) (r:Ct)|fu (i:Nat) (r:Ct)|xl (i f:Nat) (l:Cd) (r:Ct)
noncomputable def XQ(ρ:En)(i:Nat):En:=match ρ[i]? with|some (QJ (.own l))=>ρ.set i (QJ (.lst l))|_=>ρ
def fzC:Cd->En->En
 |.v i,ρ=>XQ ρ i
 |_,ρ=>ρ
def fzV:Cd->En->En
 |.cons a r,ρ=>fzV r (fzC a ρ)
 |_,ρ=>ρ
def Xj(b:TV->En->(En->Prop)->Prop):List TV->En->(En->Prop)->Prop
 |[],ρ,K=>K ρ
 |t::r,ρ,K=>b t ρ λ ρ'=>Xj b r ρ' K
def Yo(s:Option (Option TV))(P:List QO->List (LL)->Prop):Prop:=match s with|some (QJ (.obj (.lls as ll)))=>P as ll|_=>False
def YL(s:Option (Option TV))(P:Int->Prop):Prop:=match s with|some (QJ (.int k))=>P k|_=>False
noncomputable def tT(ρ:En):Bool:=ρ.all λ s=>match s with|some (.obj (.lls _ _))=>QL|_=>QK
def tU(q:Yo s P):∃as ll,s=QJ (QJ (.obj (.lls as ll)))/\P as ll:=by
 rcases s with _|_|t
 .exact q.elim
 .exact q.elim
 .cases t with
  |obj o=>cases o<;>first|exact⟨_,_,rfl,q⟩|exact q.elim
  |_=>exact q.elim
def yr(q:YL s P):∃k,s=QJ (QJ (.int k))/\P k:=by
 rcases s with _|_|t
 .exact q.elim
 .exact q.elim
 .cases t<;>first|exact⟨_,rfl,q⟩|exact q.elim
def yt{P P':List QO->List (LL)->Prop}(h:∀as ll,P as ll->P' as ll)(q:Yo s P):Yo s P':=by
 obtain⟨as,ll,e,p⟩:=tU q;subst e;exact h as ll p
def Jm{P P':Int->Prop}(h:∀k,P k->P' k)(q:YL s P):YL s P':=by
 obtain⟨k,e,p⟩:=yr q;subst e;exact h k p
def gv(s:Option (Option TV))(P:List TV->Prop):Prop:=match s with|some (QJ (.own l))=>P l|_=>False
def Yp(m:MM)(l:List TV)(ts:List TV)(K:TV->List TV->Prop):Prop:=match m,ts with
 |.append,[t]=>t.nb=QK/\l.length<QR/\K .non (l++[t.fz])
 |.insert,[u,t]=>i1 u λ i=>t.nb=QK/\(0<=i/\i<=l.length)/\l.length<QR/\K .non (l.take i.toNat++t.fz::l.drop i.toNat)
 |.extend b,[t]=>t.nb=QK/\k1 b t λ m=>l.length+m.length<=QR/\K .non (l++m)
 |.pop,[]=>∃y,l[l.length-1]?=QJ y/\K y l.dropLast
 |.pop,[u]=>i1 u λ i=>(-(2 ^ 63)<=i/\i<2 ^ 63)/\∃k y,Ti i l.length=QJ k/\l[k]?=QJ y/\K y (l.eraseIdx k)
 |_,_=>False
section
variable (FT:List Vv)(GT:List TV)
def wS:Ct->En->(En->Prop)->(TV->Prop)->Prop
 |.nil,ρ,nx,_=>nx ρ
 |.never,_,_,_=>False
 |.ret c,ρ,_,rt=>wE FT GT c (fzC c ρ) λ t=>t.nb=QK/\rt t.fz
 |.set i c r,ρ,nx,rt=>wE FT GT c (fzC c ρ) λ t=>t.nb=QK/\wS r ((fzC c ρ).set i (QJ t)) nx rt
 |.sets is c r,ρ,nx,rt=>wE FT GT c ρ λ t=>(match t with|.tup _=>Wq ρ is t λ ρ'=>wS r ρ' nx rt|_=>False)
 |.fz i r,ρ,nx,rt=>wS r (XQ ρ i) nx rt
 |.ex c r,ρ,nx,rt=>wE FT GT c ρ λ _=>wS r ρ nx rt
 |.met m i l r,ρ,nx,rt=>gv (fzV l ρ)[i]? λ xs=>wL FT GT l (fzV l ρ) λ ts=>Yp m xs ts λ _ ys=>wS r ((fzV l ρ).set i (QJ (.own ys))) nx rt
 |.put i c d r,ρ,nx,rt=>gv (fzC d ρ)[i]? λ xs=>wE FT GT d (fzC d ρ) λ t=>t.nb=QK/\wE FT GT c (fzC d ρ) λ u=>i1 u λ k=>∃n,Xb xs.length k=QJ n/\wS r ((fzC d ρ).set i (QJ (.own (xs.set n t.fz)))) nx rt
 |.ite c a b r,ρ,nx,rt=>wE FT GT c ρ λ t=>b1 t λ k=>if k=QK then wS a ρ (λ ρ'=>wS r ρ' nx rt) rt else wS b ρ (λ ρ'=>wS r ρ' nx rt) rt
 |.for tg k it b r,ρ,nx,rt=>wL FT GT it (fzV it ρ) λ ts=>ts.all TV.nb=QK/\Xz k ts λ its=>Xj (λ t ρ K=>Wq ρ tg t λ ρ'=>wS b ρ' K rt) its (fzV it ρ) λ ρ'=>wS r ρ' nx rt
 |.tri b r,ρ,nx,rt=>wS b ρ (λ ρ'=>wS r ρ' nx rt) rt
 |.nl i _ k it r,ρ,nx,rt=>tT ρ=QK/\wL FT GT it ρ λ ts=>Xz k ts λ its=>its.length<QR/\∀as:List QO,as.Nodup->as.length=its.length->wS r (ρ.set i (QJ (.obj (.lls as (QT as.length []))))) nx rt
 |.pu i j e r,ρ,nx,rt=>Yo ρ[i]? λ as ll=>YL ρ[j]? λ k=>∃(n:Nat) (l:LL),k=n/\ll[n]?=QJ l/\l.length<1000/\wE FT GT e ρ λ t=>∃ks,t=kT ks/\wS r (ρ.set i (QJ (.obj (.lls as (ll.set n (l++[ks])))))) nx rt
 |.fu i r,ρ,nx,rt=>Yo ρ[i]? λ _ ll=>wS r (ρ.set i (QJ (.lst (ll.map λ l=>.lst (l.map kT))))) nx rt
 |.xl i f l r,ρ,nx,rt=>gv ρ[i]? λ xs=>wL FT GT l ρ λ ts=>∃P,(∃S,FT[f]?=QJ S/\S (ts.map .fz) P)/\∀t,P t->∃m,t=.lst m/\(∀x∈m,LF x)/\xs.length+m.length<=QR/\wS r (ρ.set i (QJ (.own (xs++m)))) nx rt
end
def nG{P P':List TV->Prop}(h:∀l,P l->P' l)(q:gv s P):gv s P':=by
 unfold gv at *;split at q
 .exact h _ q
 .exact q.elim
def nH(q:gv s P):∃l,s=QJ (QJ (.own l))/\P l:=by
 unfold gv at q;split at q
 .exact⟨_,O,q⟩
 .exact q.elim
def yv{K K':TV->List TV->Prop}(h:∀y ys,K y ys->K' y ys)(q:Yp m l ts K):Yp m l ts K':=by
 rcases ts with _|⟨t,_|⟨u,_|⟨w,r⟩⟩⟩
 .cases m with
  |pop=>obtain⟨y,e,q⟩:=q;exact⟨y,e,h _ _ q⟩
  |_=>exact q.elim
 .cases m with
  |append=>exact⟨q.1,q.2.1,h _ _ q.2.2⟩
  |extend b=>exact⟨q.1,jc (λ m q=>⟨q.1,h _ _ q.2⟩) q.2⟩
  |pop=>exact gW (λ i ⟨c,k,y,e,f,q⟩=>⟨c,k,y,e,f,h _ _ q⟩) q
  |_=>exact q.elim
 .cases m with
  |insert=>exact gW (λ i ⟨a,b,c,q⟩=>⟨a,b,c,h _ _ q⟩) q
  |_=>exact q.elim
 .cases m<;>exact q.elim
section
variable {FT:List Vv}{GT:List TV}
theorem bK:∀(c:Ct) {ρ:En}{nx nx':En->Prop}{rt rt':TV->Prop},(∀ρ,nx ρ->nx' ρ)->(∀t,rt t->rt' t)->wS FT GT c ρ nx rt->wS FT GT c ρ nx' rt'
 |.nil,_,_,_,_,_,h,_,q=>h _ q
 |.never,_,_,_,_,_,_,_,q=>q.elim
 |.ret c,_,_,_,_,_,_,g,q=>au c (λ t q=>⟨q.1,g _ q.2⟩) q
 |.set i c r,_,_,_,_,_,h,g,q=>au c (λ t q=>⟨q.1,bK r h g q.2⟩) q
 | .sets is c r,_,_,_,_,_,h,g,q=>au c (λ t q=>by
   cases t with
   |tup l=>exact iA (λ ρ' q=>bK r h g q) q
   |_=>exact q.elim) q
 |.fz i r,ρ,nx,_,rt,_,h,g,q=>bK r h g (show wS FT GT r (XQ ρ i) nx rt from q)
 |.ex c r,_,_,_,_,_,h,g,q=>au c (λ t q=>bK r h g q) q
 |.met m i l r,_,_,_,_,_,h,g,q=>nG (λ xs q=>cj l (λ ts q=>yv (λ y ys q=>bK r h g q) q) q) q
 |.put i c d r,_,_,_,_,_,h,g,q=>nG (λ xs q=>au d (λ t q=>⟨q.1,au c (λ u q=>gW (λ k ⟨n,e,q⟩=>⟨n,e,bK r h g q⟩) q) q.2⟩) q) q
 | .ite c a b r,_,_,_,_,_,h,g,q=>au c (λ t q=>dn (λ k q=>by
   split at q
   .rw[m7 (by assumption)];exact bK a (λ ρ q=>bK r h g q) g q
   .rw[k9 (by assumption)];exact bK b (λ ρ q=>bK r h g q) g q) q) q
 |.for tg k it b r,_,nx,nx',rt,rt',h,g,q=>by
   refine cj it (λ ts q=>⟨q.1,jd (λ its q=>?_) q.2⟩) q
   have e:∀(l:List TV) (ρ:En),Xj (λ t ρ K=>Wq ρ tg t λ ρ'=>wS FT GT b ρ' K rt) l ρ (λ ρ'=>wS FT GT r ρ' nx rt)->Xj (λ t ρ K=>Wq ρ tg t λ ρ'=>wS FT GT b ρ' K rt') l ρ (λ ρ'=>wS FT GT r ρ' nx' rt'):=by
    intro l
    induction l with
    |nil=>intro ρ q;exact bK r h g q
    |cons t l ih=>
     intro ρ q;have q:Wq ρ tg t λ ρ'=>wS FT GT b ρ' (λ ρ''=>Xj (λ t ρ K=>Wq ρ tg t λ ρ'=>wS FT GT b ρ' K rt) l ρ'' λ ρ'=>wS FT GT r ρ' nx rt) rt:=q;exact iA (λ ρ' q=>bK b (λ ρ'' q=>ih ρ'' q) g q) q
   exact e _ _ q
 |.tri b r,ρ,nx,_,rt,_,h,g,q=>bK b (λ ρ q=>bK r h g q) g (show wS FT GT b ρ (λ ρ'=>wS FT GT r ρ' nx rt) rt from q)
 |.nl i own k it r,_,_,_,_,_,h,g,q=>⟨q.1,cj it (λ ts q=>jd (λ its q=>⟨q.1,λ as a b=>bK r h g (q.2 as a b)⟩) q) q.2⟩
 |.pu i j e r,_,_,_,_,_,h,g,q=>yt (λ as ll q=>Jm (λ k ⟨n,l,a,b,c,q⟩=>⟨n,l,a,b,c,au e (λ t ⟨ks,z,q⟩=>⟨ks,z,bK r h g q⟩) q⟩) q) q
 |.fu i r,_,_,_,_,_,h,g,q=>yt (λ as ll q=>bK r h g q) q
 |.xl i f l r,_,_,_,_,_,h,g,q=>nG (λ xs q=>cj l (λ ts ⟨P,sp,q⟩=>⟨P,sp,λ t pt=>let ⟨m,e,lf,lz,q⟩:=q t pt;⟨m,e,lf,lz,bK r h g q⟩⟩) q) q
end
def LLd(H0:Hp)(σ:St)(ρ:En):Prop:=∀(i:Nat) as ll,ρ[i]?=QJ (QJ (.obj (.lls as ll)))->(∀a∈as,H0 a=QM)/\(∀(j:Nat) l a,ρ[j]?=QJ (QJ (.own l))->σ[j]?=QJ (QJ (.ref a))->a ∉ as)/\∀(j:Nat) as' ll',ρ[j]?=QJ (QJ (.obj (.lls as' ll')))->j=i
structure ER (K:FG)(J:Hp->Prop)(F0:Fz)(H0:Hp)(PN:List (TV×V))(F:Fz)(H:Hp)(σ:St)(ρ:En):Prop where
 ev:EV K J F H σ ρ
 gr:Grow J F0 H0 F H
 nb:∀(i:Nat) l a,ρ[i]?=QJ (QJ (.own l))->σ[i]?=QJ (QJ (.ref a))->H0 a=QM
 di:∀(i k:Nat) l l' v,ρ[i]?=QJ (QJ (.own l))->ρ[k]?=QJ (QJ (.own l'))->σ[i]?=QJ (QJ v)->σ[k]?=QJ (QJ v)->i=k
 pn:∀p∈PN,Rp K F H p.1 p.2
 ol:LLd H0 σ ρ
section
variable {K:FG}{J:Hp->Prop}{F0 F F':Fz}{H0 H H':Hp}{σ:St}{ρ:En}{PN:List (TV×V)}
def ER.grow(e:ER K J F0 H0 PN F H σ ρ)(g:Grow J F H F' H'):ER K J F0 H0 PN F' H' σ ρ:=⟨e.ev.grow g,e.gr.trans g,e.nb,e.di,λ p hp=>(e.pn p hp).ke g.ke,e.ol⟩
def cW{ρ:En}{i j:Nat}(h:(ρ.set i (QJ t))[j]?=QJ (QJ (.own l))):(i=j/\t=.own l)\/(i≠j/\ρ[j]?=QJ (QJ (.own l))):=by
 rw[cV] at h;split at h
 .rename_i c;split at h
  .cases h;exact .inl ⟨c,rfl⟩
  .cases h
 .rename_i c;exact .inr ⟨c,h⟩
def dL{σ:St}{i j:Nat}(n:i≠j):(σ.set i v)[j]?=σ[j]?:=by rw[cV,k9 n]
def dS{ρ:En}{i j:Nat}(h:(ρ.set i (QJ t))[j]?=QJ (QJ u)):(i=j/\t=u)\/(i≠j/\ρ[j]?=QJ (QJ u)):=by
 rw[cV] at h;split at h
 .rename_i c;split at h
  .cases h;exact .inl ⟨c,rfl⟩
  .cases h
 .rename_i c;exact .inr ⟨c,h⟩
def LLd.set{t:TV}(h:LLd H0 σ ρ)(no:∀l,t≠.own l)(no':∀as ll,t≠.obj (.lls as ll)):LLd H0 (σ.set i v) (ρ.set i (QJ t)):=λ k as ll e=>by
 rcases dS e with ⟨_,z⟩|⟨n,z⟩
 .exact m8 z (no' _ _)
 .obtain⟨h1,h2,h3⟩:=h k as ll z;refine⟨h1,λ j l a e1 e2=>?_,λ j as' ll' e1=>?_⟩
  .rcases dS e1 with ⟨_,y⟩|⟨m,y⟩
   .exact m8 y (no _)
   .rw[dL m] at e2;exact h2 j l a y e2
  .rcases dS e1 with ⟨_,y⟩|⟨m,y⟩
   .exact m8 y (no' _ _)
   .exact h3 j as' ll' y
def LLd.sub{ρ':En}(h:LLd H0 σ ρ)(f1:∀(j:Nat) l,ρ'[j]?=QJ (QJ (.own l))->∃l',ρ[j]?=QJ (QJ (.own l')))(f2:∀(j:Nat) as ll,ρ'[j]?=QJ (QJ (.obj (.lls as ll)))->∃ll',ρ[j]?=QJ (QJ (.obj (.lls as ll')))):LLd H0 σ ρ':=λ k as ll e=>by
 obtain⟨ll0,e0⟩:=f2 k as ll e;obtain⟨h1,h2,h3⟩:=h k as ll0 e0;exact⟨h1,λ j l a e1 e2=>let ⟨l',z⟩:=f1 j l e1;h2 j l' a z e2,λ j as' ll' e1=>let ⟨ll2,z⟩:=f2 j as' ll' e1;h3 j as' ll2 z⟩
def ER.set{i:Nat}(e:ER K J F0 H0 PN F H σ ρ)(h:Rp K F H t v)(hi:i<σ.length):ER K J F0 H0 PN F H (σ.set i (QJ v)) (ρ.set i (QJ t)):=by
 have no:∀l,t≠.own l:=λ l z=>by subst z;exact h.elim
 refine⟨e.ev.set h hi,e.gr,λ j l a h1 h2=>?_,λ j k l l' w h1 h2 h3 h4=>?_,e.pn,e.ol.set no λ as ll z=>by subst z;exact h.elim⟩
 .rcases cW h1 with ⟨_,z⟩|⟨n,z⟩
  .exact m8 z (no l)
  .rw[dL n] at h2;exact e.nb j l a z h2
 .rcases cW h1 with ⟨_,z⟩|⟨n,z⟩
  .exact m8 z (no l)
  .rcases cW h2 with ⟨_,z'⟩|⟨n',z'⟩
   .exact m8 z' (no l')
   .rw[dL n] at h3;rw[dL n'] at h4;exact e.di j k l l' w z z' h3 h4
def ER.own{i:Nat}(e:ER K J F0 H0 PN F H σ ρ)(g:Grow J F H F' H')(h:Rr K H F' H' (.own l) v)(hi:i<σ.length):ER K J F0 H0 PN F' H' (σ.set i (QJ v)) (ρ.set i (QJ (.own l))):=by
 obtain⟨a,vs,rfl,na,nf,q,r⟩:=h;have na0:H0 a=QM:=e.gr.none na
 have old:∀(j:Nat) l',ρ[j]?=QJ (QJ (.own l'))->σ[j]?≠QJ (QJ (.ref a)):=λ j l' h1 h2=>by
  obtain⟨v,e1,b,ws,rfl,_,qb,_⟩:=e.ev.sl j _ h1;rw[h2] at e1;cases e1;rw[na] at qb;cases qb
 have eg:=e.grow g
 have ll:LLd H0 (σ.set i (QJ (.ref a))) (ρ.set i (QJ (.own l))):=λ k as ll z=>by
  rcases dS z with ⟨_,y⟩|⟨n,z⟩
  .cases y
  .obtain⟨h1,h2,h3⟩:=e.ol k as ll z;refine⟨h1,λ j l' b e1 e2=>?_,λ j as' ll' e1=>?_⟩
   .rcases dS e1 with ⟨rfl,y⟩|⟨m,y⟩
    .rw[cV] at e2;simp[hi] at e2;subst e2;intro hb;obtain⟨v0,_,a0,_,_,_,hl,hh⟩:=e.ev.sl k _ z;obtain⟨jj,ej⟩:=jq hb;obtain⟨_,us,q',_⟩:=hh jj a (ll[jj]'(by rw[<- hl];exact(aN.mp ej).1)) ej (aL _);rw[na] at q';cases q'
    .rw[dL m] at e2;exact h2 j l' b y e2
   .rcases dS e1 with ⟨_,y⟩|⟨m,y⟩
    .cases y
    .exact h3 j as' ll' y
 refine⟨⟨eg.ev.w,λ j t hj=>?_⟩,eg.gr,λ j l' b h1 h2=>?_,λ j k l1 l2 w h1 h2 h3 h4=>?_,eg.pn,ll⟩
 .rw[cV] at hj;split at hj
  .rename_i c;subst c;split at hj
   .cases hj;exact⟨.ref a,by rw[cV];simp[hi],a,vs,O,nf,q,r⟩
   .cases hj
  .rename_i c;obtain⟨w,e1,z⟩:=eg.ev.sl j t hj;exact⟨w,by rw[dL c];exact e1,z⟩
 .rcases cW h1 with ⟨rfl,_⟩|⟨n,z⟩
  .rw[cV] at h2;simp[hi] at h2;subst h2;exact na0
  .rw[dL n] at h2;exact e.nb j l' b z h2
 .rcases cW h1 with ⟨rfl,_⟩|⟨n,z⟩
  .rcases cW h2 with ⟨rfl,_⟩|⟨n',z'⟩
   .rfl
   .rw[cV] at h3;simp[hi] at h3;subst h3;rw[dL n'] at h4;exact m8 h4 (old k l2 z')
  .rcases cW h2 with ⟨rfl,_⟩|⟨n',z'⟩
   .rw[cV] at h4;simp[hi] at h4;subst h4;rw[dL n] at h3;exact m8 h3 (old j l1 z)
   .rw[dL n] at h3;rw[dL n'] at h4;exact e.di j k l1 l2 w z z' h3 h4
set_option tactic.hygienic true in
def ER.fz(e:ER K J F0 H0 PN F H σ ρ)(i:Nat):∃F',ER K J F0 H0 PN F' H σ (XQ ρ i)/\∀a,F a->F' a:=by
 unfold XQ;split
 .rename_i l hl;obtain⟨v,ev,a,vs,rfl,nf,q,r⟩:=e.ev.sl i _ hl;have na:H0 a=QM:=e.nb i l a hl ev;have up:Ke K F H (λ b=>F b\/b=a) H:=.up λ _ f=>.inl f;have ilt:i<σ.length:=(aN.mp ev).1
  refine⟨λ b=>F b\/b=a,⟨⟨⟨e.ev.w.j,λ b f=>?_⟩,λ j t hj=>?_⟩,e.gr.frz na (by rw[q];simp),λ j l' b h1 h2=>?_,λ j k l1 l2 w h1 h2 h3 h4=>?_,λ p hp=>(e.pn p hp).ke up,e.ol.sub (λ j l' z=>by
   rcases cW z with ⟨_,y⟩|⟨_,y⟩
   .cases y
   .exact⟨_,y⟩) (λ j as ll z=>by
   rcases dS z with ⟨_,y⟩|⟨_,y⟩
   .cases y
   .exact⟨_,y⟩)⟩,λ _ f=>.inl f⟩
  .rcases f with f|rfl
   .exact e.ev.w.d b f
   .rw[q];simp
  .rw[cV] at hj;split at hj
   .rename_i c;subst c;split at hj
    .cases hj;exact⟨.ref a,ev,a,vs,rfl,.inl ⟨.inr rfl,.of q⟩,r.ke up⟩
    .cases hj
   .rename_i c;obtain⟨w,e1,z⟩:=e.ev.sl j t hj;refine⟨w,e1,?_⟩
    cases t with
    |own l'=>
     obtain⟨b,ws,rfl,nf',q',r'⟩:=z;refine⟨b,ws,O,λ z=>?_,q',r'.ke up⟩
     rcases z with z|z
     .exact nf' z
     .subst z;exact c (e.di i j l l' _ hl hj ev e1)
    |obj o=>
     cases o with
     |lls as ll=>
      obtain⟨a0,e2,l0,nd,hl2,hh⟩:=z;refine⟨a0,e2,up.l _ _ l0,nd,hl2,λ jj b ks e3 e4=>?_⟩;obtain⟨nf2,us,q2,r2⟩:=hh jj b ks e3 e4;refine⟨λ y=>?_,us,q2,r2.ke up⟩
      rcases y with y|y
      .exact nf2 y
      .subst y;exact(e.ol j as ll hj).2.1 i l b hl ev (aC e3)
     |_=>exact z
    |_=>exact Rp.ke up z
  .rcases cW h1 with ⟨_,z⟩|⟨n,z⟩
   .cases z
   .exact e.nb j l' b z h2
  .rcases cW h1 with ⟨_,z⟩|⟨n,z⟩
   .cases z
   .rcases cW h2 with ⟨_,z'⟩|⟨n',z'⟩
    .cases z'
    .exact e.di j k l1 l2 w z z' h3 h4
 .exact⟨F,e,λ _ f=>f⟩
def ER.fzC(e:ER K J F0 H0 PN F H σ ρ)(c:Cd):∃F',ER K J F0 H0 PN F' H σ (fzC c ρ)/\∀a,F a->F' a:=by
 cases c<;>first|exact e.fz _|exact⟨F,e,λ _ f=>f⟩
def ER.fzV(c:Cd):∀ {F:Fz}{ρ:En},ER K J F0 H0 PN F H σ ρ->∃F',ER K J F0 H0 PN F' H σ (fzV c ρ)/\∀a,F a->F' a:=by
 induction c with
 |cons a r _ ih=>
  intro F ρ e;obtain⟨F1,e1,u1⟩:=e.fzC a;obtain⟨F2,e2,u2⟩:=ih e1;exact⟨F2,e2,λ b f=>u2 b (u1 b f)⟩
 |_=>intro F ρ e;exact⟨F,e,λ _ f=>f⟩
def ER.mut(hJ:JS J){i:Nat}(e:ER K J F0 H0 PN F H σ ρ)(h:ρ[i]?=QJ (QJ (.own l)))(hs:σ[i]?=QJ (QJ (.ref a)))(r:RpL K F H l' ws):ER K J F0 H0 PN F (VA H a (.lst ws)) σ (ρ.set i (QJ (.own l')))/\Ke K F H F (VA H a (.lst ws)):=by
 obtain⟨v,ev,b,vs,rfl,nf,q,_⟩:=e.ev.sl i _ h;rw[hs] at ev;cases ev;have na:H0 a=QM:=e.nb i l a h hs
 have dom:∀b,H b≠QM->VA H a (.lst ws) b≠QM:=λ b hb=>by
  by_cases c:b=a
  .subst c;rw[cK];simp
  .rw[aG c];exact hb
 have rd:∀b u,(∀vs,u≠.lst vs)->Rd H b u->Rd (VA H a (.lst ws)) b u:=λ b u n h=>by
  rcases h with h|⟨o,h⟩
  .exact .inl (by rw[aG (λ z=>by subst z;rw[q] at h;cases h;exact n _ rfl)];exact h)
  .exact .inr ⟨o,by rw[aG (λ z=>by subst z;rw[q] at h;cases h)];exact h⟩
 have ke:Ke K F H F (VA H a (.lst ws)):=⟨λ b vs h=>by
  rcases h with h|h
  .exact .inl (rd _ _ (λ _ z=>by cases z) h)
  .exact .inr h,λ b vs h=>h.imp λ f h=>⟨f,by
  have ba:b≠a:=λ z=>by subst z;exact nf f
  rcases h with h|h
  .refine .inl ?_
   rcases h with h|⟨o,h⟩
   .exact .inl (by rw[aG ba];exact h)
   .exact .inr ⟨o,by rw[aG ba];exact h⟩
  .exact .inr h⟩⟩
 have ilt:i<ρ.length:=(aN.mp h).1
 refine⟨⟨⟨⟨hJ.mu H a vs ws q e.ev.w.j,λ b f=>dom b (e.ev.w.d b f)⟩,λ j t hj=>?_⟩,⟨λ b o n hb=>?_,λ b hb=>dom b (e.gr.dm b hb),e.gr.up,e.gr.nw,hJ.mu H a vs ws q e.ev.w.j,λ b f=>dom b (e.ev.w.d b f)⟩,λ j l1 b h1 h2=>?_,λ j k l1 l2 w h1 h2 h3 h4=>?_,λ p hp=>(e.pn p hp).ke ke,e.ol.sub (λ j l1 z=>by
   rcases cW z with ⟨rfl,_⟩|⟨_,y⟩
   .exact⟨l,h⟩
   .exact⟨_,y⟩) (λ j as ll z=>by
   rcases dS z with ⟨_,y⟩|⟨_,y⟩
   .cases y
   .exact⟨_,y⟩)⟩,ke⟩
 .rw[cV] at hj;split at hj
  .rename_i c;subst c;cases hj;exact⟨.ref a,hs,a,ws,O,nf,cK,r.ke ke⟩
  .rename_i c;obtain⟨w,e1,z⟩:=e.ev.sl j t hj;refine⟨w,e1,?_⟩
   cases t with
   |own l1=>
    obtain⟨b,us,rfl,nf',q',r'⟩:=z;have ba:b≠a:=λ z=>by subst z;exact c (e.di i j l l1 _ h hj hs e1)
    exact⟨b,us,O,nf',by rw[aG ba];exact q',r'.ke ke⟩
   |obj o=>
    cases o with
    |dct l'=>obtain⟨b,e2,q'⟩:=z;exact⟨b,e2,by rw[aG (λ z=>by subst z;rw[q] at q';cases q')];exact q'⟩
    |fn b=>obtain⟨e2,φ,q',kf⟩:=z;exact⟨e2,φ,by rw[aG (λ z=>by subst z;rw[q] at q';cases q')];exact q',kf⟩
    |lls as ll=>
     obtain⟨a0,e2,l0,nd,hl2,hh⟩:=z;refine⟨a0,e2,ke.l _ _ l0,nd,hl2,λ jj b ks e3 e4=>?_⟩;obtain⟨nf2,us,q2,r2⟩:=hh jj b ks e3 e4;exact⟨nf2,us,by rw[aG (λ y=>by subst y;exact(e.ol j as ll hj).2.1 i l b h hs (aC e3))];exact q2,r2.ke ke⟩
   |_=>exact Rp.ke ke z
 .rw[aG (λ z=>by subst z;rw[na] at hb;cases hb)];exact e.gr.sm b o n hb
 .rcases cW h1 with ⟨rfl,_⟩|⟨n,z⟩
  .rw[hs] at h2;cases h2;exact na
  .exact e.nb j l1 b z h2
 .have f:∀(j:Nat) (l:List TV),(ρ.set i (QJ (TV.own l')))[j]?=QJ (QJ (TV.own l))->∃l,ρ[j]?=QJ (QJ (TV.own l)):=λ j l1 h1=>by
   rcases cW h1 with ⟨rfl,_⟩|⟨n,z⟩
   .exact⟨l,h⟩
   .exact⟨l1,z⟩
  obtain⟨m1,z1⟩:=f j l1 h1;obtain⟨m2,z2⟩:=f k l2 h2;exact e.di j k m1 m2 w z1 z2 h3 h4
end
noncomputable def Zk:MM->Str
 |.append=> "append" |.insert=> "insert" |.extend QK=> "__name__" |.extend QL=> "extend" |.pop=> "pop"
noncomputable def XZ:Expr->Bool
 |.ListComp ..=>QL|.SetComp ..=>QL|.DictComp ..=>QL|.Tuple ..=>QL|.List ..=>QL|_=>QK
noncomputable def YM(N:List Str)(nm:List (Str×Rb))(i:Nat)(x:Str):Bool:=decide (N[i]?=QJ x)&&(decide (nm.lookup x=QJ .local) || decide (nm.lookup x=QJ .cell))
def ZV(fs gs:List Str)(N:List Str)(nm:List (Str×Rb))(m:MM)(i:Nat)(l:Cd)(e:Expr):Bool:=dJ e λ g es w cp=>pW g λ o name ap=>bS o λ x _=>w.isEmpty&&decide (N[i]?=QJ x)&&vs nm x&&Wt x&&decide (name=Zk m)&&decide (name ≠ "__name__" /\ ap.endLine=cp.line/\es.length<20)&&ckL fs gs l N nm es
noncomputable def Yq(l:List Ra)(k:List Expr->Expr->Pos->List Ra->Bool):Bool:=match l with|.Assign x p q::l=>k x p q l|_=>QL
@[elab_as_elim] theorem qi{motive:List Ra->Prop}{l:List Ra}{k:List Expr->Expr->Pos->List Ra->Bool}(h:Yq l k=QK)(f:∀x p q t,k x p q t=QK->motive (.Assign x p q::t)):motive l:=by
 cases l with
 |nil=>exact QN h
 |cons a t=>cases a<;>first|exact f _ _ _ _ h|exact QN h
noncomputable def ZW(l:List Ra)(k:Option Expr->Pos->List Ra->Bool):Bool:=match l with|.Return x p::l=>k x p l|_=>QL
@[elab_as_elim] theorem Jn{motive:List Ra->Prop}{l:List Ra}{k:Option Expr->Pos->List Ra->Bool}(h:ZW l k=QK)(f:∀x p t,k x p t=QK->motive (.Return x p::t)):motive l:=by
 cases l with
 |nil=>exact QN h
 |cons a t=>cases a<;>first|exact f _ _ _ h|exact QN h
noncomputable def Yr(l:List Ra)(k:Expr->Pos->List Ra->Bool):Bool:=match l with|.Expr x p::l=>k x p l|_=>QL
@[elab_as_elim] theorem qj{motive:List Ra->Prop}{l:List Ra}{k:Expr->Pos->List Ra->Bool}(h:Yr l k=QK)(f:∀x p t,k x p t=QK->motive (.Expr x p::t)):motive l:=by
 cases l with
 |nil=>exact QN h
 |cons a t=>cases a<;>first|exact f _ _ _ h|exact QN h
noncomputable def ZY(l:List Ra)(k:Expr->List Ra->List Ra->Pos->List Ra->Bool):Bool:=match l with|.If x p q r::l=>k x p q r l|_=>QL
@[elab_as_elim] theorem Jo{motive:List Ra->Prop}{l:List Ra}{k:Expr->List Ra->List Ra->Pos->List Ra->Bool}(h:ZY l k=QK)(f:∀x p q r t,k x p q r t=QK->motive (.If x p q r::t)):motive l:=by
 cases l with
 |nil=>exact QN h
 |cons a t=>cases a<;>first|exact f _ _ _ _ _ h|exact QN h
noncomputable def ZZ(l:List Ra)(k:Expr->Expr->List Ra->List Ra->Pos->List Ra->Bool):Bool:=match l with|.For x p q r s::l=>k x p q r s l|_=>QL
@[elab_as_elim] theorem Jp{motive:List Ra->Prop}{l:List Ra}{k:Expr->Expr->List Ra->List Ra->Pos->List Ra->Bool}(h:ZZ l k=QK)(f:∀x p q r s t,k x p q r s t=QK->motive (.For x p q r s::t)):motive l:=by
 cases l with
 |nil=>exact QN h
 |cons a t=>cases a<;>first|exact f _ _ _ _ _ _ h|exact QN h
noncomputable def b7(l:List Ra)(k:List Ra->List Tv->List Ra->List Ra->Pos->List Ra->Bool):Bool:=match l with|.Try x p q r s::l=>k x p q r s l|_=>QL
def Jq(h:b7 l k=QK):∃x p q r s t,l=.Try x p q r s::t/\k x p q r s t=QK:=by
 cases l with
 |nil=>exact QN h
 |cons a t=>cases a<;>first|exact⟨_,_,_,_,_,_,rfl,h⟩|exact QN h
section
variable (fs gs:List Str)(N:List Str)(nm:List (Str×Rb))
def bH:Bool->Ct->List Ra->Bool
 |_,.nil,sts=>sts.isEmpty
 |_,.never,_=>QK
 |_,.ret c,sts=>ZW sts λ e _ _=>(match e with|some e=>ck fs gs c N nm e|none=>QL)
 |lp,.set i c r,sts=>Yq sts λ ts e _ Vz=>c1 ts λ t=>bS t λ x _=>YM N nm i x&&ck fs gs c N nm e&&bH lp r Vz
 |lp,.sets is c r,sts=>Yq sts λ ts e _ Vz=>c1 ts λ tg=>XA QK N nm is tg&&lH tg&&XZ e&&ck fs gs c N nm e&&bH lp r Vz
 |lp,.fz _ r,sts=>bH lp r sts
 |lp,.ex c r,sts=>Yr sts λ e _ Vz=>XZ e&&ck fs gs c N nm e&&bH lp r Vz
 |lp,.met m i l r,sts=>Yr sts λ e _ Vz=>ZV fs gs N nm m i l e&&bH lp r Vz
 |lp,.put i c d r,sts=>Yq sts λ ts e _ Vz=>c1 ts λ t=>lG t λ o y _=>bS o λ x _=>decide (N[i]?=QJ x)&&vs nm x&&Wt x&&jS y&&ck fs gs c N nm y&&ck fs gs d N nm e&&bH lp r Vz
 |lp,.ite c a b r,sts=>ZY sts λ t x y _ Vz=>tB' c t&&ck fs gs c N nm t&&bH lp a x&&bH lp b y&&bH lp r Vz
 |lp,.for tg k it b r,sts=>ZZ sts λ t iter body els _ Vz=>els.isEmpty&&lp&&XA QK N nm tg t&&ckI fs gs it k t N nm iter&&bH lp b body&&bH lp r Vz
 |lp,.tri b r,sts=>b7 sts λ body hs els fi _ Vz=>!hs.isEmpty&&els.isEmpty&&fi.isEmpty&&bH QL b body&&bH lp r Vz
 |lp,.nl i own k it r,sts=>Yq sts λ ts e _ Vz=>c1 ts λ t=>bS t λ x _=>YM N nm i x&&ck fs gs (.comp own [] [] [0] k it (.lst .nil)) N nm e&&bH lp r Vz
 |lp,.pu i j e r,sts=>Yr sts λ q _ Vz=>dJ q λ g as w cp=>pW g λ o name ap=>lG o λ u v _=>bS u λ x _=>bS v λ z _=>c1 as λ a=>(w.isEmpty&&decide (N[i]?=QJ x/\N[j]?=QJ z/\name="append" /\ ap.endLine=cp.line)&&vs nm x&&Wt x)&&vs nm z&&Wt z&&aZ a&&ck fs gs e N nm a&&bH lp r Vz
 |lp,.fu _ r,sts=>bH lp r sts
 |lp,.xl i f l r,sts=>Yr sts λ q _ Vz=>dJ q λ g as w cp=>pW g λ o name ap=>bS o λ x _=>c1 as λ u=>dJ u λ g2 es w2 _=>bS g2 λ y _=>(w.isEmpty&&w2.isEmpty&&decide (N[i]?=QJ x/\name="extend" /\ ap.endLine=cp.line/\fs[f]?=QJ y)&&vs nm x&&Wt x)&&gl nm y&&Wt y && !es.isEmpty&&ckL fs gs l N nm es&&bH lp r Vz
end
section
variable {J:Hp->Prop}{FT:List Vv}{GT:List TV}{fs gs:List Str}{N:List Str}{nm:List (Str×Rb)}{F0:Fz}{H0:Hp}{PN:List (TV×V)}
def PSs.imp{st:List Ra}{t t':TS}(h:PSs X st t)(i:∀D σ H,t' D σ H->t D σ H):PSs X st t':=λ Vu s σ H D I q=>h Vu s σ H D I (i D σ H q)
def YN(K:FG)(J:Hp->Prop)(F0:Fz)(H0:Hp)(PN:List (TV×V))(n:Nat)(P:St->Hp->Prop)(ρ:En):Prop:=∀F' H' σ',ER K J F0 H0 PN F' H' σ' ρ->σ'.length=n->P σ' H'
def b8(K:FG)(J:Hp->Prop)(F0:Fz)(H0:Hp)(P:VK)(t:TV):Prop:=∀F' H' v,Grow J F0 H0 F' H'->Rp K F' H' t v->P v H'
def rS(K:FG)(J:Hp->Prop)(FT:List Vv)(GT:List TV)(n:Nat)(F0:Fz)(H0:Hp)(PN:List (TV×V))(c:Ct):TS:=λ D σ H=>∃F ρ,ER K J F0 H0 PN F H σ ρ/\σ.length=n/\wS FT GT c ρ (YN K J F0 H0 PN n D.nx) (b8 K J F0 H0 D.rt)
def ER.rr{K:FG}{i:Nat}(e:ER K J F0 H0 PN F H σ ρ)(g:Grow J F H F' H')(h:Rr K H F' H' t v)(nb:t.nb=QK)(hi:i<σ.length):ER K J F0 H0 PN F' H' (σ.set i (QJ v)) (ρ.set i (QJ t)):=by
 cases t with
 |own l=>exact e.own g h hi
 |bor l=>cases nb
 |_=>exact(e.grow g).set h hi
def yw{x:Str}(xs:XS X N nm)(hf:∀x,X.env.scope.names.lookup x=QJ .cell->X.fn x=QK)(h:YM N nm i x=QK):X.N[i]?=QJ x/\Xi X.env.scope x/\(X.fn x=QK\/X.env.scope.names.lookup x=QJ .local)/\i<N.length:=by
 unfold YM at h;rw[bj,jo] at h;have e:=aD h.1;have lo:Xi X.env.scope x:=by unfold Xi;rw[xs.nm];exact h.2.imp aD aD
 exact⟨by rw[xs.N];exact e,lo,lo.elim .inr λ z=>.inl (hf x z),(aN.mp e).1⟩
def qk(h:XZ e=QK):Sy e t n env=Rj QL:=by cases e<;>first|rfl|cases h
theorem Jr{i:Nat}(xo:VM X J FT GT fs gs)(xs:XS X N nm)(hN:X.N.Nodup)(hi:X.N[i]?=QJ x)(hx:Xi X.env.scope x)(hf:X.fn x=QK\/X.env.scope.names.lookup x=QJ .local)(h:ck fs gs c N nm e=QK) :
  PS X (.Assign [.Name x p'] e pos) (kJ (rE X.K J FT GT c) (dz i)):=by
 have plain:Sy e (QJ (.Name x p')) pos.line X.env=Rj QL->PS X (.Assign [.Name x p'] e pos) (kJ (rE X.K J FT GT c) (dz i)):=λ hs=>vM hN hi hx (sE c xo xs h) hs hf
 cases e with
 |ListComp elt gens sc lp=>
  cases hb:(X.env.blockKind == .function&&X.env.kindOf x == QJ .local&&p'.line == (Expr.ListComp elt gens sc lp).pos.line && !(sc.names.any λ(n,k)=>n == x&&(k == .local || k == .cell))) with
  |false=>exact plain (by show(Rj _:Sem Bool)=_;rw[<- hb])
  |true=>
   have hsw:Sy (.ListComp elt gens sc lp) (QJ (.Name x p')) pos.line X.env=Rj QK:=by show(Rj _:Sem Bool)=_;rw[<- hb]
   cases c with
   |comp own fv js tgs k it e=>
    obtain⟨_,_,_,_,e1,g⟩:=nA h;cases e1;obtain⟨⟨t,iter,ifs,z⟩,rfl,g'⟩:=jm g;obtain⟨g0,g1,h1,h2,h3,h4,h5⟩:=a7 g';cases (show ifs=[] from tS.mp g0);cases aD g1;intro Vu s σ H D I q;obtain⟨cl,S⟩:=lJ I.ok xs h1;have lt:∀i∈tgs,i<own.length:=λ i hi=>aD (gU.mp h4 i hi);exact CmP.ps ⟨xo.calm,sI it k xo xs h2,S,h3,λ C ex s H yx=>sE e (lK xo) yx h5,qd,jW h2⟩ hN hi hx hf hsw I (yi xo.hJ lt q)
   |compI own fv js tgs k it c e=>
    obtain⟨_,_,_,_,e1,g⟩:=nA h;cases e1;obtain⟨⟨t,iter,ifs,z⟩,rfl,g'⟩:=jm g;obtain⟨cnd,e2,g⟩:=jm g';cases e2;obtain⟨g1,h1,h2,h3,h4,h7,h5,h6⟩:=a8 g;cases aD g1;intro Vu s σ H D I q;obtain⟨cl,S⟩:=lJ I.ok xs h1;have lt:∀i∈tgs,i<own.length:=λ i hi=>aD (gU.mp h4 i hi);exact CmP.ps ⟨xo.calm,sI it k xo xs h2,S,h3,λ C ex s H yx=>sE e (lK xo) yx h6,⟨_,wY,λ C ex s H yx=>ZL rfl (sT c (lK xo) yx h7 h5)⟩,jW h2⟩ hN hi hx hf hsw I (yj xo.hJ lt q)
   |_=>exact QN h
 |SetComp|DictComp=>cases c<;>exact QN h
 |_=>exact plain rfl
end
section
variable {pg:QX}{wd:QY}{B:QZ}{X0:VS}{z0:QP}
theorem Js{l b:QO}{R:VS}(gl:z0.heap.get? l=QJ { cls:=.type "list",dict:=QM,data:=.seq xs k,slots:=#[] })(gb:z0.heap.get? b=QJ u)(cb:u.cls=.type "list")(db:u.data=.seq ys n)(fit:xs.size+ys.size<=QR)
  (fin:R .none { z0 with heap:=z0.heap.update l (RB (·++ys)) }):QS (QU pg wd) B (call (.builtin "list.extend") [.ref l,.ref b]) R X0 z0:=by
 refine gi tV ⟨_,gl,O⟩ PySem.F.entry_list_extend ?_ (PySem.F.args_list_extend_2 _ _);show QS _ _ (Rw (.ref l) (.ref b) .none) _ _ z0;unfold Rw;refine ae (iT ⟨u,gb,cb⟩ ?_);have one:(RD (.ref l) (.ref b) || RL "list" == RL "list" || RL "list" == RL "tuple")=QK:=pv;rw[m7 one];refine ae ?_;unfold Vr;refine ae (jO gb db (ay ?_));refine ae ?_;refine ae (jO gl rfl (ay ?_));have two:¬(!xs.isEmpty&&Rz (xs.size+ys.size))=QK:=by rw[wz fit,lh];exact bT
 rw[k9 two];show QS _ _ (Sf l (·++ys) >>= λ _=>ret Ry) _ _ z0;refine ae (kS gl rfl ?_ ca (by rw[Array.size_append];lia));exact ay ⟨_,O,fin⟩
end
def yz(K:FG):V->List V->Hp->VK->Prop:=λ x vs H Q=>∃l b xs zs,x=.ref l/\vs=[.ref b]/\H l=QJ (.lst xs)/\SqL K H b zs/\xs.length+zs.length<=QR/\Q .non (VA H l (.lst (xs++zs)))
def yA:Yk X "list.extend" (yz X.K):=by
 intro Vu s σ H x vs v us Q I rx rv h;obtain⟨l,b,xs,zs,rfl,rfl,hH,hB,hz,q⟩:=h;cases rx;obtain⟨u,rfl,ru⟩:=cM rv;cases ru;obtain⟨z,its,n,r,hl,e⟩:=I.lstM hH;obtain⟨its2,r2,⟨o2,n2,g2,c2,_,d2⟩,hz2⟩:=I.list hB;have hl2:=r2.length;refine Js e g2 c2 d2 (by simp only[aY];lia) ?_;refine⟨.non,_,I.lset (its':=its++its2) hH e pv (r.append r2) ?_,O,q⟩;rw[aK];lia
section
variable {J:Hp->Prop}{FT:List Vv}{GT:List TV}{fs gs:List Str}{N:List Str}{nm:List (Str×Rb)}{F0:Fz}{H0:Hp}{PN:List (TV×V)}
def rM(K:FG)(J:Hp->Prop)(FT:List Vv)(GT:List TV)(F0:Fz)(H0:Hp)(PN:List (TV×V))(m:MM)(i:Nat)(l:Cd):TE:=λ σ H Q=>∃F ρ,ER K J F0 H0 PN F H σ ρ/\gv ρ[i]? λ xs=>wL FT GT l ρ λ ts=>Yp m xs ts λ y ys=>∀F' H' v,ER K J F0 H0 PN F' H' σ (ρ.set i (QJ (.own ys)))->Rp K F' H' y v->Q v H'
def ER.at_{K:FG}{i:Nat}(e:ER K J F0 H0 PN F H σ ρ)(h:ρ[i]?=QJ (QJ (.own l))):∃a vs,σ[i]?=QJ (QJ (.ref a))/\H a=QJ (.lst vs)/\RpL K F H l vs:=by
 obtain⟨v,e1,a,vs,rfl,_,q,r⟩:=e.ev.sl i _ h;exact⟨a,vs,e1,q,r⟩
def rl2{K:FG}{t u:TV}{vs:List V}(h:RpL K F H [t,u] vs):∃x y,vs=[x,y]/\Rp K F H t x/\Rp K F H u y:=by
 obtain⟨x,r,rfl,h1,y,r',rfl,h2,rfl⟩:=h;exact⟨x,y,O,h1,h2⟩
def rl1{K:FG}{t:TV}{vs:List V}(h:RpL K F H [t] vs):∃x,vs=[x]/\Rp K F H t x:=by
 obtain⟨x,r,rfl,h1,rfl⟩:=h;exact⟨x,O,h1⟩
def RpL.dropLast{K:FG}{vs:List V}(h:RpL K F H l vs):RpL K F H l.dropLast vs.dropLast:=by
 rw[s0a,s0a,<- h.length];exact h.take _
def RpL.eraseIdx{K:FG}{vs:List V}(h:RpL K F H l vs)(k:Nat):RpL K F H (l.eraseIdx k) (vs.eraseIdx k):=by
 rw[lM,lM];exact(h.take k).append (h.drop _)
theorem Ju(hJ:JS J){i:Nat}{Q:VK}(e:ER X.K J F0 H0 PN F H σ ρ)(h:ρ[i]?=QJ (QJ (.own l)))(ha:σ[i]?=QJ (QJ (.ref a)))(g:Grow J F H F1 H1)(r:RrL X.K H F1 H1 ts ws)
  (w:Yp m l ts λ y ys=>∀F' H' v,ER X.K J F0 H0 PN F' H' σ (ρ.set i (QJ (.own ys)))->Rp X.K F' H' y v->Q v H') :
  (m=.append/\pd (.ref a) ws H1 Q)\/(m=.insert/\pN (.ref a) ws H1 Q)\/(∃b,m=.extend b/\∃c vs zs,ws=[.ref c]/\YF X.K b H1 c zs/\H1 a=QJ (.lst vs)/\vs.length+zs.length<=QR/\Q .non (VA H1 a (.lst (vs++zs))))\/(m=.pop/\pf (.ref a) ws H1 Q)\/(m=.pop/\mS (.ref a) ws H1 Q):=by
 rcases ts with _|⟨t,_|⟨u,_|⟨z,rr⟩⟩⟩
 .cases m with
  |pop=>
   cases r;obtain⟨y,ey,w⟩:=w;have e1:=e.grow g;obtain⟨b,vs,eb,q,rl⟩:=e1.at_ h;rw[ha] at eb;cases eb;obtain⟨v,ev,rv⟩:=rl.get ey;obtain⟨em,ke⟩:=e1.mut hJ h ha rl.dropLast;exact .inr (.inr (.inr (.inl ⟨O,a,vs,v,O,O,q,by rw[<- rl.length];exact ev,w _ _ _ em (rv.ke ke)⟩)))
  |_=>exact w.elim
 .cases m with
  |append=>
   obtain⟨nb,lz,w⟩:=w;obtain⟨F2,g2,_,r2⟩:=iC g r (by rw[dh,nb];rfl);obtain⟨x,rfl,rx⟩:=rl1 r2;have e1:=e.grow g2;obtain⟨b,vs,eb,q,rl⟩:=e1.at_ h;rw[ha] at eb;cases eb;obtain⟨em,ke⟩:=e1.mut hJ h ha (rl.append (show RpL X.K F2 H1 [t.fz] [x] from ⟨x,[],rfl,rx,rfl⟩));exact .inl ⟨O,a,vs,x,O,O,q,by rw[<- rl.length];exact lz,w _ _ _ em rfl⟩
  |extend bb=>
   obtain⟨nb,w⟩:=w;obtain⟨mm,em',lz,w⟩:=pZ w;have e1:=e.grow g;obtain⟨b,vs,eb,q,rl⟩:=e1.at_ h;rw[ha] at eb;cases eb;obtain⟨x,rfl,rt⟩:=lD r;obtain⟨c,zs,rfl,qc,rz⟩:=rt.vw.b em';obtain⟨em,ke⟩:=e1.mut hJ h ha (rl.append rz);exact .inr (.inr (.inl ⟨bb,O,c,vs,zs,O,qc,q,by rw[<- rl.length,<- rz.length];exact lz,w _ _ _ em rfl⟩))
  |pop=>
   obtain⟨k,rfl,c,n,y,e2,ey,w⟩:=gX w;obtain⟨x,rfl,rt⟩:=lD r;cases rt;have e1:=e.grow g;obtain⟨b,vs,eb,q,rl⟩:=e1.at_ h;rw[ha] at eb;cases eb;obtain⟨v,ev,rv⟩:=rl.get ey;obtain⟨em,ke⟩:=e1.mut hJ h ha (rl.eraseIdx n);exact .inr (.inr (.inr (.inr ⟨O,a,vs,k,n,v,O,O,q,c.1,c.2,by rw[<- rl.length];exact e2,ev,w _ _ _ em (rv.ke ke)⟩)))
  |_=>exact w.elim
 .cases m with
  |insert=>
   obtain⟨k,rfl,nb,c,lz,w⟩:=gX w;obtain⟨F2,g2,_,r2⟩:=iC g r (by rw[dh,dh,nb];rfl);obtain⟨x,y,rfl,rx,ry⟩:=rl2 r2;cases rx;have e1:=e.grow g2;obtain⟨b,vs,eb,q,rl⟩:=e1.at_ h;rw[ha] at eb;cases eb;obtain⟨em,ke⟩:=e1.mut hJ h ha ((rl.take k.toNat).append (show RpL X.K F2 H1 (u.fz::l.drop k.toNat) (y::vs.drop k.toNat) from ⟨y,_,rfl,ry,rl.drop _⟩));exact .inr (.inl ⟨O,a,vs,k,y,O,O,q,c.1,by rw[<- rl.length];exact c.2,by rw[<- rl.length];exact lz,w _ _ _ em rfl⟩)
  |_=>exact w.elim
 .cases m<;>exact w.elim
def Jv{i:Nat}{p ap cp:Pos}{es:List Expr}(xo:VM X J FT GT fs gs)(xs:XS X N nm)(h1:N[i]?=QJ x)(h2:vs nm x=QK)(h3:Wt x=QK)(h0:Zk m ≠ "__name__")(h5:ap.endLine=cp.line)(h6:es.length<20)(h7:ckL fs gs l N nm es=QK):PE X (.Call (.Attribute (.Name x p) (Zk m) ap) es [] cp) (rM X.K J FT GT F0 H0 PN m i l):=by
 obtain⟨d1,d2,_⟩:=eU h3;have hv:PE X (.Name x p) (cZ i):=iR (by rw[xs.N];exact h1) (jn xs h2) d1 d2;have hl:=beq_iff_eq.mpr h5;have st:=jV h7;have ha:=sL l xo xs h7
 have rd:∀ {r:V->List V->Hp->VK->Prop}{σ:St}{H:Hp}{Q:VK},rM X.K J FT GT F0 H0 PN m i l σ H Q->(∀ {a ws H1},((m=.append/\pd (.ref a) ws H1 Q)\/(m=.insert/\pN (.ref a) ws H1 Q)\/(∃b,m=.extend b/\∃c vs zs,ws=[.ref c]/\YF X.K b H1 c zs/\H1 a=QJ (.lst vs)/\vs.length+zs.length<=QR/\Q .non (VA H1 a (.lst (vs++zs))))\/(m=.pop/\pf (.ref a) ws H1 Q)\/(m=.pop/\mS (.ref a) ws H1 Q))->r (.ref a) ws H1 Q) ->
   ∃a,σ[i]?=QJ (QJ (.ref a))/\(YD X.K "list" (.ref a) H)/\rA X.K J FT GT l σ H λ ws H1=>r (.ref a) ws H1 Q:=λ {r σ H Q} ⟨F,ρ,e,w⟩ hr=>by
  obtain⟨ys,hy,w⟩:=nH w;obtain⟨a,vs,ea,q,_⟩:=e.at_ hy;exact⟨a,ea,.inl ⟨O,vs,.of q⟩,F,ρ,e.ev,cj l (λ ts w F1 H1 ws g r=>hr (Ju xo.hJ e hy ea g r w)) w⟩
 have tv:∀ {σ:St}{H:Hp}{P:VK}{a:QO},σ[i]?=QJ (QJ (.ref a))->P (.ref a) H->cZ i σ H P:=λ {σ H P a} e p=>by unfold cZ;rw[e];exact p
 cases es with
 |nil=>
  cases m with
  |pop=>
   refine(EX (apos:=ap) (cpos:=cp) jX s0b s0c EZ hv rfl hl).imp λ σ H Q q=>?_
   have l0:l=.nil:=by cases l<;>first|rfl|exact QN h7
   subst l0
   obtain⟨a,ea,ty,F,ρ,ev,w⟩:=rd (r:=λ x ws H Q=>ws=[]->pf x [] H Q) q (λ h z=>by
    subst z
    rcases h with ⟨z,_⟩|⟨z,_⟩|⟨_,z,_⟩|⟨_,h⟩|⟨_,h⟩
    .cases z
    .cases z
    .cases z
    .exact h
    .obtain⟨_,_,_,_,_,_,z,_⟩:=h;cases z)
   exact tv ea ⟨ty,w F H [] (.refl ev.w) .nil rfl⟩
  |append|insert=>
    intro Vu s σ H Q I q
    have l0:l=.nil:=by cases l<;>first|rfl|exact QN h7
    subst l0;obtain⟨F,ρ,e,w⟩:=q;obtain⟨_,_,w⟩:=nH w;exact w.elim
  |extend b=>
   cases b with
   |true=>exact m8 rfl h0
   |false=>
    intro Vu s σ H Q I q
    have l0:l=.nil:=by cases l<;>first|rfl|exact QN h7
    subst l0;obtain⟨F,ρ,e,w⟩:=q;obtain⟨_,_,w⟩:=nH w;exact w.elim
 |cons y es=>
  have sy:aZ y=QK:=by rw[dh,bj] at st;exact st.1
  have ss:es.all aZ=QK:=by rw[dh,bj] at st;exact st.2
  cases m with
  |append=>
   refine(kP (apos:=ap) (cpos:=cp) jX yB yD wA hv ha rfl (lL st h6) hl (bz sy) (gY ss)).imp λ σ H Q q=>?_
   obtain⟨a,ea,ty,w⟩:=rd (r:=pd) q (λ h=>by
    rcases h with ⟨_,h⟩|⟨z,_⟩|⟨_,z,_⟩|⟨z,_⟩|⟨z,_⟩
    .exact h
    all_goals cases z)
   exact tv ea ⟨ty,w⟩
  |insert=>
   refine(kP (apos:=ap) (cpos:=cp) jX PySem.F.slot_list_insert PySem.F.type_list_insert Hu hv ha rfl (lL st h6) hl (bz sy) (gY ss)).imp λ σ H Q q=>?_
   obtain⟨a,ea,ty,w⟩:=rd (r:=pN) q (λ h=>by
    rcases h with ⟨z,_⟩|⟨_,h⟩|⟨_,z,_⟩|⟨z,_⟩|⟨z,_⟩
    .cases z
    .exact h
    all_goals cases z)
   exact tv ea ⟨ty,w⟩
  |pop=>
   refine(kP (apos:=ap) (cpos:=cp) jX s0b s0c GN hv ha rfl (lL st h6) hl (bz sy) (gY ss)).imp λ σ H Q q=>?_
   obtain⟨a,ea,ty,w⟩:=rd (r:=λ x ws H Q=>ws≠[]->mS x ws H Q) q (λ h n=>by
    rcases h with ⟨z,_⟩|⟨z,_⟩|⟨_,z,_⟩|⟨_,h⟩|⟨_,h⟩
    .cases z
    .cases z
    .cases z
    .obtain⟨_,_,_,_,z,_⟩:=h;exact m8 z n
    .exact h)
   refine tv ea ⟨ty,?_⟩;obtain⟨F,ρ,ev,w⟩:=w;refine⟨F,ρ,ev,?_⟩
   cases l with
   |cons b r=>exact au b (λ t w=>cj r (λ ts w F' H' vs g rr=>w F' H' vs g rr (λ z=>by subst z;cases rr)) w) w
   |_=>exact QN h7
  |extend b=>
   cases b with
   |true=>exact m8 rfl h0
   |false=>
    refine(kP (apos:=ap) (cpos:=cp) jX tV yE yA hv ha rfl (lL st h6) hl (bz sy) (gY ss)).imp λ σ H Q q=>?_
    obtain⟨a,ea,ty,w⟩:=rd (r:=yz X.K) q (λ {a ws H1} h=>by
     rcases h with ⟨z,_⟩|⟨z,_⟩|⟨bb,z,c,vs,zs,e1,e2,e3,e4,e5⟩|⟨z,_⟩|⟨z,_⟩
     .cases z
     .cases z
     .cases z;exact⟨a,c,vs,zs,O,e1,e3,e2,e4,e5⟩
     all_goals cases z)
    exact tv ea ⟨ty,w⟩
def Jw(xo:VM X J FT GT fs gs)(xs:XS X N nm)(h:ZV fs gs N nm m i l e=QK):PE X e (rM X.K J FT GT F0 H0 PN m i l)/\XZ e=QK:=by
 refine dR h λ g es w cp k1=>?_;refine tF k1 λ o name ap k2=>?_;refine bC k2 λ x p k3=>?_;obtain⟨z0,h1,h2,h3,z1,z2,h7⟩:=a7 k3;refine dC z0 ?_;cases aD z1;obtain⟨h0,h5,h6⟩:=aD z2;exact⟨Jv xo xs (aD h1) h2 h3 h0 h5 h6 h7,O⟩
def rXl(K:FG)(J:Hp->Prop)(FT:List Vv)(GT:List TV)(F0:Fz)(H0:Hp)(PN:List (TV×V))(i f:Nat)(l:Cd):TE:=λ σ H Q=>∃F ρ,ER K J F0 H0 PN F H σ ρ/\gv ρ[i]? λ xs=>wL FT GT l ρ λ ts=>∃P,(∃S,FT[f]?=QJ S/\S (ts.map .fz) P)/\∀t,P t->∃m,t=.lst m/\(∀x∈m,LF x)/\xs.length+m.length<=QR/\∀F' H',ER K J F0 H0 PN F' H' σ (ρ.set i (QJ (.own (xs++m))))->Q .non H'
def Jx{i f:Nat}{a:Expr}{es:List Expr}{p ap cp p2 p3:Pos}(xo:VM X J FT GT fs gs)(xs:XS X N nm)(h1:N[i]?=QJ x)(h2:vs nm x=QK)(h3:Wt x=QK)(hl:ap.endLine=cp.line)(hf:fs[f]?=QJ y)(hg:gl nm y=QK)(ho:Wt y=QK)(h7:ckL fs gs l N nm (a::es)=QK):PE X (.Call (.Attribute (.Name x p) "extend" ap) [.Call (.Name y p2) (a::es) [] p3] [] cp) (rXl X.K J FT GT F0 H0 PN i f l):=by
 obtain⟨d1,d2,_⟩:=eU h3;have hv:PE X (.Name x p) (cZ i):=iR (by rw[xs.N];exact h1) (jn xs h2) d1 d2;have fo:=lL (e:=.Call (.Name y p2) (a::es) [] p3) (es:=[]) (env:=X.env) (cp:=cp) rfl (show 1<20 by decide);have st:=jV h7;rw[dh,bj] at st;obtain⟨S,eS⟩:∃S,FT[f]?=QJ S:=gu (bQ (aN.mp hf).1 xo.len);obtain⟨k,ps,hr,c⟩:=xo.fns f y S hf eS;have ha:=dA (so (p:=p2) (pos:=p3) c hr (WR xs hg) sk (sL l xo xs h7) (eU ho).1 (bz st.1) (gY st.2)) pa_nil rfl;refine(kP (apos:=ap) (cpos:=cp) jX tV yE yA hv ha rfl fo (beq_iff_eq.mpr hl) rfl rfl).imp λ σ H Q ⟨F,ρ,er,w⟩=>?_;obtain⟨ls,hy,w⟩:=nH w;obtain⟨b,vs,ea,q,_⟩:=er.at_ hy;unfold Zb cZ;rw[ea];refine⟨.inl ⟨O,vs,.of q⟩,F,ρ,er.ev,cj l (λ ts w F1 H1 us g1 r1=>?_) w⟩;obtain⟨P,⟨S',e',sp⟩,w⟩:=w;rw[eS] at e';cases e';rw[fF];obtain⟨F2,w2,r2⟩:=xZ g1.w r1;refine⟨F2,_,P,w2,r2,sp,λ t pt F' H' v g' r'=>?_⟩;obtain⟨m,rfl,lf,lz,w⟩:=w t pt;have gg:Grow J F1 H1 F1 H':=⟨g'.sm,g'.dm,λ _ h=>h,λ _ h=>.inl h,g'.w.j,λ b f=>g'.dm b (g1.w.d b f)⟩;have e1:=(er.grow g1).grow gg;obtain⟨b',xs',eb,qb,rl⟩:=e1.at_ hy;rw[ea] at eb;cases eb;obtain⟨cc,zs,rfl,qc,rz⟩:=(Rr.of (H:=H) r').vw.b (show(TV.lst m).items=QJ (QL,m) from rfl);have rz':RpL X.K F1 H' m zs:=LF.rpl lf rz;obtain⟨em,ke⟩:=e1.mut xo.hJ hy ea (rl.append rz');exact⟨b,cc,xs',zs,O,O,qb,qc,by rw[<- rl.length,<- rz'.length];exact lz,w _ _ em⟩
end
section
variable {J:Hp->Prop}{FT:List Vv}{GT:List TV}{fs gs:List Str}{N:List Str}{nm:List (Str×Rb)}{F0:Fz}{H0:Hp}
theorem Jy{K:Td}{ts its:List TV}{n:Nat}{D:WP}{tb:TS}(b:TV->En->(En->Prop)->Prop)(P:En->Prop)
  (e1:ER K J F0 H0 PN F1 H1 σ ρ) (sl:σ.length=n) (rx:RpL K F1 H1 (ts.map TV.fz) xs) (ok:VZ K J Jt its ts xs) (w:Xj b its ρ P) (fin:∀ρ',P ρ'->YN K J F0 H0 PN n D.nx ρ')
  (st:∀t ρ' F' H' σ' x (Q:En->Prop) (D':WP),b t ρ' Q->ER K J F0 H0 ((ts.map TV.fz).zip xs++PN) F' H' σ' ρ'->σ'.length=n->Rp K F' H' t x->D'.rt=D.rt->(∀ρ2,Q ρ2->YN K J F0 H0 ((ts.map TV.fz).zip xs++PN) n D'.nx ρ2)->WJ K tgs x σ' H' λ σ2 H2=>tb D' σ2 H2) :
  ∃W:Nat->Nat->St->Hp->Prop,(∃m,W 0 m σ H1)/\∀i m σ H,W i m σ H ->
   (Jt.stop i H/\D.nx σ H)\/(Jt.go i H/\∃N:St->Hp->Prop,(∀σ' H',N σ' H'->∃m',m'<m/\W (i+1) m' σ' H')/\∀x H',Jt.yld i H x H'->WJ K tgs x σ H' λ σ2 H2=>tb { D with nx:=N,ct:=N,bk:=D.nx } σ2 H2):=by
 have zl:(ts.map TV.fz).length=xs.length:=rx.length
 have pin0:∀p∈(ts.map TV.fz).zip xs,Rp K F1 H1 p.1 p.2:=by
  intro p hp;obtain⟨i,hi⟩:=jq hp;rw[xR] at hi;obtain⟨v,ev,rv⟩:=rx.get hi.1;rw[hi.2] at ev;cases ev;exact rv
 have vw:∀ {F:Fz}{H:Hp}{σ:St}{ρ:En},ER K J F0 H0 ((ts.map TV.fz).zip xs++PN) F H σ ρ->RV (Vw K F H) ts xs:=λ {F H σ ρ} e=>by
  have f:=e.pn;clear rx ok w fin st pin0 e1
  revert xs
  induction ts with
  |nil=>intro xs zl e f;cases xs with|nil=>exact .nil|cons x xs=>simp at zl
  |cons t ts ih=>
   intro xs zl e f
   cases xs with
   |nil=>simp at zl
   |cons x xs=>
    refine .cons (Rp.vw (f (t.fz,x) pv)) (ih (by simpa using zl) ⟨e.ev,e.gr,e.nb,e.di,λ p hp=>f p (by
     rw[dg,s1n,nc]
     exact bg _ hp),e.ol⟩ λ p hp=>f p (by
     rw[dg,s1n,nc]
     exact bg _ hp))
 refine⟨λ i m σ H=>i≤its.length/\m=its.length - i/\∃F ρ,ER K J F0 H0 ((ts.map TV.fz).zip xs++PN) F H σ ρ/\σ.length=n/\Xj b (its.drop i) ρ P,
  ⟨_,bY _,rfl,F1,ρ,⟨e1.ev,e1.gr,e1.nb,e1.di,λ p hp=>(cr.mp hp).elim (pin0 p) (e1.pn p),e1.ol⟩,sl,w⟩,?_⟩
 rintro i m σ H ⟨hi,rfl,F,ρ,e,s,w⟩;have v:=vw e;by_cases c:i<its.length
 .refine .inr ⟨ok.go F H i e.ev.w v c,λ σ' H'=>∃F ρ,ER K J F0 H0 ((ts.map TV.fz).zip xs++PN) F H' σ' ρ/\σ'.length=n/\Xj b (its.drop (i+1)) ρ P,λ σ' H' q=>⟨_,ca,c,O,q⟩,λ x H' y=>?_⟩;obtain⟨t,et,gy,rt⟩:=ok.yld F H i x H' e.ev.w v c y
  have ed:its.drop i=t::its.drop (i+1):=by
   rw[tQ c]
   congr 1
   rw[aL c] at et;exact bN et
  rw[ed] at w;exact st t ρ F H' σ x _ _ w (e.grow gy) s rt rfl λ ρ2 q F2 H2 σ2 e2 s2=>⟨F2,ρ2,e2,s2,q⟩
 .have ei:i=its.length:=by lia
  subst ei;rw[tR] at w;refine .inl ⟨ok.stop F H e.ev.w v,fin ρ w F H σ ⟨e.ev,e.gr,e.nb,e.di,λ p hp=>e.pn p (bR _ hp),e.ol⟩ s⟩
theorem Jz{K:FG}{own:List Str}{Q:VK}{R:List QO->Prop}(hJ:JS J)(e:EV K J F H σ ρ)(w:wL FT GT it ρ λ ts=>Xz k ts λ its=>its.length<QR/\∀as:List QO,as.Nodup->as.length=its.length->R as)
  (fin:∀as F' H' a0,R as->as.Nodup->Grow J F H F' H'->H a0=QM->¬F' a0->H' a0=QJ (.lst (as.map V.ref))->(∀a∈as,H a=QM/\¬F' a/\H' a=QJ (.lst []))->a0 ∉ as->Q (.ref a0) H'):kQ (rW K J FT GT k it) own.length [] (WJ K [0]) (mI mH) σ H Q:=by
 refine⟨F,ρ,e,cj it (λ ts w=>jd (λ its w F1 H1 xs Jt g1 rx ok=>?_) w) w⟩;obtain⟨hn,w⟩:=w;refine⟨λ i m ys σ' H'=>i<=its.length/\m=its.length-i/\∃F' as,Grow J F1 H1 F' H'/\ys=as.map V.ref/\as.length=i/\as.Nodup/\∀a∈as,H1 a=QM/\¬F' a/\H' a=QJ (.lst []),⟨_,bY _,O,F1,[],.refl g1.w,O,O,.nil,λ a ha=>nomatch ha⟩,?_⟩;rintro i m ys σ' H' ⟨hi,rfl,F',as,g',rfl,al,nd,ha⟩;have vw:RV (Vw K F' H') ts xs:=Paired.mapP (rx.grow g') λ _ _ r=>r.vw;by_cases c:i<its.length
 .refine .inr ⟨ok.go F' H' i g'.w vw c,by rw[ag];lia,λ zs σ2 H2=>∃F2 as2,Grow J F1 H1 F2 H2/\zs=as2.map V.ref/\as2.length=i+1/\as2.Nodup/\∀a∈as2,H1 a=QM/\¬F2 a/\H2 a=QJ (.lst []),λ zs σ2 H2 ⟨F2,as2,q⟩=>⟨_,ca,c,O,F2,as2,q⟩,λ x H2 y=>?_⟩;obtain⟨t,et,gy,rt⟩:=ok.yld F' H' i x H2 g'.w vw c y;refine⟨bY _,λ p hp=>?_⟩;have g2:=gy.trans (Grow.new hJ gy.w (.lst []) hp);have np:∀a∈as,a≠p:=λ a h z=>by have:=gy.sm _ _ (λ ps z=>by cases z) (ha a h).2.2;rw[z,hp] at this;cases this
  refine⟨F',as++[p],g'.trans g2,by rw[bD];rfl,by rw[aK,al];rfl,List.nodup_append.mpr ⟨nd,gM.mpr ⟨pv,List.nodup_nil⟩,λ a h b hb=>by cases aJ.mp hb;exact np a h⟩,λ a hm=>?_⟩
  rcases cr.mp hm with h|h
  .obtain⟨z1,z2,z3⟩:=ha a h;exact⟨z1,z2,g2.sm _ _ (λ ps z=>by cases z) z3⟩
  .cases aJ.mp h;exact⟨(g'.trans gy).none hp,λ f=>gy.w.d _ f hp,cK⟩
 .have e:i=its.length:=by lia
  refine .inl ⟨e ▸ ok.stop F' H' g'.w vw,λ p hp=>?_⟩;have np:∀a∈as,a≠p:=λ a h z=>by have:=(ha a h).2.2;rw[z,hp] at this;cases this
  exact fin as F' _ p (w as nd ca) nd ((g1.trans g').trans (.new hJ g'.w _ hp)) ((g1.trans g').none hp) (λ f=>g'.w.d _ f hp) cK (λ a h=>⟨g1.none (ha a h).1,(ha a h).2.1,by rw[aG (np a h)];exact(ha a h).2.2⟩) λ h=>np p h rfl
def yF(h:tT ρ=QK){k:Nat}(e:ρ[k]?=QJ (QJ (.obj (.lls as ll)))):False:=by
 have:=gU.mp h _ (aC e);cases this
theorem ER.setL{K:FG}{i:Nat}{as:List QO}(e:ER K J F0 H0 PN F H σ ρ)(no:tT ρ=QK)(g:Grow J F H F' H')(n0:H a0=QM)(nf0:¬F' a0)(q0:H' a0=QJ (.lst (as.map V.ref)))(nd:as.Nodup)(ha:∀a∈as,H a=QM/\¬F' a/\H' a=QJ (.lst []))(na:a0 ∉ as)(hi:i<σ.length) :
  ER K J F0 H0 PN (λ b=>F' b\/b=a0) H' (σ.set i (QJ (.ref a0))) (ρ.set i (QJ (.obj (.lls as (QT as.length []))))):=by
 have eg:=e.grow (g.frz n0 (by rw[q0];simp));refine⟨⟨eg.ev.w,λ j t hj=>?_⟩,eg.gr,λ j l' b h1 h2=>?_,λ j k l1 l2 w h1 h2 h3 h4=>?_,eg.pn,λ k as' ll' z=>?_⟩
 .rw[cV] at hj;split at hj
  .rename_i c;subst c;split at hj
   .cases hj;refine⟨.ref a0,by rw[cV];simp[hi],a0,O,.inl ⟨.inr rfl,.of q0⟩,nd,pv,λ jj a ks e1 e2=>?_⟩;have m:=aC e1;obtain⟨_,z2,z3⟩:=ha a m;rw[dH] at e2;split at e2
    .cases e2;refine⟨λ y=>?_,[],z3,O⟩
     rcases y with y|y
     .exact z2 y
     .subst y;exact na m
    .cases e2
   .cases hj
  .rename_i c;obtain⟨w,e1,z⟩:=eg.ev.sl j t hj;exact⟨w,by rw[dL c];exact e1,z⟩
 .rcases cW h1 with ⟨_,z⟩|⟨n,z⟩
  .cases z
  .rw[dL n] at h2;exact e.nb j l' b z h2
 .rcases cW h1 with ⟨_,z⟩|⟨n,z⟩
  .cases z
  .rcases cW h2 with ⟨_,z'⟩|⟨n',z'⟩
   .cases z'
   .rw[dL n] at h3;rw[dL n'] at h4;exact e.di j k l1 l2 w z z' h3 h4
 .rcases dS z with ⟨rfl,y⟩|⟨n,y⟩
  .cases y;refine⟨λ a h=>e.gr.none (ha a h).1,λ j l b e1 e2 hb=>?_,λ j as' ll' e1=>?_⟩
   .rcases dS e1 with ⟨_,y⟩|⟨m,y⟩
    .cases y
    .rw[dL m] at e2;obtain⟨v,e3,b',ws,rfl,_,qb,_⟩:=e.ev.sl j _ y;rw[e2] at e3;cases e3;rw[(ha b hb).1] at qb;cases qb
   .rcases dS e1 with ⟨y,_⟩|⟨m,y⟩
    .exact y.symm
    .exact(yF no y).elim
  .exact(yF no y).elim
def JA{K:FG}{F:Fz}{H:Hp}{vs ws:List V}(nf:¬F a)(q:H a=QJ (.lst vs)):Ke K F H F (VA H a (.lst ws)):=by
 have rd:∀b u,(∀vs,u≠.lst vs)->Rd H b u->Rd (VA H a (.lst ws)) b u:=λ b u n h=>by
  rcases h with h|⟨o,h⟩
  .exact .inl (by rw[aG (λ z=>by subst z;rw[q] at h;cases h;exact n _ rfl)];exact h)
  .exact .inr ⟨o,by rw[aG (λ z=>by subst z;rw[q] at h;cases h)];exact h⟩
 exact⟨λ b vs h=>by
  rcases h with h|h
  .exact .inl (rd _ _ (λ _ z=>by cases z) h)
  .exact .inr h,λ b vs h=>h.imp λ f h=>⟨f,by
  have ba:b≠a:=λ z=>by subst z;exact nf f
  rcases h with h|h
  .refine .inl ?_
   rcases h with h|⟨o,h⟩
   .exact .inl (by rw[aG ba];exact h)
   .exact .inr ⟨o,by rw[aG ba];exact h⟩
  .exact .inr h⟩⟩
theorem ER.push{K:FG}{i n:Nat}(hJ:JS J)(e:ER K J F0 H0 PN F H σ ρ)(hi:ρ[i]?=QJ (QJ (.obj (.lls as ll))))(eb:as[n]?=QJ b)(hn:ll[n]?=QJ l)(q:H b=QJ (.lst us))(r:RpL K F H (l.map kT) us)(rv:Rp K F H (kT ks) v) :
  ER K J F0 H0 PN F (VA H b (.lst (us++[v]))) σ (ρ.set i (QJ (.obj (.lls as (ll.set n (l++[ks])))))):=by
 obtain⟨o1,o2,o3⟩:=e.ol i as ll hi;have bm:=aC eb;obtain⟨v0,ev0,a0,e0,l0,nd,hl,hh⟩:=e.ev.sl i _ hi;have nf:=(hh n b l eb hn).1;have ke:Ke K F H F (VA H b (.lst (us++[v]))):=JA nf q
 have dom:∀c,H c≠QM->VA H b (.lst (us++[v])) c≠QM:=λ c hc=>by
  by_cases z:c=b
  .subst z;rw[cK];simp
  .rw[aG z];exact hc
 have f:∀(j:Nat) (m:List TV),(ρ.set i (QJ (.obj (.lls as (ll.set n (l++[ks]))))))[j]?=QJ (QJ (TV.own m))->ρ[j]?=QJ (QJ (TV.own m)):=λ j m h1=>by
  rcases cW h1 with ⟨_,y⟩|⟨_,z⟩
  .cases y
  .exact z
 refine⟨⟨⟨hJ.mu H b us _ q e.ev.w.j,λ c f=>dom c (e.ev.w.d c f)⟩,λ j t hj=>?_⟩,⟨λ c o nt hc=>by rw[aG (λ z=>by subst z;rw[o1 c bm] at hc;cases hc)];exact e.gr.sm c o nt hc,λ c hc=>dom c (e.gr.dm c hc),e.gr.up,e.gr.nw,hJ.mu H b us _ q e.ev.w.j,λ c f=>dom c (e.ev.w.d c f)⟩,λ j m c h1 h2=>e.nb j m c (f j m h1) h2,λ j k m1 m2 w h1 h2 h3 h4=>e.di j k m1 m2 w (f j m1 h1) (f k m2 h2) h3 h4,λ p hp=>(e.pn p hp).ke ke,e.ol.sub (λ j m z=>⟨m,f j m z⟩) λ j as' ll' z=>?_⟩
 .rcases dS hj with ⟨rfl,y⟩|⟨c,y⟩
  .subst y;refine⟨v0,ev0,a0,e0,ke.l _ _ l0,nd,by rw[cF];exact hl,λ jj a ks' e1 e2=>?_⟩;by_cases z:jj=n
   .subst z;rw[eb] at e1;cases e1;rw[gc (aN.mp hn).1] at e2;cases e2;refine⟨nf,_,cK,?_⟩;rw[bD];exact(r.ke ke).append ⟨v,[],O,rv.ke ke,O⟩
   .rw[gh (λ y=>z y.symm)] at e2;obtain⟨nf2,us2,q2,r2⟩:=hh jj a ks' e1 e2;have ne:a≠b:=λ y=>by subst y;exact z ((List.getElem?_inj (aN.mp e1).1 nd).mp (e1.trans eb.symm))
    exact⟨nf2,us2,by rw[aG ne];exact q2,r2.ke ke⟩
  .obtain⟨w,e1,z⟩:=e.ev.sl j t y;refine⟨w,e1,?_⟩
   cases t with
   |own l1=>
    obtain⟨d,us',rfl,nf',q',r'⟩:=z;exact⟨d,us',O,nf',by rw[aG (λ y'=>by subst y';exact o2 j l1 d y e1 bm)];exact q',r'.ke ke⟩
   |obj o=>
    cases o with
    |dct l'=>obtain⟨d,e2,q'⟩:=z;exact⟨d,e2,by rw[aG (λ z=>by subst z;rw[q] at q';cases q')];exact q'⟩
    |fn d=>obtain⟨e2,φ,q',kf⟩:=z;exact⟨e2,φ,by rw[aG (λ z=>by subst z;rw[q] at q';cases q')];exact q',kf⟩
    |lls as' ll'=>exact m8 (o3 j as' ll' y).symm c
   |_=>exact Rp.ke ke z
 .rcases dS z with ⟨rfl,y⟩|⟨_,y⟩
  .cases y;exact⟨ll,hi⟩
  .exact⟨ll',y⟩
theorem RpL.mk{K:FG}:∀ {ts:List TV}{vs:List V},ts.length=vs.length->(∀(j:Nat) t v,ts[j]?=QJ t->vs[j]?=QJ v->Rp K F H t v)->RpL K F H ts vs
 |[],[],_,_=>rfl
 |_::_,v::vs,hl,h=>⟨v,vs,rfl,h 0 _ _ rfl rfl,RpL.mk (by simpa using hl) λ j t v e1 e2=>h (j+1) t v e1 e2⟩
def ER.fu{K:FG}{i:Nat}(e:ER K J F0 H0 PN F H σ ρ)(hi:ρ[i]?=QJ (QJ (.obj (.lls as ll)))):∃F',ER K J F0 H0 PN F' H σ (ρ.set i (QJ (.lst (ll.map λ l=>.lst (l.map kT))))):=by
 obtain⟨o1,o2,o3⟩:=e.ol i as ll hi;obtain⟨v0,ev0,a0,e0,l0,nd,hl,hh⟩:=e.ev.sl i _ hi;have up:Ke K F H (λ b=>F b\/b∈as) H:=.up λ _ f=>.inl f
 have there:∀a∈as,H a≠QM:=λ a ha=>by
  obtain⟨jj,ej⟩:=jq ha;obtain⟨_,us,q',_⟩:=hh jj a (ll[jj]'(by rw[<- hl];exact(aN.mp ej).1)) ej (aL _);rw[q'];simp
 have wd:Wd J (λ b=>F b\/b∈as) H:=⟨e.ev.w.j,λ b f=>f.elim (e.ev.w.d b) (there b)⟩
 have f:∀(j:Nat) (m:List TV),(ρ.set i (QJ (.lst (ll.map λ l=>.lst (l.map kT)))))[j]?=QJ (QJ (TV.own m))->ρ[j]?=QJ (QJ (TV.own m)):=λ j m h1=>by
  rcases cW h1 with ⟨_,y⟩|⟨_,z⟩
  .cases y
  .exact z
 refine⟨λ b=>F b\/b∈as,⟨wd,λ j t hj=>?_⟩,⟨e.gr.sm,e.gr.dm,λ b z=>.inl (e.gr.up b z),λ b z=>z.elim (e.gr.nw b) λ h=>.inr (o1 b h),wd⟩,λ j m c h1 h2=>e.nb j m c (f j m h1) h2,λ j k m1 m2 w h1 h2 h3 h4=>e.di j k m1 m2 w (f j m1 h1) (f k m2 h2) h3 h4,λ p hp=>(e.pn p hp).ke up,e.ol.sub (λ j m z=>⟨m,f j m z⟩) λ j as' ll' z=>?_⟩
 .rcases dS hj with ⟨rfl,y⟩|⟨c,y⟩
  .subst y;refine⟨v0,ev0,a0,_,e0,up.l _ _ l0,RpL.mk (by rw[ag,ag,hl]) λ jj t v e1 e2=>?_⟩;rw[aW] at e1 e2;obtain⟨l,el,rfl⟩:=jr.mp e1;obtain⟨a,ea,rfl⟩:=jr.mp e2;obtain⟨_,us,q',r'⟩:=hh jj a l ea el;exact⟨a,us,O,.inl ⟨.inr (aC ea),.of q'⟩,r'.ke up⟩
  .obtain⟨w,e1,z⟩:=e.ev.sl j t y;refine⟨w,e1,?_⟩
   cases t with
   |own l1=>
    obtain⟨d,us',rfl,nf',q',r'⟩:=z;refine⟨d,us',O,λ y'=>?_,q',r'.ke up⟩
    rcases y' with y'|y'
    .exact nf' y'
    .exact o2 j l1 d y e1 y'
   |obj o=>
    cases o with
    |lls as' ll'=>exact m8 (o3 j as' ll' y).symm c
    |_=>exact z
   |_=>exact Rp.ke up z
 .rcases dS z with ⟨_,y⟩|⟨_,y⟩
  .cases y
  .exact⟨ll',y⟩
structure b9 (X:Cx)(J:Hp->Prop)(FT:List Vv)(GT:List TV)(fs gs N:List Str)(nm:List (Str×Rb))(lp:Bool):Prop where
 xo:VM X J FT GT fs gs
 xs:XS X N nm
 nd:N.Nodup
 fn:∀x,X.env.scope.names.lookup x=QJ .cell->X.fn x=QK
 ps:lp=QK->PassesOwn (QU X.prog X.w) X.A X.env X.xe
theorem yG{K:FG}{Q:St->Hp->Prop}(h:Wq ρ is t P)(e:ER K J F0 H0 PN F H σ ρ)(rt:Rp K F H t v)(hl:∀i∈is,i<σ.length)
  (fin:∀σ' ρ',P ρ'->ER K J F0 H0 PN F H σ' ρ'->σ'.length=σ.length->Q σ' H):WJ K is v σ H Q:=by
 match is,h with
 |[i],h=>exact fin _ _ h (e.set rt (hl i pv)) pv
 |[i,j],h=>
  cases t with
  |tup l=>
   match l,h with
   |[x,y],h=>
    obtain⟨a,ws,rfl,q,v1,r1,rfl,h1,v2,r2,rfl,h2,rfl⟩:=rt;exact⟨a,_,O,q,O,v1,_,O,v2,_,O,O,fin _ _ h ((e.set h1 (hl i pv)).set h2 (by simpa using hl j pv)) pv⟩
   |[],h=>exact h.elim
   |[_],h=>exact h.elim
   |_::_::_::_,h=>exact h.elim
  |_=>exact h.elim
 |[i,j,k],h=>
  cases t with
  |tup l=>
   match l,h with
   |[x,y,z],h=>
    obtain⟨a,ws,rfl,q,v1,r1,rfl,h1,v2,r2,rfl,h2,v3,r3,rfl,h3,rfl⟩:=rt;exact⟨a,_,O,q,O,v1,_,O,v2,_,O,v3,_,O,O,fin _ _ h (((e.set h1 (hl i pv)).set h2 (by simpa using hl j pv)).set h3 (by simpa using hl k pv)) pv⟩
   |[],h=>exact h.elim
   |[_],h=>exact h.elim
   |[_,_],h=>exact h.elim
   |_::_::_::_::_,h=>exact h.elim
  |_=>exact h.elim
 |[i,j,k,m],h=>
  cases t with
  |tup l=>
   match l,h with
   |[x,y,z,w],h=>
    obtain⟨a,ws,rfl,q,v1,r1,rfl,h1,v2,r2,rfl,h2,v3,r3,rfl,h3,v4,r4,rfl,h4,rfl⟩:=rt;exact⟨a,_,O,q,O,v1,_,O,v2,_,O,v3,_,O,v4,_,O,O,fin _ _ h ((((e.set h1 (hl i pv)).set h2 (by simpa using hl j pv)).set h3 (by simpa using hl k pv)).set h4 (by simpa using hl m pv)) pv⟩
   |[],h=>exact h.elim
   |[_],h=>exact h.elim
   |[_,_],h=>exact h.elim
   |[_,_,_],h=>exact h.elim
   |_::_::_::_::_::_,h=>exact h.elim
  |_=>exact h.elim
 |[],h=>exact h.elim
 |_::_::_::_::_::_,h=>exact h.elim
end
section
variable {J:Hp->Prop}{FT:List Vv}{GT:List TV}{fs gs:List Str}{N:List Str}{nm:List (Str×Rb)}{F0:Fz}{H0:Hp}
def JB{tg e:Expr}(h:XZ e=QK):Tx [tg] e n env=Rj QL:=qk h
def JC:Tx [.Subscript o i p] e n env=Rj QL:=by cases e<;>rfl
def JD:Tw [.Subscript o i p] e env=Rj QM:=by cases e<;>rfl
def JE{tg e:Expr}(h:XZ e=QK):Tw [tg] e env=Rj QM:=by
 cases tg<;>first|rfl|(cases e<;>first|rfl|cases h)
theorem JF(h:jS i=QK):∀v,SB (.Subscript o i p) env v=(do
   let ov <- RX [v] (eval o env)
   let iv <- RX [v,ov] (eval i env)
   Tp p
   RX [v,ov,iv] (setItem ov iv v)
   release [v,ov,iv] []):=by
 intro v
 cases i<;>first|rfl|(cases h;done)
theorem JG{i:Nat}(xo:VM X J FT GT fs gs)(xs:XS X N nm)(hN:X.N.Nodup)(hi:X.N[i]?=QJ x)(hx:Xi X.env.scope x)(hf:X.fn x=QK\/X.env.scope.names.lookup x=QJ .local)(h:ck fs gs (.comp own [] [] [0] k it (.lst .nil)) N nm e=QK) :
  PS X (.Assign [.Name x p'] e pos) (kJ (kQ (rW X.K J FT GT k it) own.length [] (WJ X.K [0]) (mI mH)) (dz i)):=by
 obtain⟨elt,gens,sc,lp,e1,g⟩:=nA h;cases e1;obtain⟨⟨t,iter,ifs,z⟩,rfl,g'⟩:=jm g;obtain⟨g0,g1,h1,h2,h3,h4,h5⟩:=a7 g';cases (show ifs=[] from tS.mp g0);cases aD g1
 obtain⟨lp5,rfl⟩:∃p,elt=.List [] p:=by
  refine xN h5 λ es p k=>?_
  cases es with
  |nil=>exact⟨p,rfl⟩
  |cons a r=>exact QN k
 intro Vu s σ H D I q;obtain⟨cl,S⟩:=lJ I.ok xs h1
 cases hb:(X.env.blockKind == .function&&X.env.kindOf x == QJ .local&&p'.line == (Expr.ListComp (.List [] lp5) [⟨t,iter,[],0⟩] sc lp).pos.line && !(sc.names.any λ(n,k)=>n == x&&(k == .local || k == .cell))) with
 |false=>
  have hpe:PE X (.ListComp (.List [] lp5) [⟨t,iter,[],0⟩] sc lp) (kQ (rW X.K J FT GT k it) own.length [] (WJ X.K [0]) (mI mH)):=λ Vu s σ H Q I q=>by
   obtain⟨cl,S⟩:=lJ I.ok xs h1;exact CmP.pe ⟨xo.calm,sI it k xo xs h2,S,h3,λ C ex s H yx=>rK pa_nil,qd,jW h2⟩ I (by rw[wG];exact q)
  exact vM hN hi hx hpe (by show(Rj _:Sem Bool)=_;rw[<- hb]) hf Vu s σ H D I q
 |true=>
  have hsw:Sy (.ListComp (.List [] lp5) [⟨t,iter,[],0⟩] sc lp) (QJ (.Name x p')) pos.line X.env=Rj QK:=by show(Rj _:Sem Bool)=_;rw[<- hb]
  exact CmP.ps ⟨xo.calm,sI it k xo xs h2,S,h3,λ C ex s H yx=>rK pa_nil,qd,jW h2⟩ hN hi hx hf hsw I (by rw[wG];exact q)
theorem JI{i j:Nat}{p p2 p3 ap cp:Pos}(xo:VM X J FT GT fs gs)(xs:XS X N nm)(h1:N[i]?=QJ x)(h2:vs nm x=QK)(h3:Wt x=QK)(h4:N[j]?=QJ z)(h5:vs nm z=QK)(h6:Wt z=QK)(hl:ap.endLine=cp.line)(st:aZ a=QK)(ha:PE X a (rE X.K J FT GT c)) :
  PE X (.Call (.Attribute (.Subscript (.Name x p) (.Name z p2) p3) "append" ap) [a] [] cp) (λ σ H Q=>∃F ρ as ll n l,ER X.K J F0 H0 PN F H σ ρ/\ρ[i]?=QJ (QJ (.obj (.lls as ll)))/\ρ[j]?=QJ (QJ (.int (n:Nat)))/\ll[n]?=QJ l/\l.length<1000/\wE FT GT c ρ λ t=>∃ks,t=kT ks/\∀F' H',ER X.K J F0 H0 PN F' H' σ (ρ.set i (QJ (.obj (.lls as (ll.set n (l++[ks]))))))->Q .non H'):=by
 obtain⟨d1,d2,_⟩:=eU h3;obtain⟨d3,d4,_⟩:=eU h6;have hv:PE X (.Subscript (.Name x p) (.Name z p2) p3) (XW (rZ X.K) (cZ i) (cZ j)):=wn ix_list (iR (by rw[xs.N];exact h1) (jn xs h2) d1 d2) (iR (by rw[xs.N];exact h4) (jn xs h5) d3 d4) (tO rfl);refine(kP (apos:=ap) (cpos:=cp) jX yB yD wA hv (dA ha pa_nil (bz st)) rfl (lL (by rw[dh,st];rfl) (show 1<20 by decide)) (beq_iff_eq.mpr hl) (bz st) rfl).imp λ σ H Q ⟨F,ρ,as,ll,n,l,e,hi,hj,hn,ln,w⟩=>?_;obtain⟨v,ev,a0,rfl,l0,nd,VC,hh⟩:=e.ev.sl i _ hi;obtain⟨v2,ev2,e3⟩:=e.ev.sl j _ hj;cases (show v2=V.int (n:Nat) from e3);obtain⟨b,eb⟩:∃b,as[n]?=QJ b:=⟨_,aL (by rw[VC];exact(aN.mp hn).1)⟩;obtain⟨nf,us,q,r⟩:=hh n b l eb hn;unfold Zb XW;show cZ i σ H _;unfold cZ;rw[ev];simp only[ev2];refine⟨a0,as.map V.ref,n,.ref b,O,O,l0.sq,?_,.inl ⟨O,us,.of q⟩,F,ρ,e.ev,au c (λ t ⟨ks,et,w⟩ F1 H1 v g r1=>?_) w⟩
 .exact im (by rw[aW,eb];rfl)
 .subst et;have q1:=g.sm _ _ (λ ps z=>by cases z) q;have ul:us.length=l.length:=by rw[<- r.length,ag]
  exact⟨b,us,v,O,O,q1,by rw[ul];exact bQ ln (fD (aO (ak _))),w F1 _ (ER.push xo.hJ (e.grow g) hi eb hn q1 (r.ke g.ke) r1)⟩
theorem sS:∀(c:Ct) {X:Cx}{lp:Bool}{PN:List (TV×V)}{sts:List Ra},b9 X J FT GT fs gs N nm lp->bH fs gs N nm lp c sts=QK->PSs X sts (rS X.K J FT GT N.length F0 H0 PN c)
 |.nil,X,lp,PN,sts,y,h=>by
  refine dC h ?_;exact pss_nil.imp λ D σ H ⟨F,ρ,e,s,w⟩=>w F H σ e s
 |.never,X,lp,PN,sts,y,h=>pss_never.imp λ D σ H ⟨F,ρ,e,s,w⟩=>w.elim
 |.ret c,X,lp,PN,sts,y,h=>by
  refine Jn h λ o _ _ g=>?_
  cases o with
  |none=>exact QN g
  |some e=>
   refine(eN (vG (sE c y.xo y.xs g)) pss_never).imp λ D σ H ⟨F,ρ,e,s,w⟩=>?_;obtain⟨F',e',_⟩:=e.fzC c;refine⟨F',_,e'.ev,au c (λ t ⟨nb,w⟩ F1 H1 v g r=>?_) w⟩;obtain⟨F2,g2,_,_,rp⟩:=r.frz g nb;exact w F2 H1 v (e'.gr.trans g2) rp
 |.set i c r,X,lp,PN,sts,y,h=>by
  .refine qi h λ ts e _ Vz k1=>?_;refine fP k1 λ t k2=>?_;refine bC k2 λ x _ k3=>?_;obtain⟨h1,h2,h3⟩:=_L.a3 k3;obtain⟨a1,a2,a3,a4⟩:=yw y.xs y.fn h1;refine(eN (Jr y.xo y.xs (by rw[y.xs.N];exact y.nd) a1 a2 a3 h2) (sS r (PN:=PN) y h3)).imp λ D σ H ⟨F,ρ,e,s,w⟩=>?_;obtain⟨F',e',_⟩:=e.fzC c;exact⟨F',_,e'.ev,au c (λ t ⟨nb,w⟩ F1 H1 v g r=>⟨F1,_,e'.rr g r nb ca,by rw[cF];exact s,w⟩) w⟩
 |.sets is c r,X,lp,PN,sts,y,h=>by
  .refine qi h λ ts e _ Vz k1=>?_;refine fP k1 λ tg k2=>?_;obtain⟨h1,h2,h3,h4,h5⟩:=a5 k2;obtain⟨pg,lt⟩:=tM (X:=X) (by rw[y.xs.N];exact y.nd) y.xo.calm y.xs (λ _=>y.fn) h1;obtain⟨tes,tk,tp,rfl⟩:=yq h2;refine(eN (vL (sE c y.xo y.xs h4) pg (JB h3) (JE h3) rfl) (sS r (PN:=PN) y h5)).imp λ D σ H ⟨F,ρ,e,s,w⟩=>?_;refine⟨F,ρ,e.ev,au c (λ t w F1 H1 v g rr=>?_) w⟩
   cases t with
   |tup l=>exact yG w (e.grow g) rr (λ i hi=>by rw[s];exact lt i hi) λ σ' ρ' p e' s'=>⟨F1,ρ',e',s'.trans s,p⟩
   |_=>exact w.elim
 |.fz i r,X,lp,PN,sts,y,h=>by
  refine(sS r (PN:=PN) y (show bH fs gs N nm lp r sts=QK from h)).imp λ D σ H ⟨F,ρ,e,s,w⟩=>?_;obtain⟨F',e',_⟩:=e.fz i;exact⟨F',_,e',s,w⟩
 |.ex c r,X,lp,PN,sts,y,h=>by
  .refine qj h λ e _ Vz k1=>?_;obtain⟨h1,h2,h3⟩:=_L.a3 k1;exact(eN (oH (sE c y.xo y.xs h2) (qk h1)) (sS r (PN:=PN) y h3)).imp λ D σ H ⟨F,ρ,e,s,w⟩=>⟨F,ρ,e.ev,au c (λ t w F1 H1 v g rr=>⟨F1,ρ,e.grow g,s,w⟩) w⟩
 |.met m i l r,X,lp,PN,sts,y,h=>by
  .refine qj h λ e _ Vz k1=>?_;obtain⟨h1,h2⟩:=an k1;obtain⟨pe,pl⟩:=Jw (F0:=F0) (H0:=H0) (PN:=PN) (J:=J) (FT:=FT) (GT:=GT) y.xo y.xs h1;refine(eN (oH pe (qk pl)) (sS r (PN:=PN) y h2)).imp λ D σ H ⟨F,ρ,e,s,w⟩=>?_;obtain⟨F',e',_⟩:=ER.fzV l e;exact⟨F',_,e',nG (λ xs w=>cj l (λ ts w=>yv (λ y ys w F1 H1 v e1 _=>⟨F1,_,e1,s,w⟩) w) w) w⟩
 |.put i c d r,X,lp,PN,sts,y,h=>by
  .refine qi h λ ts e _ Vz k1=>?_;refine fP k1 λ t k2=>?_;refine nz k2 λ o yy _ k3=>?_;refine bC k3 λ x _ k4=>?_;obtain⟨h1,h2,h3,h4,h5,h6,h7⟩:=a7 k4;replace h1:=aD h1;obtain⟨d1,d2,_⟩:=eU h3;refine(eN (vL (sE d y.xo y.xs h6) (Dv (iR (by rw[y.xs.N];exact h1) (jn y.xs h2) d1 d2) (sE c y.xo y.xs h5) EI (JF h4)) JC JD rfl) (sS r (PN:=PN) y h7)).imp λ D σ H ⟨F,ρ,e,s,w⟩=>?_;obtain⟨F',e',_⟩:=e.fzC d;obtain⟨xs,hx,w⟩:=nH w;refine⟨F',_,e'.ev,au d (λ t ⟨nb,w⟩ F1 H1 v g rr=>?_) w⟩;obtain⟨F2,g2,_,_,rp⟩:=rr.frz g nb;have e2:=e'.grow g2;obtain⟨a,vs,ea,q,_⟩:=e2.at_ hx;show cZ i σ H1 _;unfold cZ;rw[ea];refine⟨F2,_,e2.ev,au c (λ u w F3 H3 v3 g3 r3=>?_) w⟩;obtain⟨k,rfl,n,en,w⟩:=gX w;cases r3;have e3:=e2.grow g3;obtain⟨a',vs',ea',q',rl⟩:=e3.at_ hx;rw[ea] at ea';cases ea';obtain⟨em,_⟩:=e3.mut y.xo.hJ hx ea (rl.set (rp.ke g3.ke) n);exact⟨a,vs',k,n,O,O,q',by rw[<- rl.length];exact en,F3,_,em,s,w⟩
 |.ite c a b r,X,lp,PN,sts,y,h=>by
  .refine Jo h λ t x yy _ Vz k1=>?_;obtain⟨h1,h2,h3,h4,h5⟩:=a5 k1;refine(eN (vH (sT c y.xo y.xs h1 h2) (sS a (PN:=PN) y h3) (sS b (PN:=PN) y h4)) (sS r (PN:=PN) y h5)).imp λ D σ H ⟨F,ρ,e,s,w⟩=>?_;refine⟨F,ρ,e.ev,au c (λ t w=>dn (λ k w F1 H1 g=>?_) w) w⟩;split at w
   .rw[m7 (by assumption)];exact⟨F1,ρ,e.grow g,s,bK a (λ ρ' w F' H' σ' e s=>⟨F',ρ',e,s,w⟩) (λ _ h=>h) w⟩
   .rw[k9 (by assumption)];exact⟨F1,ρ,e.grow g,s,bK b (λ ρ' w F' H' σ' e s=>⟨F',ρ',e,s,w⟩) (λ _ h=>h) w⟩
 |.for tg k it b r,X,lp,PN,sts,y,h=>by
  .refine Jp h λ t iter body els _ Vz k1=>?_;obtain⟨z0,h0,h1,h2,h3,h4⟩:=a6 k1;refine dC z0 ?_;obtain⟨pg,lt⟩:=tM (X:=X) (by rw[y.xs.N];exact y.nd) y.xo.calm y.xs (λ _=>y.fn) h1;have hb:PSs X _ (λ D σ H=>∃PN,rS X.K J FT GT N.length F0 H0 PN b D σ H):=λ Vu s σ H D I ⟨PN,q⟩=>sS b (PN:=PN) y h3 Vu s σ H D I q;refine(eN (DE (y.ps h0) y.xo.calm (sI it k y.xo y.xs h2) pg hb (λ x=>xV (jW h2))) (sS r (PN:=PN) y h4)).imp λ D σ H ⟨F,ρ,e,s,w⟩=>?_;obtain⟨F',e',_⟩:=ER.fzV it e;refine⟨F',_,e'.ev,cj it (λ ts ⟨nb,w⟩=>jd (λ its w F1 H1 xs Jt g rx ok=>?_) w) w⟩;obtain⟨F2,g2,_,r2⟩:=iC g rx nb;refine Jy (n:=N.length) (tb:=λ D σ H=>∃PN,rS X.K J FT GT N.length F0 H0 PN b D σ H) _ _ (e'.grow g2) s r2 ok w (λ ρ' w F3 H3 σ3 e3 s3=>⟨F3,ρ',e3,s3,w⟩) λ t ρ' F3 H3 σ3 x Q D' bt e3 s3 rt ert fin=>?_;exact yG bt e3 rt (λ i hi=>by rw[s3];exact lt i hi) λ σ4 ρ4 p e4 s4=>⟨_,F3,ρ4,e4,s4.trans s3,bK b (λ ρ5 q=>fin ρ5 q) (λ u hu=>by rw[ert];exact hu) p⟩
 |.nl i own k it r,X,lp,PN,sts,y,h=>by
  .refine qi h λ ts e _ Vz k1=>?_;refine fP k1 λ t k2=>?_;refine bC k2 λ x _ k3=>?_;obtain⟨h1,h2,h3⟩:=_L.a3 k3;obtain⟨a1,a2,a3,a4⟩:=yw y.xs y.fn h1;refine(eN (JG y.xo y.xs (by rw[y.xs.N];exact y.nd) a1 a2 a3 h2) (sS r (PN:=PN) y h3)).imp λ D σ H ⟨F,ρ,e,s,no,w⟩=>?_;show kQ (rW X.K J FT GT k it) own.length [] (WJ X.K [0]) (mI mH) σ H (λ x H1=>rS X.K J FT GT N.length F0 H0 PN r D (σ.set i (QJ x)) H1);refine Jz (own:=own) (R:=λ as=>wS FT GT r (ρ.set i (QJ (.obj (.lls as (QT as.length []))))) (YN X.K J F0 H0 PN N.length D.nx) (b8 X.K J F0 H0 D.rt)) y.xo.hJ e.ev w λ as F' H' a0 wr nd g n0 nf0 q0 ha na=>?_;exact⟨_,_,e.setL no g n0 nf0 q0 nd ha na ca,by rw[cF];exact s,wr⟩
 |.pu i j c r,X,lp,PN,sts,y,h=>by
  .refine qj h λ qe _ Vz k1=>?_;refine dR k1 λ g as w cp k2=>?_;refine tF k2 λ o name ap k3=>?_;refine nz k3 λ u v p3 k4=>?_;refine bC k4 λ x p k5=>?_;refine bC k5 λ z p2 k6=>?_;refine fP k6 λ a k7=>?_;obtain⟨k8,g5,g6,g7,g8,g9⟩:=a6 k7;obtain⟨g0,g1,g2,g3⟩:=a4 k8;refine dC g0 ?_;obtain⟨b1,b2,rfl,b4⟩:=aD g1;have pe:=JI (F0:=F0) (H0:=H0) (PN:=PN) (p:=p) (p2:=p2) (p3:=p3) y.xo y.xs b1 g2 g3 b2 g5 g6 b4 g7 (sE c y.xo y.xs g8);refine(eN (oH pe rfl) (sS r (PN:=PN) y g9)).imp λ D σ H ⟨F,ρ,e,s,w⟩=>?_;obtain⟨as,ll,e1,w⟩:=tU w;obtain⟨k,e2,n,l,rfl,e3,ln,w⟩:=yr w;exact⟨F,ρ,as,ll,n,l,e,e1,e2,e3,ln,au c (λ t ⟨ks,et,w⟩=>⟨ks,et,λ F' H' e'=>⟨F',_,e',s,w⟩⟩) w⟩
 |.fu i r,X,lp,PN,sts,y,h=>by
  .refine(sS r (PN:=PN) y h).imp λ D σ H ⟨F,ρ,e,s,w⟩=>?_;obtain⟨as,ll,e1,w⟩:=tU w;obtain⟨F',e'⟩:=e.fu e1;exact⟨F',_,e',s,w⟩
 |.xl i f l r,X,lp,PN,sts,y,h=>by
  .refine qj h λ qe _ Vz k1=>?_;refine dR k1 λ g as w cp k2=>?_;refine tF k2 λ o name ap k3=>?_;refine bC k3 λ x p k4=>?_;refine fP k4 λ u k5=>?_;refine dR k5 λ g2 es w2 p3 k6=>?_;refine bC k6 λ z p2 k7=>?_;obtain⟨k8,g4,g5,g6,g7,g8⟩:=a6 k7;obtain⟨z0,z1,z2,g2,g3⟩:=a5 k8;refine dC z0 ?_;refine dC z1 ?_;obtain⟨b1,rfl,b3,b4⟩:=aD z2
   cases es with
   |nil=>exact QN g6
   |cons a es=>
   refine(eN (oH (Jx (F0:=F0) (H0:=H0) (PN:=PN) (p:=p) (p2:=p2) (p3:=p3) y.xo y.xs b1 g2 g3 b3 b4 g4 g5 g7) (qk rfl)) (sS r (PN:=PN) y g8)).imp λ D σ H ⟨F,ρ,e,s,w⟩=>?_;exact⟨F,ρ,e,nG (λ xs w=>cj l (λ ts ⟨P,sp,w⟩=>⟨P,sp,λ t pt=>let ⟨m,e,lf,lz,w⟩:=w t pt;⟨m,e,lf,lz,λ F' H' e'=>⟨F',_,e',s,w⟩⟩⟩) w) w⟩
 |.tri b r,X,lp,PN,sts,y,h=>by
  .obtain⟨body,hs,els,fi,_,Vz,rfl,k1⟩:=Jq h;obtain⟨z0,z1,z2,h1,h2⟩:=a5 k1;refine dC z1 ?_;refine dC z2 ?_
   cases hs with
   |nil=>exact QN z0
   |cons h0 hs=>
   have hb:∀(xe:VS) (pn:LO),PSs (X.more xe pn) _ (rS X.K J FT GT N.length F0 H0 PN b):=λ xe pn=>sS b (X:=X.more xe pn) (PN:=PN) (lp:=QL) ⟨⟨y.xo.calm,y.xo.units,y.xo.hJ,y.xo.fns,y.xo.glb,y.xo.dic,y.xo.blt,y.xo.len,y.xo.hof⟩,⟨y.xs.N,y.xs.nm⟩,y.nd,y.fn,λ z=>by cases z⟩ h1;exact(eN (HA hb) (sS r (PN:=PN) y h2)).imp λ D σ H ⟨F,ρ,e,s,w⟩=>⟨F,ρ,e,s,bK b (λ ρ' w F' H' σ' e s=>⟨F',ρ',e,s,w⟩) (λ _ h=>h) (w)⟩
end
noncomputable def Wf(n:Nat)(ts:List TV):En:=ts.map QJ++QT (n-ts.length) QM
section
variable {P:QX}{w:QY}{K:FG}{mg:SV}{base:Re}{J:Hp->Prop}{FT:List Vv}{GT:List TV}{fs gs:List Str}
structure MOk (P:QX)(w:QY)(K:FG)(mg:SV)(J:Hp->Prop)(GT:List TV)(gs:List Str):Prop where
 hJ:JS J
 glb:∀(g:Nat) x t,gs[g]?=QJ x->GT[g]?=QJ t->t.nb=QK->∃v u,mg x=QJ u/\RelV v u/\∀F H,Rp K F H t v
 dic:∀(g:Nat) x l,gs[g]?=QJ x->GT[g]?=QJ (.bor l)->ZT P w K mg x l
 blt:∀x∈BN,mg x=QM
def Zl{vs:List V}(wd:Wd J F H)(r:RpL K F H ts vs):ER K J F H [] F H (VF N vs) (Wf N.length ts):=by
 have get:∀(i:Nat) t,(Wf N.length ts)[i]?=QJ (QJ t)->ts[i]?=QJ t:=λ i t h=>by
  unfold Wf at h;by_cases c:i<ts.length
  .rw[cx (by simpa using c),aW] at h
   cases q:ts[i]? with
   |none=>rw[q] at h;cases h
   |some u=>rw[q] at h;cases h;rfl
  .rw[cu (by simpa using c),dH] at h;split at h<;>cases h
 have sl:∀(i:Nat) t,(Wf N.length ts)[i]?=QJ (QJ t)->∃v,(VF N vs)[i]?=QJ (QJ v)/\Rp K F H t v:=λ i t h=>by
  obtain⟨v,ev,rv⟩:=r.get (get i t h);refine⟨v,?_,rv⟩;unfold VF;rw[cx (by simpa using (aN.mp ev).1),aW,ev];rfl
 refine⟨⟨wd,λ i t h=>let ⟨v,e,q⟩:=sl i t h;⟨v,e,xS q⟩⟩,.refl wd,λ i l a h1 h2=>?_,λ i k l l' v h1 h2 h3 h4=>?_,(λ p hp=>by cases hp),λ i as ll h=>by obtain⟨v,_,q⟩:=sl i _ h;exact q.elim⟩
 .obtain⟨v,_,q⟩:=sl i _ h1;exact q.elim
 .obtain⟨v,_,q⟩:=sl i _ h1;exact q.elim
theorem tW{st:Ra}(code:Ct)(F:Fun K x qual st f fd)(sc:VO N ps (aI st))(m:MOk P w K mg J GT gs)(hl:fs.length=FT.length)
  (fns:∀(f:Nat) x S,fs[f]?=QJ x->FT[f]?=QJ S->∃ps,Callee P w K mg base VI k x ps (Wz K J S))
  (hck:bH fs gs N (aI st).names QK code (aR st)=QK) (VC:∀ts Q,S ts Q->ts.length=ps.length)
  (hw:∀ts Q,S ts Q->wS FT GT code (Wf N.length ts) (λ _=>Q .non) Q):FnOk P w K mg base VI (k+1) f fd ps (Wz K J S):=by
 refine F.ok sc (λ vs H Q E ⟨F1,ts,P1,wd,r,s,_⟩=>by rw[<- r.length];exact VC _ _ s) (λ cdv A outer s H vs Q E hr h=>?_);obtain⟨F1,ts,P1,wd,r,sp,fin⟩:=h
 have nl:vs.length<=N.length:=by
  have z:=bO RO sc.pre;rw[bh] at z;have:=VC _ _ sp;rw[<- r.length];lia
 have xo:VM (eO VI P w K mg base N qual (aI st) f cdv A outer s H E).nox J FT GT fs gs:=⟨rfl,by have:=hr.un;show(A.deeper _).units+120<RR;lia,m.hJ,λ g y S h1 h2=>let ⟨ps,c⟩:=fns g y S h1 h2;⟨k,ps,hr,c⟩,m.glb,m.dic,m.blt,s1t hl,xP hl⟩;refine⟨_,sS (F0:=F1) (H0:=H) (PN:=[]) code (lp:=QK) ⟨xo,⟨O,O⟩,sc.nd,λ _ _=>rfl,λ _=>s0d⟩ hck,F1,Wf N.length ts,Zl wd r,?_,?_⟩
 .unfold VF;rw[aK,ag,dO];show vs.length+(N.length-vs.length)=N.length;lia
 .exact bK code (λ ρ' q F' H' σ' e _=>fin .non q F' H' .non e.gr rfl) (λ t q F' H' v g r=>fin t q F' H' v g r) (hw ts P1 sp)
end
structure Gl' (K:FG)(x:Str)(st:Ra)(f:QO)(fd:Rn):Prop where
 F:Fun K x x st f fd
 a:W.nsIn K Rc x=QJ (QJ (.ref f))
def Gx(K:FG)(x:Str)(st:Ra):Prop:=∃f fd,Gl' K x st f fd
section
variable {K:FG}{x:Str}{st:Ra}{f:QO}{oc:Value}{od an:OA}{osl:AV}{kV doc pm cdv ct:Value}
def gl_ex(a:W.nsIn K Rc x=QJ (QJ (.ref f)))(l:K.lookup f=QJ ⟨oc,od,.func (W.fnOf x x (ip st) (aR st) (aI st) .none kV doc pm an cdv ct),osl⟩)(c:W.codeIn K cdv x=QK)(k:W.keepIn K (.ref f)=QK):Gx K x st:=⟨_,_,wF l c k,a⟩
def gx_int(h:W.nsIn K Rc x=QJ (QJ (.int i t))):∃t,W.nsIn K Rc x=QJ (QJ (.int i t)):=⟨_,h⟩
end
abbrev DR:=Str×List Str×Vv
noncomputable def Wv(L:List DR)(j:Nat):List Str:=(L.take j).map (·.1)
def Wr(L:List DR)(j:Nat):List Vv:=(L.take j).map (·.2.2)
section
variable {P:QX}{w:QY}{K:FG}{mg:SV}{base:Re}{J:Hp->Prop}{GT:List TV}{gs:List Str}{L:List DR}
def d5(P:QX)(w:QY)(K:FG)(mg:SV)(base:Re)(J:Hp->Prop)(L:List DR)(j:Nat):Prop:=∀x ps S,L[j]?=QJ (x,ps,S)->Callee P w K mg base VI (j+1) x ps (Wz K J S)
def Cals(P:QX)(w:QY)(K:FG)(mg:SV)(base:Re)(J:Hp->Prop)(L:List DR)(j:Nat):Prop:=∀i,i<j->d5 P w K mg base J L i
def Cals.z:Cals P w K mg base J L 0:=λ i h=>m8 h (Nat.not_lt_zero _)
def Cals.s(C:Cals P w K mg base J L j)(c:d5 P w K mg base J L j):Cals P w K mg base J L (j+1):=λ i h=>by
 by_cases e:i=j
 .subst e;exact c
 .exact C i ca
def Cals.fns(C:Cals P w K mg base J L j):∀(f:Nat) x S,(Wv L j)[f]?=QJ x->(Wr L j)[f]?=QJ S->∃ps,Callee P w K mg base VI j x ps (Wz K J S):=λ f x S h1 h2=>by
 unfold Wv at h1;unfold Wr at h2;rw[aW] at h1 h2
 cases q:(L.take j)[f]? with
 |none=>rw[q] at h1;cases h1
 |some d=>
  rw[q] at h1 h2;cases h1;cases h2;have lt:f<j:=by have:=(aN.mp q).1;rw[bh] at this;lia
  rw[s1o,m7 lt] at q;exact⟨_,(C f lt d.1 d.2.1 d.2.2 q).mono ca⟩
def gx(j:Nat):(Wv L j).length=(Wr L j).length:=by unfold Wv Wr;rw[ag,ag]
theorem JJ{x:Str}{ps N:List Str}{st:Ra}{S:Vv}(code:Ct)(C:Cals P w K mg base J L j)(m:MOk P w K mg J GT gs)(hm:∀ {x:Str}{v:Option Value},W.nsIn K Rc x=QJ v->mg x=v)(e:L[j]?=QJ (x,ps,S))(g:Gx K x st)(sc:VO N ps (aI st))
  (b:∀f fd,Fun K x x st f fd->Binds K fd ps []) (hck:bH (Wv L j) gs N (aI st).names QK code (aR st)=QK) (VC:∀ts Q,S ts Q->ts.length=ps.length)
  (hw:∀ts Q,S ts Q->wS (Wr L j) GT code (Wf N.length ts) (λ _=>Q .non) Q):Cals P w K mg base J L (j+1):=by
 refine C.s λ x' ps' S' e'=>?_;rw[e] at e';cases e';obtain⟨f,fd,gf⟩:=g;exact Callee.mk' gf.F (hm gf.a) (b f fd gf.F) (tW code gf.F sc m (gx j) C.fns hck VC hw)
def tX:Vv:=λ ts Q=>∃ns:LI,ts=[.lst (ns.map .int)]/\ns.length<=63/\Q (.bl QK)
def tY(K:FG)(J:Hp->Prop):Sp:=λ vs H Q _=>∃(a:QO) (ns:LI),vs=[.ref a]/\SqL K H a (ns.map V.int)/\ns.length<=63/\J H/\∀H',Q (.bl QK) H'
def JK(F:FnOk P w K mg base VI k f fd ps (Wz K J tX)):FnOk P w K mg base VI k f fd ps (tY K J):=F.imp λ vs H Q E ⟨a,ns,e,sq,l,j,q⟩=>by
 subst e
 rcases sq with rd|kk
 .have ha:H a≠QM:=by rcases rd with h|⟨o,h⟩<;>rw[h]<;>simp
  exact⟨λ b=>b=a,[.lst (ns.map .int)],_,⟨j,λ b e=>by rw[show b=a from e];exact ha⟩,⟨_,_,O,⟨a,_,O,.inl ⟨O,.inl rd⟩,RpL.ofInts ns⟩,O⟩,⟨ns,O,l,O⟩,λ t e F' H' v _ r=>by subst e;cases r;exact q H'⟩
 .exact⟨λ _=>False,[.lst (ns.map .int)],_,⟨j,λ b e=>e.elim⟩,⟨_,_,O,⟨a,_,O,.inr kk,RpL.ofInts ns⟩,O⟩,⟨ns,O,l,O⟩,λ t e F' H' v _ r=>by subst e;cases r;exact q H'⟩
variable {FT:List Vv}
def bI{its:List TV}{Kn:En->Prop}(I:Nat->En->Prop)(h0:I 0 ρ)(st:∀i t ρ,its[i]?=QJ t->I i ρ->Wq ρ tg t λ ρ'=>wS FT GT c ρ' (I (i+1)) rt)(fin:∀ρ,I its.length ρ->Kn ρ):Xj (λ t ρ K=>Wq ρ tg t λ ρ'=>wS FT GT c ρ' K rt) its ρ Kn:=by
 have go:∀(r:List TV) (i:Nat) (ρ:En),its.drop i=r->i<=its.length->I i ρ->Xj (λ t ρ K=>Wq ρ tg t λ ρ'=>wS FT GT c ρ' K rt) r ρ Kn:=by
  intro r
  induction r with
  |nil=>
   intro i ρ e li h;have:i=its.length:=by have:=bO RO e;rw[da] at this;simp at this;lia
   subst this;exact fin ρ h
  |cons t r ih=>
   intro i ρ e li h;have lt:i<its.length:=by have:=bO RO e;rw[da] at this;simp at this;lia
   rw[tQ lt] at e
   injection e with e1 e2
   have et:its[i]?=QJ t:=by rw[aL lt,e1]
   exact iA (λ ρ' q=>bK c (λ ρ'' q=>ih (i+1) ρ'' e2 ca q) (λ _ q=>q) q) (st i t ρ et h)
 exact go its 0 ρ rfl (bY _) h0
end
end _L
namespace _L
set_option backward.match.sparseCases false
open TV renaming int->m9,tup->n6,str->n9
open PySem PySem.Spec PyProof.Rows PySem.W PySem.Calls
theorem JL{K:FG}{qual:Str}{cl:LA}{vs vcs:List V}{H:Hp}{Q:VK}
  (S:VW N ps fv scope) (hcl:cl.map (·.1)=fv)
  (hb:∀(pm ctv:Value) (us:LV),us.length=ps.length->RU (kla_fn "<lambda>" qual params body scope cl pm (.ref c') ctv) ⟨us,[]⟩=Rj (ps.zip us)) (hl:vs.length=ps.length)
  (L1:H fa=QJ (fN fa c' qual params body scope cl)) (_L:H c'=QJ (gR c' qual)) (hc:CelAt H cl vcs)
  (hbody:∀(A:QZ) (outer:List Env) (s:QP),Room k (A.deeper (envX qual scope s.heap.objs.size fa (.ref c') (Ri (s.heap.objs.size+1) scope.names []++cl)))->PE (nj P w K mg base N qual scope fa (.ref c') cl A outer s (minC H cl)) body te)
  (hq:te (VF N (vs++vcs)) (minC H cl) (λ v H'=>(∀q∈cl,H' q.2=QM)->Q v (Ws H H' cl))):pL P w K mg base (k+1) fa vs H Q:=by
 intro A outer s us hr e0 r;obtain⟨⟨pm,ctv,ho⟩,_⟩:=e0.hok fa _ L1;obtain⟨hcd,_⟩:=e0.hok c' _ _L;have lim:s.heap.NoLimit:=e0.mod.nolimit.keeps λ b o e=>(e0.bs b o e).1
 have VT:∀y∈ps.zip us,scope.names.lookup y.1=QJ .local\/(scope.names.lookup y.1=QJ .cell/\((Ri (s.heap.objs.size+1) scope.names []).lookup y.1).isSome=QK):=λ⟨n,v⟩ hy=>by
  rcases S.par n (oT hy).1 with q|q
  .exact .inl q
  .exact .inr ⟨q,oU _ _ _ (.inl q)⟩
 refine kla_callFunE hr.depth ho rfl S.co S.gen rfl hcd ?_;rw[hb pm ctv us (by rw[<- r.length];exact hl)];refine ay (Hd S.kind VT λ env he s1 x=>?_);subst he;refine⟨lim.keeps x.toInCall.keep,kla_codeExpr ?_⟩;have I:Inv (nj P w K mg base N qual scope fa (.ref c') cl A outer s (minC H cl)) [] (VF N (vs++vcs)) (minC H cl) s1:=Hg S hr.hd e0 hl r hcl hc x;refine cU (hbody A outer s (hr.deeper _) [] s1 _ _ _ I hq) (λ u s' hs=>?_) (λ e s' hs=>RA hs);obtain⟨v,H',J,rv,q⟩:=hs;have un:Un (WD outer) [] (minC H cl) H' s.heap s'.heap:=J.base
 have nfr:∀q∈cl,q.2 ∉ WD outer:=λ q hq z=>by
  obtain⟨o,v,e⟩:=hc.mem hq;rw[e0.frf _ z] at e;cases e
 have kc:∀q∈cl,∀o,s.heap.get? q.2=QJ o->s'.heap.get? q.2=QJ o/\H' q.2=QM:=λ q hq o e=>⟨un.keep _ o e (pK hq) (nfr q hq) pv,un.free _ o e (pK hq) pv⟩
 have there:∀q∈cl,∃o,s.heap.get? q.2=QJ o:=λ q hq=>by
  obtain⟨o,v,e⟩:=hc.mem hq;exact⟨o,(e0.hok _ _ e).1⟩
 have split:∀b,(∃q∈cl,q.2=b)\/∀q∈cl,q.2≠b:=λ b=>by
  by_cases c:∃q∈cl,q.2=b
  .exact .inl c
  .exact .inr λ q hq e=>c ⟨q,hq,e⟩
 refine⟨v,Ws H H' cl,J.os,J.bare,⟨λ b o e n hb hx=>un.keep b o e (kX n) hb hx,λ b o e n hb hx=>un.slot b o e (kX n) hb hx,λ b o e n hx=>?_,un.there,λ b xs e=>?_,λ b o u e=>?_,λ b ps e=>?_⟩,λ b o e=>?_,rv,q λ p hp=>let ⟨o,eo⟩:=there p hp;(kc p hp o eo).2⟩
 .rcases split b with ⟨q,hq,rfl⟩|hn
  .rw[kY hq];exact n
  .rw[gS hn];exact un.free b o e (kX n) hx
 .rcases split b with ⟨q,hq,rfl⟩|hn
  .rw[kY hq];exact e
  .rw[gS hn];exact un.tups b xs (by rw[dI hn];exact e)
 .rcases split b with ⟨q,hq,rfl⟩|hn
  .rw[kY hq];exact e
  .rw[gS hn];exact un.frzs b o u (by rw[dI hn];exact e)
 .rcases split b with ⟨q,hq,rfl⟩|hn
  .obtain⟨o,v,e2⟩:=hc.mem hq;rw[e] at e2;cases e2
  .rw[gS hn];exact un.tbls b ps (by rw[dI hn];exact e)
 .rcases split b with ⟨q,hq,rfl⟩|hn
  .rw[kY hq] at e;obtain⟨o2,v2,e2⟩:=hc.mem hq;rw[e] at e2;cases e2;obtain⟨g1,⟨u2,ru,ic⟩,_,st⟩:=e0.hok _ _ e;have k1:=(kc q hq _ g1).1;refine⟨k1,⟨u2,ru,?_⟩,⟨_,k1⟩,st⟩;obtain⟨o3,e3,d3⟩:=ic;rw[g1] at e3;cases e3;exact⟨_,k1,d3⟩
  .rw[gS hn] at e
   have nf:∀c u,H' c=QJ u->Ws H H' cl c=QJ u:=λ c u e2=>by
    rcases split c with ⟨q,hq,rfl⟩|hn
    .obtain⟨o,eo⟩:=there q hq;rw[(kc q hq o eo).2] at e2;cases e2
    .rw[gS hn];exact e2
   exact(J.hok b o e).stay (λ _ _ _ q=>q) (λ c q=>nf c _ q) λ c xs q=>nf c _ q
def TbJ(L:List (QO×Pos×Str))(H:Hp):Prop:=∀x∈L,TabOk H x.1 x.2.1 x.2.2
def TabOk.sm{H H':Hp}(h:TabOk H T pos qual)(s:∀a o,(∀vs,o≠.lst vs)->(∀b u,o≠.frz b u)->H a=QJ o->H' a=QJ o):TabOk H' T pos qual:=by
 obtain⟨ps,e,t,q⟩:=h;refine⟨ps,s _ _ (λ _ z=>nomatch z) (λ _ _ z=>nomatch z) e,t,q.imp id λ⟨c,e1,e2⟩=>⟨c,e1,s _ _ (λ _ z=>nomatch z) (λ _ _ z=>nomatch z) e2⟩⟩
section
variable {K:FG}{L:List (QO×Pos×Str)}{F F1 F2 F':Fz}{H H1 H2 H':Hp}{cl:LA}{vcs:List V}
def TbJ.sm(h:TbJ L H)(s:∀a o,(∀vs,o≠.lst vs)->(∀b u,o≠.frz b u)->H a=QJ o->H' a=QJ o):TbJ L H':=λ x hx=>(h x hx).sm s
def TbJ.js:JS (TbJ L):=⟨λ H p o n h=>h.sm λ a u _ _ e=>by rw[aG (λ z=>by rw[z,n] at e;cases e)];exact e,
 λ H p vs ws n h=>h.sm λ a u k _ e=>by rw[aG (λ z=>by rw[z,n] at e;cases e;exact k _ rfl)];exact e⟩
def yH(cl:LA)(b:QO):(∃q∈cl,q.2=b)\/∀q∈cl,q.2≠b:=by
 by_cases c:∃q∈cl,q.2=b
 .exact .inl c
 .exact .inr λ q hq e=>c ⟨q,hq,e⟩
def nI(hc:CelAt H cl vcs)(h:H a=QJ o)(n:∀b c v,o≠.frz b (kW c v)):minC H cl a=QJ o:=by
 rw[dI λ q hq z=>by obtain⟨b,v,e⟩:=hc.mem hq;rw[z,h] at e;exact n _ _ _ (bN e)];exact h
def Rd.min{u:HO}(hc:CelAt H cl vcs)(n:∀φ,u≠.ext φ)(k:∀b v,u≠.frz b v)(h:Rd H a u):Rd (minC H cl) a u:=by
 rcases h with h|⟨o,h⟩
 .exact .inl (nI hc h λ _ _ _=>k _ _)
 .exact .inr ⟨o,nI hc h λ b c v z=>by injection z with _ z;exact n _ z⟩
def yI(hc:CelAt H cl vcs):Ke K F H F (minC H cl):=⟨λ a vs h=>h.imp (λ h=>h.min hc (λ _ z=>nomatch z) (λ _ _ z=>nomatch z)) id,λ a vs h=>h.imp λ f h=>⟨f,h.imp (λ h=>h.min hc (λ _ z=>nomatch z) (λ _ _ z=>nomatch z)) id⟩⟩
def JM(hc:CelAt H cl vcs)(nf:∀q∈cl,¬F q.2)(w:Wd (TbJ L) F H):Wd (TbJ L) F (minC H cl):=⟨w.j.sm λ a o _ k e=>nI hc e λ _ _ _=>k _ _,λ a f=>by
 rw[dI λ q hq z=>nf q hq (z ▸ f)];exact w.d a f⟩
def tZ(hz:∀q∈cl,H' q.2=QM)(h:H' a≠QM):Ws H1 H' cl a=H' a:=gS λ q hq z=>h (z ▸ hz q hq)
def Rd.res(hz:∀q∈cl,H' q.2=QM)(h:Rd H' a u):Rd (Ws H1 H' cl) a u:=by
 rcases h with h|⟨o,h⟩
 .exact .inl (by rw[tZ hz (by rw[h];simp)];exact h)
 .exact .inr ⟨o,by rw[tZ hz (by rw[h];simp)];exact h⟩
def JN(hz:∀q∈cl,H' q.2=QM):Ke K F H' F (Ws H1 H' cl):=⟨λ a vs h=>h.imp (λ h=>h.res hz) id,λ a vs h=>h.imp λ f h=>⟨f,h.imp (λ h=>h.res hz) id⟩⟩
structure Hand (cl:LA)(vcs:List V)(H1 H2:Hp):Prop where
 fr:∀q∈cl,H1 q.2=QM
 at_:CelAt H2 cl vcs
 eq:∀b,(∀q∈cl,q.2≠b)->H2 b=H1 b
def Hand.to(h:Hand cl vcs H1 H2)(e:H1 a=QJ o):H2 a=QJ o:=by
 rw[h.eq a λ q hq z=>by have:=h.fr q hq;rw[z,e] at this;cases this];exact e
def Hand.wd(h:Hand cl vcs H1 H2)(w:Wd (TbJ L) F H1):Wd (TbJ L) F H2:=⟨w.j.sm λ a o _ _ e=>h.to e,λ a f=>by
 cases e:H1 a with
 |none=>exact m8 e (w.d a f)
 |some o=>rw[h.to e];simp⟩
def Hand.ke(h:Hand cl vcs H1 H2):Ke K F H1 F H2:=⟨λ a vs q=>q.sm λ a o _ e=>h.to e,λ a vs q=>q.imp λ f q=>⟨f,q.sm λ a o _ e=>h.to e⟩⟩
def Hand.nf(h:Hand cl vcs H1 H2)(w:Wd (TbJ L) F H1)(g:Grow (TbJ L) F H2 F' H'):∀q∈cl,¬F' q.2:=λ q hq f=>by
 rcases g.nw _ f with z|z
 .exact w.d _ z (h.fr q hq)
 .obtain⟨o,v,e⟩:=h.at_.mem hq;rw[z] at e;cases e
def Hand.cel(h:Hand cl vcs H1 H2)(g:Grow (TbJ L) F H2 F' H'):CelAt H' cl vcs:=⟨h.at_.len,λ i q e=>let ⟨v,o,e1,e2⟩:=h.at_.at_ i q e;⟨v,o,e1,g.sm _ _ (λ ps z=>nomatch z) e2⟩,h.at_.apart⟩
def Hand.back(h:Hand cl vcs H1 H2)(w:Wd (TbJ L) F H1)(g:Grow (TbJ L) F H2 F' H'):Grow (TbJ L) F H1 F' (minC H' cl):=by
 have nf:=h.nf w g;have ne:∀a,H1 a≠QM->∀q∈cl,q.2≠a:=λ a e q hq z=>e (z ▸ h.fr q hq);refine⟨λ a o n e=>?_,λ a e=>?_,g.up,λ a f=>?_,JM (h.cel g) nf g.w⟩
 .rw[dI (ne a (by rw[e];simp))];exact g.sm a o n (h.to e)
 .rw[dI (ne a e)];exact g.dm a (by rw[h.eq a (ne a e)];exact e)
 .rcases g.nw a f with z|z
  .exact .inl z
  .refine .inr ?_
   rwa [h.eq a λ q hq e=>nf q hq (e ▸ f)] at z
end
theorem yJ(env:Env)(post:List Ra):∀pre:List Ra,TH (pre++post) env=(TH pre env >>= λ f=>match f with|.next=>TH post env|f=>Rj f)
 |[]=>by
  rw[si];unfold TH;simp
 |st::pre=>by
  rw[nc];rw[TH,TH,yJ env post pre];simp[bind_assoc]
  congr 1;funext f;cases f<;>simp
def yK(h1:PSs X pre t)(h2:PSs X post u):PSs X (pre++post) (vF t u):=by
 intro Vu s σ H D I h;rw[yJ];refine ae (VD (h1 Vu s σ H { D with nx:=u D } I h) λ f s1 q=>?_)
 cases f with
 |next=>obtain⟨σ',H',I',q⟩:=q;exact h2 Vu s1 σ' H' D I' q
 |ret v|brk|cont=>exact ay q
noncomputable def WA(l:List (Str×Rb)):List Str:=((l.filter (·.2 == Rv)).map (·.1)).reverse
theorem uc{env:Env}:∀(l:List (Str×Rb)) (cs:LA),(∀x,(x,Rv)∈l->∃c,env.cells.lookup x=QJ c) ->
  ∃cl,(forIn l cs (λ(x:Str × Rb) (r:LA)=>(match x with
   |(name,kind)=>if (kind == Rv)=QK then (do let y <- TD env name;Rj (Sz ((name,y)::r))) else Rj (Sz r):Sem (ForInStep (LA)))):Sem (LA))=Rj (cl++cs) /\
   cl.map (·.1)=WA l/\∀q∈cl,env.cells.lookup q.1=QJ q.2
 |[],cs,_=>⟨[],rfl,rfl,λ q h=>by cases h⟩
 |(n,k)::l,cs,h=>by
  by_cases hk:k=.free
  .subst hk;obtain⟨c,hc⟩:=h n pv;obtain⟨cl,e,q1,q2⟩:=uc l ((n,c)::cs) λ x hx=>h x (by simp[hx]);refine⟨cl++[(n,c)],?_,?_,λ q hq=>?_⟩
   .rw[ng];have:TD env n=Rj c:=by unfold TD;rw[hc]
    simp only[this,kU,gN,s1x];rw[jK];exact e
   .rw[bD,q1];unfold WA;rw[qm pv];simp
   .rcases cr.mp hq with z|z
    .exact q2 q z
    .cases aJ.mp z;exact hc
  .obtain⟨cl,e,q1,q2⟩:=uc l cs λ x hx=>h x (by simp[hx]);refine⟨cl,?_,?_,q2⟩
   .rw[ng];have:(k == Rv)=QL:=by simpa using hk
    simp only[this,nh,XJ,s1x];exact e
   .rw[q1];unfold WA;rw[qo (by simpa using hk)]
def JO{scope:Scope}{env:Env}(h:∀x∈WA scope.names,∃c,env.cells.lookup x=QJ c):∃cl,RZ scope env=Rj cl/\OwnCl env.cells (WA scope.names) cl:=by
 obtain⟨cl,e,q1,q2⟩:=uc (env:=env) scope.names [] λ x hx=>h x (by unfold WA;simp only[List.mem_reverse,bn,hW];exact⟨_,⟨hx,pv⟩,rfl⟩);refine⟨cl,?_,q1,q2⟩;unfold RZ;simp only[bind_pure];rw[fF] at e;exact e
noncomputable def TV.pl:TV->Bool
 |.own _=>QL
 |.bor _=>QL
 |.obj _=>QL
 |_=>QK
section
variable {P:QX}{w:QY}{K:FG}{mg:SV}{base:Re}{L:List (QO×Pos×Str)}
def JP{H F' H'}{t:TV}(p:t.pl=QK)(h:Rr K H F' H' t v):Rp K F' H' t v:=by
 cases t<;>first|exact h|cases p
variable {FT:List Vv}{GT:List TV}{fs gs:List Str}{F F1:Fz}{Hm H2 H1:Hp}{cl:LA}{vcs:List V}{caps:List TV}{N ps fv:List Str}{fa c':QO}{name qual:Str}{params:RN}{scope:Scope}{k:Nat}{a b:TV}{p:V}{Q:VK}
end
section
variable {P:QX}{w:QY}{K:FG}{mg:SV}{base:Re}{L:List (QO×Pos×Str)}{FT FI:List Vv}{GT:List TV}{fs fi gs:List Str}
theorem yL{α β:Type}{f:α->β}:∀ {l:List α}{a b:α},(l.map f).Nodup->a∈l->b∈l->f a=f b->a=b
 |c::l,a,b,n,ha,hb,e=>by
  rw[dg,gM] at n
  rcases aH.mp ha with ea|ia<;>rcases aH.mp hb with eb|ib
  .rw[ea,eb]
  .exact m8 (bn.mpr ⟨b,ib,by rw[<- e,ea]⟩) n.1
  .exact m8 (bn.mpr ⟨a,ia,by rw[e,eb]⟩) n.1
  .exact yL n.2 ia ib e
def JQ{T:QO}{pos:Pos}{ql:Str}(nd:(L.map (·.1)).Nodup)(m:(T,pos,ql)∈L)(wd:Wd (TbJ L) F H)(t':TabOk H' T pos ql)(up:∀b o,b≠T->H b=QJ o->H' b=QJ o):Grow (TbJ L) F H F H':=by
 obtain⟨ps,e,_⟩:=wd.j _ m;obtain⟨ps',e',_⟩:=id t'
 have dm:∀a,H a≠QM->H' a≠QM:=λ a h=>by
  by_cases z:a=T
  .subst z;rw[e'];simp
  .cases q:H a with
   |none=>exact m8 q h
   |some o=>rw[up a o z q];simp
 refine⟨λ a o n h=>up a o (λ z=>by rw[z,show H T=_ from e] at h;cases h;exact n _ rfl) h,dm,λ _ f=>f,λ _ f=>.inl f,⟨λ x hx=>?_,λ a f=>dm a (wd.d a f)⟩⟩;by_cases z:x.1=T
 .have:x=(T,pos,ql):=yL nd hx m z;subst this;exact t'
 .obtain⟨qs,h1,h2,h3⟩:=wd.j x hx;exact⟨qs,up _ _ z h1,h2,h3.imp id λ⟨c,q1,q2⟩=>⟨c,q1,up _ _ (λ y=>by rw[y,show H T=_ from e] at q2;cases q2) q2⟩⟩
variable {x tb at_ ql:Str}{st:Ra}{f c T:QO}{fd:Rn}{N ps pst N':List Str}{js:List Nat}{k kk:Nat}{S:Vv}{A:TV->List TV->Prop}{pre:List Ra}{e:Expr}{params:RN}{scope:Scope}{pos p1 p2 p3 p4:Pos}
end
section
variable {P:QX}{w:QY}{K:FG}{mg:SV}{base:Re}{L:List (QO×Pos×Str)}{FT:List Vv}{GT:List TV}{fs gs:List Str}
variable {X:Cx}{N:List Str}{nm:List (Str×Rb)}{kk fA:Nat}{A:TV->List TV->Prop}{SA:Vv}
variable {sd nf at_ aa:Str}{st:Ra}{f:QO}{fd:Rn}{k:Nat}{p1 p2 p3 p4 p5 p6 p7 p8 p9 p10 p11 p12 pos:Pos}{x1:Nat}{sc:Scope}
end
noncomputable abbrev Cd.a1(a:Cd):Cd:=.cons a .nil
noncomputable abbrev Cd.a2(a b:Cd):Cd:=.cons a (.cons b .nil)
noncomputable abbrev Cd.a3(a b c:Cd):Cd:=.cons a (.cons b (.cons c .nil))
noncomputable abbrev Cd.n(i:Int):Cd:=.c (.int i)
noncomputable abbrev Cd.w(x:Str):Cd:=.c (.str x)
noncomputable abbrev Cd.eq(a b:Cd):Cd:=.cmp .Eq a b
noncomputable abbrev dr(x:Str)(ps:List Str)(S:Vv):DR:=(x,ps,S)
section
variable {P:QX}{w:QY}{K:FG}{mg:SV}{base:Re}{J:Hp->Prop}{GT:List TV}{gs:List Str}{D:List DR}{L:List (QO×Pos×Str)}
theorem Cals.fn{x:Str}{ps:List Str}{st:Ra}{S:Vv}(C:Cals P w K mg base J D j)(hm:∀ {x:Str}{v:Option Value},W.nsIn K Rc x=QJ v->mg x=v)(e:D[j]?=QJ (x,ps,S))(g:Gl' K x st f fd)
  (b:∀f fd,Fun K x x st f fd->Binds K fd ps []) (ok:FnOk P w K mg base VI (j+1) f fd ps (Wz K J S)):Cals P w K mg base J D (j+1):=by
 refine C.s λ x' ps' S' e'=>?_;rw[e] at e';cases e';exact Callee.mk' g.F (hm g.a) (b f fd g.F) ok
def Cals.to{i j:Nat}(C:Cals P w K mg base J D j)(h:i<=j):Cals P w K mg base J D i:=λ n hn=>C n (bQ hn h)
noncomputable def Ya(s:Scope)(ps N:List Str):Bool:=decide (s.kind=.function/\s.isCoroutine=QL/\s.isGenerator=QL/\N.Nodup/\N.take ps.length=ps/\(∀x∈ps,s.names.lookup x=QJ .local\/s.names.lookup x=QJ .cell)/\∀y∈s.names,y.2≠.free)
def lN(h:Ya s ps N=QK):VO N ps s:=let h:=aD h;⟨h.1,h.2.1,h.2.2.1,h.2.2.2.1,h.2.2.2.2.1,h.2.2.2.2.2.1,h.2.2.2.2.2.2⟩
structure WB (K:FG)(x:Str)(st:Ra)(f:QO)(fd:Rn)(c T:QO):Prop extends Gl' K x st f fd where
 hc:fd.code=.ref c
 tb:W.tabIn K x=QJ (c,T)
end
noncomputable abbrev V0:Cd:=.v 0
noncomputable abbrev V1:Cd:=.v 1
noncomputable abbrev V2:Cd:=.v 2
noncomputable abbrev V3:Cd:=.v 3
noncomputable abbrev V4:Cd:=.v 4
noncomputable abbrev V5:Cd:=.v 5
noncomputable abbrev V6:Cd:=.v 6
noncomputable abbrev V7:Cd:=.v 7
noncomputable abbrev V8:Cd:=.v 8
noncomputable abbrev V9:Cd:=.v 9
noncomputable abbrev WM:Cd:=.v 10
noncomputable abbrev WV:Cd:=.v 11
noncomputable abbrev N0:Cd:=.c (.int 0)
noncomputable abbrev N1:Cd:=.c (.int 1)
noncomputable abbrev N2:Cd:=.c (.int 2)
noncomputable abbrev N3:Cd:=.c (.int 3)
noncomputable abbrev N4:Cd:=.c (.int 4)
noncomputable abbrev N5:Cd:=.c (.int 5)
noncomputable abbrev N6:Cd:=.c (.int 6)
noncomputable abbrev N7:Cd:=.c (.int 7)
noncomputable abbrev N8:Cd:=.c (.int 8)
noncomputable abbrev N9:Cd:=.c (.int 9)
noncomputable abbrev Ys:Cd:=.c (.int 10)
noncomputable abbrev YO:Cd:=.c (.int 11)
noncomputable abbrev Cd.x(i:Nat)(j:Int):Cd:=.ix (.v i) (.c (.int j))
abbrev Cd.c1(f:Nat)(a:Cd):Cd:=.call f (.a1 a)
abbrev Cd.c2(f:Nat)(a b:Cd):Cd:=.call f (.a2 a b)
abbrev Cd.c3(f:Nat)(a b c:Cd):Cd:=.call f (.a3 a b c)
abbrev Cd.ln(a:Cd):Cd:=.bi .len (.a1 a)
abbrev Cd.b1(f:BI)(a:Cd):Cd:=.bi f (.a1 a)
abbrev Cd.b2(f:BI)(a b:Cd):Cd:=.bi f (.a2 a b)
noncomputable abbrev Cd.st(a b:Cd):Cd:=.sl a (.c .non) b
noncomputable abbrev Cd.sf(a b:Cd):Cd:=.sl a b (.c .non)
abbrev Cd.es(a:Cd)(x:Str):Cd:=.cmp .Eq a (.c (.str x))
noncomputable abbrev Cd.t0:Cd:=.tup .nil
noncomputable abbrev Cd.l0:Cd:=.lst .nil
abbrev Cd.t1(a:Cd):Cd:=.tup (.a1 a)
abbrev Cd.t2(a b:Cd):Cd:=.tup (.a2 a b)
abbrev Cd.t3(a b c:Cd):Cd:=.tup (.a3 a b c)
noncomputable abbrev Ct.nv(c:Cd)(r:Ct):Ct:=.ite c .never .nil r
abbrev Ct.r(c x:Cd)(r:Ct):Ct:=.ite c (.ret x) .nil r
abbrev Ct.i(c:Cd)(a r:Ct):Ct:=.ite c a .nil r
noncomputable abbrev Cd.ad(a b:Cd):Cd:=.bin .Add a b
noncomputable abbrev Cd.sb(a b:Cd):Cd:=.bin .Sub a b
noncomputable abbrev Cd.ml(a b:Cd):Cd:=.bin .Mult a b
noncomputable abbrev Cd.dv(a b:Cd):Cd:=.bin .FloorDiv a b
noncomputable abbrev Cd.md(a b:Cd):Cd:=.bin .Mod a b
noncomputable abbrev Cd.lt(a b:Cd):Cd:=.cmp .Lt a b
noncomputable abbrev Cd.gt(a b:Cd):Cd:=.cmp .Gt a b
noncomputable abbrev Cd.ne(a b:Cd):Cd:=.cmp .NotEq a b
noncomputable abbrev Cd.ge(a b:Cd):Cd:=.cmp .GtE a b
def jY:Nat->(LV->Prop)->Prop
 |0,Q=>Q []
 |n+1,Q=>∀u,jY n λ l=>Q (u::l)
theorem ud:∀ {n:Nat}{Q:LV->Prop},jY n Q->∀us:LV,us.length=n->Q us
 |0,_,h,us,e=>by rw[nr e];exact h
 |_+1,_,h,_::us,e=>ud (h _) us (Nat.succ.inj e)
structure CM (P:QX)(w:QY)(K:FG)(mg:SV)(base:Re)(J:Hp->Prop)(GT:List TV)(gs:List Str)(D:List DR)(j:Nat):Prop where
 c:Cals P w K mg base J D j
 m:MOk P w K mg J GT gs
 hm:∀ {x:Str}{v:Option Value},W.nsIn K Rc x=QJ v->mg x=v
abbrev Zm(D:List DR)(GT:List TV)(gs:List Str)(j:Nat)(st:Ra)(N:List Str)(n p:Nat)(S:Vv)(c:Ct):Prop:=(bH (Wv D j) gs N (aI st).names QK c (aR st)&&Ya (aI st) (N.take p) N&&decide (p<=N.length/\N.length=n))=QK/\∀ts Q,S ts Q->ts.length=p/\wS (Wr D j) GT c (Wf n ts) (λ _=>Q .non) Q
section
variable {P:QX}{w:QY}{K:FG}{mg:SV}{base:Re}{J:Hp->Prop}{GT:List TV}{gs:List Str}{D:List DR}{L:List (QO×Pos×Str)}{j jj kk n n2 p i0:Nat}{x ql nn:Str}{N N' pst:List Str}{js:List Nat}{st:Ra}{S:Vv}{code:Ct}{A:TV->List TV->Prop}{f c T:QO}{fd:Rn}
abbrev Bds(x:Str)(st:Ra)(ps:List Str)(p:Nat):Prop:=jY p λ us=>∀(kV doc pm:Value) (an:OA) (cdv ct:Value),RU (W.fnOf x x (ip st) (aR st) (aI st) .none kV doc pm an cdv ct) ⟨us,[]⟩=Rj (ps.zip us)
def Bds.ok(h:Bds x st (N.take p) p)(l:p<=N.length)(f:QO)(fd:Rn)(F:Fun K x x st f fd):Binds K fd (N.take p) []:=F.binds λ kV doc pm an cdv ct us hl=>ud h us (by rw[hl,bh,gq l]) kV doc pm an cdv ct
def CM.d(C:CM P w K mg base J GT gs D j)(g:Gx K x st)(z:Zm D GT gs j st N n p S code)(e:autoParam (D[j]?=QJ (x,N.take p,S)) A8._auto_1)(b:autoParam (Bds x st (N.take p) p) A2._auto_1):CM P w K mg base J GT gs D (j+1):=by
 obtain⟨z1,z2⟩:=z;simp only[bj,cB] at z1;obtain⟨⟨k1,k2⟩,k3,rfl⟩:=z1;exact⟨JJ code C.c C.m C.hm e g (lN k2) (b.ok k3) k1 (λ ts Q h=>by rw[(z2 ts Q h).1,bh,gq k3]) λ ts Q h=>(z2 ts Q h).2,C.m,C.hm⟩
def CM.law(C:CM P w K mg base J GT gs D j)(g:Gl' K x st f fd)(z:Zm D GT gs j st N n p tX code):FnOk P w K mg base VI (j+1) f fd (N.take p) (tY K J):=by
 obtain⟨z1,z2⟩:=z;simp only[bj,cB] at z1;obtain⟨⟨k1,k2⟩,k3,rfl⟩:=z1;exact JK (tW code g.F (lN k2) C.m (gx j) C.c.fns k1 (λ ts Q h=>by rw[(z2 ts Q h).1,bh,gq k3]) λ ts Q h=>(z2 ts Q h).2)
end
def JH(L:List (QO×Pos×Str))(D H:Hp):Prop:=TbJ L H/\∀a o,(∀vs,o≠.lst vs)->(∀ps,o≠.tbl ps)->D a=QJ o->H a=QJ o
section
variable {P:QX}{w:QY}{K:FG}{mg:SV}{base:Re}{L:List (QO×Pos×Str)}{D:Hp}{F F' F1 F2 F3:Fz}{H H' H1 H2 H3 H4:Hp}{FT FI:List Vv}{GT:List TV}{fs fi gs:List Str}{S:Vv}{k ki kf:Nat}{x:Str}{ps:List Str}
def JH.js:JS (JH L D):=⟨λ H p o n h=>⟨TbJ.js.nw H p o n h.1,λ a u n1 n2 e=>by rw[aG (λ z=>by have:=h.2 a u n1 n2 e;rw[z,n] at this;cases this)];exact h.2 a u n1 n2 e⟩,
 λ H p vs ws n h=>⟨TbJ.js.mu H p vs ws n h.1,λ a u n1 n2 e=>by rw[aG (λ z=>by have:=h.2 a u n1 n2 e;rw[z,n] at this;cases this;exact n1 _ rfl)];exact h.2 a u n1 n2 e⟩⟩
def Grow.jh(g:Grow (TbJ L) F H F' H')(w:JH L D H):Grow (JH L D) F H F' H':=⟨g.sm,g.dm,g.up,g.nw,⟨g.w.j,λ a o n1 n2 e=>g.sm a o n2 (w.2 a o n1 n2 e)⟩,g.w.d⟩
def Grow.tb(g:Grow (JH L D) F H F' H'):Grow (TbJ L) F H F' H':=⟨g.sm,g.dm,g.up,g.nw,g.w.j.1,g.w.d⟩
def Wd.tb(w:Wd (JH L D) F H):Wd (TbJ L) F H:=⟨w.j.1,w.d⟩
def Callee.imp{sp sp':Sp}(c:Callee P w K mg base VI k x ps sp)(h:∀vs H Q E,sp' vs H Q E->sp vs H Q E):Callee P w K mg base VI k x ps sp':=let ⟨f,fd,ok,m,kp,b⟩:=c.has;⟨⟨f,fd,ok.imp h,m,kp,b⟩⟩
def Callee.jh(c:Callee P w K mg base VI k x ps (Wz K (TbJ L) S)):Callee P w K mg base VI k x ps (Wz K (JH L D) S):=c.imp λ vs H Q E ⟨F,ts,P1,wd,r,s,q⟩=>⟨F,ts,P1,wd.tb,r,s,λ t pt F' H' v g rr=>q t pt F' H' v (g.jh wd.j) rr⟩
def MOk.jh(m:MOk P w K mg (TbJ L) GT gs):MOk P w K mg (JH L D) GT gs:=⟨JH.js,m.glb,m.dic,m.blt⟩
structure XF (P:QX)(w:QY)(K:FG)(mg:SV)(base:Re)(J:Hp->Prop)(FT:List Vv)(GT:List TV)(fs gs:List Str)(k:Nat):Prop where
 m:MOk P w K mg J GT gs
 fns:∀(f:Nat) x S,fs[f]?=QJ x->FT[f]?=QJ S->∃ps,Callee P w K mg base VI k x ps (Wz K J S)
 len:fs.length<=FT.length
 hof:∀A,Room k A->∀S,FT[fs.length]?=QJ S->Zj P w K mg base A J S
def XF.lam(x:XF P w K mg base J FT GT fs gs k){cl:LA}{A:QZ}{s:QP}(hr:Room k (A.deeper (envX qual E s.heap.objs.size f cd (Ri (s.heap.objs.size+1) E.names []++cl)))):VM (nj P w K mg base N qual E f cd cl A outer s H) J FT GT fs gs :=
 ⟨rfl,by have:=hr.un;show(A.deeper _).units+120<RR;lia,x.m.hJ,λ g y S h1 h2=>let ⟨ps,c⟩:=x.fns g y S h1 h2;⟨k,ps,hr,c⟩,x.m.glb,x.m.dic,x.m.blt,x.len,x.hof _ hr⟩
def XF.of0(m:MOk P w K mg (TbJ L) GT gs)(hl:fs.length=FT.length)(fns:∀(f:Nat) x S,fs[f]?=QJ x->FT[f]?=QJ S->∃ps,Callee P w K mg base VI k x ps (Wz K (TbJ L) S)):XF P w K mg base (JH L D) FT GT fs gs k :=
 ⟨m.jh,λ f x S h1 h2=>let ⟨ps,c⟩:=fns f x S h1 h2;⟨ps,c.jh⟩,s1t hl,λ A _=>xP hl⟩
def ue(P:QX)(w:QY)(K:FG)(mg:SV)(base:Re)(k:Nat)(L:List (QO×Pos×Str))(D:Hp)(a:QO)(Φ:Vv):Prop:=∀F H ts vs P' Q,Wd (JH L D) F H->RpL K F H ts vs->Φ ts P'->(∀t,P' t->∀F' H' v,Grow (JH L D) F H F' H'->Rp K F' H' t v->Q v H')->pL P w K mg base k a vs H Q
def Wy(P:QX)(w:QY)(K:FG)(mg:SV)(base:Re)(L:List (QO×Pos×Str))(k:Nat)(S:Vv->Vv):Sp:=λ vs H Q _=>∃F a ts vs' D Φ P',vs=vs'++[.ref a]/\Wd (JH L D) F H/\FnV H a/\RpL K F H ts vs'/\S Φ ts P'/\ue P w K mg base k L D a Φ/\∀t,P' t->∀F' H' v,Grow (JH L D) F H F' H'->Rp K F' H' t v->Q v H'
def Xd(HC:List (Str×(Vv->Vv)))(Φ:Vv)(a:QO):Vv:=λ l P'=>(∃ts,l=.str "" :: .obj (.fn a)::ts/\Φ ts P')\/∃(x:Str) (S:Vv->Vv),x ≠ "" /\ HC.lookup x=QJ S/\(l=[.str x]\/∃ts,l=.str x::.obj (.fn a)::ts/\S Φ ts P')
theorem XF.of1{HC:List (Str×(Vv->Vv))}(m:MOk P w K mg (TbJ L) GT gs)(hl:fs.length=FT.length)(fns:∀(f:Nat) x S,fs[f]?=QJ x->FT[f]?=QJ S->∃ps,Callee P w K mg base VI k x ps (Wz K (TbJ L) S))(kl:kf<=k)
  (hc:∀x S,HC.lookup x=QJ S->∃ps,Callee P w K mg base VI k x ps (Wy P w K mg base L kf S)) (hf:ue P w K mg base kf L D a Φ):XF P w K mg base (JH L D) (FT++[Xd HC Φ a]) GT fs gs k:=by
 refine⟨m.jh,λ f x S h1 h2=>?_,by rw[aK];lia,λ A hr S e=>?_⟩
 .have lf:=(aN.mp h1).1;rw[cx ca] at h2;obtain⟨ps,c⟩:=fns f x S h1 h2;exact⟨ps,c.jh⟩
 .rw[hl,cu (ak _),gz] at e;cases e;refine⟨⟨kf,hr.mono kl,λ a' ts vs P' F H Q wd fv r s q=>?_⟩,λ x sx=>?_⟩
  .rcases s with ⟨ts',e,s⟩|⟨x,S,nx,_,e|⟨ts',e,_⟩⟩
   .cases e;exact hf F H ts vs P' Q wd r s q
   .cases e
   .injection e with e1 _;injection e1 with e1;exact m8 e1.symm nx
  .rcases sx with ⟨ts',e,_⟩|⟨x',S,nx,lk,e|⟨ts',e,_⟩⟩
   .cases e
   .injection e with e1 _;injection e1 with e1;subst e1
    obtain⟨ps,c⟩:=hc x S lk;refine⟨k,ps,hr,c.imp λ vs H Q E ⟨F,a',ts,vs',P',e,wd,fv,r,s,q⟩=>?_⟩
    rcases s with ⟨ts',e2,_⟩|⟨x2,S2,_,lk2,e2|⟨ts',e2,s⟩⟩
    .injection e2 with e1 _;injection e1 with e1;exact m8 e1 nx
    .cases e2
    .injection e2 with e1 e2;injection e1 with e1;subst e1
     cases e2;rw[lk] at lk2;cases lk2;exact⟨F,a,ts,vs',D,Φ,P',e,wd,fv,r,s,hf,q⟩
   .cases e
def Rq(K:FG)(F:Fz)(H:Hp)(t:TV)(v:V):Prop:=match t with
 |.obj (.fn a)=>v=.ref a/\FnV H a
 |t=>Rp K F H t v
abbrev RqL(K:FG)(F:Fz)(H:Hp):List TV->List V->Prop:=RV (Rq K F H)
def Rq.sr(h:Rq K F H t v):Sr K F H t v:=by
 cases t with
 |obj o=>cases o<;>first|exact h|exact h.elim
 |_=>first|exact h|exact h.elim
def Rp.rq(h:Rp K F H t v):Rq K F H t v:=by
 cases t with
 |obj o=>exact h.elim
 |_=>exact h
theorem RpL.rq:∀ {ts:List TV}{vs:List V},RpL K F H ts vs->RqL K F H ts vs
 |[],_,h=>by cases h;exact .nil
 |_::_,_,⟨v,r,e,h1,h2⟩=>by subst e;exact .cons h1.rq (RpL.rq h2)
theorem RqL.get:∀ {ts:List TV}{vs:List V}{i:Nat}{t:TV},RqL K F H ts vs->ts[i]?=QJ t->∃v,vs[i]?=QJ v/\Rq K F H t v
 |_::_,_::_,0,_,.cons h _,e=>by cases e;exact⟨_,rfl,h⟩
 |_::_,_::_,i+1,_,.cons _ r,e=>RqL.get (i:=i) r e
theorem RqL.app:∀ {ts us:List TV}{vs ws:List V},RqL K F H ts vs->RqL K F H us ws->RqL K F H (ts++us) (vs++ws)
 |[],_,_,_,.nil,g=>g
 |_::_,_,_::_,_,.cons h r,g=>.cons h (RqL.app r g)
def Zn{vs:List V}(wd:Wd J F H)(r:RqL K F H ts vs):ER K J F H [] F H (VF N vs) (Wf N.length ts):=by
 have get:∀(i:Nat) t,(Wf N.length ts)[i]?=QJ (QJ t)->ts[i]?=QJ t:=λ i t h=>by
  unfold Wf at h;by_cases c:i<ts.length
  .rw[cx (by simpa using c),aW] at h
   cases q:ts[i]? with
   |none=>rw[q] at h;cases h
   |some u=>rw[q] at h;cases h;rfl
  .rw[cu (by simpa using c),dH] at h;split at h<;>cases h
 have sl:∀(i:Nat) t,(Wf N.length ts)[i]?=QJ (QJ t)->∃v,(VF N vs)[i]?=QJ (QJ v)/\Rq K F H t v:=λ i t h=>by
  obtain⟨v,ev,rv⟩:=r.get (get i t h);refine⟨v,?_,rv⟩;unfold VF;rw[cx (by simpa using (aN.mp ev).1),aW,ev];rfl
 refine⟨⟨wd,λ i t h=>let ⟨v,e,q⟩:=sl i t h;⟨v,e,q.sr⟩⟩,.refl wd,λ i l a h1 h2=>?_,λ i k l l' v h1 h2 h3 h4=>?_,(λ p hp=>by cases hp),λ i as ll h=>by obtain⟨v,_,q⟩:=sl i _ h;exact q.elim⟩
 .obtain⟨v,_,q⟩:=sl i _ h1;exact q.elim
 .obtain⟨v,_,q⟩:=sl i _ h1;exact q.elim
theorem yM{HC:List (Str×(Vv->Vv))}{SF:Vv->Vv}{st:Ra}(code:Ct)(F0:Fun K x x st f fd)(sc:VO N ps (aI st))(m:MOk P w K mg (TbJ L) GT gs)(hl:fs.length=FT.length)
  (fns:∀(f:Nat) x S,fs[f]?=QJ x->FT[f]?=QJ S->∃ps,Callee P w K mg base VI k x ps (Wz K (TbJ L) S)) (kl:kf<=k)
  (hc:∀x S,HC.lookup x=QJ S->∃ps,Callee P w K mg base VI k x ps (Wy P w K mg base L kf S))
  (hck:bH fs gs N (aI st).names QK code (aR st)=QK) (VC:∀Φ ts P',SF Φ ts P'->ts.length+1=ps.length)
  (hw:∀Φ a ts P',SF Φ ts P'->wS (FT++[Xd HC Φ a]) GT code (Wf N.length (ts++[.obj (.fn a)])) (λ _=>P' .non) P'):FnOk P w K mg base VI (k+1) f fd ps (Wy P w K mg base L kf SF):=by
 refine F0.ok sc (λ vs H Q E ⟨F,a,ts,vs',D,Φ,P',e,wd,fv,r,s,_⟩=>by rw[e,aK,<- r.length];exact VC _ _ _ s) (λ cdv A outer s H vs Q E hr h=>?_);obtain⟨F1,a,ts,vs',D,Φ,P',rfl,wd,fv,r,sp,hf,fin⟩:=h
 have nl:(vs'++[V.ref a]).length<=N.length:=by
  have z:=bO RO sc.pre;rw[bh] at z;have:=VC _ _ _ sp;rw[aK,<- r.length];show ts.length+1<=_;lia
 have xf:XF P w K mg base (JH L D) (FT++[Xd HC Φ a]) GT fs gs k:=.of1 m hl fns kl hc hf;have xo:VM (eO VI P w K mg base N x (aI st) f cdv A outer s H E).nox (JH L D) (FT++[Xd HC Φ a]) GT fs gs:=⟨rfl,by have:=hr.un;show(A.deeper _).units+120<RR;lia,xf.m.hJ,λ g y S h1 h2=>let ⟨ps,c⟩:=xf.fns g y S h1 h2;⟨k,ps,hr,c⟩,xf.m.glb,xf.m.dic,xf.m.blt,xf.len,xf.hof _ hr⟩;refine⟨_,sS (F0:=F1) (H0:=H) (PN:=[]) code (lp:=QK) ⟨xo,⟨O,O⟩,sc.nd,λ _ _=>rfl,λ _=>s0d⟩ hck,F1,Wf N.length (ts++[.obj (.fn a)]),Zn wd (r.rq.app (.cons (show Rq K F1 H (.obj (.fn a)) (.ref a) from ⟨O,fv⟩) .nil)),?_,?_⟩
 .unfold VF;rw[aK,ag,dO];show(vs'++[V.ref a]).length+(N.length-(vs'++[V.ref a]).length)=N.length;lia
 .exact bK code (λ ρ' q F' H' σ' e _=>fin .non q F' H' .non e.gr rfl) (λ t q F' H' v g r=>fin t q F' H' v g r) (hw Φ a ts P' sp)
end
section
variable {P:QX}{w:QY}{K:FG}{mg:SV}{base:Re}{L:List (QO×Pos×Str)}{D:Hp}{F F' F1 F2 F3:Fz}{H H' H1 H2 H3 H4:Hp}{FT FI:List Vv}{GT:List TV}{fs fi gs:List Str}{k ki:Nat}{cl:LA}{vcs:List V}{caps:List TV}{Φ:Vv}
def qp(t:TV):Prop:=LF t\/∃a,t=.obj (.fn a)
mutual
theorem LF.mv(st:∀a vs,SqT K H a vs->SqT K H' a vs):∀ {t:TV}{v:V},LF t->Rp K F H t v->Rp K F' H' t v
 |.non,_,_,h=>h
 |.bl _,_,_,h=>h
 |.int _,_,_,h=>h
 |.str _,_,_,h=>h
 |.tup l,_,f,⟨a,vs,e,q,r⟩=>⟨a,vs,e,st _ _ q,LF.mvl st (λ x hx=>by simp only[LF] at f;exact f x hx) r⟩
 |.lst _,_,f,_=>by simp[LF] at f
 |.bor _,_,f,_=>by simp[LF] at f
 |.own _,_,f,_=>by simp[LF] at f
 |.obj _,_,f,_=>by simp[LF] at f
theorem LF.mvl(st:∀a vs,SqT K H a vs->SqT K H' a vs):∀ {ts:List TV}{vs:List V},(∀x∈ts,LF x)->RpL K F H ts vs->RpL K F' H' ts vs
 |[],_,_,h=>h
 |t::ts,_,f,⟨v,r,e,h1,h2⟩=>⟨v,r,e,LF.mv st (f t pv) h1,LF.mvl st (λ x hx=>f x (by simp[hx])) h2⟩
end
theorem RqL.mv(st:∀a vs,SqT K H a vs->SqT K H' a vs)(fn:∀a,FnV H a->FnV H' a):∀ {ts:List TV}{vs:List V},(∀t∈ts,qp t)->RqL K F H ts vs->RqL K F' H' ts vs
 |[],[],_,.nil=>.nil
 | t::_,_::_,c,.cons h r=>.cons (by
   rcases c t pv with lf|⟨a,rfl⟩
   .cases t with
    |obj o=>simp[LF] at lf
    |_=>exact LF.mv (F:=F) st lf h
   .exact⟨h.1,fn a h.2⟩) (RqL.mv st fn (λ t ht=>c t (by simp[ht])) r)
def uf(F:Fz)(cl:LA):Fz:=λ a=>F a/\∀q∈cl,q.2≠a
def JR(hc:CelAt H cl vcs):Ke K F H (uf F cl) (minC H cl):=by
 have km:=yI (K:=K) (F:=F) hc;refine⟨km.t,λ a vs h=>?_⟩
 rcases h with ⟨f,sq⟩|h
 .rcases sq with rd|kk
  .refine .inl ⟨⟨f,λ q hq e=>?_⟩,.inl (rd.min hc (λ _ z=>nomatch z) (λ _ _ z=>nomatch z))⟩;obtain⟨o,v,ec⟩:=hc.mem hq;rw[e] at ec
   rcases rd with rd|⟨o',rd⟩<;>rw[ec] at rd<;>cases rd
  .exact .inr kk
 .exact .inr h
theorem JT{qual:Str}(ci:Cd)(xi:XF P w K mg base (JH L D) FI GT fi gs ki)(S:VW N' VU fv scope)(hcl:cl.map (·.1)=fv)
  (hb:∀(pm ctv:Value) (us:LV),us.length=VU.length->RU (kla_fn "<lambda>" qual params body scope cl pm (.ref c') ctv) ⟨us,[]⟩=Rj (VU.zip us))
  (hd:Hand cl vcs H3 H4) (dj:JH L D H3) (L1:H4 fa=QJ (fN fa c' qual params body scope cl)) (_L:H4 c'=QJ (gR c' qual)) (cp:RqL K F3 H4 caps vcs) (co:∀t∈caps,qp t) (cki:ck fi gs ci N' scope.names body=QK)
  (hw:∀args P',Φ args P'->args.length=VU.length/\wE FI GT ci (Wf N'.length (args++caps)) λ u=>u.pl=QK/\P' u):ue P w K mg base (ki+1) L H4 fa Φ:=by
 intro F1 H1 ts vs P' Q wd r hφ q;obtain⟨hl,hw⟩:=hw ts P' hφ;have up:∀ {a o},(∀vs,o≠.lst vs)->(∀ps,o≠.tbl ps)->H4 a=QJ o->H1 a=QJ o:=λ n1 n2 e=>wd.j.2 _ _ n1 n2 e;have hc:CelAt H1 cl vcs:=⟨hd.at_.len,λ i q e=>let ⟨v,o,e1,e2⟩:=hd.at_.at_ i q e;⟨v,o,e1,up (λ _ z=>nomatch z) (λ _ z=>nomatch z) e2⟩,hd.at_.apart⟩;have vl:vs.length=VU.length:=by rw[<- r.length,hl]
 have dm:∀a o,(∀vs,o≠.lst vs)->(∀ps,o≠.tbl ps)->D a=QJ o->minC H1 cl a=QJ o:=λ a o n1 n2 e=>by
  have e3:=dj.2 a o n1 n2 e;rw[dI λ q hq z=>by have:=hd.fr q hq;rw[z,e3] at this;cases this];exact up n1 n2 (hd.to e3)
 have wm:Wd (JH L D) (uf F1 cl) (minC H1 cl):=⟨⟨wd.j.1.sm λ a o _ k e=>nI hc e λ _ _ _=>k _ _,dm⟩,λ a f=>by rw[dI f.2];exact wd.d a f.1⟩
 have sq:∀a vs,SqT K H4 a vs->SqT K (minC H1 cl) a vs:=λ a vs h=>h.imp (λ h=>by
  have h1:Rd H1 a (.tup vs):=h.imp (λ h=>up (λ _ z=>nomatch z) (λ _ z=>nomatch z) h) λ⟨o,h⟩=>⟨o,up (λ _ z=>nomatch z) (λ _ z=>nomatch z) h⟩
  exact h1.min hc (λ _ z=>nomatch z) (λ _ _ z=>nomatch z)) id
 have fq:∀a,FnV H4 a->FnV (minC H1 cl) a:=λ a ⟨φ,e,kf⟩=>⟨φ,nI hc (up (λ _ z=>nomatch z) (λ _ z=>nomatch z) e) (λ _ _ _ z=>nomatch z),kf⟩;refine JL (vcs:=vcs) S hcl hb vl (up (λ _ z=>nomatch z) (λ _ z=>nomatch z) L1) (up (λ _ z=>nomatch z) (λ _ z=>nomatch z) _L) hc (te:=rE K (JH L D) FI GT ci) (λ A outer s hr=>sE ci (xi.lam hr) ⟨O,O⟩ cki) ?_;refine⟨uf F1 cl,_,(Zn (N:=N') wm ((r.ke (JR hc)).rq.app (cp.mv sq fq co))).ev,au ci (λ u ⟨pl,pu⟩ F' H' v g rr hz=>?_) hw⟩;have nF:∀a,F' a->∀q∈cl,q.2≠a:=λ a f q hq z=>g.w.d a f (z ▸ hz q hq)
 have gg:Grow (JH L H4) F1 H1 (λ a=>F' a\/F1 a) (Ws H1 H' cl):=by
  have sm:∀a o,(∀ps,o≠.tbl ps)->H1 a=QJ o->Ws H1 H' cl a=QJ o:=λ a o n e=>by
   rcases yH cl a with ⟨q,hq,rfl⟩|hn
   .rw[kY hq];exact e
   .rw[gS hn];exact g.sm a o n (by rw[dI hn];exact e)
  have dmm:∀a,H1 a≠QM->Ws H1 H' cl a≠QM:=λ a e=>by
   rcases yH cl a with ⟨q,hq,rfl⟩|hn
   .rw[kY hq];exact e
   .rw[gS hn];exact g.dm a (by rw[dI hn];exact e)
  refine⟨sm,dmm,λ a f=>.inr f,λ a f=>?_,⟨g.w.j.1.sm λ a o _ _ e=>by rw[tZ hz (by rw[e];simp)];exact e,λ a o n1 n2 e=>sm a o n2 (up n1 n2 e)⟩,λ a f=>?_⟩
  .rcases f with f|f
   .rcases g.nw a f with z|z
    .exact .inl z.1
    .rw[dI (nF a f)] at z;exact .inr z
   .exact .inl f
  .rcases f with f|f
   .rw[gS (nF a f)];exact g.w.d a f
   .exact dmm a (wd.d a f)
 exact q u pu _ _ v gg (((JP pl rr).ke (JN hz)).ke (.up λ _ f=>.inl f))
theorem JU(xo:VM X J FT GT fs gs)(xs:XS X N nm)(hst:aZ e=QK)(he:PE X e tl):∀(l:Cd) {es:List Expr},ckL fs gs l N nm es=QK ->
  PA X (es++[e]) (λ σ H Q=>∃F ρ,EV X.K J F H σ ρ/\wL FT GT l ρ λ ts=>∀F' H' vs,Grow J F H F' H'->RrL X.K H F' H' ts vs->tl σ H' λ v H2=>Q (vs++[v]) H2):=λ l=>by
 induction l with
 |nil=>
  intro es h
  cases es with
  |nil=>exact(dA he pa_nil (bz hst)).imp λ σ H Q ⟨F,ρ,ev,w⟩=>w F H [] (.refl ev.w) .nil
  |cons e es=>exact QN h
 |cons a r _ ih=>
  intro es h
  cases es with
  |nil=>exact QN h
  |cons e0 es=>
   obtain⟨h1,h3⟩:=an h;obtain⟨h1,h2⟩:=an h1;refine(dA (sE a xo xs h2) (ih h3) (bz h1)).imp λ σ H Q ⟨F,ρ,ev,w⟩=>⟨F,ρ,ev,au a (λ t w F1 H1 v g1 r1=>⟨F1,ρ,ev.grow g1,cj r (λ ts w F2 H2 vs g2 r2=>?_) w⟩) w⟩;exact w F2 H2 (v::vs) (g1.trans g2) (.cons (r1.grow g2) (Paired.mapP r2 λ _ _ z=>z.late g1))
 |_=>intro es h;exact QN h
def Xk(FT FI:List Vv)(GT:List TV)(l:Cd)(js:List Nat)(ci:Cd)(na n2:Nat)(SF:Vv->Vv)(ρ:En)(Q:TV->Prop):Prop:=wL FT GT l ρ λ ts=>ts.all TV.nb=QK/\∃caps Φ P',js.map (λ j=>ρ[j]?)=caps.map (λ t=>QJ (QJ t))/\(∀t∈caps,qp t)/\SF Φ (ts.map .fz) P'/\(∀args P'',Φ args P''->args.length=na/\wE FI GT ci (Wf n2 (args++caps)) λ u=>u.pl=QK/\P'' u)/\∀t,P' t->Q t
theorem yN(e:EV K J F H σ ρ):∀ {js:List Nat}{caps:List TV},js.map (λ j=>ρ[j]?)=caps.map (λ t=>QJ (QJ t))->(∀t∈caps,qp t)->∃vcs,js.map (λ j=>σ[j]?)=vcs.map (λ v=>QJ (QJ v))/\RqL K F H caps vcs
 |[],[],_,_=>⟨[],rfl,.nil⟩
 |[],_::_,h,_=>by cases h
 |_::_,[],h,_=>by cases h
 |j::js,t::caps,h,c=>by
  rw[dg,dg] at h
  injection h with h1 h2
  obtain⟨v,ev,r⟩:=e.sl j t h1;obtain⟨vs,e2,r2⟩:=yN e h2 λ t ht=>c t (by simp[ht]);refine⟨v::vs,by rw[dg,dg,ev,e2],.cons ?_ r2⟩
  rcases c t pv with lf|⟨a,rfl⟩
  .cases t<;>first|exact r|(simp[LF] at lf)
  .exact r
theorem JV{N nm}{tb ql:Str}{js:List Nat}{body e0:Expr}{es:List Expr}{pos p1 p2 p3:Pos}(l ci:Cd)(xo:VM X (JH L D) FT GT fs gs)(xs:XS X N nm)(hr:Room k X.A)
  (ho:Callee X.prog X.w X.K X.mg X.base VI k tb pst (Wy X.prog X.w X.K X.mg X.base L (ki+1) SF)) (xi:XF X.prog X.w X.K X.mg X.base (JH L D) FI GT fi gs ki) (gt:Gl X tb) (ntb:(tb == ("__debug__" : Str))=QL) (TF:Wm X.base X.mg c T) (hcd:X.env.code=.ref c) (mT:(T,pos,ql)∈L) (nd:(L.map (·.1)).Nodup)
  (hq:X.env.qual ++ "<lambda>"=ql) (df:Sj params X.env=([],[])) (hcl:RZ scope X.env=Rj cl) (own:OwnCl X.env.cells fv cl) (hj:js.map (λ j=>X.N[j]?)=fv.map QJ) (hk:∀n∈fv,X.env.scope.names.lookup n=QJ .cell) (hf:∀n∈fv,X.fn n=QK) (nf:fv.Nodup)
  (ls:VW N' VU fv scope) (hb:∀(c':QO) (pm ctv:Value) (us:LV),us.length=VU.length->RU (kla_fn "<lambda>" ql params body scope cl pm (.ref c') ctv) ⟨us,[]⟩=Rj (VU.zip us))
  (ckl:ckL fs gs l N nm (e0::es)=QK) (cki:ck fi gs ci N' scope.names body=QK) :
  PSs X [.Return (QJ (.Call (.Name tb p1) (e0::(es++[.Lambda params body scope pos])) [] p2)) p3] (λ R σ H=>∃F ρ,EV X.K (JH L D) F H σ ρ/\Xk FT FI GT l js ci VU.length N'.length SF ρ λ t=>∀F' H' v,Grow (JH L D) F H F' H'->Rp X.K F' H' t v->R.rt v H'):=by
 have st:=jV ckl;rw[dh,bj] at st;have st2:(es++[Expr.Lambda params body scope pos]).all aZ=QK:=by rw[List.all_append,st.2];rfl
 have hE:=Ho (X:=X) (p:=p1) (pos:=p2) ho hr gt own hj hk hf nf (JU xo xs rfl (Hl (pos:=pos) (body:=body) hq hcd TF df hcl own) l ckl) ntb (bz st.1) (gY st2);intro Vu s σ H R I ⟨F,ρ,ev,q⟩;refine Dp (vG (pos:=p3) hE) Vu s σ H R I ⟨F,ρ,ev,cj l (λ ts ⟨hn,caps,Φ,P',hc,co,sf,hw,fin⟩ F2 H2 vs g r=>⟨g.w.j.1 _ mT,λ fa c' cl1 H3 o1 ffa hfa hc3 t3 up3=>?_⟩) q⟩;cases OwnCl.uniq own o1;obtain⟨vcs,ev2,rc⟩:=yN (ev.grow g) hc co;refine⟨vcs,ev2,λ cl2 H4 o2 fr hcel eq4=>?_⟩;cases OwnCl.uniq own o2;obtain⟨F3,g3',_,r3⟩:=iC g r hn;have g3:=JQ nd mT g3'.w.tb t3 up3;have hd:Hand cl vcs H3 H4:=⟨fr,hcel,eq4⟩;have j3:JH L D H3:=(g3.jh g3'.w.j).w.j;have sq:∀a vs,SqT X.K H2 a vs->SqT X.K H4 a vs:=λ a vs h=>(h.sm g3.sm).sm λ a o _ e=>hd.to e;have w4:Wd (JH L H4) F3 H4:=⟨⟨(hd.wd g3.w).j,λ a o _ _ e=>e⟩,(hd.wd g3.w).d⟩;refine⟨F3,fa,_,vs,H4,Φ,P',O,w4,FnV.lam (hd.to hfa),(r3.ke g3.ke).ke hd.ke,sf,JT ci xi ls own.1 (hb c') hd j3 (hd.to hfa) (hd.to hc3) (rc.mv (F':=F2) sq (λ a ⟨φ,e,kf⟩=>⟨φ,hd.to (g3.sm _ _ (λ _ z=>nomatch z) e),kf⟩) co) co cki hw,λ t pt F6 H6 v6 g6 r6=>?_⟩;have g6b:=hd.back g3.w g6.tb;have gall:=(g3'.tb.trans g3).trans g6b;exact fin t pt F6 _ v6 (gall.jh ev.w.j) (r6.ke (yI (hd.cel g6.tb)))
end
section
variable {P:QX}{w:QY}{K:FG}{mg:SV}{base:Re}{L:List (QO×Pos×Str)}{D:Hp}{FT FI:List Vv}{GT:List TV}{fs fi gs:List Str}{k ki:Nat}{x tb ql:Str}{st:Ra}{f c T:QO}{fd:Rn}{N ps pst N' VU:List Str}{js:List Nat}{S:Vv}{SF:Vv->Vv}{params:RN}{scope:Scope}{body e0:Expr}{es:List Expr}{pre post:List Ra}{pos p1 p2 p3 p4:Pos}{l ci:Cd}
structure MkI (K:FG)(mg:SV)(base:Re)(L:List (QO×Pos×Str))(x tb ql:Str)(st:Ra)(f c T:QO)(fd:Rn)(N ps VU N':List Str)(js:List Nat)(params:RN)(body:Expr)(scope:Scope)(pos:Pos)(gs fs fi:List Str)(l ci:Cd)(es:List Expr):Prop where
 F:Fun K x x st f fd
 cd:fd.code=.ref c
 TF:Wm base mg c T
 mT:(T,pos,ql)∈L
 nd:(L.map (·.1)).Nodup
 sc:VO N ps (aI st)
 gt:(aI st).names.lookup tb=QJ .globalImplicit
 ntb:(tb == ("__debug__" : Str))=QL
 ls:VW N' VU (WA scope.names) scope
 hj:js.map (λ j=>N[j]?)=(WA scope.names).map QJ
 hk:∀n∈WA scope.names,(aI st).names.lookup n=QJ .cell
 nf:(WA scope.names).Nodup
 df:∀env,Sj params env=([],[])
 hq:∀n f cd,(RG x (aI st) n f cd).qual ++ "<lambda>"=ql
 hb:∀(cl:LA) (c':QO) (pm ctv:Value) (us:LV),us.length=VU.length->RU (kla_fn "<lambda>" ql params body scope cl pm (.ref c') ctv) ⟨us,[]⟩=Rj (VU.zip us)
 ckl:ckL fs gs l N (aI st).names es=QK
 cki:ck fi gs ci N' scope.names body=QK
def XF.fn(X:XF P w K mg base J FT GT fs gs k){A:QZ}{s:QP}(hr:Room k (A.deeper (RG qual (aI st) s.heap.objs.size f cdv))):VM (eO VI P w K mg base N qual (aI st) f cdv A outer s H E).nox J FT GT fs gs :=
 ⟨rfl,by have:=hr.un;show(A.deeper _).units+120<RR;lia,X.m.hJ,λ g y S h1 h2=>let ⟨ps,c⟩:=X.fns g y S h1 h2;⟨k,ps,hr,c⟩,X.m.glb,X.m.dic,X.m.blt,X.len,X.hof _ hr⟩
theorem yO{A:QZ}{s:QP}(M:MkI K mg base L x tb ql st f c T fd N ps VU N' js params body scope pos gs fs fi l ci (e0::es))(xf:XF P w K mg base (JH L D) FT GT fs gs k)(xi:XF P w K mg base (JH L D) FI GT fi gs ki)(hr:Room k (A.deeper (RG x (aI st) s.heap.objs.size f (.ref c))))(ho:Callee P w K mg base VI k tb pst (Wy P w K mg base L (ki+1) SF)) :
  PSs (eO VI P w K mg base N x (aI st) f (.ref c) A outer s H E).nox [.Return (QJ (.Call (.Name tb p1) (e0::(es++[.Lambda params body scope pos])) [] p2)) p3] (λ R σ H=>∃F ρ,EV K (JH L D) F H σ ρ/\Xk FT FI GT l js ci VU.length N'.length SF ρ λ t=>∀F' H' v,Grow (JH L D) F H F' H'->Rp K F' H' t v->R.rt v H'):=by
 obtain⟨cl,hcl,own⟩:=JO (scope:=scope) (env:=RG x (aI st) s.heap.objs.size f (.ref c)) λ y hy=>kO.mp (oU _ _ _ (.inl (M.hk y hy)));exact JV (X:=(eO VI P w K mg base N x (aI st) f (.ref c) A outer s H E).nox) l ci (xf.fn hr) ⟨O,O⟩ hr ho xi M.gt M.ntb M.TF rfl M.mT M.nd (M.hq _ _ _) (M.df _) hcl own M.hj M.hk (λ _ _=>rfl) M.nf M.ls (M.hb cl) M.ckl M.cki
theorem JW{HC:List (Str×(Vv->Vv))}{SG:Vv->Vv}{kf:Nat}(M:MkI K mg base L x tb ql st f c T fd N ps VU N' js params body scope pos gs fs fi l ci (e0::es))(m:MOk P w K mg (TbJ L) GT gs)(hl:fs.length=FT.length)(hl':fi.length=FI.length)
  (fns:∀(f:Nat) x S,fs[f]?=QJ x->FT[f]?=QJ S->∃ps,Callee P w K mg base VI k x ps (Wz K (TbJ L) S)) (fni:∀(f:Nat) x S,fi[f]?=QJ x->FI[f]?=QJ S->∃ps,Callee P w K mg base VI ki x ps (Wz K (TbJ L) S)) (kl:kf<=k/\kf<=ki)
  (ho:Callee P w K mg base VI k tb pst (Wy P w K mg base L (ki+1) SF)) (hbd:aR st=[.Return (QJ (.Call (.Name tb p1) (e0::(es++[.Lambda params body scope pos])) [] p2)) p3]) (VC:∀Φ ts P',SG Φ ts P'->ts.length+1=ps.length)
  (hw:∀Φ a ts P',SG Φ ts P'->Xk (FT++[Xd [] Φ a]) (FI++[Xd [] Φ a]) GT l js ci VU.length N'.length SF (Wf N.length (ts++[.obj (.fn a)])) P'):FnOk P w K mg base VI (k+1) f fd ps (Wy P w K mg base L kf SG):=by
 refine M.F.okT M.cd M.sc (λ vs H Q E ⟨F,a,ts,vs',D,Φ,P',e,wd,fv,r,s,_⟩=>by rw[e,aK,<- r.length];exact VC _ _ _ s) (λ A outer s H vs Q E hr h=>?_);obtain⟨F1,a,ts,vs',D,Φ,P',rfl,wd,fv,r,sp,hf,fin⟩:=h;have no:∀ {k:Nat}(x:Str) (S:Vv->Vv),([]:List (Str×(Vv->Vv))).lookup x=QJ S->∃ps,Callee P w K mg base VI k x ps (Wy P w K mg base L kf S):=λ _ _ z=>by cases z
 rw[hbd];refine⟨_,yO M (.of1 m hl fns kl.1 no hf) (.of1 m hl' fni kl.2 no hf) hr ho,F1,Wf N.length (ts++[.obj (.fn a)]),(Zn wd (r.rq.app (.cons (show Rq K F1 H (.obj (.fn a)) (.ref a) from ⟨O,fv⟩) .nil))).ev,?_⟩;exact cj l (λ ts ⟨hn,caps,Φ',P'',hc,co,sf,hw,q⟩=>⟨hn,caps,Φ',P'',hc,co,sf,hw,λ t pt F' H' v g r=>fin t (q t pt) F' H' v g r⟩) (hw Φ a ts P' sp)
theorem yP(code:Ct)(oc:Option (Cd×Ct))(M:MkI K mg base L x tb ql st f c T fd N ps VU N' js params body scope pos gs fs fi l ci (e0::es))(m:MOk P w K mg (TbJ L) GT gs)(hl:fs.length=FT.length)(hl':fi.length=FI.length)
  (fns:∀(f:Nat) x S,fs[f]?=QJ x->FT[f]?=QJ S->∃ps,Callee P w K mg base VI k x ps (Wz K (TbJ L) S)) (fni:∀(f:Nat) x S,fi[f]?=QJ x->FI[f]?=QJ S->∃ps,Callee P w K mg base VI ki x ps (Wz K (TbJ L) S))
  (ho:Callee P w K mg base VI k tb pst (Wy P w K mg base L (ki+1) SF))
  (hbd:aR st=pre++(match oc with|none=>[.Return (QJ (.Call (.Name tb p1) (e0::(es++[.Lambda params body scope pos])) [] p2)) p3]|some _=>.If cnd [.Return (QJ (.Call (.Name tb p1) (e0::(es++[.Lambda params body scope pos])) [] p2)) p3] [] p4::post))
  (ck1:bH fs gs N (aI st).names QK code pre=QK) (ck2:match oc with|none=>True|some q=>tB' q.1 cnd=QK/\ck fs gs q.1 N (aI st).names cnd=QK/\bH fs gs N (aI st).names QK q.2 post=QK) (VC:∀ts Q,S ts Q->ts.length=ps.length)
  (hw:∀ts Q,S ts Q->wS FT GT code (Wf N.length ts) (λ ρ=>match oc with|none=>Xk FT FI GT l js ci VU.length N'.length SF ρ Q|some q=>wE FT GT q.1 ρ λ t=>b1 t λ b=>if b=QK then Xk FT FI GT l js ci VU.length N'.length SF ρ Q else wS FT GT q.2 ρ (λ _=>Q .non) Q) Q):FnOk P w K mg base VI (k+1) f fd ps (Wz K (TbJ L) S):=by
 refine M.F.okT M.cd M.sc (λ vs H Q E ⟨F1,ts,P1,wd,r,s,_⟩=>by rw[<- r.length];exact VC _ _ s) (λ A outer s H vs Q E hr h=>?_);obtain⟨F1,ts,P1,wd,r,sp,fin⟩:=h
 have nl:vs.length<=N.length:=by
  have z:=bO RO M.sc.pre;rw[bh] at z;have:=VC _ _ sp;rw[<- r.length];lia
 have xf:XF P w K mg base (JH L λ _=>QM) FT GT fs gs k:=.of0 m hl fns;have hrow:=yO (E:=E) (H:=H) (s:=s) (A:=A) (outer:=outer) (p1:=p1) (p2:=p2) (p3:=p3) M xf (.of0 m hl' fni) hr ho;have yo:b9 (eO VI P w K mg base N x (aI st) f (.ref c) A outer s H E).nox (JH L λ _=>QM) FT GT fs gs N (aI st).names QK:=⟨xf.fn hr,⟨rfl,rfl⟩,M.sc.nd,λ _ _=>rfl,λ _=>s0d⟩;have h1:=sS (F0:=F1) (H0:=H) (PN:=[]) code (lp:=QK) yo ck1
 have sl:(VF N vs).length=N.length:=by
  unfold VF;rw[aK,ag,dO];show vs.length+(N.length-vs.length)=N.length;lia
 have wd0:Wd (JH L λ _=>QM) F1 H:=⟨⟨wd.j,λ _ _ _ _ e=>nomatch e⟩,wd.d⟩
 have end_:∀ {ρ:En}{F':Fz}{H':Hp}{σ':St},ER K (JH L λ _=>QM) F1 H [] F' H' σ' ρ->Xk FT FI GT l js ci VU.length N'.length SF ρ P1->Xk FT FI GT l js ci VU.length N'.length SF ρ λ t=>∀F2 H2 v,Grow (JH L λ _=>QM) F' H' F2 H2->Rp K F2 H2 t v->Q v H2:=λ e z=>
  cj l (λ ts ⟨hn,caps,Φ',P'',hc,co,sf,hw,q⟩=>⟨hn,caps,Φ',P'',hc,co,sf,hw,λ t pt F' H' v g r=>fin t (q t pt) F' H' v (e.gr.trans g).tb r⟩) z
 rw[hbd]
 cases oc with
 |none=>
  refine⟨_,yK h1 hrow,F1,Wf N.length ts,Zl wd0 r,sl,?_⟩;exact bK code (λ ρ' q F' H' σ' e _=>⟨F',ρ',e.ev,end_ e q⟩) (λ t q F' H' v g r=>fin t q F' H' v g.tb r) (hw ts P1 sp)
 |some q=>
  obtain⟨cd,pc⟩:=q;obtain⟨c1,c2,c3⟩:=ck2;have h3:=sS (F0:=F1) (H0:=H) (PN:=[]) pc (lp:=QK) yo c3;refine⟨_,yK h1 (eN (vH (pos:=p4) (sT cd yo.xo yo.xs c1 c2) hrow pss_nil) h3),F1,Wf N.length ts,Zl wd0 r,sl,?_⟩;refine bK code (λ ρ' q F' H' σ' e s2=>⟨F',ρ',e.ev,au cd (λ t w=>dn (λ b w F2 H2 g=>?_) w) q⟩) (λ t q F' H' v g r=>fin t q F' H' v g.tb r) (hw ts P1 sp)
  cases b with
  |true=>exact⟨F2,ρ',(e.grow g).ev,end_ (e.grow g) w⟩
  |false=>exact⟨F2,ρ',e.grow g,s2,bK pc (λ ρ2 q F3 H3 σ3 e3 _=>fin .non q F3 H3 .non e3.gr.tb rfl) (λ t q F3 H3 v g3 r=>fin t q F3 H3 v g3.tb r) w⟩
end
structure Zo where
 tb:Str
 e:Expr
 es:List Expr
 a:RN
 b:Expr
 s:Scope
 p:Pos
 p1:Pos
 p2:Pos
 p3:Pos
def Wg(st:Ra):Zo:=match st with
 | .Return (QJ (.Call (.Name tb p1) (e::r) [] p2)) p3=>(match r.getLast? with
  |some (.Lambda a b s p)=>⟨tb,e,r.dropLast,a,b,s,p,p1,p2,p3⟩
  |_=>⟨tb,e,[],ip (.Pass ⟨0,0,0,0⟩),e,aI (.Pass ⟨0,0,0,0⟩),p1,p1,p1,p1⟩)
 |_=>⟨"",.Name "" ⟨0,0,0,0⟩,[],ip (.Pass ⟨0,0,0,0⟩),.Name "" ⟨0,0,0,0⟩,aI (.Pass ⟨0,0,0,0⟩),⟨0,0,0,0⟩,⟨0,0,0,0⟩,⟨0,0,0,0⟩,⟨0,0,0,0⟩⟩
abbrev Zp(r:Zo):Ra:=.Return (QJ (.Call (.Name r.tb r.p1) (r.e::(r.es++[.Lambda r.a r.b r.s r.p])) [] r.p2)) r.p3
def WS(i:Nat)(st:Ra):Expr×Ra×Pos:=match (aR st)[i]? with
 |some (.If c [r] [] p)=>(c,r,p)
 |_=>(.Name "" ⟨0,0,0,0⟩,.Pass ⟨0,0,0,0⟩,⟨0,0,0,0⟩)
def d6(sc:Scope)(N VU:List Str):Bool:=decide (sc.kind=.function/\sc.isCoroutine=QL/\sc.isGenerator=QL/\N.Nodup/\N.take (VU++WA sc.names).length=VU++WA sc.names/\(∀x∈VU,sc.names.lookup x=QJ .local\/sc.names.lookup x=QJ .cell)/\(∀x∈WA sc.names,sc.names.lookup x=QJ .free)/\(∀y∈sc.names,y.2=.free->y.1∈WA sc.names)/\∀x∈WA sc.names,∀y∈sc.names,y.2=.cell->y.1≠x)
def JX(h:d6 sc N VU=QK):VW N VU (WA sc.names) sc:=let h:=aD h;⟨h.1,h.2.1,h.2.2.1,h.2.2.2.1,h.2.2.2.2.1,h.2.2.2.2.2.1,h.2.2.2.2.2.2.1,h.2.2.2.2.2.2.2.1,h.2.2.2.2.2.2.2.2⟩
abbrev d9(D:List DR)(GT:List TV)(gs:List Str)(j:Nat)(HC:List (Str×(Vv->Vv)))(st:Ra)(N:List Str)(n p:Nat)(SF:Vv->Vv)(c:Ct):Prop:=(bH (Wv D j) gs N (aI st).names QK c (aR st)&&Ya (aI st) (N.take p) N&&decide (p<=N.length/\N.length=n))=QK/\∀Φ a ts P',SF Φ ts P'->ts.length+1=p/\wS (Wr D j++[Xd HC Φ a]) GT c (Wf n (ts++[.obj (.fn a)])) (λ _=>P' .non) P'
abbrev e6(D:List DR)(GT:List TV)(gs:List Str)(j:Nat)(HC:List (Str×(Vv->Vv)))(x:Str)(st:Ra)(N:List Str)(n p:Nat)(SS:Nat->Vv->Vv)(c:Ct):Prop:=(bH (Wv D j) gs N (aI st).names QK c (aR st)&&Ya (aI st) (N.take p) N&&decide (p<=N.length/\N.length=n))=QK/\(∀Φ ts P',¬SS 0 Φ ts P')/\∀d Φ a ts P',SS (d+1) Φ ts P'->ts.length+1=p/\wS (Wr D j++[Xd ((x,SS d)::HC) Φ a]) GT c (Wf n (ts++[.obj (.fn a)])) (λ _=>P' .non) P'
def Yt(D:List DR)(gs:List Str)(j jj:Nat)(st:Ra)(r:Zo)(N N' VU:List Str)(js:List Nat)(n n2 p:Nat)(l i:Cd):Bool:=Ya (aI st) (N.take p) N&&d6 r.s N' VU&&ckL (Wv D j) gs l N (aI st).names (r.e::r.es)&&ck (Wv D jj) gs i N' r.s.names r.b&&decide ((p<=N.length/\N.length=n/\N'.length=n2)/\(aI st).names.lookup r.tb=QJ .globalImplicit/\(r.tb == ("__debug__" : Str))=QL/\js.map (λ j=>N[j]?)=(WA r.s.names).map QJ/\(∀n∈WA r.s.names,(aI st).names.lookup n=QJ .cell)/\(WA r.s.names).Nodup)
abbrev e7(D:List DR)(GT:List TV)(gs:List Str)(jj j:Nat)(st:Ra)(N N' VU:List Str)(js:List Nat)(n n2 p:Nat)(SF SG:Vv->Vv)(l i:Cd):Prop:=Yt D gs j jj st (Wg ((aR st).headD (.Pass ⟨0,0,0,0⟩))) N N' VU js n n2 p l i=QK/\∀Φ a ts P',SG Φ ts P'->ts.length+1=p/\Xk (Wr D j++[Xd [] Φ a]) (Wr D jj++[Xd [] Φ a]) GT l js i VU.length n2 SF (Wf n (ts++[.obj (.fn a)])) P'
abbrev e8(D:List DR)(GT:List TV)(gs:List Str)(jj j:Nat)(st:Ra)(N N' VU:List Str)(js:List Nat)(n n2 p:Nat)(SF:Vv->Vv)(S:Vv)(c:Ct)(l i:Cd):Prop:=(Yt D gs j jj st (Wg ((aR st).getLastD (.Pass ⟨0,0,0,0⟩))) N N' VU js n n2 p l i&&bH (Wv D j) gs N (aI st).names QK c (aR st).dropLast)=QK/\∀ts Q,S ts Q->ts.length=p/\wS (Wr D j) GT c (Wf n ts) (λ ρ=>Xk (Wr D j) (Wr D jj) GT l js i VU.length n2 SF ρ Q) Q
abbrev e9(D:List DR)(GT:List TV)(gs:List Str)(jj j m:Nat)(st:Ra)(N N' VU:List Str)(js:List Nat)(n n2 p:Nat)(SF:Vv->Vv)(S:Vv)(c:Ct)(l i q:Cd)(c':Ct):Prop:=(Yt D gs j jj st (Wg (WS m st).2.1) N N' VU js n n2 p l i&&bH (Wv D j) gs N (aI st).names QK c ((aR st).take m)&&tB' q (WS m st).1&&ck (Wv D j) gs q N (aI st).names (WS m st).1&&bH (Wv D j) gs N (aI st).names QK c' ((aR st).drop (m+1)))=QK/\∀ts Q,S ts Q->ts.length=p/\wS (Wr D j) GT c (Wf n ts) (λ ρ=>wE (Wr D j) GT q ρ λ t=>b1 t λ b=>if b=QK then Xk (Wr D j) (Wr D jj) GT l js i VU.length n2 SF ρ Q else wS (Wr D j) GT c' ρ (λ _=>Q .non) Q) Q
section
variable {P:QX}{w:QY}{K:FG}{mg:SV}{base:Re}{L:List (QO×Pos×Str)}{GT:List TV}{gs:List Str}{D:List DR}{j jj kf n n2 p d m:Nat}{x ql:Str}{N N' VU pst:List Str}{js:List Nat}{st:Ra}{S:Vv}{SF SG:Vv->Vv}{SS:Nat->Vv->Vv}{HC:List (Str×(Vv->Vv))}{code code':Ct}{l i q:Cd}{f c T:QO}{fd:Rn}
def CM.fn(C:CM P w K mg base (TbJ L) GT gs D j)(g:Gx K x st)(z:d9 D GT gs j HC st N n p SF code)(kl:kf<=j)(hc:∀x S,HC.lookup x=QJ S->∃ps,Callee P w K mg base VI j x ps (Wy P w K mg base L kf S))(b:autoParam (Bds x st (N.take p) p) A2._auto_1):Callee P w K mg base VI (j+1) x (N.take p) (Wy P w K mg base L kf SF):=by
 obtain⟨z1,z2⟩:=z;simp only[bj,cB] at z1;obtain⟨⟨k1,k2⟩,k3,rfl⟩:=z1;obtain⟨f,fd,gf⟩:=g;exact Callee.mk' gf.F (C.hm gf.a) (b.ok k3 f fd gf.F) (yM code gf.F (lN k2) C.m (gx j) C.c.fns kl hc k1 (λ Φ ts P' h=>by rw[(z2 Φ 0 ts P' h).1,bh,gq k3]) λ Φ a ts P' h=>(z2 Φ a ts P' h).2)
def CM.fr(C:CM P w K mg base (TbJ L) GT gs D j)(g:Gx K x st)(z:e6 D GT gs j HC x st N n p SS code)(kl:kf<=j)(hc:∀x S,HC.lookup x=QJ S->∃ps,Callee P w K mg base VI j x ps (Wy P w K mg base L kf S))(b:autoParam (Bds x st (N.take p) p) A2._auto_1):∀d,Callee P w K mg base VI (j+1+d) x (N.take p) (Wy P w K mg base L kf (SS d)):=by
 obtain⟨z1,z0,z2⟩:=z;simp only[bj,cB] at z1;obtain⟨⟨k1,k2⟩,k3,rfl⟩:=z1;obtain⟨f,fd,gf⟩:=g;intro d
 induction d with
 |zero=>exact Callee.mk' gf.F (C.hm gf.a) (b.ok k3 f fd gf.F) ⟨λ vs H Q E ⟨_,_,ts,_,_,Φ,_,_,_,_,_,s,_⟩=>(z0 Φ ts _ s).elim,λ A outer s H args us vs Q E h1 h2 h3 h4 ⟨_,_,ts,_,_,Φ,_,_,_,_,_,s,_⟩=>(z0 Φ ts _ s).elim⟩
 |succ d ih=>
  refine Callee.mk' gf.F (C.hm gf.a) (b.ok k3 f fd gf.F) (yM (k:=j+1+d) (HC:=(x,SS d)::HC) code gf.F (lN k2) C.m (gx j) (λ i y S h1 h2=>let ⟨ps,c⟩:=C.c.fns i y S h1 h2;⟨ps,c.mono ca⟩) ca (λ y S e=>?_) k1 (λ Φ ts P' h=>by rw[(z2 d Φ 0 ts P' h).1,bh,gq k3]) λ Φ a ts P' h=>(z2 d Φ a ts P' h).2);rw[eh] at e;split at e
  .rename_i h;cases e;cases iU h;exact⟨_,ih⟩
  .obtain⟨ps,c⟩:=hc y S e;exact⟨ps,c.mono ca⟩
theorem MkI.of(z:Yt D gs j jj st r N N' VU js n n2 p l i=QK)(t:WB K x st f fd c T)(TF:Wm base mg c T)(mT:(T,r.p,ql)∈L)(nd:(L.map (·.1)).Nodup)(df:∀env,Sj r.a env=([],[]))(hq:∀n f cd,(RG x (aI st) n f cd).qual ++ "<lambda>"=ql)
  (hb:∀(cl:LA) (c':QO) (pm ctv:Value),jY VU.length λ us=>RU (kla_fn "<lambda>" ql r.a r.b r.s cl pm (.ref c') ctv) ⟨us,[]⟩=Rj (VU.zip us)):p<=N.length/\N.length=n/\N'.length=n2/\MkI K mg base L x r.tb ql st f c T fd N (N.take p) VU N' js r.a r.b r.s r.p gs (Wv D j) (Wv D jj) l i (r.e::r.es):=by
 simp only[Yt,bj,cB] at z;obtain⟨⟨⟨⟨k1,k2⟩,k3⟩,k4⟩,⟨k5,k6,k7⟩,h1,h2,h3,h4,h5⟩:=z;exact⟨k5,k6,k7,t.F,t.hc,TF,mT,nd,lN k1,h1,h2,JX k2,h3,h4,h5,df,hq,λ cl c' pm ctv us hl=>ud (hb cl c' pm ctv) us hl,k3,k4⟩
theorem CM.fh(C:CM P w K mg base (TbJ L) GT gs D j)(t:WB K x st f fd c T)(TF:Wm base mg c T)(mT:(T,(Wg ((aR st).headD (.Pass ⟨0,0,0,0⟩))).p,ql)∈L)(nd:(L.map (·.1)).Nodup)(z:e7 D GT gs jj j st N N' VU js n n2 p SF SG l i)(ho:Callee P w K mg base VI j (Wg ((aR st).headD (.Pass ⟨0,0,0,0⟩))).tb pst (Wy P w K mg base L (jj+1) SF))(jl:jj<=j/\kf<=jj)
  (b:autoParam (Bds x st (N.take p) p) A2._auto_1) (df:autoParam (∀env,Sj (Wg ((aR st).headD (.Pass ⟨0,0,0,0⟩))).a env=([],[])) A7._auto_1) (hq:autoParam (∀n f cd,(RG x (aI st) n f cd).qual ++ "<lambda>"=ql) A5._auto_1) (hbd:autoParam (aR st=[Zp (Wg ((aR st).headD (.Pass ⟨0,0,0,0⟩)))]) A6._auto_1)
  (hb:autoParam (∀(cl:LA) (c':QO) (pm ctv:Value),jY VU.length λ us=>RU (kla_fn "<lambda>" ql (Wg ((aR st).headD (.Pass ⟨0,0,0,0⟩))).a (Wg ((aR st).headD (.Pass ⟨0,0,0,0⟩))).b (Wg ((aR st).headD (.Pass ⟨0,0,0,0⟩))).s cl pm (.ref c') ctv) ⟨us,[]⟩=Rj (VU.zip us)) A2._auto_1):Callee P w K mg base VI (j+1) x (N.take p) (Wy P w K mg base L kf SG):=by
 obtain⟨z1,z2⟩:=z;obtain⟨k3,rfl,rfl,M⟩:=MkI.of z1 t TF mT nd df hq hb;exact Callee.mk' t.F (C.hm t.a) (b.ok k3 f fd t.F) (JW (k:=j) (ki:=jj) (HC:=[]) M C.m (gx j) (gx jj) C.c.fns (C.c.to jl.1).fns ⟨ca,jl.2⟩ ho hbd (λ Φ ts P' h=>by rw[(z2 Φ 0 ts P' h).1,bh,gq k3]) λ Φ a ts P' h=>(z2 Φ a ts P' h).2)
theorem CM.ml(C:CM P w K mg base (TbJ L) GT gs D j)(t:WB K x st f fd c T)(TF:Wm base mg c T)(mT:(T,(Wg ((aR st).getLastD (.Pass ⟨0,0,0,0⟩))).p,ql)∈L)(nd:(L.map (·.1)).Nodup)(z:e8 D GT gs jj j st N N' VU js n n2 p SF S code l i)(ho:Callee P w K mg base VI j (Wg ((aR st).getLastD (.Pass ⟨0,0,0,0⟩))).tb pst (Wy P w K mg base L (jj+1) SF))(jl:jj<=j)(e:autoParam (D[j]?=QJ (x,N.take p,S)) A8._auto_1)
  (b:autoParam (Bds x st (N.take p) p) A2._auto_1) (df:autoParam (∀env,Sj (Wg ((aR st).getLastD (.Pass ⟨0,0,0,0⟩))).a env=([],[])) A7._auto_1) (hq:autoParam (∀n f cd,(RG x (aI st) n f cd).qual ++ "<lambda>"=ql) A5._auto_1) (hbd:autoParam (aR st=(aR st).dropLast++[Zp (Wg ((aR st).getLastD (.Pass ⟨0,0,0,0⟩)))]) A6._auto_1)
  (hb:autoParam (∀(cl:LA) (c':QO) (pm ctv:Value),jY VU.length λ us=>RU (kla_fn "<lambda>" ql (Wg ((aR st).getLastD (.Pass ⟨0,0,0,0⟩))).a (Wg ((aR st).getLastD (.Pass ⟨0,0,0,0⟩))).b (Wg ((aR st).getLastD (.Pass ⟨0,0,0,0⟩))).s cl pm (.ref c') ctv) ⟨us,[]⟩=Rj (VU.zip us)) A2._auto_1):CM P w K mg base (TbJ L) GT gs D (j+1):=by
 obtain⟨z1,z2⟩:=z;obtain⟨z1,z3⟩:=an z1;obtain⟨k3,rfl,rfl,M⟩:=MkI.of z1 t TF mT nd df hq hb;refine⟨C.c.fn C.hm e t.toGl' (b.ok k3) (yP (cnd:=.Name "" ⟨0,0,0,0⟩) (post:=[]) (p4:=⟨0,0,0,0⟩) code QM M C.m (gx j) (gx jj) C.c.fns (C.c.to jl).fns ho hbd z3 trivial (λ ts Q h=>by rw[(z2 ts Q h).1,bh,gq k3]) λ ts Q h=>(z2 ts Q h).2),C.m,C.hm⟩
theorem CM.mm(C:CM P w K mg base (TbJ L) GT gs D j)(t:WB K x st f fd c T)(TF:Wm base mg c T)(mT:(T,(Wg (WS m st).2.1).p,ql)∈L)(nd:(L.map (·.1)).Nodup)(z:e9 D GT gs jj j m st N N' VU js n n2 p SF S code l i q code')(ho:Callee P w K mg base VI j (Wg (WS m st).2.1).tb pst (Wy P w K mg base L (jj+1) SF))(jl:jj<=j)(e:autoParam (D[j]?=QJ (x,N.take p,S)) A8._auto_1)
  (b:autoParam (Bds x st (N.take p) p) A2._auto_1) (df:autoParam (∀env,Sj (Wg (WS m st).2.1).a env=([],[])) A7._auto_1) (hq:autoParam (∀n f cd,(RG x (aI st) n f cd).qual ++ "<lambda>"=ql) A5._auto_1) (hbd:autoParam (aR st=(aR st).take m++.If (WS m st).1 [Zp (Wg (WS m st).2.1)] [] (WS m st).2.2::(aR st).drop (m+1)) A6._auto_1)
  (hb:autoParam (∀(cl:LA) (c':QO) (pm ctv:Value),jY VU.length λ us=>RU (kla_fn "<lambda>" ql (Wg (WS m st).2.1).a (Wg (WS m st).2.1).b (Wg (WS m st).2.1).s cl pm (.ref c') ctv) ⟨us,[]⟩=Rj (VU.zip us)) A2._auto_1):CM P w K mg base (TbJ L) GT gs D (j+1):=by
 obtain⟨z1,z2⟩:=z;obtain⟨z1,z3,z4,z5,z6⟩:=a5 z1;obtain⟨k3,rfl,rfl,M⟩:=MkI.of z1 t TF mT nd df hq hb;refine⟨C.c.fn C.hm e t.toGl' (b.ok k3) (yP code (QJ (q,code')) M C.m (gx j) (gx jj) C.c.fns (C.c.to jl).fns ho hbd z3 ⟨z4,z5,z6⟩ (λ ts Q h=>by rw[(z2 ts Q h).1,bh,gq k3]) λ ts Q h=>(z2 ts Q h).2),C.m,C.hm⟩
def CM.pad{i0:Nat}{S0:Vv}{z:DR}(C:CM P w K mg base J GT gs D j)(m:Nat)(hz:∀ts Q,¬z.2.2 ts Q)(i1:i0<j)(e0:D[i0]?=QJ (z.1,z.2.1,S0))(e:D.drop j=QT m z++D.drop (j+m)):CM P w K mg base J GT gs D (j+m):=by
 refine⟨λ i hi y ps' S' h=>?_,C.m,C.hm⟩;by_cases c:i<j
 .exact C.c i c y ps' S' h
 .have h2:(D.drop j)[i-j]?=QJ (y,ps',S'):=by rw[List.getElem?_drop,show j+(i-j)=i by lia];exact h
  rw[e,cx (by rw[dO];lia),dH,m7 ca] at h2;cases h2;exact((C.c i0 i1 _ _ S0 e0).imp λ vs H Q E ⟨_,_,_,_,_,s,_⟩=>(hz _ _ s).elim).mono ca
def hc0:∀x S,([]:List (Str×(Vv->Vv))).lookup x=QJ S->∃ps,Callee P w K mg base VI j x ps (Wy P w K mg base L kf S):=λ _ _ e=>by cases e
def hc1(h:Callee P w K mg base VI j x0 ps0 (Wy P w K mg base L kf S0)):∀x S,[(x0,S0)].lookup x=QJ S->∃ps,Callee P w K mg base VI j x ps (Wy P w K mg base L kf S):=λ x S e=>by
 rw[eh] at e;split at e
 .rename_i h1;cases e;cases iU h1;exact⟨_,h⟩
 .cases e
end
section
variable {P:QX}{w:QY}{K:FG}{mg:SV}{base:Re}{L:List (QO×Pos×Str)}{D:Hp}{F F' F1 F2 F3:Fz}{H H' H1 H2 H3 H4:Hp}{FT FI:List Vv}{GT:List TV}{fs fi gs:List Str}{k ki:Nat}{cl:LA}{vcs:List V}{caps:List TV}{Φ:Vv}
end
section
variable {P:QX}{w:QY}{K:FG}{mg:SV}{base:Re}{L:List (QO×Pos×Str)}{FT FI:List Vv}{GT:List TV}{fs fi gs:List Str}{k ki i:Nat}{x tb ql nn:Str}{st:Ra}{f c T:QO}{fd:Rn}{N ps pst N' VU:List Str}{js:List Nat}{S:Vv}{SF:Vv->Vv}{params:RN}{scope:Scope}{body:List Ra}{e0:Expr}{es:List Expr}{pos p1 p2 p3 p4:Pos}{l:Cd}{ci:Ct}
end
section
variable {P:QX}{w:QY}{K:FG}{mg:SV}{base:Re}{L:List (QO×Pos×Str)}{GT:List TV}{gs:List Str}{D:List DR}{j jj kf n n2 p d m:Nat}{x ql:Str}{N N' VU pst:List Str}{js:List Nat}{st:Ra}{S:Vv}{SF SG:Vv->Vv}{SS:Nat->Vv->Vv}{HC:List (Str×(Vv->Vv))}{code code':Ct}{l i q:Cd}{f c T:QO}{fd:Rn}
end
abbrev f6(D:List DR)(GT:List TV)(gs:List Str)(j0:Nat)(x:Str)(st:Ra)(N:List Str)(n p:Nat)(SS:Nat->Vv)(c:Ct):Prop:=(bH (Wv D j0++[x]) gs N (aI st).names QK c (aR st)&&Ya (aI st) (N.take p) N&&decide (p<=N.length/\N.length=n))=QK/\(∀ts Q,¬SS 0 ts Q)/\∀d ts Q,SS (d+1) ts Q->ts.length=p/\wS (Wr D j0++[SS d]) GT c (Wf n ts) (λ _=>Q .non) Q
section
variable {P:QX}{w:QY}{K:FG}{mg:SV}{base:Re}{J:Hp->Prop}{GT:List TV}{gs:List Str}{D:List DR}{j0 m n p d:Nat}{x:Str}{N:List Str}{st:Ra}{SS:Nat->Vv}{code:Ct}
def CM.re(C:CM P w K mg base J GT gs D (j0+m))(C0:CM P w K mg base J GT gs D j0)(g:Gx K x st)(z:f6 D GT gs j0 x st N n p SS code)(dj:autoParam (d<=m) on._auto_1)(e:autoParam (D[j0+m]?=QJ (x,N.take p,SS d)) A8._auto_1)(b:autoParam (Bds x st (N.take p) p) A2._auto_1):CM P w K mg base J GT gs D (j0+m+1):=by
 obtain⟨z1,z0,z2⟩:=z;simp only[bj,cB] at z1;obtain⟨⟨k1,k2⟩,k3,rfl⟩:=z1;obtain⟨f,fd,gf⟩:=g;have lp:(N.take p).length=p:=by rw[bh,gq k3]
 have ll:(Wv D j0).length=(Wr D j0).length:=gx j0
 have all:∀d,Callee P w K mg base VI (j0+d+1) x (N.take p) (Wz K J (SS d)):=λ d=>by
  induction d with
  |zero=>exact Callee.mk' gf.F (C.hm gf.a) (b.ok k3 f fd gf.F) ⟨λ vs H Q E ⟨_,ts,_,_,_,s,_⟩=>(z0 ts _ s).elim,λ A outer s H args us vs Q E h1 h2 h3 h4 ⟨_,ts,_,_,_,s,_⟩=>(z0 ts _ s).elim⟩
  |succ d ih=>
   refine Callee.mk' gf.F (C.hm gf.a) (b.ok k3 f fd gf.F) (tW (fs:=Wv D j0++[x]) (FT:=Wr D j0++[SS d]) code gf.F (lN k2) C.m (by rw[aK,aK,ll];rfl) (λ i y S h1 h2=>?_) k1 (λ ts Q h=>by rw[(z2 d ts Q h).1,lp]) λ ts Q h=>(z2 d ts Q h).2);by_cases c:i<(Wv D j0).length
   .rw[cx c] at h1;rw[cx (by rw[<- ll];exact c)] at h2;obtain⟨ps,q⟩:=C0.c.fns i y S h1 h2;exact⟨ps,q.mono ca⟩
   .have e1:i=(Wv D j0).length:=by have:=(aN.mp h1).1;rw[aK] at this;have:i<(Wv D j0).length+1:=this;lia
    subst e1;rw[cu (ak _),gz] at h1;rw[cu ca,ll,gz] at h2;cases h1;cases h2;exact⟨_,ih⟩
 refine⟨C.c.s λ x' ps' S' e'=>?_,C.m,C.hm⟩;rw[e] at e';cases e';exact(all d).mono ca
end
end _L
namespace _M
set_option backward.match.sparseCases false
open PySem _L PyProof.Rows
open TV renaming int->m9,tup->n6,str->n9
noncomputable def formsL:List (Str×List (Str×Int)):=[("in",[("sides",1)]),("num",[("number",1)]),("count",[("small",2),("sides",1)]),("each",[("word",1),("step",2)]),("pair",[("word",1),("step",2),("step",3)]),("pick",[("step",1),("step",2),("step",3)]),("turn",[("step",1),("sides",2)]),("flip",[("step",1),("small",2)]),("cut",[("step",1),("small",2),("small",3),("small",4),("small",5)]),("spread",[("step",1),("small",2),("small",3)]),("lay",[("step",1),("sides",2)]),("join",[("step",1),("step",2),("small",3)]),("fetch",[("step",1),("step",2)]),("fold",[("word",1),("step",2),("small",3)]),("run",[("word",1),("step",2),("small",3)])]
def ug(K:FG):List (Str×Int)->List V->Prop
 |[],[]=>True
 |f::fs,x::xs=>(∃a,x=.ref a/\KTup K a [.str f.1,.int f.2])/\ug K fs xs
 |_,_=>False
def uh(K:FG):List (Str×List (Str×Int))->LA->Prop
 |[],[]=>True
 |f::fs,p::ps=>(p.1=f.1/\∃xs,KTup K p.2 xs/\ug K f.2 xs)/\uh K fs ps
 |_,_=>False
def yQ(P:QX)(w:QY)(K:FG)(d:QO):Prop:=∃kvs,KTab P w K d kvs/\uh K formsL kvs
def nJ{K:FG}{sl:AV}(h:K.lookup a=QJ ⟨.type "tuple",QM,.seq its n,sl⟩)(z:its.size<=QR)(v:Vals xs its.toList):KTup K a xs:=⟨_,its,n,h,rfl,rfl,rfl,z,v⟩
noncomputable def af(ns:LI):Int:=ns.foldl (λ a b=>a*b) 1
def nK{ns:LI}{i:Nat}(h:ns[i]?=QJ x):af (ns.take (i+1))=af (ns.take i)*x:=by
 unfold af;rw[gA,h,iD];rfl
def cD(ns:LI):Prop:=∀n∈ns,0<=n/\n<1000000000000000000
def ao(n:Int):Int:=if n=0 then 1 else n
def yR(h:cD ns):cD (ns.map ao):=by
 intro n hn;obtain⟨m,hm,rfl⟩:=bn.mp hn;have:=h m hm;unfold ao;split<;>lia
def Yb(ns:LI)(j:Nat):Int:=af (ns.reverse.take j)
def Xl(ns:LI)(i:Nat):LI:=(QW i).map (Yb ns)
def JY(ns:LI)(i:Nat):Xl ns (i+1)=Xl ns i++[Yb ns i]:=by
 unfold Xl;rw[nL,bD];rfl
def JZ{ns:LI}{i:Nat}(hi:i<ns.length)(h:ns[ns.length-1-i]?=QJ m):Yb ns (i+1)=Yb ns i*m:=by
 unfold Yb;exact nK (by rw[mY hi];exact h)
def du(ns:LI):Prop:=6<ns.length\/512<af (ns.map ao)
def Ka(xs:LI)(y:Int):af (xs++[y])=af xs*y:=by unfold af;rw[iD];rfl
def Kb(xs:LI):∀a:Int,xs.foldl (λ a b=>a*b) a=a*af xs:=by
 induction xs with
 |nil=>intro a;show a=a*1;rw[mD]
 |cons x xs ih=>intro a;show xs.foldl (λ a b=>a*b) (a*x)=a*(xs.foldl (λ a b=>a*b) (1*x));rw[ih,ih (1*x),jZ,nM]
def bU(x:Int)(xs:LI):af (x::xs)=x*af xs:=by
 show xs.foldl (λ a b=>a*b) (1*x)=_;rw[Kb,jZ]
def Kc{ns:LI}(h:∀n∈ns,0<=n):0<=af ns:=by
 induction ns with
 |nil=>decide
 |cons x xs ih=>rw[bU];exact qq (h x (bc ..)) (ih λ n hn=>h n (bg _ hn))
def eV(n:Nat):LI:=QT n 0
def qr(n:Nat):(eV n).length=n:=dO ..
def fit(ns:LI):Prop:=(∀n∈ns,0<=n/\n<=512)/\ns.length<=6/\1<=af (ns.map ao)/\af (ns.map ao)<=512
def grow(ns:LI)(free:Int)(i:Nat):Prop:=(∀n∈ns,0<=n/\n<=512)/\ns.length=i/\1<=free/\free<=512/\1<=af (ns.map ao)/\free*af (ns.map ao)<=512
def Wl(ns:LI)(side:Int):Prop:=side<0\/(ns.length:Int)<=side
def XB(ns:LI)(side first many step:Int):Prop:=first<0\/many<0\/step<1\/(0<many/\ns.getD side.toNat 0<=first+(many-1)*step)
def dU(h:¬Wl ns side):∃k:Nat,side=k/\k<ns.length:=by
 unfold Wl at h;exact⟨side.toNat,ca,ca⟩
instance (ns:LI):Decidable (du ns):=by unfold du;infer_instance
def Yc(x y:LI):Prop:=∀k:Nat,k<x.length->k<y.length->x[k]?=y[k]?
def Kd(x:LI):Yc x x:=λ _ _ _=>rfl
def yS(h:Yc x y):Yc y x:=λ k a b=>(h k b a).symm
def um{x y:LI}(h:x.length<=y.length):Yc x y ↔ y.take x.length=x:=by
 constructor
 .intro a;apply qt;intro k;by_cases c:k<x.length
  .rw[oW c];exact(a k c ca).symm
  .rw[eI (by rw[bh];lia),eI ca]
 .intro e k hx hy;have z:=bO (λ l=>l[k]?) e;simp only[oW hx] at z;exact z.symm
def cG(x y:LI):Prop:=if y.length<x.length then x.take y.length=y else y.take x.length=x
def bV(x y:LI):LI:=if y.length<x.length then x else y
def yT(x y:LI):cG x y ↔ Yc x y:=by
 unfold cG;split
 .rename_i h;exact(um ca).symm.trans ⟨yS,yS⟩
 .rename_i h;exact(um ca).symm
def Kf(h:Yc x y)(l:x.length=y.length):x=y:=by
 have z:=(um (x:=x) (y:=y) ca).mp h;rw[l,bG] at z;exact z.symm
def tups(H:Hp)(ps:List QO)(L:LL):Prop:=ps.length=L.length/\∀(i:Nat) p m,ps[i]?=QJ p->L[i]?=QJ m->H p=QJ (.tup (m.map V.int))
def sm(ns:LI):Prop:=∀n∈ns,0<=n/\n<=1000000
def Kg(h:sm ns):cD ns:=λ n hn=>by have:=h n hn;lia
noncomputable def gB(ns ms:LI)(side:Int):LI:=ns.set side.toNat (ns.getD side.toNat 0+ms.getD side.toNat 0)
def eW{n k:Nat}(h:k<n):Xb n (k:Int)=QJ k:=by unfold Xb;rw[m7 ca];simp;lia
def getD_mem{ns:LI}{k:Nat}(h:k<ns.length):ns.getD k 0∈ns:=by rw[aA,aL h];exact lw h
def yU(a:LI):∀b:LI,af (a++b)=af a*af b:=by
 induction a with
 |nil=>intro b;show af b=1*af b;rw[jZ]
 |cons x a ih=>intro b;rw[nc,bU,bU,ih,nM]
def nN(n:Int):Int:=if n%17=5 then [(-9223372036854775808:Int),9223372036854775807,-1,4611686018427387904].getD (n/17%4).toNat 0 else (n+9223372036854775808)%18446744073709551616-9223372036854775808
theorem qu:∀ {ns:LI},(∀n∈ns,0<=n)->0<=af ns/\af ns<=af (ns.map ao)
 |[],_=>by decide
 |n::ns,h=>by
  obtain⟨i0,i1⟩:=qu (ns:=ns) λ m hm=>h m (bg _ hm);have n0:=h n bc;rw[dg,bU,bU];have o:n<=ao n/\0<=ao n:=by unfold ao;split<;>lia
  exact⟨qq n0 i0,qv o.1 i1 i0 o.2⟩
def Kh{ns:LI}{k:Nat}(hk:k<ns.length):ns[k]?=QJ (ns.getD k 0):=by rw[aA,aL hk];rfl
def ka(n:Int):Int:=(n+9223372036854775808)%18446744073709551616-9223372036854775808
def uo(x y:Int):Int:=if y=0 then 0 else ka (Int.fdiv x y)
def uq(x y:Int):Int:=if y=0 then x else Int.fmod x y
def yV(w:Str)(x y:Int):Int :=
 if w="add" then ka (x+y) else if w="sub" then ka (x-y) else if w="mul" then ka (x*y) else if w="quo" then uo x y else if w="rest" then uq x y
 else if w="max" then (if x<y then y else x) else if w="min" then (if y<x then y else x) else if w="less" then (if x<y then 1 else 0) else if w="like" then (if x=y then 1 else 0)
 else if w="and" then Builtin.bitAnd x y else if w="or" then Builtin.bitOr x y else Builtin.bitXor x y
def Xm(x:Int):Prop:=-9223372036854775808<=x/\x<9223372036854775808
def Ki(n:Int):Xm (nN n):=by
 unfold nN Xm;split
 .have h:n/17%4=0\/n/17%4=1\/n/17%4=2\/n/17%4=3:=by lia
  rcases h with h|h|h|h<;>rw[h]<;>exact⟨on,on⟩
 .lia
def yW(x:Int):Int:=if x<0 then -x else x
def yX(w:Str)(x:Int):Int:=if w="neg" then ka (-x) else if w="abs" then ka (yW x) else if w="sign" then (if x<0 then -1 else if 0<x then 1 else 0) else if x=0 then 1 else 0
noncomputable def nO:List Str:=["neg","abs","sign","not"]
noncomputable def nP:List Str:=["add","sub","mul","quo","rest","max","min","less","like","and","or","xor"]
def ur(h:cG x y):(bV x y).take x.length=x/\(bV x y).take y.length=y:=by
 unfold cG at h;unfold bV;split at h
 .rename_i c;rw[m7 c];exact⟨bG,h⟩
 .rename_i c;rw[k9 c];exact⟨h,bG⟩
noncomputable abbrev fw:List Str:=["add","mul","max","min","and","or","xor"]
def Yd(w:Str):Prop:=w∈fw
def dW(w:Str):Int:=if w="mul" then 1 else if w="max" then -9223372036854775808 else if w="min" then 9223372036854775807 else if w="and" then -1 else 0
def Kj:dW "add"=0:=by unfold dW;rw[k9 (by decide +kernel),k9 (by decide +kernel),k9 (by decide +kernel),k9 (by decide +kernel)]
def Kk:dW "mul"=1:=by unfold dW;rw[m7 rfl]
def Kl:dW "max"=-9223372036854775808:=by unfold dW;rw[k9 (by decide +kernel),m7 rfl]
def Km:dW "min"=9223372036854775807:=by unfold dW;rw[k9 (by decide +kernel),k9 (by decide +kernel),m7 rfl]
def Ko:dW "and"=-1:=by unfold dW;rw[k9 (by decide +kernel),k9 (by decide +kernel),k9 (by decide +kernel),m7 rfl]
def Kp:dW "or"=0:=by unfold dW;rw[k9 (by decide +kernel),k9 (by decide +kernel),k9 (by decide +kernel),k9 (by decide +kernel)]
def Kq:dW "xor"=0:=by unfold dW;rw[k9 (by decide +kernel),k9 (by decide +kernel),k9 (by decide +kernel),k9 (by decide +kernel)]
noncomputable def kinds:List Str:=["in","num","count","each","pair","pick","turn","flip","cut","spread","lay","join","fetch","fold","run"]
def bf(i:Nat):Str:=kinds.getD i ""
def Kr(fs:List (Str×Int)):LI:=fs.filterMap λ f=>if f.1=("step" : Str) then QJ f.2 else QM
def yY(i:Nat):LI:=Kr ((formsL.getD i ("",[])).2)
def kg(n:Nat)(os:LI):Prop:=os.Perm (VR n)
def up_mem{n:Nat}{x:Int}:x∈VR n ↔ 0<=x/\x<n:=by
 unfold VR;constructor
 .intro h;obtain⟨i,hi,rfl⟩:=bn.mp h;have:=hZ.mp hi;lia
 .intro h;exact bn.mpr ⟨x.toNat,hZ.mpr ca,ca⟩
def fQ(n:Nat):(VR n).length=n:=by simp[VR]
def Ks(n:Nat):(VR n).Pairwise (·<=·):=by
 unfold VR;rw[List.pairwise_map];exact List.Pairwise.imp (λ h=>by lia) (List.pairwise_lt_range (n:=n))
theorem yZ:∀ {l1 l2:LI},l1.Perm l2->l1.Pairwise (·<=·)->l2.Pairwise (·<=·)->l1=l2
 |[],l2,p,_,_=>(List.nil_perm.mp p).symm
 |a::l1,l2,p,h1,h2=>by
  cases l2 with
  |nil=>exact List.perm_nil.mp p
  |cons b l2=>
   obtain⟨a1,a2⟩:=nq.mp h1;obtain⟨b1,b2⟩:=nq.mp h2
   have ab:a<=b:=by
    rcases aH.mp (p.symm.subset (bc ..)) with e|e
    .lia
    .exact a1 b e
   have ba:b<=a:=by
    rcases aH.mp (p.subset (bc ..)) with e|e
    .lia
    .exact b1 a e
   have e:a=b:=ca;subst e;rw[yZ (List.perm_cons a |>.mp p) a2 b2]
def Kt{os ss:LI}(p:ss.Perm os)(s:ss.Pairwise (·<=·)):ss=VR n ↔ kg n os :=
 ⟨λ e=>p.symm.trans (by rw[e]),λ t=>yZ (p.trans t) s (Ks n)⟩
noncomputable def cq(ns os:LI):LI:=os.map λ k=>ns.getD k.toNat 0
noncomputable def bW(ns:LI)(k:Nat)(m:Int):LI:=ns.take k++[m]++ns.drop k
def lO(ns:LI)(side:Int):Prop:=side<0\/(ns.length:Int)<side
def zb(ns:LI)(k:Nat)(m:Int):(bW ns k m).length=ns.length+1:=by
 unfold bW;simp only[aK,bh,da,Rs,Uj];lia
def gZ{ns:LI}{k:Nat}(h:k<ns.length):ns.getD k 0∈ns:=by rw[aA,aL h];exact lw h
def jt{n:Int}(h:0<=n):1<=ao n:=by unfold ao;split<;>lia
def uu{n:Int}(h:0<=n):(if n > 1 then n else 1)=ao n:=by unfold ao;split<;>split<;>lia
def nQ{ns:LI}(h:∀n∈ns,0<=n):1<=af (ns.map ao):=by
 induction ns with
 |nil=>decide
 |cons n ns ih=>
  rw[dg,bU];have a:=jt (h n bc);have b:=ih λ m hm=>h m (bg _ hm);exact ju on (qv a b on ca)
def uv{r d:Int}(h1:1<=d)(h2:d<=r):1<=r/d:=by
 have:=Int.ediv_le_ediv (a:=d) (b:=r) (c:=d) ca h2;rw[Int.ediv_self ca] at this;exact this
def Ku{ss:LI}{k:Nat}{x:Int}(kl:k<ss.length):ss.take k++[x]++ss.drop (k+1)=ss.set k x:=by
 rw[uw,m7 kl,jK];rfl
def dD(h:fit ns):cD ns:=λ n hn=>by have:=h.1 n hn;exact⟨this.1,ca⟩
def qw(h:fit ns):¬du ns:=λ b=>b.elim (λ z=>by have:=h.2.1;lia) (λ z=>by have:=h.2.2.2;lia)
def Kv{cs:LI}{n:Nat}(h:cs.length=n):(QW n).map (λ i=>cs.getD i 0)=cs:=by
 subst h;apply qt;intro k;by_cases c:k<cs.length
 .rw[aW,iB c];exact(Kh c).symm
 .rw[eI (by simp;lia),eI ca]
def nR{a b:LI}(h:a.Perm b):af a=af b:=by
 induction h with
 |nil=>rfl
 |cons x _ ih=>rw[bU,bU,ih]
 |swap x y l=>rw[bU,bU,bU,bU,<- nM,<- nM,Ve x y]
 |trans _ _ h1 h2=>rw[h1,h2]
def ze{ns os:LI}(t:kg ns.length os):(cq ns os).Perm ns:=by
 have e:(VR ns.length).map (λ k:Int=>ns.getD k.toNat 0)=ns:=by
  unfold VR;rw[cg];exact Kv rfl
 have:=t.map (λ k:Int=>ns.getD k.toNat 0);rw[e] at this;exact this
inductive Stp where
 |inp (ms:LI)
 |num (n:Int)
 |count (ms:LI) (k:Int)
 |each (w:Str) (a:Nat)
 |pair (w:Str) (a b:Nat)
 |pick (a b c:Nat)
 |turn (a:Nat) (os:LI)
 |flip (a:Nat) (side:Int)
 |cut (a:Nat) (side f m g:Int)
 |spread (a:Nat) (side m:Int)
 |lay (a:Nat) (ms:LI)
 |join (a b:Nat) (side:Int)
 |fetch (a b:Nat)
 |fold (w:Str) (a:Nat) (side:Int)
 |run (w:Str) (a:Nat) (side:Int)
def aX(mo:Int)(ns:LI):Prop:=(∀n∈ns,0<=n/\n<=mo)/\ns.length<=6/\1<=af (ns.map ao)/\af (ns.map ao)<=mo
def dE(mo:Int):Prop:=2<=mo/\mo<=512
def jv{mo:Int}(h:aX mo ns)(m:dE mo):fit ns:=⟨λ n hn=>by have:=h.1 n hn;have:=m.2;lia,h.2.1,h.2.2.1,ju h.2.2.2 m.2⟩
def qx{mo:Int}(m:dE mo):aX mo []:=⟨(λ n hn=>nomatch hn),on,on,by have:=m.1;show(1:Int)<=mo;lia⟩
def uy{mo n:Int}(h:aX mo ns)(l:ns.length<6)(n0:0<=n)(hn:n<=mo/af (ns.map ao)):aX mo (ns++[n]):=by
 have p:=h.2.2.1;have e:af ((ns++[n]).map ao)=af (ns.map ao)*ao n:=by rw[bD];exact Ka _ _
 have o1:=jt n0;have d1:1<=mo/af (ns.map ao):=uv p h.2.2.2;have le:mo/af (ns.map ao)<=mo:=TY _ (by have:=h.2.2.2;lia);have m2:af (ns.map ao)*(mo/af (ns.map ao))<=mo:=s0o ca;generalize mo/af (ns.map ao)=q at *;have o2:ao n<=q:=by unfold ao;split<;>lia
 have m1:=kh o2 (show 0<=af (ns.map ao) by lia);refine⟨λ k hk=>?_,by rw[aK,gQ];lia,?_,?_⟩
 .rcases cr.mp hk with z|z
  .exact h.1 k z
  .cases aJ.mp z;lia
 .rw[e];exact ju on (qv p o1 on ca)
 .rw[e];lia
def Wu(Ss:LL)(S:LI):Stp->Prop
 |.inp ms=>S=ms/\¬du ms
 |.num n=>S=[]/\Xm n
 |.count ms k=>S=ms/\¬du ms/\¬Wl ms k
 |.each w a=>Ss[a]?=QJ S/\w∈nO
 |.pair w a b=>∃A B,Ss[a]?=QJ A/\Ss[b]?=QJ B/\w∈nP/\cG A B/\S=bV A B
 |.pick a b c=>∃A B C,Ss[a]?=QJ A/\Ss[b]?=QJ B/\Ss[c]?=QJ C/\cG A B/\cG (bV A B) C/\S=bV (bV A B) C
 |.turn a os=>∃A,Ss[a]?=QJ A/\kg A.length os/\S=cq A os
 |.flip a side=>Ss[a]?=QJ S/\¬Wl S side
 |.cut a side f m g=>∃A,Ss[a]?=QJ A/\¬Wl A side/\¬XB A side f m g/\(m<=512/\f<=512/\g<=512)/\S=A.set side.toNat m
 |.spread a side m=>∃A,Ss[a]?=QJ A/\¬lO A side/\¬m<0/\m<=512/\¬du (bW A side.toNat m)/\S=bW A side.toNat m
 |.lay a ms=>∃A,Ss[a]?=QJ A/\¬du ms/\af A=af ms/\S=ms
 |.join a b side=>∃A B,Ss[a]?=QJ A/\Ss[b]?=QJ B/\A.length=B.length/\¬Wl A side/\A.eraseIdx side.toNat=B.eraseIdx side.toNat/\¬du (gB A B side)/\S=gB A B side
 |.fetch a b=>∃n r B,Ss[a]?=QJ (n::r)/\n≠0/\Ss[b]?=QJ B/\¬du (B++r)/\S=B++r
 |.fold w a side=>∃A,Ss[a]?=QJ A/\Yd w/\¬Wl A side/\S=A.eraseIdx side.toNat
 |.run w a side=>Ss[a]?=QJ S/\Yd w/\¬Wl S side
def lP{mo:Int}(h:aX mo ns):∀n∈ns,0<=n:=λ n hn=>(h.1 n hn).1
def Kw{n m:Int}(h:n<=m)(h1:1<=m):ao n<=m:=by unfold ao;split<;>lia
def Kx{mo:Int}(h:aX mo ns)(m:dE mo):aX mo [af ns]:=by
 have p:=qu (lP h);have b:=h.2.2.2;have o:=jt p.1;have e:af ([af ns].map ao)=ao (af ns):=by show af [ao (af ns)]=_;rw[bU];exact mD _
 refine⟨λ n hn=>?_,mR (bY _),by rw[e];exact o,by rw[e];exact Kw ca (by have:=m.1;lia)⟩;cases aJ.mp hn;lia
def Ky{mo:Int}(h:aX mo ns)(m:dE mo)(l:ns.length<6):aX mo (1::ns):=by
 have e:af ((1::ns).map ao)=af (ns.map ao):=by rw[dg,bU];exact jZ _
 refine⟨λ n hn=>?_,by rw[Rs];lia,by rw[e];exact h.2.2.1,by rw[e];exact h.2.2.2⟩
 rcases aH.mp hn with z|z
 .have:=m.1;lia
 .exact h.1 n z
def Kz{mo:Int}(h:aX mo ns)(m:dE mo)(c:af ns%2=0):aX mo [af ns/2,2]/\af [af ns/2,2]=af ns:=by
 have p:=qu (lP h);have b:=h.2.2.2;have m1:=m.1;have e:af ([af ns/2,2].map ao)=ao (af ns/2)*2:=by show af [ao (af ns/2),2]=_;rw[bU,bU];show _*(2*1)=_;rfl
 have e2:af [af ns/2,2]=af ns/2*2:=by rw[bU,bU];show _*(2*1)=_;rfl
 generalize af ns=P at *;have o:1<=ao (P/2)/\ao (P/2)*2<=mo:=by unfold ao;split<;>lia
 refine⟨⟨λ n hn=>?_,mR (mR (bY _)),by rw[e];lia,by rw[e];exact o.2⟩,by rw[e2];lia⟩
 rcases aH.mp hn with z|z
 .lia
 .cases aJ.mp z;lia
def KA{mo:Int}(h:aX mo ns):aX mo ns.reverse/\af ns.reverse=af ns:=by
 have p:=List.reverse_perm ns;have e:=nR (p.map ao);exact⟨⟨λ n hn=>h.1 n (List.mem_reverse.mp hn),by rw[lE];exact h.2.1,by rw[e];exact h.2.2.1,by rw[e];exact h.2.2.2⟩,nR p⟩
def KC{mo:Int}(h:aX mo ns)(m:dE mo):cD ns:=λ n hn=>by have:=h.1 n hn;have:=m.2;exact⟨ca,ca⟩
def kn(ns:LI)(d:Int):LI:=if d%4=1 then [af ns] else if d%4=2/\ns.length<6 then 1::ns else if d%4=3/\af ns%2=0 then [af ns/2,2] else ns.reverse
def KD{mo:Int}(h:aX mo ns)(m:dE mo):aX mo (kn ns d)/\af (kn ns d)=af ns:=by
 unfold kn;by_cases c1:d%4=1
 .rw[m7 c1];exact⟨Kx h m,by rw[bU];exact mD _⟩
 rw[k9 c1];by_cases c2:d%4=2/\ns.length<6
 .rw[m7 c2];exact⟨Ky h m c2.2,by rw[bU];exact jZ _⟩
 rw[k9 c2];by_cases c3:d%4=3/\af ns%2=0
 .rw[m7 c3];exact Kz h m c3.2
 rw[k9 c3];exact KA h
def fR(A B:LI)(k:Nat):LI:=if A.length=B.length/\A.eraseIdx k=B.eraseIdx k then gB A B k else []
def KE(i:Nat):VR (i+1)=VR i++[(i:Int)]:=by unfold VR;rw[nL,bD];rfl
def KF{os:LI}(h:os.Perm (VR i)):(os.take j++(i:Int)::os.drop j).Perm (VR (i+1)):=by
 rw[KE];refine List.Perm.trans Ua ?_;rw[uz];exact(h.cons _).trans (zi _ _).symm
def KG{mo:Int}{ns os:LI}(h:aX mo ns)(t:kg ns.length os):aX mo (cq ns os):=by
 have p:=ze t;have e:=nR (p.map ao);exact⟨λ n hn=>h.1 n (p.subset hn),by rw[p.length_eq];exact h.2.1,by rw[e];exact h.2.2.1,by rw[e];exact h.2.2.2⟩
def KH{mo:Int}{A B:LI}(p:A.Perm B)(h:aX mo B):aX mo A:=by
 have e:=nR (p.map ao);exact⟨λ n hn=>h.1 n (p.subset hn),by rw[p.length_eq];exact h.2.1,by rw[e];exact h.2.2.1,by rw[e];exact h.2.2.2⟩
def KJ{mo x:Int}(h:aX mo A)(l:A.length<6)(x0:0<=x)(x1:x<=mo/af (A.map ao)):aX mo (bW A k x):=by
 refine KH ?_ (uy h l x0 x1);unfold bW;rw[jK];refine List.Perm.trans Ua ?_;show(x::(A.take k++A.drop k)).Perm _;rw[uz];exact(zi _ _).symm
def jw(x:Int)(xs:LI):af ((x::xs).map ao)=ao x*af (xs.map ao):=by rw[dg];exact bU _ _
def KL{ns:LI}(h:∀n∈ns,0<=n):∀n∈ns,n<=af (ns.map ao):=by
 induction ns with
 |nil=>exact λ n hn=>nomatch hn
 |cons x xs ih=>
  intro n hn;have hx:=h x (bc ..);have ht:∀n∈xs,0<=n:=λ n hn=>h n (bg _ hn);have p:=nQ ht;have o:=jt hx;rw[jw]
  rcases aH.mp hn with e|hn
  .rw[e];have le:x<=ao x:=by unfold ao;split<;>lia
   have:=kh p (show 0<=ao x by lia);lia
  .have:=ih ht n hn;have:=lQ o (show 0<=af (xs.map ao) by lia);lia
def KM{ns:LI}(h:∀n∈ns,0<=n):∀ {k:Nat}{m:Int},0<=m->m<=ns.getD k 0->af ((ns.set k m).map ao)<=af (ns.map ao):=by
 induction ns with
 |nil=>intro k m _ _;rw[List.set_nil];exact fO _
 |cons x xs ih=>
  intro k m m0 m1;have hx:=h x (bc ..);have ht:∀n∈xs,0<=n:=λ n hn=>h n (bg _ hn);have p:=nQ ht
  cases k with
  |zero=>
   have m1:m<=x:=m1;show af ((m::xs).map ao)<=_;rw[jw,jw];exact lQ (by unfold ao;split<;>split<;>lia) ca
  |succ k=>
   have m1:m<=xs.getD k 0:=m1;show af ((x::xs.set k m).map ao)<=_;rw[jw,jw];exact kh (ih ht m0 m1) (by have:=jt hx;lia)
def zk{ns:LI}(h:∀n∈ns,0<=n):∀ {k:Nat},af ((ns.eraseIdx k).map ao)<=af (ns.map ao):=by
 induction ns with
 |nil=>intro k;rw[List.eraseIdx_nil];exact fO _
 |cons x xs ih=>
  intro k;have hx:=h x (bc ..);have ht:∀n∈xs,0<=n:=λ n hn=>h n (bg _ hn);have p:=nQ ht
  cases k with
  |zero=>
   show af (xs.map ao)<=_;rw[jw];have:=lQ (jt hx) (show 0<=af (xs.map ao) by lia);lia
  |succ k=>
   show af ((x::xs.eraseIdx k).map ao)<=_;rw[jw,jw];exact kh (ih ht) (by have:=jt hx;lia)
def uA{mo:Int}{ns:LI}(nn:∀n∈ns,0<=n)(l:ns.length<=6)(w:af (ns.map ao)<=mo):aX mo ns:=⟨λ n hn=>⟨nn n hn,ju (KL nn n hn) w⟩,l,nQ nn,w⟩
def KN{mo m:Int}(h:aX mo A)(m0:0<=m)(m1:m<=A.getD k 0):aX mo (A.set k m):=uA (λ n hn=>by rcases nS hn with z|z;exact lP h n z;rw[z];exact m0) (by rw[cF];exact h.2.1) (ju (KM (lP h) m0 m1) h.2.2.2)
def KO{mo:Int}(h:aX mo A):aX mo (A.eraseIdx k):=uA (λ n hn=>lP h n (zm hn)) (cY (List.length_eraseIdx_le ..) h.2.1) (ju (zk (lP h)) h.2.2.2)
def KP{n f g e:Int}(n0:0<=n)(f0:0<=f)(g1:1<=g)(e0:0<=e):0<=(if (n-1-f).fdiv g+1-e > 0 then (n-1-f).fdiv g+1-e else 0)/\(if (n-1-f).fdiv g+1-e > 0 then (n-1-f).fdiv g+1-e else 0)<=n/\¬(0<(if (n-1-f).fdiv g+1-e > 0 then (n-1-f).fdiv g+1-e else 0)/\n<=f+((if (n-1-f).fdiv g+1-e > 0 then (n-1-f).fdiv g+1-e else 0)-1)*g):=by
 rw[oP _ ca];have q1:g*((n-1-f)/g)<=n-1-f:=s0o ca;generalize (n-1-f)/g=q at *;split
 .rename_i c;have a1:=lQ (show q+1-e-1<=q by lia) (show 0<=g by lia);rw[Ve q g] at a1;have a2:=kh g1 (show 0<=q+1-e-1 by lia);generalize (q+1-e-1)*g=z at *;exact⟨ca,ca,λ y=>by lia⟩
 .exact⟨ca,n0,λ y=>by lia⟩
def zn(A:LI):cG A A:=(yT A A).mpr (Kd A)
def zq(h:cG x y)(l:y.length<=x.length):bV x y=x:=by
 unfold bV;split
 .rfl
 .exact(Kf ((yT x y).mp h) ca).symm
def zr{x y:LI}(l:x.length<y.length):bV x y=y:=by unfold bV;rw[k9 ca]
def zu{P:LI->Prop}(h:P x)(h2:P y):P (bV x y):=by unfold bV;split<;>assumption
def gC{k:Int}{n:Nat}(h:k∈VR n):∃a:Nat,k=a/\a<n:=⟨k.toNat,(nE (up_mem.mp h).1).symm,by have:=up_mem.mp h;lia⟩
def zw{a n:Nat}(h:a<n):(a:Int)∈VR n:=up_mem.mpr ⟨s1d _,Int.ofNat_lt.mpr h⟩
def cO(mo:Int)(ds:List Stp)(Ss:LL):Prop:=ds.length=Ss.length/\(∀S∈Ss,aX mo S)/\∀(i:Nat) (d:Stp) (S:LI),ds[i]?=QJ d->Ss[i]?=QJ S->Wu (Ss.take i) S d
def zx{mo:Int}(h:cO mo ds Ss)(o:Wu Ss S d)(f:aX mo S):cO mo (ds++[d]) (Ss++[S]):=by
 refine⟨by rw[aK,aK,h.1];rfl,λ T hT=>?_,λ i d' S' e1 e2=>?_⟩
 .rcases cr.mp hT with z|z
  .exact h.2.1 T z
  .cases aJ.mp z;exact f
 .by_cases c:i<ds.length
  .rw[cx c] at e1;have c':i<Ss.length:=by rw[<- h.1];exact c
   rw[cx c'] at e2;rw[zy (fD c')];exact h.2.2 i d' S' e1 e2
  .have jl:=(aN.mp e1).1;rw[aK,gQ] at jl;have je:i=ds.length:=ca;rw[je,cu (ak _),gz] at e1;rw[je,h.1,cu (ak _),gz] at e2;cases e1;cases e2;rw[je,h.1,zy (ak _),bG];exact o
def zz(mo:Int):cO mo [] []:=⟨rfl,(λ _ h=>nomatch h),(λ _ _ _ h=>nomatch h)⟩
def zA(h:¬fR A B k=[]):A.length=B.length/\A.eraseIdx k=B.eraseIdx k/\fR A B k=gB A B k:=by
 unfold fR at h ⊢;split
 .rename_i c;exact⟨c.1,c.2,rfl⟩
 .rename_i c;rw[k9 c] at h;exact m8 rfl h
def zB{ns:LI}{m:Int}(h:∀n∈ns,0<=n/\n<=m)(m0:0<=m)(k:Nat):0<=ns.getD k 0/\ns.getD k 0<=m:=by
 by_cases c:k<ns.length
 .exact h _ (gZ c)
 .rw[aA,eI ca];exact⟨fO _,m0⟩
def Md(kd:Int)(A:LI)(k:Nat)(Ss Ms:LL):Prop:=(kd=11/\Ms=Ss.map (λ B=>fR A B k))\/(kd=12/\0<A.getD 0 0/\Ms=Ss.map (λ B=>B++A.drop 1))\/(¬kd=11/\¬0<A.getD 0 0/\Ms=[[]])
def KQ(h:Md kd A k Ss Ms)(l:Ss.length<=40):Ms.length<=40:=by
 rcases h with ⟨_,rfl⟩|⟨_,_,rfl⟩|⟨_,_,rfl⟩
 .rw[ag];exact l
 .rw[ag];exact l
 .exact mR (bY _)
def KR{kd mo:Int}(h:Md kd A k Ss Ms)(fA:aX mo A)(fS:∀S∈Ss,aX mo S)(m:dE mo):∀M∈Ms,∀n∈M,0<=n/\n<=1024:=by
 have m2:=m.2;have m1:=m.1
 rcases h with ⟨_,rfl⟩|⟨_,_,rfl⟩|⟨_,_,rfl⟩
 .intro M hM n hn;obtain⟨B,hB,rfl⟩:=bn.mp hM;by_cases c:fR A B k=[]
  .rw[c] at hn;exact nomatch hn
  .rw[(zA c).2.2] at hn;unfold gB at hn
   rcases nS hn with z|z
   .have:=fA.1 n z;lia
   .have a1:=zB fA.1 (show 0<=mo by lia) (k:Int).toNat
    have a2:=zB (fS B hB).1 (show 0<=mo by lia) (k:Int).toNat
    lia
 .intro M hM n hn;obtain⟨B,hB,rfl⟩:=bn.mp hM
  rcases cr.mp hn with z|z
  .have:=(fS B hB).1 n z;lia
  .have:=fA.1 n (s0p z);lia
 .intro M hM n hn;cases aJ.mp hM;exact nomatch hn
def KS{M:LI}(h:∀n∈M,0<=n/\n<=1024):cD M:=λ n hn=>by have:=h n hn;exact⟨this.1,ca⟩
def KU{M:LI}{mo:Int}(m:dE mo)(l:M.length<=6)(w:af (M.map ao)<=mo):¬du M:=λ z=>z.elim ca (by have:=m.2;lia)
def KW{Ss:LL}{M:Int}(h:M∈Ss.map (λ S=>(S.length:Int)))(h0:0<M):∃S∈Ss,0<S.length:=by
 obtain⟨S,hS,rfl⟩:=bn.mp h;exact⟨S,hS,ca⟩
noncomputable def VH:Stp->Nat
 |.inp ..=>0|.num ..=>1|.count ..=>2|.each ..=>3|.pair ..=>4|.pick ..=>5|.turn ..=>6|.flip ..=>7|.cut ..=>8|.spread ..=>9|.lay ..=>10|.join ..=>11|.fetch ..=>12|.fold ..=>13|.run ..=>14
noncomputable def ah:Stp->List Nat
 |.inp ..=>[]|.num ..=>[]|.count ..=>[]
 |.each _ a=>[a]|.pair _ a b=>[a,b]|.pick a b c=>[a,b,c]
 |.turn a _=>[a]|.flip a _=>[a]|.cut a ..=>[a]|.spread a ..=>[a]|.lay a _=>[a]
 |.join a b _=>[a,b]|.fetch a b=>[a,b]|.fold _ a _=>[a]|.run _ a _=>[a]
def zD:Stp->Prop
 |.each w _=>w∈nO|.pair w _ _=>w∈nP|.fold w _ _=>Yd w|.run w _ _=>Yd w|_=>True
def uB(h:Wu Ss S d):zD d:=by
 cases d with
 |each w a=>exact h.2
 |pair w a b=>obtain⟨A,B,_,_,z,_⟩:=h;exact z
 |fold w a s=>obtain⟨A,_,z,_⟩:=h;exact z
 |run w a s=>exact h.2.1
 |_=>trivial
def uC(h:Wu Ss S d):∀a∈ah d,a<Ss.length:=by
 have g:∀ {a:Nat}{A:LI},Ss[a]?=QJ A->a<Ss.length:=λ e=>(aN.mp e).1;intro x hx
 cases d with
 |inp ms|num n|count ms k=>exact nomatch hx
 |each w a|flip a s|run w a s=>cases aJ.mp hx;exact g h.1
 |pair w a b|join a b s=>
  obtain⟨A,B,e1,e2,_⟩:=h
  rcases aH.mp hx with z|z
  .rw[z];exact g e1
  .cases aJ.mp z;exact g e2
 |pick a b c=>
  obtain⟨A,B,C,e1,e2,e3,_⟩:=h
  rcases aH.mp hx with z|z
  .rw[z];exact g e1
  rcases aH.mp z with z|z
  .rw[z];exact g e2
  .cases aJ.mp z;exact g e3
 |turn a os|cut a s f m gg|spread a s m|lay a ms|fold w a s=>obtain⟨A,e1,_⟩:=h;cases aJ.mp hx;exact g e1
 |fetch a b=>
  obtain⟨n,r,B,e1,_,e2,_⟩:=h
  rcases aH.mp hx with z|z
  .rw[z];exact g e1
  .cases aJ.mp z;exact g e2
def KY(d:Stp):(ah d).length<=3:=by cases d<;>exact Nat.le_of_sub_eq_zero rfl
def eX(mo:Int)(ds:List Stp)(Ss:LL)(os:LI):Prop:=dE mo/\cO mo ds Ss/\0<ds.length/\ds.length<=40/\0<os.length/\os.length<=8/\∀o∈os,0<=o/\o<(ds.length:Int)
def nT{mo:Int}(h:cO mo ds Ss)(m:dE mo):∀T∈Ss,fit T:=λ T hT=>jv (h.2.1 T hT) m
def zE(h:fit A):sm A:=λ n hn=>by have:=h.1 n hn;exact⟨ca,ca⟩
section
variable {band:Int->Int->Int}
variable (hv:∀x y,band x y=2*band (x/2) (y/2)+(if x%2=1/\y%2=1 then 1 else 0))
include hv
end
def zF{os:LI}(t:kg n os):os.length=n:=by rw[t.length_eq,fQ]
def zG(f:Nat->Nat):Stp->Stp
 |.inp ms=>.inp ms
 |.num n=>.num n
 |.count ms k=>.count ms k
 |.each w a=>.each w (f a)
 |.pair w a b=>.pair w (f a) (f b)
 |.pick a b c=>.pick (f a) (f b) (f c)
 |.turn a os=>.turn (f a) os
 |.flip a s=>.flip (f a) s
 |.cut a s g m h=>.cut (f a) s g m h
 |.spread a s m=>.spread (f a) s m
 |.lay a ms=>.lay (f a) ms
 |.join a b s=>.join (f a) (f b) s
 |.fetch a b=>.fetch (f a) (f b)
 |.fold w a s=>.fold w (f a) s
 |.run w a s=>.run w (f a) s
def KZ{Ss Zs:LL}{f:Nat->Nat}(h:Wu Ss S d)(g:∀a∈ah d,∀A,Ss[a]?=QJ A->Zs[f a]?=QJ A):Wu Zs S (zG f d):=by
 cases d with
 |inp|num|count=>exact h
 |each|flip|run=>exact⟨g _ (.head _) _ h.1,h.2⟩
 |turn|cut|spread|lay|fold=>obtain⟨A,e,r⟩:=h;exact⟨A,g _ (.head _) _ e,r⟩
 |pair|join=>obtain⟨A,B,e1,e2,r⟩:=h;exact⟨A,B,g _ (.head _) _ e1,g _ (.tail _ (.head _)) _ e2,r⟩
 |fetch=>obtain⟨n,r,B,e1,n0,e2,z⟩:=h;exact⟨n,r,B,g _ (.head _) _ e1,n0,g _ (.tail _ (.head _)) _ e2,z⟩
 |pick=>obtain⟨A,B,C,e1,e2,e3,r⟩:=h;exact⟨A,B,C,g _ (.head _) _ e1,g _ (.tail _ (.head _)) _ e2,g _ (.tail _ (.tail _ (.head _))) _ e3,r⟩
end _M
namespace PySem.W.Fast
def tw1010713388194743082:=BT
def tw10134792508227462763:=BT
def tw10146280178648442099:=BT
def tw10194510714813618816:=BT
def tw1020402425511758627:=BT
def tw10220351808458280044:=BT
def tw10255820512025407635:=BT
def tw10284315763939740299:=BT
def tw10318404666772264572:=BT
def tw10397378660411450237:=BT
def tw10410626504875686428:=BT
def tw10439850321394757104:=BT
def tw10441758691443326680:=BT
def tw10502947358538492947:=BT
def tw10554217903026454056:=BT
def tw10594796106165665790:=BT
def tw10674416431814763283:=BT
def tw10719686293218033975:=BT
def tw10778742922718899642:=BT
def tw10787230200102113785:=BT
def tw10796283058559569786:=BT
def tw1087344901224922371:=BT
def tw10889731711212729570:=BT
def tw10900846093371567419:=BT
def tw10938336936113355987:=BT
def tw10961699574706823161:=BT
def tw10989540454681886829:=BT
def tw11014192278476882476:=BT
def tw11065867525435146293:=BT
def tw11082743229545096571:=BT
def tw111191876148617540:=BT
def tw11147034128054580640:=BT
def tw11168005277044661623:=BT
def tw11254578748065923169:=BT
def tw1125822536741996943:=BT
def tw11296589771014806870:=BT
def tw11310382135991500323:=BT
def tw11357819883848281010:=BT
def tw11383598962378027258:=BT
def tw11386704394645567132:=BT
def tw11402437581391180463:=BT
def tw11433827925776339897:=BT
def tw11441297188928031392:=BT
def tw11460471950047920000:=BT
def tw11521009406748109555:=BT
def tw1156786864775422784:=BT
def tw11614953901989770906:=BT
def tw11647175796740523063:=BT
def tw11697241260628417955:=BT
def tw11708604506660994579:=BT
def tw11787908568963498857:=BT
def tw11847926277004485054:=BT
def tw11848704565174375164:=BT
def tw11859313021984678345:=BT
def tw11869467142090111132:=BT
def tw11946752626862870414:=BT
def tw12039075626130812940:=BT
def tw12045472484235155328:=BT
def tw12239426125534385644:=BT
def tw12295378525716007611:=BT
def tw12330090987400772015:=BT
def tw12347430195101317882:=BT
def tw12392173573616500798:=BT
def tw12393917439462878941:=BT
def tw12405676252360823300:=BT
def tw12422526756967697907:=BT
def tw12423746961758813321:=BT
def tw12430037935722545475:=BT
def tw12491975571129591825:=BT
def tw12528769302465925248:=BT
def tw12534761142321313390:=BT
def tw12540094819110737883:=BT
def tw12541177590705516269:=BT
def tw12544442547149095323:=BT
def tw12586683000526962679:=BT
def tw12616640864263755699:=BT
def tw12639617514267972372:=BT
def tw12651490304955855141:=BT
def tw12712539385691706200:=BT
def tw12836393914084237825:=BT
def tw12923852091456656036:=BT
def tw12937718536397007838:=BT
def tw12957449021930093330:=BT
def tw1295893035510162836:=BT
def tw1299403867633085603:=BT
def tw13034399777371031577:=BT
def tw13129423298863412170:=BT
def tw13195332712393160005:=BT
def tw13202845994797587779:=BT
def tw13254642663910824109:=BT
def tw13257154150813126855:=BT
def tw13331081763220654561:=BT
def tw13411030820027136476:=BT
def tw13414070068723189140:=BT
def tw13417526992222063870:=BT
def tw13535404187867160181:=BT
def tw13555782293181424182:=BT
def tw13561598284894922521:=BT
def tw13620168224638227604:=BT
def tw13668703084849978157:=BT
def tw13726095752106299860:=BT
def tw1378714680056755072:=BT
def tw1378944075874630866:=BT
def tw13828755484201562276:=BT
def tw13890475028868121819:=BT
def tw13938535068387472421:=BT
def tw14007950124764984585:=BT
def tw14015988455092919798:=BT
def tw14051604921929593037:=BT
def tw14078528348210795662:=BT
def tw14123959242141323863:=BT
def tw14148613165783893537:=BT
def tw14220072707501381628:=BT
def tw142592255323460169:=BT
def tw14269141192803795058:=BT
def tw14279459755143153065:=BT
def tw14408711553071269696:=BT
def tw14451081948150392971:=BT
def tw14492988234987398033:=BT
def tw1451712088003166584:=BT
def tw14580018773080166598:=BT
def tw14672606294733785408:=BT
def tw14694849167103708239:=BT
def tw14722413493840123833:=BT
def tw14791806271176665052:=BT
def tw14808751182153842807:=BT
def tw14853675721654877850:=BT
def tw14865501444988983407:=BT
def tw14870408696930594488:=BT
def tw14936270666380605400:=BT
def tw15001360181404809835:=BT
def tw15037189678096078722:=BT
def tw15042196527566178188:=BT
def tw15074655972709247906:=BT
def tw15143988118319513843:=BT
def tw15192771025930818633:=BT
def tw15213777399356656812:=BT
def tw15216217977890971783:=BT
def tw15405627137030040876:=BT
def tw15411341944308582392:=BT
def tw15416258106635844949:=BT
def tw15418509061825229853:=BT
def tw15445419079609150615:=BT
def tw15455511150568502327:=BT
def tw15496906265904432493:=BT
def tw15571141713067006297:=BT
def tw15589613935252553605:=BT
def tw15597287612649346538:=BT
def tw15644149222492516035:=BT
def tw15706824771026373617:=BT
def tw15837631835088686461:=BT
def tw1584801190533685036:=BT
def tw15889601703014381603:=BT
def tw1593014924416346108:=BT
def tw15968130645964792173:=BT
def tw16032826748556313385:=BT
def tw16053370245640493901:=BT
def tw16069067990136349065:=BT
def tw16153235477342273887:=BT
def tw16154045005343396258:=BT
def tw16154321926361692986:=BT
def tw16164596416657679467:=BT
def tw16233797828327273851:=BT
def tw16256860576647954180:=BT
def tw16280566883944668474:=BT
def tw16374912450113385279:=BT
def tw16401056724779380374:=BT
def tw16439886257216523422:=BT
def tw16463650067211115150:=BT
def tw16588962810583941096:=BT
def tw16606980876996147478:=BT
def tw16633280250611491717:=BT
def tw16664600491018177949:=BT
def tw16717565579963162865:=BT
def tw16729153675546910490:=BT
def tw16763626341374484247:=BT
def tw16914374254284546510:=BT
def tw1693048055785454790:=BT
def tw16971822962938135791:=BT
def tw16988305985236627136:=BT
def tw17052939466390296975:=BT
def tw17082408616504681727:=BT
def tw17084991149796806329:=BT
def tw17124960241663260105:=BT
def tw171676766851956244:=BT
def tw17172068697133248445:=BT
def tw1721386717449621911:=BT
def tw17236868828670071515:=BT
def tw17262268098853655996:=BT
def tw17322283684957077878:=BT
def tw17366684854362559800:=BT
def tw17378690556589354761:=BT
def tw17402951363860423959:=BT
def tw17536870176354660246:=BT
def tw17547420924216614980:=BT
def tw17564926467172539748:=BT
def tw17584830701960766191:=BT
def tw17628381863383947567:=BT
def tw17668242293250144472:=BT
def tw1773903183323849694:=BT
def tw17745058462788742434:=BT
def tw17750616485032580473:=BT
def tw17756885460009755611:=BT
def tw17762283471053120088:=BT
def tw17765750984756975431:=BT
def tw17768552393128849474:=BT
def tw17811213089398067552:=BT
def tw17879222312866242488:=BT
def tw17880892931579738286:=BT
def tw1793949086736850857:=BT
def tw179919169733944730:=BT
def tw18003577992300198738:=BT
def tw18019247218256243447:=BT
def tw18036428507306377578:=BT
def tw18051578674542204115:=BT
def tw1808134954848838491:=BT
def tw18124195186565716616:=BT
def tw1813926990682031968:=BT
def tw18149840852942176502:=BT
def tw18233634350588913725:=BT
def tw18289718431886134187:=BT
def tw18311721720552707900:=BT
def tw18353557169042681628:=BT
def tw18376175335925836820:=BT
def tw1837838523213902619:=BT
def tw1849821063689297754:=BT
def tw189645933259849677:=BT
def tw1942310737590630074:=BT
def tw1943466738841175854:=BT
def tw1954926769607548709:=BT
def tw1979827507413845848:=BT
def tw2010132051599227012:=BT
def tw2025540721466995883:=BT
def tw2070071434571467141:=BT
def tw213386726099332889:=BT
def tw2175063614428219828:=BT
def tw220051317868653196:=BT
def tw2251580507604644431:=BT
def tw228581367749353849:=BT
def tw2293441512974122870:=BT
def tw2308186682157160793:=BT
def tw2309642288551825780:=BT
def tw234135517161953962:=BT
def tw2347160348576995610:=BT
def tw2422504142962431760:=BT
def tw2449216236742184849:=BT
def tw2472596378122855849:=BT
def tw2579105701042227903:=BT
def tw2581124444626732906:=BT
def tw2606368486171034760:=BT
def tw2660378788268957355:=BT
def tw2713008668768615492:=BT
def tw271871658483753302:=BT
def tw2755209932769920555:=BT
def tw2777278144953725865:=BT
def tw2813437616306785495:=BT
def tw2819543957932601236:=BT
def tw284292662450573027:=BT
def tw2872634722712792063:=BT
def tw2973374156379094816:=BT
def tw2992166292767299743:=BT
def tw3021578917272176215:=BT
def tw3054493457378726626:=BT
def tw3096124993907188087:=BT
def tw3116346203020024604:=BT
def tw3127338468527611107:=BT
def tw3139488442620975143:=BT
def tw3154900014425611890:=BT
def tw3237710973934365750:=BT
def tw330059383860059047:=BT
def tw3309174724802477840:=BT
def tw3327980213657304162:=BT
def tw336213216344794230:=BT
def tw3406221997380554347:=BT
def tw3454510791671143017:=BT
def tw3513778299405039361:=BT
def tw3526042975272351248:=BT
def tw3546648273003184844:=BT
def tw3549821727610605908:=BT
def tw3572432121026633589:=BT
def tw3616869578992627173:=BT
def tw3771831819128777783:=BT
def tw3778138394056349019:=BT
def tw3802314594442091636:=BT
def tw383431138878984802:=BT
def tw3872257676727887649:=BT
def tw3922527880600312933:=BT
def tw3935334856077839962:=BT
def tw3952040619900664567:=BT
def tw3991860359972215404:=BT
def tw4019150308831610286:=BT
def tw4048027782922179788:=BT
def tw4070398062935606686:=BT
def tw4086796450418720661:=BT
def tw4089043519117706818:=BT
def tw4116626200404477673:=BT
def tw4139369640552866676:=BT
def tw4148297363460273274:=BT
def tw436935812555702058:=BT
def tw4399690600414135777:=BT
def tw4406716482417787159:=BT
def tw4468442999270834983:=BT
def tw4484119608712432587:=BT
def tw4537563950877249455:=BT
def tw4584274208197664378:=BT
def tw4618214919817263979:=BT
def tw4637167014705552589:=BT
def tw4669565335811149871:=BT
def tw4681988643489064763:=BT
def tw4693827612051338729:=BT
def tw4715588846722918177:=BT
def tw474506162280665502:=BT
def tw4873950157864750392:=BT
def tw4954706937876813202:=BT
def tw495961387420787971:=BT
def tw5018906405790559093:=BT
def tw5035740205719926941:=BT
def tw5047633927972532421:=BT
def tw5062899229643492105:=BT
def tw5114537789762413105:=BT
def tw515695863088727612:=BT
def tw5159934589107771040:=BT
def tw5181525717522702456:=BT
def tw5230062338802809832:=BT
def tw5267401435597478912:=BT
def tw5274825143907047918:=BT
def tw5276035295412670007:=BT
def tw5319818199200883084:=BT
def tw5349327873372657689:=BT
def tw5393623779671276176:=BT
def tw5444108911250255163:=BT
def tw548535673686985531:=BT
def tw5485357167547766041:=BT
def tw5490969979073773605:=BT
def tw5543419903701115007:=BT
def tw5544067442819353149:=BT
def tw5568134248374605056:=BT
def tw5588876385957378497:=BT
def tw5596536699280581117:=BT
def tw563522593982255524:=BT
def tw5676446072102692196:=BT
def tw5705246556844379486:=BT
def tw571456257733149296:=BT
def tw5796953867415337027:=BT
def tw5825309447271757504:=BT
def tw5841100960686831963:=BT
def tw5983769368979263424:=BT
def tw5996770569204879111:=BT
def tw6031741382344955307:=BT
def tw6033642062437539476:=BT
def tw6083048294264985042:=BT
def tw6129161559839337875:=BT
def tw6167735957015990738:=BT
def tw6182759691598961356:=BT
def tw620906927875753226:=BT
def tw6215836086285184506:=BT
def tw621612279997318420:=BT
def tw6231213061568177422:=BT
def tw6361259281660584971:=BT
def tw6375987590942979737:=BT
def tw6391941385877260172:=BT
def tw6408026315778637974:=BT
def tw6493206815560281029:=BT
def tw6525056885521720714:=BT
def tw6529589870751179020:=BT
def tw6575619568792556301:=BT
def tw6584038648246369625:=BT
def tw6612659807761377812:=BT
def tw661600059580375812:=BT
def tw663753295318721172:=BT
def tw6638462281000380456:=BT
def tw6664414705904326081:=BT
def tw6710319522139741735:=BT
def tw6827069728091438662:=BT
def tw6836791988867136941:=BT
def tw6877047008645004274:=BT
def tw6925226054040531380:=BT
def tw6978779108171472744:=BT
def tw7009192698298802046:=BT
def tw7032060577549283617:=BT
def tw7064562515649684771:=BT
def tw7094916223478148474:=BT
def tw7095816184868556340:=BT
def tw7105504602166292756:=BT
def tw7111813072471560654:=BT
def tw7195049142998425682:=BT
def tw7244078991836509744:=BT
def tw7267910911625794962:=BT
def tw7288806198553157525:=BT
def tw7315149585342887667:=BT
def tw7412550127382688162:=BT
def tw7607168556303615191:=BT
def tw7641288025508547087:=BT
def tw7652325051258050712:=BT
def tw7822966529272260977:=BT
def tw7827728444631560976:=BT
def tw7914971215552386972:=BT
def tw7971753171026263510:=BT
def tw7985579136270710292:=BT
def tw8085447284592436198:=BT
def tw8085867892188646730:=BT
def tw8086897439001311377:=BT
def tw8125272404189639250:=BT
def tw8161427443206088630:=BT
def tw8224443215904891347:=BT
def tw8312573815660565695:=BT
def tw8392794970664592564:=BT
def tw8397462618350483175:=BT
def tw8421257505619249914:=BT
def tw8444685809619290986:=BT
def tw8462165414712894212:=BT
def tw8468652670278849920:=BT
def tw8539894188324537663:=BT
def tw8581962343742520945:=BT
def tw8589559805501924586:=BT
def tw8613707193754581566:=BT
def tw8631643208849380309:=BT
def tw8709125043115863866:=BT
def tw8739714096463257302:=BT
def tw874145193292746118:=BT
def tw8749343829452776184:=BT
def tw8852629277145881164:=BT
def tw8917033367398185689:=BT
def tw8935245767302092853:=BT
def tw8984277032780530868:=BT
def tw8993813950568611166:=BT
def tw9037506743544648003:=BT
def tw909860755021623939:=BT
def tw9111310945241874997:=BT
def tw9116602411997896045:=BT
def tw9117412630679380972:=BT
def tw9120012550827372171:=BT
def tw919862166844451084:=BT
def tw9217618602542246008:=BT
def tw9251366834506966564:=BT
def tw9426558821080762994:=BT
def tw9433437469615310705:=BT
def tw9472100998856717624:=BT
def tw9478156447439215760:=BT
def tw952760368534961791:=BT
def tw9545496247971755561:=BT
def tw958983709990938057:=BT
def tw9594973169883428829:=BT
def tw9599142603005297895:=BT
def tw9663778687488617881:=BT
def tw9720680200378698861:=BT
def tw9737705367205530295:=BT
def tw9761804262499305865:=BT
def tw9781811171623584934:=BT
def tw9815940936966243807:=BT
def tw9830008874788030538:=BT
def tw9871029821898625753:=BT
def tw9879491874197472850:=BT
def tw9941721903915527170:=BT
def tw9956656759471611545:=BT
def tw9964656597316030287:=BT
def tw9968301653862475369:=BT
def tw9984326465644683780:=BT
end PySem.W.Fast
namespace _M
set_option backward.match.sparseCases false
open PySem _L PyProof.Rows
open TV renaming int->m9,tup->n6,str->n9
def av{a b:Prop}(h:b)(k:autoParam a A6._auto_1):a/\b:=⟨k,h⟩
def top(i:Nat):Ra:=PySem.Challenge.pw_sideloom_k54_whole_no_call_twice.main.body.getD i (.Pass ⟨0,0,0,0⟩)
def WW(i:Nat):List Str:=((aI (top i)).names.filter λ q=>q.2 == .local || q.2 == .cell).map (·.1)
def fnz:Ra->Str
 |.FunctionDef x ..=>x
 |_=> ""
abbrev VE(i p:Nat)(S:Vv):DR:=(fnz (top i),(WW i).take p,S)
noncomputable def tI(ns:LI):TV:=.tup (ns.map .int)
noncomputable def lI(ns:LI):TV:=.lst (ns.map .int)
def jx{ns:LI}{i:Nat}(h:(ns.map m9)[i]?=QJ t):∃n,t=.int n/\ns[i]?=QJ n:=by
 rw[aW] at h
 cases q:ns[i]? with
 |none=>rw[q] at h;cases h
 |some n=>rw[q] at h;cases h;exact⟨n,rfl,rfl⟩
def ai(ns:LI):(ns.map m9).length=ns.length:=ag ..
def f7:mG 2 64:=⟨on,on,on⟩
def YQ:mG 2 63:=⟨on,on,on⟩
def iE{i j:Int}(h0:-18446744073709551616<j)(h1:j<18446744073709551616):Tq i j:=CMul.ok (.inr ⟨ca,ca⟩)
def iF{i j:Int}(h0:-18446744073709551616<i)(h1:i<18446744073709551616):Tq i j:=CMul.ok (.inl ⟨ca,ca⟩)
def s2{a b:Prop}{P:Bool}(h1:P=QK->a)(h2:P=QL->b):if P=QK then a else b:=by
 cases P
 .exact h2 rfl
 .exact h1 rfl
def sF{a b:Prop}{P:Bool}(h:P=QL)(k:b):if P=QK then a else b:=by rw[h];exact k
def sT{a b:Prop}{P:Bool}(h:P=QK)(k:a):if P=QK then a else b:=by rw[h];exact k
def cl{FT:List Vv}{f:Nat}{ts:List TV}{K:TV->Prop}(e:FT[f]?=QJ S)(h:S (ts.map .fz) K)(n:ts.all TV.nb=QK):∃P,(∃S,FT[f]?=QJ S/\S (ts.map .fz) P)/\∀t,P t->(ts.all TV.nb=QL->LF t)/\K t:=⟨K,⟨S,e,h⟩,λ t k=>⟨λ z=>(by rw[n] at z;cases z),k⟩⟩
theorem bX{GT:List TV}{α:Type}(f g:α->TV):∀(l:List α) {Kn:List TV->Prop},(∀a∈l,Wq ρ tg (f a) λ ρ'=>wE FT GT e ρ' λ y=>y.nb=QK/\y.fz=g a)->Kn (l.map g)->WO (λ t K'=>Wq ρ tg t λ ρ'=>wE FT GT e ρ' λ y=>(y.nb=QK/\K' [y.fz])) (l.map f) Kn
 |[],_,_,k=>k
 |a::l,Kn,h,k=>iA (λ ρ' q=>au e (λ y ⟨n,z⟩=>⟨n,by rw[z];exact bX f g l (λ b hb=>h b (by simp[hb])) k⟩) q) (h a pv)
def La{ns:LI}{i:Nat}(h:((ns.map m9).reverse)[i]?=QJ t):i<ns.length/\∃n,t=.int n/\ns[ns.length-1-i]?=QJ n:=by
 have hl:=(aN.mp h).1;rw[lE,ai] at hl;rw[mY (by rw[ai];exact hl),ai] at h;exact⟨hl,jx h⟩
def Lb{n:Int}(h:(!decide (n=0))=QK):ao n=n:=by unfold ao;rw[k9 (by simpa using h)]
def Lc{n:Int}(h:(!decide (n=0))=QL):ao n=1:=by unfold ao;rw[m7 (by simpa using h)]
def YR{a b:Int}(h:a=b):(!_L.eqT (m9 a).fz (m9 b).fz)=QL:=by subst h;show(!decide (a=a))=QL;rw[bJ rfl];rfl
def zH{GT:List TV}{α:Type}{l:List α}{f:α->TV}{its:List TV}(h0:its=l.map f)(g:α->TV){Kn:List TV->Prop}(h:∀a∈l,Wq ρ tg (f a) λ ρ'=>wE FT GT e ρ' λ y=>y.nb=QK/\y.fz=g a)(k:Kn (l.map g)):WO (λ t K'=>Wq ρ tg t λ ρ'=>wE FT GT e ρ' λ y=>(y.nb=QK/\K' [y.fz])) its Kn:=h0 ▸ bX f g l h k
def cH{ns:LI}{k:Nat}(h:k<ns.length):VY (ns.map m9) (k:Int)=QJ (.int (ns.getD k 0)):=im (by rw[aW,aL h,aA,aL h];rfl)
def lT{n i:Nat}(h:((QW n).map f)[i]?=QJ a):i<n/\a=f i:=by
 have hi:=(aN.mp h).1;rw[ag,bL] at hi;rw[aW,iB hi] at h;exact⟨hi,(bN h).symm⟩
def sE{a b:Prop}{x y:Str}(h1:x=y->a)(h2:x≠y->b):if _L.eqT (n9 x).fz (n9 y).fz=QK then a else b:=by
 by_cases h:x=y
 .rw[m7 (show _L.eqT (n9 x).fz (n9 y).fz=QK from bJ h)];exact h1 h
 .rw[k9 (by rw[show _L.eqT (n9 x).fz (n9 y).fz=decide (x=y) from rfl];simpa using h)];exact h2 h
def sN{a b:Prop}{x y:Int}(h1:x=y->a)(h2:x≠y->b):if _L.eqT (m9 x).fz (m9 y).fz=QK then a else b:=by
 by_cases h:x=y
 .rw[m7 (show _L.eqT (m9 x).fz (m9 y).fz=QK from bJ h)];exact h1 h
 .rw[k9 (by rw[show _L.eqT (m9 x).fz (m9 y).fz=decide (x=y) from rfl];simpa using h)];exact h2 h
def s3{a b:Prop}{P:Prop} [Decidable P] (h1:P->a)(h2:¬P->b):if decide P=QK then a else b:=by
 by_cases h:P
 .rw[m7 (bJ h)];exact h1 h
 .rw[k9 (by simpa using h)];exact h2 h
theorem uD:∀(l m:LI),_L.eqTL (l.map m9) (m.map m9)=decide (l=m)
 |[],[]=>rfl
 |[],_::_=>rfl
 |_::_,[]=>rfl
 |x::xs,y::ys=>by
  rw[dg,dg,_L.eqTL_c,uD xs ys,show _L.eqT (m9 x) (m9 y)=decide (x=y) from rfl,<- Bool.decide_and];exact rG.mpr (by rw[List.cons.injEq])
def nU(l m:LI):_L.eqT (n6 (l.map m9)) (n6 (m.map m9))=decide (l=m):=uD l m
def Ld(l m:LI):_L.eqT (TV.lst (l.map m9)) (TV.lst (m.map m9))=decide (l=m):=uD l m
def f8(ns:LI):∀x∈ns.map m9,_L.dp 98 x:=λ x hx=>by obtain⟨n,_,rfl⟩:=bn.mp hx;trivial
def Xu(ns:LI):_L.dp 99 (n6 (ns.map m9)):=f8 ns
def dpL(ns:LI):_L.dp 99 (TV.lst (ns.map m9)):=f8 ns
def uE{ns:LI}{o:Int}(h0:0<=o)(h1:o<ns.length):VY (ns.map m9) o=QJ (.int (ns.getD o.toNat 0)):=by
 have z:=cH (ns:=ns) (k:=o.toNat) ca
 rwa [show((o.toNat:Nat):Int)=o by lia] at z
def zI(x:Int):be x y=Int.fdiv x y:=by unfold be;split<;>first|rfl|exact(oP _ ca).symm
def Le(x:Int):aU x y=Int.fmod x y:=by unfold aU;split<;>first|rfl|exact(vP _ ca).symm
def XC:Stp->List TV
 |.inp ms=>[.str "in",tI ms]
 |.num n=>[.str "num",.int n]
 |.count ms k=>[.str "count",tI ms,.int k]
 |.each w a=>[.str "each",.str w,.int a]
 |.pair w a b=>[.str "pair",.str w,.int a,.int b]
 |.pick a b c=>[.str "pick",.int a,.int b,.int c]
 |.turn a os=>[.str "turn",.int a,tI os]
 |.flip a side=>[.str "flip",.int a,.int side]
 |.cut a side f m g=>[.str "cut",.int a,.int side,.int f,.int m,.int g]
 |.spread a side m=>[.str "spread",.int a,.int side,.int m]
 |.lay a ms=>[.str "lay",.int a,tI ms]
 |.join a b side=>[.str "join",.int a,.int b,.int side]
 |.fetch a b=>[.str "fetch",.int a,.int b]
 |.fold w a side=>[.str "fold",.str w,.int a,.int side]
 |.run w a side=>[.str "run",.str w,.int a,.int side]
def VB(d:Stp):TV:=.tup (XC d)
def YS:∀x∈[n9 "fold",n9 "run"],Wa x=QK:=on
def aB{α:Type}{f:α->TV}{Ss:List α}{a:Nat}{A:α}(e:Ss[a]?=QJ A):VY (Ss.map f) (a:Int)=QJ (f A):=im (by rw[aW,e];rfl)
def WX{FT:List Vv}{f:Nat}{ts:List TV}{K:TV->Prop}(e:FT[f]?=QJ S)(h:S (ts.map .fz) λ t=>LF t/\K t):∃P,(∃S,FT[f]?=QJ S/\S (ts.map .fz) P)/\∀t,P t->(ts.all TV.nb=QL->LF t)/\K t:=⟨_,⟨S,e,h⟩,λ t k=>⟨λ _=>k.1,k.2⟩⟩
def Xn{n:Nat}(h:n<=3):n<QR:=aO ca
def Zq(ns:LI):LF (tI ns):=by unfold tI;simp only[LF];intro x hx;obtain⟨n,_,rfl⟩:=bn.mp hx;simp[LF]
def Lf{α:Type}{f:α->TV}{l:List α}{i:Nat}(h:(l.map f)[i]?=QJ t):∃a,t=f a/\l[i]?=QJ a:=by
 rw[aW] at h;obtain⟨a,ea,rfl⟩:=jr.mp h;exact⟨a,O,ea⟩
def LF2(S:LI):LF (.tup [tI S,.non]):=by
 simp only[LF];intro x hx;simp only[aH,cn,bZ] at hx
 rcases hx with rfl|rfl
 .exact Zq S
 .simp[LF]
def Lg{cs:LI}{i:Nat}(h:((cs.map m9).mapIdx λ i x=>n6 [.int (i:Nat),x])[i]?=QJ t):∃c,t=.tup [.int (i:Nat),.int c]/\cs[i]?=QJ c:=by
 rw[pU,aW] at h
 cases q:cs[i]? with
 |none=>rw[q] at h;cases h
 |some c=>rw[q] at h;cases h;exact⟨c,rfl,rfl⟩
def neT{a b:Int}(h:a≠b):(!_L.eqT (m9 a).fz (m9 b).fz)=QK:=by rw[show _L.eqT (m9 a).fz (m9 b).fz=decide (a=b) from rfl];simp[h]
theorem jy{GT:List TV}{α:Type}(f g:α->TV)(p:α->Bool):∀(l:List α) {its:List TV}{Kn:List TV->Prop},its=l.map f->(∀a∈l,Wq ρ tg (f a) λ ρ'=>wE FT GT c ρ' λ x=>x=.bl (p a)/\(p a=QK->wE FT GT e ρ' λ y=>y.nb=QK/\y.fz=g a))->Kn ((l.filter p).map g)->WO (λ t K'=>Wq ρ tg t λ ρ'=>wE FT GT c ρ' λ x=>b1 x λ q=>if q=QK then wE FT GT e ρ' λ y=>(y.nb=QK/\K' [y.fz]) else K' []) its Kn
 |[],_,_,h0,_,k=>by subst h0;exact k
 |a::l,_,Kn,h0,h,k=>by
  subst h0;show Wq ρ tg (f a) λ ρ'=>wE FT GT c ρ' λ x=>b1 x λ q=>if q=QK then wE FT GT e ρ' (λ y=>y.nb=QK/\WO _ (l.map f) λ ys=>Kn ([y.fz]++ys)) else WO _ (l.map f) λ ys=>Kn ([]++ys);refine iA (λ ρ' q=>au c (λ x ⟨e1,q⟩=>?_) q) (h a pv);subst e1;have hr:=λ b hb=>h b (bg a hb);show if p a=QK then _ else _;by_cases z:p a=QK
  .rw[m7 z];rw[qm z,dg] at k;exact au e (λ y ⟨n,w⟩=>⟨n,by rw[w];exact jy f g p l rfl hr k⟩) (q z)
  .rw[k9 z];rw[qo z] at k;exact jy f g p l rfl hr k
def p62:mG 2 62:=⟨on,on,on⟩
def Lh{i:Int}(h0:0<=i)(h1:i<4):VY [m9 (-(2 ^ (63:Int).toNat)),m9 (2 ^ (63:Int).toNat-1),m9 (-1),m9 (2 ^ (62:Int).toNat)] i=QJ (.int ([(-9223372036854775808:Int),9223372036854775807,-1,4611686018427387904].getD i.toNat 0)):=by
 have:i=0\/i=1\/i=2\/i=3:=ca
 rcases this with rfl|rfl|rfl|rfl<;>rfl
def bq{n:Nat}(h:n<=1000):n<=QR:=fD (aO h)
def Wn:0<=QR:=bq on
def WC:1<=QR:=bq on
def VJ:2<=QR:=bq on
def VP:3<=QR:=bq on
def Wx:4<=QR:=bq on
def Ye:6<=QR:=bq on
def Zr:7<=QR:=bq on
def Li:12<=QR:=bq on
def uF(ns:LI)(a b:Option Int):aq (ns.map m9) a b=((ns.drop (_H.sIx ns.length 0 a)).take (_H.sIx ns.length ns.length b-_H.sIx ns.length 0 a)).map m9:=by
 unfold aq;rw[ag,UQ,UP]
def eY(ns:LI)(k:Nat):aq (ns.map m9) QM (QJ (k:Int))=(ns.take k).map m9:=by
 rw[uF];simp only[_H.sIx,UA,Nat.sub_zero];rw[k9 ca,QV,Nat.min_def];split
 .rfl
 .rw[ce ca,ce ca]
def eZ(ns:LI)(k:Nat):aq (ns.map m9) (QJ (k:Int)) QM=(ns.drop k).map m9:=by
 rw[uF];simp only[_H.sIx];rw[k9 ca,QV,Nat.min_def];split
 .rw[ce (by rw[da];lia)]
 .rw[tR,List.drop_of_length_le ca];simp
def Lj(i:Nat):LI:=[[],[],[],[2],[2,3],[1,2,3],[1],[1],[1],[1],[1],[1,2],[1,2],[2],[2]].getD i []
def Lk:∀i,i<15->yY i=Lj i:=by decide +kernel
def XD(d:Stp)(S:LI):TV:=.tup [VB d,tI S]
def dw{i j:Int}(h:0<j):aU i j=i%j:=m7 h
def zJ{i j:Int}(h:0<j):be i j=i/j:=m7 h
def nV(x:Int){n:Nat}(h:0<n):∃k:Nat,aU x (n:Int)=k/\k<n:=by
 have f0:=qy x (show(n:Int)≠0 by lia);have f1:=qz x (show(0:Int)<n by lia);exact⟨(x%(n:Int)).toNat,(dw ca).trans (nE f0).symm,ca⟩
def qA(x:Int){A:LI}(h:0<A.length):∃k:Nat,aU x (((A.map m9).length:Nat):Int)=k/\k<A.length:=by rw[ai];exact nV x h
def Ll(k:Int)(h0:0<=k)(h1:k<7):∃x:Int,VY [m9 2,m9 3,m9 1,m9 4,m9 2,m9 3,m9 0] k=QJ (.int x)/\0<=x:=by
 have:k=0\/k=1\/k=2\/k=3\/k=4\/k=5\/k=6:=ca
 rcases this with rfl|rfl|rfl|rfl|rfl|rfl|rfl<;>exact⟨_,rfl,on⟩
def uG(ws:List Str){k:Int}(h0:0<=k)(h1:k<(ws.length:Int)):∃w,VY (ws.map n9) k=QJ (.str w)/\w∈ws:=by
 have l:k.toNat<ws.length:=ca;refine⟨ws[k.toNat],?_,lw l⟩;have z:=im (xs:=ws.map n9) (j:=k.toNat) (v:=.str ws[k.toNat]) (by rw[aW,aL l];rfl)
 rwa [nE h0] at z
def lU(ms:LI):_L.eqT (n6 (ms.map m9)).fz (n6 []).fz=decide (ms=[]):=nU ms []
def zK(d:Stp):LF (VB d):=by
 unfold VB;simp only[LF];intro x hx
 cases d<;>simp only[XC,aH,cn,bZ] at hx<;>(try rcases hx with rfl|rfl|rfl|rfl|rfl|rfl)<;>(try rcases hx with rfl|rfl|rfl|rfl|rfl)<;>(try rcases hx with rfl|rfl|rfl|rfl)<;>(try rcases hx with rfl|rfl|rfl)<;>(try rcases hx with rfl|rfl)<;>first|exact Zq _|simp[LF]
def qB(d:Stp)(S:LI):LF (XD d S):=by
 unfold XD;simp only[LF];intro x hx;simp only[aH,cn,bZ] at hx
 rcases hx with rfl|rfl
 .exact zK d
 .exact Zq S
def qC(n:Nat):((QW (((n:Nat):Int)).toNat).map λ i:Nat=>m9 (i:Nat))=(VR n).map m9:=by unfold VR;rw[cg];rfl
def f9(h:cG A B):n6 (if (A.map m9).length<(B.map m9).length then B.map m9 else A.map m9)=tI (bV A B):=by
 rw[ai,ai];by_cases c:A.length<B.length
 .rw[m7 c,zr c];rfl
 .rw[k9 c,zq h ca];rfl
noncomputable def pB(Ss:LL)(A:LI)(k:Int):Bool:=@decide (cG A (Ss.getD k.toNat [])) (Classical.propDecidable _)
def qD:pB Ss A k=QK ↔ cG A (Ss.getD k.toNat []):=by unfold pB;exact @decide_eq_true_iff _ (Classical.propDecidable _)
def zM{a b:Bool}{p:Prop}(h1:a=QK ↔ p)(h2:b=QK ↔ p):a=b:=by
 cases a<;>cases b<;>simp_all
def fT{Ss:LL}{a:Nat}(h:a<Ss.length):Ss[a]?=QJ (Ss.getD a []):=by rw[aA,aL h];rfl
def or3{G N:Prop}{e1 e2 e3:Bool}(g:(e1=QK\/e2=QK/\e3=QK)->G)(n:e1=QL->N):if e1=QK then G else True/\(if e2=QK then (if e3=QK then G else N) else N):=by
 cases e1
 .refine⟨BT,?_⟩;cases e2
  .exact n rfl
  .cases e3
   .exact n rfl
   .exact g (.inr ⟨O,O⟩)
 .exact g (.inl rfl)
def Lm{A:LI}{k:Nat}:(aq (A.map m9) QM (QJ (k:Int))++[m9 x])++aq (A.map m9) (QJ (k:Int)) QM=(bW A k x).map m9:=by rw[eY,eZ];unfold bW;simp
def Ln{A:LI}{k:Nat}(kl:k<A.length):(aq (A.map m9) QM (QJ (k:Int))++[m9 x])++aq (A.map m9) (QJ ((k:Int)+1)) QM=(A.set k x).map m9:=by
 rw[show(k:Int)+1=((k+1:Nat):Int) by lia,eY,eZ,<- Ku kl];simp
def ko{A:LI}(h:A.length<=6):(aq (A.map m9) a b).length<=6:=by
 rw[uF,ai,bh,da];lia
def kr{GT:List TV}(P:En->Prop)(h:wS FT GT (.ite c a b .nil) ρ P rt)(k:∀ρ',P ρ'->wS FT GT r ρ' nx rt):wS FT GT (.ite c a b r) ρ nx rt :=
 au c (λ t q=>dn (λ _ q=>ly (λ q=>bK a (λ ρ' p=>k ρ' p) (λ _ h=>h) q) (λ q=>bK b (λ ρ' p=>k ρ' p) (λ _ h=>h) q) q) q) h
def zN{A:LI}(h:0<A.length):VY (A.map m9) 0=QJ (.int (A.getD 0 0)):=cH (k:=0) h
def Zt(ns:LI):∀z∈ns.map m9,Wa z=QK:=λ z hz=>by obtain⟨n,_,rfl⟩:=bn.mp hz;rfl
def Lo(k:Int)(h0:0<=k)(h1:k<6):∃x:Int,VY [m9 1,m9 2,m9 3,m9 2,m9 1,m9 8] k=QJ (.int x)/\1<=x/\x<=8:=by
 have:k=0\/k=1\/k=2\/k=3\/k=4\/k=5:=ca
 rcases this with rfl|rfl|rfl|rfl|rfl|rfl<;>exact⟨_,rfl,on,on⟩
def cX(d:Stp):VY (XC d) 0=QJ (.str (bf (VH d))):=by cases d<;>rfl
def cI{ds:List Stp}{a:Nat}(h:a<ds.length):ds[a]?=QJ (ds.getD a (.num 0)):=by rw[aA,aL h];rfl
abbrev bA(ns:LI):LI:=(Xl ns ns.length).reverse
abbrev Wo(S:LI)(b:Int)(s:LI):TV:=.tup [tI S,.int b,tI s]
def qE(ns:LI):(bA ns).length=ns.length:=by simp[Xl]
inductive Tr where
 |num (n:Int)|idx (s:Int) (ss:LI)|read (st s:Int) (ss:LI)
 |each (w:Str) (t:Tr)|pair (w:Str) (a b:Tr)|pick (a b c:Tr)|fold (w:Str) (n:Int) (t:Tr)
 |fetch (st s r n:Int) (ss:LI) (t:Tr)
noncomputable def Xe:Tr->List Tr
 |.each _ t=>[t]|.pair _ a b=>[a,b]|.pick a b c=>[a,b,c]|.fold _ _ t=>[t]|.fetch _ _ _ _ _ t=>[t]
 |_=>[]
noncomputable def Zu:Tr->List (Int×LI)
 |.idx s ss=>[(s,ss)]|.read _ s ss=>[(s,ss)]|.fetch _ s _ _ ss _=>[(s,ss)]
 |_=>[]
noncomputable def VX:Tr->List (Int×LI)
 |.num _=>[]|.idx s ss=>[(s,ss)]|.read _ s ss=>[(s,ss)]
 |.each _ t=>VX t|.pair _ a b=>VX a++VX b|.pick a b c=>VX a++(VX b++VX c)|.fold _ _ t=>VX t|.fetch _ s _ _ ss t=>(s,ss)::VX t
noncomputable def VL:Tr->Nat
 |.each _ t=>VL t+1|.pair _ a b=>max (VL a) (VL b)+1|.pick a b c=>max (VL a) (max (VL b) (VL c))+1|.fold _ _ t=>VL t+1|.fetch _ _ _ _ _ t=>VL t+1
 |_=>0
def YT:Tr->List TV
 |.num n=>[.str "num",.int n]|.idx s ss=>[.str "index",.int s,tI ss]|.read st s ss=>[.str "read",.int st,.int s,tI ss]
 |.each w _=>[.str "each",.str w]|.pair w _ _=>[.str "pair",.str w]|.pick _ _ _=>[.str "pick"]|.fold w n _=>[.str "fold",.str w,.int n]
 |.fetch st s r n ss _=>[.str "fetch",.int st,.int s,.int r,.int n,tI ss]
def WE:Tr->List TV
 |.num n=>[.str "num",.int n]|.idx s ss=>[.str "index",.int s,tI ss]|.read st s ss=>[.str "read",.int st,.int s,tI ss]
 |.each w t=>[.str "each",.str w,.tup (WE t)]|.pair w a b=>[.str "pair",.str w,.tup (WE a),.tup (WE b)]|.pick a b c=>[.str "pick",.tup (WE a),.tup (WE b),.tup (WE c)]|.fold w n t=>[.str "fold",.str w,.int n,.tup (WE t)]
 |.fetch st s r n ss t=>[.str "fetch",.int st,.int s,.int r,.int n,tI ss,.tup (WE t)]
abbrev VG(t:Tr):TV:=.tup (WE t)
abbrev Gf:=Int->LI->Int×LI
def rm(g:Gf):Tr->Tr
 |.num n=>.num n|.idx s ss=>.idx (g s ss).1 (g s ss).2|.read st s ss=>.read st (g s ss).1 (g s ss).2
 |.each w t=>.each w (rm g t)|.pair w a b=>.pair w (rm g a) (rm g b)|.pick a b c=>.pick (rm g a) (rm g b) (rm g c)|.fold w n t=>.fold w n (rm g t)
 |.fetch st s r n ss t=>.fetch st (g s ss).1 r n (g s ss).2 (rm g t)
def Lr(g:Gf)(t:Tr):n6 (YT (rm g t)++(Xe t).map λ b=>VG (rm g b))=VG (rm g t):=by cases t<;>rfl
def zP{t b:Tr}(h:b∈Xe t):VL b<VL t:=by
 cases t with
 |each w t|fold w n t|fetch _ _ _ _ _ t=>cases aJ.mp h;exact jM _
 |pair w a c=>
  show VL b<max (VL a) (VL c)+1
  rcases aH.mp h with rfl|h
  .lia
  .cases aJ.mp h;lia
 |pick a c e=>
  show VL b<max (VL a) (max (VL c) (VL e))+1
  rcases aH.mp h with rfl|h
  .lia
  .rcases aH.mp h with rfl|h
   .lia
   .cases aJ.mp h;lia
 |_=>cases h
def Lu{t b:Tr}(h:b∈Xe t):∀p∈VX b,p∈VX t:=by
 intro p hp
 cases t with
 |each w t|fold w n t=>cases aJ.mp h;exact hp
 |fetch _ _ _ _ _ t=>cases aJ.mp h;exact bg _ hp
 |pair w a c=>
  rcases aH.mp h with rfl|h
  .exact fZ _ hp
  .cases aJ.mp h;exact bR _ hp
 |pick a c e=>
  rcases aH.mp h with rfl|h
  .exact fZ _ hp
  .rcases aH.mp h with rfl|h
   .exact bR _ (fZ _ hp)
   .cases aJ.mp h;exact bR _ (bR _ hp)
 |_=>cases h
def Lv{t:Tr}:∀p∈Zu t,p∈VX t:=by
 intro p hp
 cases t with
 |idx s ss|read st s ss=>exact hp
 |fetch st s r n ss t=>cases aJ.mp hp;exact bc
 |_=>cases hp
def h8(Φ:Vv)(g:Gf)(l:List (Int×LI)):Prop:=∀p∈l,∀Q:TV->Prop,Q (.tup [.int (g p.1 p.2).1,tI (g p.1 p.2).2])->Φ [.int p.1,tI p.2] Q
def Lw:∀x∈[n9 "num",.str "index",.str "read"],Wa x=QK:=on
def qF:∀x∈[n9 "each",.str "pair"],Wa x=QK:=on
def zQ(t:Tr):(Xe t).length<=3:=by cases t<;>exact cP rfl
def Lx(t:Tr):(YT t).length<=6:=by cases t<;>exact cP rfl
def iG(n m:Nat):Gf:=λ s ss=>(s,ss.take n++eV m++ss.drop n)
def fb(n k:Nat):Gf:=λ s ss=>(s,bW (ss.eraseIdx k) (n-1) (ss.getD k 0))
def isM(Φ:Vv)(S:LI)(h:Gf)(l:List (Int×LI)):Prop:=∀p∈l,∃S':LI,∀Q:TV->Prop,Q (Wo S' (h p.1 p.2).1 (h p.1 p.2).2)->Φ [Wo S p.1 p.2] Q
def nW(n:Nat)(t:Tr):Prop:=∀p∈VX t,n<=p.2.length/\p.2.length<=60
def nX(ns:LI):LF (tI ns):=by
 unfold tI;simp[LF]
def Ly(m n:Nat):(QT ((m:Int)-(n:Int)).toNat (RE TV.fz [m9 0])).flatten=(eV (m-n)).map m9:=by
 rw[show((m:Int)-(n:Int)).toNat=m-n by lia];unfold eV;rw[nY];exact zR
def Yf:Stp->Prop
 |.turn ..=>True|.flip ..=>True|.cut ..=>True|.spread ..=>True
 |_=>False
def eJ(A:LI):Stp->Gf
 |.turn _ os=>λ s ss=>(s,cq ss os++ss.drop A.length)
 |.flip _ k=>λ s ss=>(s+(A.getD k.toNat 0-1)*ss.getD k.toNat 0,ss.set k.toNat (-ss.getD k.toNat 0))
 |.cut _ k f _ g=>λ s ss=>(s+f*ss.getD k.toNat 0,ss.set k.toNat (ss.getD k.toNat 0*g))
 |.spread _ k _=>λ s ss=>(s,bW ss k.toNat 0)
 |_=>λ s ss=>(s,ss)
def fc(ds:List Stp)(k:Nat)(R:List Bool):List Bool:=if R.getD k QL=QK then (ah (ds.getD k (.num 0))).foldl (λ R a=>R.set a QK) R else R
def bP(ds:List Stp)(n:Nat):Nat->List Bool->List Bool
 |0,R=>R
 |i+1,R=>fc ds (n-1-i) (bP ds n i R)
def bM(n:Nat)(es:LI):List Bool:=es.foldl (λ R e=>R.set e.toNat QK) (QT n QL)
def aE(ds:List Stp)(es:LI):List Nat:=(QW ds.length).filter λ k=>(bP ds ds.length ds.length (bM ds.length es)).getD k QL
def Lz(l:List Bool)(es:LI):(es.foldl (λ R e=>R.set e.toNat QK) l).length=l.length:=by
 induction es generalizing l with
 |nil=>rfl
 |cons e es ih=>rw[gk,ih,cF]
def fg(n:Nat)(es:LI):(bM n es).length=n:=by unfold bM;rw[Lz,dO]
def LB{es:LI}{i:Nat}(h:es[i]?=QJ e):bM n (es.take (i+1))=(bM n (es.take i)).set e.toNat QK:=by unfold bM;rw[gA,h,iD];rfl
def uH(l:List Bool)(as:List Nat):(as.foldl (λ R a=>R.set a QK) l).length=l.length:=by
 induction as generalizing l with
 |nil=>rfl
 |cons e es ih=>rw[gk,ih,cF]
def LC(ds:List Stp)(k:Nat)(R:List Bool):(fc ds k R).length=R.length:=by
 unfold fc;split
 .exact uH _ _
 .rfl
theorem lV(ds:List Stp)(n:Nat)(R:List Bool):∀i,(bP ds n i R).length=R.length
 |0=>rfl
 |i+1=>by rw[bP,LC,lV ds n R i]
def uI{n:Nat}(h:n<=40):RF ((n:Int)-1) (-1) (-1)=QK/\Rg ((n:Int)-1) (-1) (-1)=(n:Int):=by
 have z:∀m:Fin 41,RF ((m.val:Int)-1) (-1) (-1)=QK/\Rg ((m.val:Int)-1) (-1) (-1)=(m.val:Int):=by decide +kernel
 exact z ⟨n,ca⟩
def Xf{R:List Bool}{k:Nat}(h:k<R.length):VY (R.map TV.bl) (k:Int)=QJ (.bl (R.getD k QL)):=im (by rw[aW,aL h,aA,aL h];rfl)
theorem uJ:∀(as:List Nat) (R:List Bool) (j:Nat),(as.foldl (λ R a=>R.set a QK) R).getD j QL=QK ↔ (j∈as/\j<R.length)\/R.getD j QL=QK
 |[],R,j=>by simp
 |a::as,R,j=>by
  rw[gk,uJ as];rw[cF,aA,aA,cV];by_cases c:a=j
  .subst c;rw[m7 rfl];by_cases l:a<R.length
   .simp[l]
   .simp[l]
  .rw[k9 c];have:¬j=a:=λ z=>c z.symm;simp[this]
def uK{n:Nat}{es:LI}(he:∀e∈es,0<=e/\e<(n:Int))(j:Nat):(bM n es).getD j QL=QK ↔ (j:Int)∈es:=by
 have e:bM n es=(es.map Int.toNat).foldl (λ R a=>R.set a QK) (QT n QL):=by unfold bM;rw[List.foldl_map]
 rw[e,uJ,dO];have z:¬(QT n QL).getD j QL=QK:=by rw[aA,dH];split<;>simp
 constructor
 .rintro(⟨h,_⟩|h)
  .obtain⟨x,hx,rfl⟩:=bn.mp h;rw[nE (he x hx).1];exact hx
  .exact m8 h z
 .intro h;exact .inl ⟨bn.mpr ⟨_,h,QV j⟩,by have:=(he _ h).2;lia⟩
section
variable {ds:List Stp}{R:List Bool}{n:Nat}
def qG(hl:R.length=n)(i j:Nat):(bP ds n (i+1) R).getD j QL=QK ↔ (bP ds n i R).getD j QL=QK\/((bP ds n i R).getD (n-1-i) QL=QK/\j∈ah (ds.getD (n-1-i) (.num 0))/\j<n):=by
 show(fc ds (n-1-i) (bP ds n i R)).getD j QL=QK ↔ _;unfold fc;split
 .rename_i c;rw[uJ,lV,hl];constructor
  .rintro(h|h)
   .exact .inr ⟨c,h⟩
   .exact .inl h
  .rintro(h|h)
   .exact .inr h
   .exact .inl h.2
 .rename_i c;constructor
  .exact .inl
  .rintro(h|h)
   .exact h
   .exact m8 h.1 c
theorem qH(hl:R.length=n):∀m,(bP ds n i R).getD j QL=QK->(bP ds n (i+m) R).getD j QL=QK
 |0,h=>h
 |m+1,h=>(qG hl (i+m) j).mpr (.inl (qH hl m h))
theorem zU(hl:R.length=n)(ha:∀(k:Nat) (e:Stp),ds[k]?=QJ e->∀a∈ah e,a<k)(dl:ds.length=n){k:Nat}(hk:k<n):∀m,n-1-k+m<=n->(bP ds n (n-1-k+m) R).getD k QL=QK->(bP ds n (n-1-k) R).getD k QL=QK
 |0,_,h=>h
 |m+1,hm,h=>by
  rcases(qG hl (n-1-k+m) k).mp h with h|⟨_,h,_⟩
  .exact zU hl ha dl hk m ca h
  .have lt:n-1-(n-1-k+m)<ds.length:=by lia
   have:=ha _ _ (cI lt) k h;lia
end
def mem_reach{ds:List Stp}{es:LI}{k:Nat}:k∈aE ds es ↔ k<ds.length/\(bP ds ds.length ds.length (bM ds.length es)).getD k QL=QK:=by
 unfold aE;rw[hW,hZ]
def LD{ds:List Stp}{es:LI}(he:∀e∈es,0<=e/\e<(ds.length:Int)){k:Nat}(h:(k:Int)∈es):k∈aE ds es:=by
 refine mem_reach.mpr ⟨by have:=(he _ h).2;lia,?_⟩;have:=qH (ds:=ds) (fg ds.length es) ds.length (i:=0) ((uK he k).mpr h)
 rwa [Nat.zero_add] at this
def nZ{ds:List Stp}{es:LI}(ha:∀(k:Nat) (e:Stp),ds[k]?=QJ e->∀a∈ah e,a<k){k a:Nat}(h:k∈aE ds es)(m:a∈ah (ds.getD k (.num 0))):a∈aE ds es:=by
 obtain⟨kl,hk⟩:=mem_reach.mp h;have al:=ha k _ (cI kl) a m;have hl:=fg ds.length es;have b:=zU hl ha rfl kl (k+1) ca (by rw[show ds.length-1-k+(k+1)=ds.length by lia];exact hk);refine mem_reach.mpr ⟨ca,?_⟩;have s:=(qG hl (ds.length-1-k) a).mpr (.inr ⟨by rw[show ds.length-1-(ds.length-1-k)=k by lia];exact b,by rw[show ds.length-1-(ds.length-1-k)=k by lia];exact m,ca⟩);have t:=qH hl k s
 rwa [show ds.length-1-k+1+k=ds.length by lia] at t
def jz{mo:Int}(gl:cO mo ds Ss):∀(k:Nat) (e:Stp),ds[k]?=QJ e->∀a∈ah e,a<k:=λ k e he a ha=>by
 have kl:=(aN.mp he).1;have eS:=aL (show k<Ss.length by rw[<- gl.1];exact kl);have:=uC (gl.2.2 k e _ he eS) a ha;rw[bh] at this;lia
def kt{mo:Int}(gl:cO mo ds Ss):∀d∈ds,∀a∈ah d,a<ds.length:=λ d hd a ha=>by
 obtain⟨k,ek⟩:=jq hd;have:=jz gl k d ek a ha;have:=(aN.mp ek).1;lia
noncomputable def Wi(u:Nat)(as:List Nat)(U:List (LL)):List (LL):=as.zipIdx.foldl (λ U q=>U.set q.1 (U.getD q.1 []++[[(u:Int),(q.2:Int)]])) U
def Wp(ds:List Stp)(live:List Nat):List (LL):=live.foldl (λ U u=>Wi u (ah (ds.getD u (.num 0))) U) (QT ds.length [])
def aQ(ds:List Stp)(os:LI):List (LL):=Wp ds (aE ds os)
def jA{u j a:Nat}{as:List Nat}(h:as[j]?=QJ a):Wi u (as.take (j+1)) U=(Wi u (as.take j) U).set a ((Wi u (as.take j) U).getD a []++[[(u:Int),(j:Int)]]):=by
 have l:(as.take j).length=j:=by rw[bh];have:=(aN.mp h).1;lia
 unfold Wi;rw[gA,h,List.zipIdx_append,iD,l];show Tt _ _ [(a,0+j)]=_;rw[Nat.zero_add];rfl
theorem zV{u:Nat}:∀(l:List (Nat×Nat)) (U:List (LL)),(l.foldl (λ U q=>U.set q.1 (U.getD q.1 []++[[(u:Int),(q.2:Int)]])) U).length=U.length
 |[],_=>rfl
 |q::l,U=>by rw[gk,zV l,cF]
def qI(u:Nat)(as:List Nat)(U:List (LL)):(Wi u as U).length=U.length:=zV _ _
def oa(ds:List Stp)(live:List Nat):(Wp ds live).length=ds.length:=by
 have z:∀(live:List Nat) (U:List (LL)),(live.foldl (λ U u=>Wi u (ah (ds.getD u (.num 0))) U) U).length=U.length:=λ live=>by
  induction live with
  |nil=>intro U;rfl
  |cons u l ih=>intro U;rw[gk,ih,qI]
 unfold Wp;rw[z,dO]
def oe{live:List Nat}{i u:Nat}(h:live[i]?=QJ u):Wp ds (live.take (i+1))=Wi u (ah (ds.getD u (.num 0))) (Wp ds (live.take i)):=by
 unfold Wp;rw[gA,h,iD];rfl
def Yu(n:Nat)(U:List (LL)):Prop:=∀l∈U,l.length<=n
def LG{x:LI}(h:Yu n U):Yu (n+1) (U.set a (U.getD a []++[x])):=λ l hl=>by
 rcases nS hl with hl|rfl
 .have:=h l hl;lia
 .rw[aK];by_cases c:a<U.length
  .have:=h (U.getD a []) (by rw[aA,aL c];exact lw c);show _+1<=_;lia
  .rw[aA,eI ca];show 0+1<=n+1;lia
theorem qJ{as:List Nat}(h:Yu n U):∀j,Yu (n+j) (Wi u (as.take j) U)
 |0=>by rw[jB];exact h
 |j+1=>by
  cases e:as[j]? with
  |none=>
   rw[ce (by have:=dM.mp e;lia),<- ce (l:=as) (i:=j) (by have:=dM.mp e;lia)];exact λ l hl=>by have:=qJ (u:=u) (as:=as) h j l hl;lia
  |some a=>rw[jA e];exact LG (qJ h j)
def zW(d:Stp):(ah d).length<=3:=by cases d<;>exact cP rfl
theorem qK{live:List Nat}:∀i,Yu (3*i) (Wp ds (live.take i))
 |0=>by rw[jB];intro l hl;rw[(List.mem_replicate.mp hl).2];exact ak _
 |i+1=>by
  cases e:live[i]? with
  |none=>
   rw[ce (by have:=dM.mp e;lia),<- ce (l:=live) (i:=i) (by have:=dM.mp e;lia)];exact λ l hl=>by have:=qK (ds:=ds) (live:=live) i l hl;lia
  |some u=>
   rw[oe e];have z:=qJ (u:=u) (as:=ah (ds.getD u (.num 0))) (qK (ds:=ds) (live:=live) i) (ah (ds.getD u (.num 0))).length;rw[bG] at z;have:=zW (ds.getD u (.num 0));exact λ l hl=>by have:=z l hl;lia
def zX(ds:List Stp)(es:LI):(aE ds es).length<=ds.length:=by unfold aE;exact cY (lW _ _) (by rw[bL];exact ak _)
def uL{l:List Nat}{i:Nat}(h:(l.map λ k:Nat=>m9 (k:Nat))[i]?=QJ t):∃k,t=.int (k:Nat)/\l[i]?=QJ k:=by
 rw[aW] at h;obtain⟨k,e,q⟩:=jr.mp h;exact⟨k,q.symm,e⟩
noncomputable def gt(Ts:List (Option Tr))(a:Nat):Tr:=(Ts.getD a QM).getD (.num 0)
def Wj:Option Tr->TV
 |some t=>VG t
 |none=>.non
def qL:Tr->Int
 |.read st _ _=>st
 |_=>0
noncomputable abbrev Vy(Ss:LL)(a:Nat):LI:=Ss.getD a []
def bE(Ts:List (Option Tr))(Ss:LL)(S:LI)(a:Nat):Tr:=rm (iG (Vy Ss a).length (S.length-(Vy Ss a).length)) (gt Ts a)
def kw(r:Tr)(A B:LI)(row:Tr):Tr:=match r with
 |.read st s ss=>.fetch st s (ss.getD 0 0) (A.getD 0 0) (eV B.length++ss.drop 1) row
 |_=>.num 0
def cE(Ts:List (Option Tr))(Ss:LL)(S:LI):Stp->Option Tr
 |.num n=>QJ (.num n)
 |.count _ k=>QJ (.idx 0 ((QW S.length).map λ j:Nat=>if (j:Int)=k then 1 else 0))
 |.each w a=>QJ (.each w (bE Ts Ss S a))
 |.pair w a b=>QJ (.pair w (bE Ts Ss S a) (bE Ts Ss S b))
 |.pick a b c=>QJ (.pick (bE Ts Ss S a) (bE Ts Ss S b) (bE Ts Ss S c))
 |.lay a _=>QJ (.read (qL (gt Ts a)) 0 (bA S))
 |.fetch a b=>QJ (kw (gt Ts a) (Vy Ss a) (Vy Ss b) (bE Ts Ss S b))
 |.fold w a k=>QJ (.fold w ((Vy Ss a).getD k.toNat 0) (rm (fb (Vy Ss a).length k.toNat) (gt Ts a)))
 |.turn a os=>QJ (rm (eJ (Vy Ss a) (.turn a os)) (gt Ts a))
 |.flip a k=>QJ (rm (eJ (Vy Ss a) (.flip a k)) (gt Ts a))
 |.cut a k f m g=>QJ (rm (eJ (Vy Ss a) (.cut a k f m g)) (gt Ts a))
 |.spread a k m=>QJ (rm (eJ (Vy Ss a) (.spread a k m)) (gt Ts a))
 |_=>QM
def fU(t:Tr):Prop:=∃st s ss,t=.read st s ss
def XR(n:Nat)(S:LI)(t:Tr):Prop:=VL t<=n/\∀p∈VX t,S.length<=p.2.length/\p.2.length<=S.length+VL t
def zY(Ts:List (Option Tr))(Ss:LL)(d:Stp):Prop:=(∀a∈ah d,∃t A,Ts[a]?=QJ (QJ t)/\Ss[a]?=QJ A/\XR 40 A t)/\(∀a ms,d=.lay a ms->fU (gt Ts a))/\∀a b,d=.fetch a b->fU (gt Ts a)
def dF{Ts:List (Option Tr)}{a:Nat}(e:Ts[a]?=QJ (QJ t)):gt Ts a=t:=by unfold gt;rw[aA,e];rfl
def Wk{Ss:LL}{a:Nat}(e:Ss[a]?=QJ A):Vy Ss a=A:=by unfold Vy;rw[aA,e];rfl
def og(h:XR n A t)(a6:A.length<=6)(n4:n<=40):VL t<=41/\nW A.length t:=⟨by have:=h.1;lia,λ p hp=>by have:=h.2 p hp;have:=h.1;lia⟩
def zZ(m:Yf d):∃a,ah d=[a]/\_L.eqT (.str (bf (VH d))) (.str "num")=QL/\_L.eqT (.str (bf (VH d))) (.str "count")=QL/\_L.inT (.str (bf (VH d))) [.str "each",.str "pair",.str "pick"]=QL/\_L.inT (.str (bf (VH d))) [.str "turn",.str "flip",.str "cut",.str "spread"]=QK:=by
 cases d<;>first|exact m.elim|exact⟨_,rfl,rfl,rfl,rfl,rfl⟩
noncomputable def Aa:Stp->Bool
 |.each .. | .pair .. | .pick ..=>QK
 |_=>QL
def LH(m:Aa d=QK):(VH d=VH (.each "" 0)\/VH d=VH (.pair "" 0 0)\/VH d=VH (.pick 0 0 0))/\_L.eqT (.str (bf (VH d))) (.str "num")=QL/\_L.eqT (.str (bf (VH d))) (.str "count")=QL/\_L.inT (.str (bf (VH d))) [.str "each",.str "pair",.str "pick"]=QK/\((ah d).length<=3/\(aq (XC d) QM (QJ (((XC d).length:Int)-((((ah d).map λ a:Nat=>(a:Int)).map m9).length:Nat)))).length+((ah d).map λ a=>VG (bE Ts Ss S a)).length<=1000)/\Wj (cE Ts Ss S d)=.tup (aq (XC d) QM (QJ (((XC d).length:Int)-((((ah d).map λ a:Nat=>(a:Int)).map m9).length:Nat)))++(ah d).map λ a=>VG (bE Ts Ss S a)):=by
 cases d with
 |each=>exact⟨.inl rfl,rfl,rfl,rfl,⟨cP rfl,cP rfl⟩,rfl⟩
 |pair=>exact⟨.inr (.inl rfl),rfl,rfl,rfl,⟨cP rfl,cP rfl⟩,rfl⟩
 |pick=>exact⟨.inr (.inr rfl),rfl,rfl,rfl,⟨cP rfl,cP rfl⟩,rfl⟩
 |_=>cases m
def Ab(m:Yf d):cE Ts Ss S d=QJ (rm (eJ (Vy Ss ((ah d).headD 0)) d) (gt Ts ((ah d).headD 0))):=by cases d<;>first|rfl|exact m.elim
def lX:∀x∈[n9 "each",.str "pair",.str "pick"],Wa x=QK:=on
def oh:∀x∈[n9 "turn",.str "flip",.str "cut",.str "spread"],Wa x=QK:=on
theorem iH:∀t:Tr,LF (VG t)
 |.num n=>by simp[VG,WE,LF]
 |.idx s ss=>by simp[VG,WE,LF];exact nX ss
 |.read st s ss=>by simp[VG,WE,LF];exact nX ss
 |.each w t=>by have h:=iH t;simp[VG,WE,LF] at *;exact h
 |.pair w a b=>by have h1:=iH a;have h2:=iH b;simp[VG,WE,LF] at *;exact⟨h1,h2⟩
 |.pick a b c=>by have h1:=iH a;have h2:=iH b;have h3:=iH c;simp[VG,WE,LF] at *;exact⟨h1,h2,h3⟩
 |.fold w n t=>by have h:=iH t;simp[VG,WE,LF] at *;exact h
 |.fetch st s r n ss t=>by have h:=iH t;have h2:=nX ss;simp[VG,WE,LF] at *;exact⟨h2,h⟩
def LJ(o:Option Tr):LF (Wj o):=by cases o with|none=>simp[Wj,LF]|some t=>exact iH t
def LK(m:Nat):(QT ((m:Nat):Int).toNat (RE TV.fz [m9 0])).flatten=(eV m).map m9:=by
 rw[QV];unfold eV;rw[nY];exact zR
def uM(ok:Wu Ss S d)(h:VH d=VH (.each "" 0)\/VH d=VH (.pair "" 0 0)\/VH d=VH (.pick 0 0 0)):∀a∈ah d,∃A,Ss[a]?=QJ A/\S.take A.length=A:=by
 have tw:∀ {A B C:LI},B.take A.length=A->C.take B.length=B->C.take A.length=A:=λ {A B C} h h2=>by
  have l:A.length<=B.length:=by rw[<- h,bh];lia
  have e:(C.take B.length).take A.length=C.take A.length:=by rw[List.take_take,gq l]
  rw[<- e,h2,h]
 cases d with
 |each w a=>intro b hb;cases aJ.mp hb;exact⟨S,ok.1,bG⟩
 |pair w a b=>
  obtain⟨A,B,ea,eb,_,po,rfl⟩:=ok;have:=ur po;intro c hc
  rcases aH.mp hc with rfl|hc
  .exact⟨A,ea,this.1⟩
  .cases aJ.mp hc;exact⟨B,eb,this.2⟩
 |pick a b c=>
  obtain⟨A,B,C,ea,eb,ec,po,po2,rfl⟩:=ok;have h1:=ur po;have h2:=ur po2;intro c' hc
  rcases aH.mp hc with rfl|hc
  .exact⟨A,ea,tw h1.1 h2.1⟩
  .rcases aH.mp hc with rfl|hc
   .exact⟨B,eb,tw h1.2 h2.1⟩
   .cases aJ.mp hc;exact⟨C,ec,h2.2⟩
 |_=>rcases h with h|h|h<;>cases h
noncomputable def uN(d:Stp)(p:Int):Bool:=match d with
 |.pair ..=>QK|.pick ..=>QK|.fetch ..=>decide (p=1)
 |_=>QL
def fV(ds:List Stp)(Ss:LL)(k u:Nat)(p:Int):Bool:=uN (ds.getD u (.num 0)) p&&decide (((Vy Ss k).length:Int)<((Vy Ss u).length:Int))
def gD{ds:List Stp}{a:Nat}(e:ds[a]?=QJ d):ds.getD a (.num 0)=d:=by rw[aA,e];rfl
def uO:∀x∈[n9 "pair",.str "pick"],Wa x=QK:=on
def uP:∀x∈[n9 "run",.str "join"],Wa x=QK:=on
def WY(ds:List Stp)(x:LI):Str:=bf (VH (ds.getD (x.getD 0 0).toNat (.num 0)))
abbrev Xg(ds:List Stp)(us:LL):List TV:=us.map λ x=>.str (WY ds x)
def gE(ds:List Stp)(x:LI):Bool:=if _L.eqT (n9 (WY ds x)) (.str "fetch")=QK then _L.eqT (m9 (x.getD 1 0)) (.int 0) else QL
noncomputable def XT:Tr->Str
 |.num _=> "num" |.idx _ _=> "index" |.read _ _ _=> "read" |.each _ _=> "each" |.pair _ _ _=> "pair" |.pick _ _ _=> "pick" |.fold _ _ _=> "fold" |.fetch _ _ _ _ _ _=> "fetch"
noncomputable def cy:Tr->Bool
 |.num _=>QK|.idx _ _=>QK|.read _ _ _=>QK|_=>QL
def trK(t:Tr):VY (WE t) 0=QJ (.str (XT t)):=by cases t<;>rfl
def qM(ds:List Stp)(Ss:LL)(k:Nat)(t:Tr)(us:LL):Bool:=if cy t=QK then QL else if decide (1<(us.length:Int))=QK then QK else if inT (.str "spread") (Xg ds us)=QK then QK else (us.map λ x=>fV ds Ss k (x.getD 0 0).toNat (x.getD 1 0)).any id
def jC(ds:List Stp)(Ss:LL)(os:LI)(k:Nat)(t:Tr)(us:LL):Bool:=if inT (.int (k:Nat)) (os.map .int)=QK then QK else if inT (.str "lay") (Xg ds us)=QK then QK else if (if (!_L.eqT (n9 (XT t)) (.str "read"))=QK then (us.map (gE ds)).any id else QL)=QK then QK else qM ds Ss k t us
def jD(ds:List Stp)(Ss:LL)(os:LI)(k:Nat)(d:Stp)(o:Option Tr)(us:LL):Bool:=match d with
 |.lay ..=>QL|.run ..=>QK|.join ..=>QK
 |_=>jC ds Ss os k (o.getD (.num 0)) us
def ky:Stp->Prop
 |.inp ..=>True|.run ..=>True|.join ..=>True
 |_=>False
noncomputable def qN:Stp->Bool
 |.lay .. | .run .. | .join .. | .inp _=>QK
 |_=>QL
def Ac(h:qN d=QL):¬ky d/\_L.eqT (.str (bf (VH d))) (.str "lay")=QL/\_L.inT (.str (bf (VH d))) [.str "run",.str "join"]=QL/\∀ds Ss os k t us,jD ds Ss os k d (QJ t) us=jC ds Ss os k t us:=by
 cases d<;>first|exact QN h|exact⟨λ z=>z,rfl,rfl,λ _ _ _ _ _ _=>rfl⟩
def Ad{α:Type}(f:α->Bool)(l:List α):(l.map λ x=>TV.bl (f x))=(l.map f).map TV.bl:=by rw[cg];rfl
def h9(ds:List Stp)(us:LL):∀x∈Xg ds us,Wa x=QK:=λ x hx=>by obtain⟨n,_,rfl⟩:=bn.mp hx;rfl
theorem dN(g:Gf):∀t:Tr,VL (rm g t)=VL t
 |.num _=>rfl|.idx _ _=>rfl|.read _ _ _=>rfl
 |.each _ t=>by show VL (rm g t)+1=_;rw[dN g t];rfl
 |.pair _ a b=>by show max (VL (rm g a)) (VL (rm g b))+1=_;rw[dN g a,dN g b];rfl
 |.pick a b c=>by show max (VL (rm g a)) (max (VL (rm g b)) (VL (rm g c)))+1=_;rw[dN g a,dN g b,dN g c];rfl
 |.fold _ _ t=>by show VL (rm g t)+1=_;rw[dN g t];rfl
 |.fetch _ _ _ _ _ t=>by show VL (rm g t)+1=_;rw[dN g t];rfl
theorem iI(g:Gf):∀t:Tr,VX (rm g t)=(VX t).map λ p=>g p.1 p.2
 |.num _=>rfl|.idx _ _=>rfl|.read _ _ _=>rfl
 |.each _ t=>iI g t
 |.pair _ a b=>by show VX (rm g a)++VX (rm g b)=_;rw[iI g a,iI g b,<- bD];rfl
 |.pick a b c=>by show VX (rm g a)++(VX (rm g b)++VX (rm g c))=_;rw[iI g a,iI g b,iI g c,<- bD,<- bD];rfl
 |.fold _ _ t=>iI g t
 |.fetch _ s _ _ ss t=>by show(g s ss)::VX (rm g t)=_;rw[iI g t];rfl
def XG(S:LI)(m:Nat)(t:Tr):Prop:=∀p∈VX t,S.length<=p.2.length/\p.2.length<=S.length+m
def uQ{A S:LI}{m m':Nat}{g:Gf}(h:XG A m t)(hg:∀s ss,A.length<=ss.length->ss.length<=A.length+m->S.length<=(g s ss).2.length/\(g s ss).2.length<=S.length+m'):XG S m' (rm g t):=λ p hp=>by
 rw[iI] at hp;obtain⟨q,hq,rfl⟩:=bn.mp hp;exact hg q.1 q.2 (h q hq).1 (h q hq).2
def LM{n m:Nat}{ss:LI}(h:n<=ss.length):(iG n m s ss).2.length=ss.length+m:=by
 show(ss.take n++eV m++ss.drop n).length=_;rw[aK,aK,bh,da,qr];lia
def Ae{A S:LI}(h:XG A m t)(hp:S.take A.length=A):XG S m (rm (iG A.length (S.length-A.length)) t):=by
 have le:A.length<=S.length:=by rw[<- hp,bh];lia
 exact uQ h λ s ss h1 h2=>by rw[LM h1];lia
def lY{m m':Nat}(h:XG S m t)(l:m<=m'):XG S m' t:=λ p hp=>by have:=h p hp;lia
def uR{S:LI}{m:Nat}{a b:List (Int×LI)}(h1:∀p∈a,S.length<=p.2.length/\p.2.length<=S.length+m)(h2:∀p∈b,S.length<=p.2.length/\p.2.length<=S.length+m):∀p∈a++b,S.length<=p.2.length/\p.2.length<=S.length+m:=λ p hp=>(cr.mp hp).elim (h1 p) (h2 p)
def uS(l:LI)(k:Nat)(m:Int):(bW l k m).length=l.length+1:=zb l k m
def Af{k:Nat}{Ts:List (Option Tr)}(ok:Wu Ss S d)(hA:∀a∈ah d,a<k/\∃u A,Ts[a]?=QJ (QJ u)/\Ss[a]?=QJ A/\XR a A u)(hf:∀a b,d=.fetch a b->fU (gt Ts a))(e:cE Ts Ss S d=QJ t):XR k S t:=by
 have led:(VH d=VH (.each "" 0)\/VH d=VH (.pair "" 0 0)\/VH d=VH (.pick 0 0 0))->∀a∈ah d,VL (bE Ts Ss S a)<k/\XG S (VL (bE Ts Ss S a)) (bE Ts Ss S a):=λ h a ha=>by
  obtain⟨al,u,A,eu,eA,wf⟩:=hA a ha;obtain⟨A',eA',hp⟩:=uM ok h a ha;cases eA.symm.trans eA';unfold bE;rw[dF eu,Wk eA,dN];have:=wf.1;exact⟨ca,Ae wf.2 hp⟩
 rcases Classical.em (Yf d) with m|m
 .obtain⟨a,ea,_⟩:=zZ m;obtain⟨al,u,A,eu,eA,wf⟩:=hA a (by rw[ea];exact bc);have e:=(Ab m).symm.trans e;rw[ea] at e;have e:QJ (rm (eJ (Vy Ss a) d) (gt Ts a))=QJ t:=e;rw[dF eu,Wk eA] at e;cases e;refine⟨by rw[dN];have:=wf.1;lia,?_⟩;rw[dN];refine uQ wf.2 λ s ss h1 h2=>?_
  cases d with
  |turn b os=>
   obtain⟨A',eA',tk,rfl⟩:=ok;cases (show[b]=[a] from ea);cases eA.symm.trans eA';have ol:=zF tk;show(cq A os).length<=(cq ss os++ss.drop A.length).length/\(cq ss os++ss.drop A.length).length<=(cq A os).length+VL u;unfold cq;rw[aK,ag,ag,da];lia
  |flip b s'=>
   obtain⟨eA',_⟩:=ok;cases (show[b]=[a] from ea);cases eA.symm.trans eA';show _<=(ss.set _ _).length/\(ss.set _ _).length<=_;rw[cF];exact⟨h1,h2⟩
  |cut b s' f m' g=>
   obtain⟨A',eA',_,_,_,rfl⟩:=ok;cases (show[b]=[a] from ea);cases eA.symm.trans eA';show _<=(ss.set _ _).length/\(ss.set _ _).length<=_;rw[cF,cF];exact⟨h1,h2⟩
  |spread b s' m'=>
   obtain⟨A',eA',no,_,_,_,rfl⟩:=ok;cases (show[b]=[a] from ea);cases eA.symm.trans eA';show _<=(bW ss _ 0).length/\(bW ss _ 0).length<=_;rw[uS,uS];lia
  |_=>exact m.elim
 cases d with
 |num n=>cases e;exact⟨bY _,λ p hp=>nomatch hp⟩
 |count ms c=>
  cases e;refine⟨bY _,λ p hp=>?_⟩;cases aJ.mp hp;show S.length<=(RE _ _).length/\(RE _ _).length<=S.length+0;rw[ag,bL];lia
 |each w a=>
  cases e;obtain⟨h1,h2⟩:=led (.inl rfl) a (by simp[ah]);exact⟨h1,lY h2 (Nat.le_succ _)⟩
 |pair w a b=>
  cases e;obtain⟨h1,h2⟩:=led (.inr (.inl rfl)) a (by simp[ah]);obtain⟨h3,h4⟩:=led (.inr (.inl rfl)) b (by simp[ah]);refine⟨by show max _ _+1<=k;lia,?_⟩;show ∀p∈VX _++VX _,_;exact uR (lY h2 (by show _<=max _ _+1;lia)) (lY h4 (by show _<=max _ _+1;lia))
 |pick a b c=>
  cases e;obtain⟨h1,h2⟩:=led (.inr (.inr rfl)) a (by simp[ah]);obtain⟨h3,h4⟩:=led (.inr (.inr rfl)) b (by simp[ah]);obtain⟨h5,h6⟩:=led (.inr (.inr rfl)) c (by simp[ah]);refine⟨by show max _ (max _ _)+1<=k;lia,?_⟩;show ∀p∈VX _++(VX _++VX _),_;exact uR (lY h2 (by show _<=max _ (max _ _)+1;lia)) (uR (lY h4 (by show _<=max _ (max _ _)+1;lia)) (lY h6 (by show _<=max _ (max _ _)+1;lia)))
 |lay a ms=>
  cases e;refine⟨bY _,λ p hp=>?_⟩;cases aJ.mp hp;show S.length<=(bA S).length/\(bA S).length<=S.length+0;rw[qE];lia
 |fetch a b=>
  obtain⟨al,u,A,eu,eA,wf⟩:=hA a (by simp[ah]);obtain⟨bl,v,B,ev,eB,wv⟩:=hA b (by simp[ah]);obtain⟨n,r,B',ea,n0,eb,nb,rfl⟩:=ok;cases eA.symm.trans ea;cases eB.symm.trans eb;obtain⟨st,s,ss,er⟩:=hf a b rfl;have e:QJ (kw (gt Ts a) (Vy Ss a) (Vy Ss b) (bE Ts Ss (B++r) b))=QJ t:=e;cases e;rw[dF eu] at er ⊢;subst er;have lp:(n::r).length<=ss.length/\ss.length<=(n::r).length+0:=wf.2 (s,ss) bc;rw[Rs] at lp;unfold bE;rw[dF ev,Wk eB,Wk eA];have K:=Ae (S:=B++r) wv.2 s0t;refine⟨by show VL (rm _ v)+1<=k;rw[dN];have:=wv.1;lia,λ p hp=>?_⟩
  rcases aH.mp hp with rfl|hp
  .show(B++r).length<=(eV B.length++ss.drop 1).length/\(eV B.length++ss.drop 1).length<=(B++r).length+_;rw[aK,aK,qr,da];lia
  .have:=K p hp;show _/\_<=_+(VL (rm _ v)+1);rw[dN];lia
 |fold w a side=>
  obtain⟨al,u,A,eu,eA,wf⟩:=hA a (by simp[ah]);obtain⟨A',ea,hw,no,rfl⟩:=ok;cases eA.symm.trans ea;obtain⟨c,rfl,cl⟩:=dU no;have e:QJ (Tr.fold w ((Vy Ss a).getD c 0) (rm (fb (Vy Ss a).length c) (gt Ts a)))=QJ t:=e;cases e;rw[dF eu,Wk eA];refine⟨by show VL (rm _ u)+1<=k;rw[dN];have:=wf.1;lia,?_⟩;show XG (A.eraseIdx c) (VL (rm _ u)+1) (rm (fb A.length c) u);rw[dN];refine uQ wf.2 λ s ss h1 h2=>?_;show(A.eraseIdx c).length<=(bW (ss.eraseIdx c) (A.length-1) (ss.getD c 0)).length/\(bW (ss.eraseIdx c) (A.length-1) (ss.getD c 0)).length<=(A.eraseIdx c).length+(VL u+1);rw[uS,oi,oi,m7 cl,m7 ca];lia
 |turn|flip|cut|spread=>exact m8 trivial m
 |_=>cases e
def oj(h:¬ky d):∃t,cE Ts Ss S d=QJ t:=by
 cases d<;>first|exact⟨_,rfl⟩|exact m8 trivial h
def LN{u a p:Nat}{as:List Nat}{U:List (LL)}(h:as[p]?=QJ a)(al:a<U.length):[(u:Int),(p:Int)]∈(Wi u as U).getD a []:=by
 have key:∀j,p<j->[(u:Int),(p:Int)]∈(Wi u (as.take j) U).getD a []:=λ j=>by
  induction j with
  |zero=>intro h;lia
  |succ j ih=>
   intro hj
   cases e:as[j]? with
   |none=>
    have h1:=(aN.mp h).1;have h2:=dM.mp e;rw[ce ca,<- ce (l:=as) (i:=j) h2];exact ih ca
   |some b=>
    rw[jA e];have l:(Wi u (as.take j) U).length=U.length:=qI _ _ _;by_cases c:b=a
    .subst c;rw[aA,gc ca];by_cases pj:p=j
     .subst pj;exact bR _ bc
     .exact fZ _ (ih ca)
    .rw[aA,gh c,<- aA];exact ih (by rcases lZ p j with z|z;exact z;exact m8 (by rw[show j=p by lia,h] at e;cases e;rfl) c)
 have:=key as.length (aN.mp h).1
 rwa [bG] at this
def LP{x:LI}{U:List (LL)}(h:x∈U.getD a []):x∈(Wi u as U).getD a []:=by
 have key:∀j,x∈(Wi u (as.take j) U).getD a []:=λ j=>by
  induction j with
  |zero=>rw[jB];exact h
  |succ j ih=>
   cases e:as[j]? with
   |none=>
    rw[ce (by have:=dM.mp e;lia),<- ce (l:=as) (i:=j) (by have:=dM.mp e;lia)];exact ih
   |some b=>
    rw[jA e];by_cases c:b=a
    .subst c;by_cases l:b<(Wi u (as.take j) U).length
     .rw[aA,gc l];exact fZ _ ih
     .rw[uT ca];exact ih
    .rw[aA,gh c,<- aA];exact ih
 have:=key as.length
 rwa [bG] at this
def kz{ds:List Stp}{os:LI}{u p a:Nat}(hu:u∈aE ds os)(h:(ah (ds.getD u (.num 0)))[p]?=QJ a)(al:a<ds.length):[(u:Int),(p:Int)]∈(aQ ds os).getD a []:=by
 obtain⟨i,ei⟩:=jq hu
 have key:∀j,i<j->[(u:Int),(p:Int)]∈(Wp ds ((aE ds os).take j)).getD a []:=λ j=>by
  induction j with
  |zero=>intro h;lia
  |succ j ih=>
   intro hj
   cases e:(aE ds os)[j]? with
   |none=>
    have h1:=(aN.mp ei).1;have h2:=dM.mp e;rw[ce ca,<- ce (l:=aE ds os) (i:=j) h2];exact ih ca
   |some v=>
    rw[oe e];by_cases c:i=j
    .subst c;rw[ei] at e;cases e;exact LN h (by rw[oa];exact al)
    .exact LP (ih ca)
 have:=key (aE ds os).length (aN.mp ei).1
 rwa [bG] at this
def LQ{os:LI}:∀x∈(aQ ds os).getD a [],∃u p:Nat,x=[(u:Int),(p:Int)]/\u<ds.length:=by
 have inn:∀(u:Nat) (as:List Nat) (U:List (LL)),u<ds.length->(∀a,∀x∈U.getD a [],∃u p:Nat,x=[(u:Int),(p:Int)]/\u<ds.length)->∀j a,∀x∈(Wi u (as.take j) U).getD a [],∃u p:Nat,x=[(u:Int),(p:Int)]/\u<ds.length:=λ u as U ul hU j=>by
  induction j with
  |zero=>rw[jB];exact hU
  |succ j ih=>
   intro a x hx
   cases e:as[j]? with
   |none=>
    rw[ce (by have:=dM.mp e;lia),<- ce (l:=as) (i:=j) (by have:=dM.mp e;lia)] at hx;exact ih a x hx
   |some b=>
    rw[jA e] at hx;by_cases c:b=a
    .subst c;by_cases l:b<(Wi u (as.take j) U).length
     .rw[aA,gc l] at hx
      rcases cr.mp hx with hx|hx
      .exact ih b x hx
      .cases aJ.mp hx;exact⟨u,j,rfl,ul⟩
     .rw[uT ca] at hx;exact ih b x hx
    .rw[aA,gh c,<- aA] at hx;exact ih a x hx
 have key:∀j a,∀x∈(Wp ds ((aE ds os).take j)).getD a [],∃u p:Nat,x=[(u:Int),(p:Int)]/\u<ds.length:=λ j=>by
  induction j with
  |zero=>
   intro a x hx;rw[jB] at hx;have hx:x∈(QT ds.length ([]:LL)).getD a []:=hx;rw[aA,dH] at hx;split at hx<;>cases hx
  |succ j ih=>
   intro a x hx
   cases e:(aE ds os)[j]? with
   |none=>
    rw[ce (by have:=dM.mp e;lia),<- ce (l:=aE ds os) (i:=j) (by have:=dM.mp e;lia)] at hx;exact ih a x hx
   |some u=>
    rw[oe e] at hx;have z:=inn u (ah (ds.getD u (.num 0))) _ (mem_reach.mp (aC e)).1 ih (ah (ds.getD u (.num 0))).length a x;rw[bG] at z;exact z hx
 have z:=key (aE ds os).length a
 rwa [bG] at z
def LR(d:Stp):zG (λ a=>a) d=d:=by cases d<;>rfl
def XH{Ss:LL}(ok:Wu (Ss.take k) S d):Wu Ss S d:=by
 have z:=KZ (Zs:=Ss) (f:=λ a=>a) ok (λ a ha A e=>by rw[s1o] at e;split at e;exact e;cases e)
 rwa [LR] at z
theorem oo(k:Int):∀ks:LI,_L.inT (.int k) (ks.map m9)=QK ↔ k∈ks
 |[]=>by simp[_L.inT]
 |x::r=>by
  have ih:=oo k r;show(_L.eqT (.int x) (.int k) || _L.inT (.int k) (r.map m9))=QK ↔ _;rw[jo,ih,aH];show decide (x=k)=QK\/_ ↔ _;rw[cB];exact⟨λ h=>h.elim (λ z=>.inl z.symm) .inr,λ h=>h.elim (λ z=>.inl z.symm) .inr⟩
def Ag(k:Nat)(ks:List Nat):_L.inT (.int (k:Nat)) (ks.map λ j:Nat=>m9 (j:Nat))=decide (k∈ks):=by
 have z:=oo (k:Int) (ks.map λ j:Nat=>(j:Int));rw[cg] at z;have z':_L.inT (.int (k:Nat)) (ks.map λ j:Nat=>m9 (j:Nat))=QK ↔ (k:Int)∈ks.map λ j:Nat=>(j:Int):=z;rw[ij,z',cB];constructor
 .intro h;obtain⟨j,hj,e⟩:=bn.mp h;rw[<- show j=k by lia];exact hj
 .intro h;exact bn.mpr ⟨k,h,rfl⟩
def LS{s:Str}{l:List Str}(h:s∈l):_L.inT (.str s) (l.map n9)=QK:=by
 unfold _L.inT;rw[iZ];exact⟨.str s,bn.mpr ⟨s,h,O⟩,by show decide (s=s)=QK;exact bJ rfl⟩
def bv(ds:List Stp)(Ss:LL)(os:LI)(Ts:List (Option Tr))(k:Nat):Option Tr:=if k∈aE ds os then cE Ts Ss (Vy Ss k) (ds.getD k (.num 0)) else QM
noncomputable def cQ:Stp->Bool
 |.inp _=>QK
 |_=>QL
def WF(ds:List Stp)(Ss:LL)(os:LI)(Ts:List (Option Tr))(k:Nat):Bool:=cQ (ds.getD k (.num 0)) || (decide (k∈aE ds os)&&jD ds Ss os k (ds.getD k (.num 0)) (bv ds Ss os Ts k) ((aQ ds os).getD k []))
structure Wh where
 Ts:List (Option Tr)
 Bs:List (Option Tr)
 st:List Nat
def Vx(ds:List Stp)(Ss:LL)(os:LI):Nat->Wh
 |0=>⟨[],[],[]⟩
 |k+1=>
  let p:=Vx ds Ss os k
  if WF ds Ss os p.Ts k=QK then ⟨p.Ts++[QJ (.read (p.st.length:Nat) 0 (bA (Vy Ss k)))],p.Bs++[bv ds Ss os p.Ts k],p.st++[k]⟩
  else ⟨p.Ts++[bv ds Ss os p.Ts k],p.Bs++[bv ds Ss os p.Ts k],p.st⟩
theorem fW(ds:List Stp)(Ss:LL)(os:LI):∀k,(Vx ds Ss os k).Ts.length=k/\(Vx ds Ss os k).Bs.length=k/\(Vx ds Ss os k).st.length<=k
 |0=>⟨rfl,rfl,ak _⟩
 |k+1=>by
  obtain⟨h1,h2,h3⟩:=fW ds Ss os k;show(if _ then _ else _:Wh).Ts.length=_/\(if _ then _ else _:Wh).Bs.length=_/\(if _ then _ else _:Wh).st.length<=_;split<;>simp[h1,h2]<;>lia
def Zv(ds:List Stp)(u p:Nat):Prop:=(∃a ms,ds.getD u (.num 0)=.lay a ms)\/(∃a b,ds.getD u (.num 0)=.fetch a b/\p=0)
def LU{os:LI}(h:jC ds Ss os k t us=QL):(k:Int) ∉ os/\∀u p:Nat,[(u:Int),(p:Int)]∈us->Zv ds u p->fU t:=by
 unfold jC at h;split at h
 .cases h
 .rename_i c1;refine⟨λ z=>c1 ((oo _ _).mpr z),λ u p hu hr=>?_⟩;split at h
  .cases h
  .rename_i c2
   rcases hr with ⟨a,ms,e⟩|⟨a,b,e,rfl⟩
   .refine m8 ?_ c2;have z:=LS (s := "lay") (l:=us.map (WY ds)) (bn.mpr ⟨_,hu,by show bf (VH (ds.getD (u:Int).toNat _))=_;rw[QV,e];rfl⟩);rw[cg] at z;exact z
   .have c3:(us.map (gE ds)).any id=QK:=by
     rw[iZ];refine⟨QK,bn.mpr ⟨_,hu,?_⟩,O⟩;unfold gE;rw[show WY ds [(u:Int),((0:Nat):Int)]="fetch" by show bf (VH (ds.getD (u:Int).toNat _))=_;rw[QV,e];rfl];rfl
    by_cases rd:(!_L.eqT (n9 (XT t)) (.str "read"))=QK
    .rw[m7 rd,m7 c3] at h;cases h
    .cases t with
     |read st s ss=>exact⟨st,s,ss,rfl⟩
     |_=>exact m8 rfl rd
structure XU (ds:List Stp)(Ss:LL)(os:LI)(Ts:List (Option Tr))(j:Nat):Prop where
 w:∃t A,Ts[j]?=QJ (QJ t)/\Ss[j]?=QJ A/\XR j A t
 r:∀u p,u∈aE ds os->(ah (ds.getD u (.num 0)))[p]?=QJ j->Zv ds u p->fU (gt Ts j)
 o:(j:Int)∈os->fU (gt Ts j)
def uU{Ts:List (Option Tr)}{x:Option Tr}{j:Nat}(h:j<Ts.length):gt (Ts++[x]) j=gt Ts j:=by unfold gt;rw[aA,cx h,<- aA]
def jE{Ts:List (Option Tr)}{x:Option Tr}{k:Nat}(h:Ts.length=k):gt (Ts++[x]) k=x.getD (.num 0):=by subst h;unfold gt;rw[aA,cu (ak _),gz];rfl
def LW{os:LI}{x:Option Tr}(h:XU ds Ss os Ts j):XU ds Ss os (Ts++[x]) j:=by
 obtain⟨t,A,e1,e2,e3⟩:=h.w;have jl:=(aN.mp e1).1;exact⟨⟨t,A,by rw[cx jl];exact e1,e2,e3⟩,by rw[uU jl];exact h.r,by rw[uU jl];exact h.o⟩
def ma{os:LI}{mo:Int}{k:Nat}(gl:cO mo ds Ss)(k40:k<=40)(h:∀j,j<k->j∈aE ds os->XU ds Ss os Ts j)(hk:k∈aE ds os):(∀a∈ah (ds.getD k (.num 0)),a<k/\∃u A,Ts[a]?=QJ (QJ u)/\Ss[a]?=QJ A/\XR a A u)/\zY Ts Ss (ds.getD k (.num 0)):=by
 have kl:=(mem_reach.mp hk).1
 have al:∀a∈ah (ds.getD k (.num 0)),a<k/\XU ds Ss os Ts a:=λ a ha=>by
  have:=jz gl k _ (cI kl) a ha;exact⟨this,h a this (nZ (jz gl) hk ha)⟩
 refine⟨λ a ha=>⟨(al a ha).1,(al a ha).2.w⟩,λ a ha=>?_,λ a ms e=>?_,λ a b e=>?_⟩
 .obtain⟨t,A,e1,e2,e3⟩:=(al a ha).2.w;have:=(al a ha).1;exact⟨t,A,e1,e2,by have:=e3.1;lia,e3.2⟩
 .exact(al a (by rw[e];exact bc)).2.r k 0 hk (by rw[e];rfl) (.inl ⟨a,ms,e⟩)
 .exact(al a (by rw[e];exact bc)).2.r k 0 hk (by rw[e];rfl) (.inr ⟨a,b,e,O⟩)
theorem kA{os:LI}{mo:Int}(gl:cO mo ds Ss)(d40:ds.length<=40):∀k,k<=ds.length->∀j,j<k->j∈aE ds os->XU ds Ss os (Vx ds Ss os k).Ts j
 |0,_,j,hj,_=>by lia
 |k+1,kl,j,hj,hr=>by
  have ih:=kA (os:=os) gl d40 k ca;have ln:=(fW ds Ss os k).1;by_cases c:j<k
  .have z:=ih j c hr;show XU ds Ss os (if _ then _ else _:Wh).Ts j;split<;>exact LW z
  .have jk:j=k:=by lia
   subst jk;obtain⟨hA,at'⟩:=ma gl ca ih hr;have ed:=cI (ds:=ds) (a:=j) ca;have eS:Ss[j]?=QJ (Vy Ss j):=by unfold Vy;rw[aA,aL (by rw[<- gl.1];lia)];rfl
   have ok:=XH (gl.2.2 j _ _ ed eS);have eb:bv ds Ss os (Vx ds Ss os j).Ts j=cE (Vx ds Ss os j).Ts Ss (Vy Ss j) (ds.getD j (.num 0)):=m7 hr;show XU ds Ss os (if _ then _ else _:Wh).Ts j;split
   .refine⟨⟨_,_,by show(_++[_])[j]?=_;rw[cu ca,ln,gz];rfl,eS,bY _,λ p hp=>?_⟩,λ _ _ _ _ _=>?_,λ _=>?_⟩
    .cases aJ.mp hp;show _<=(bA _).length/\(bA _).length<=_;rw[qE];lia
    .rw[jE ln];exact⟨_,_,_,rfl⟩
    .rw[jE ln];exact⟨_,_,_,rfl⟩
   .rename_i nk;unfold WF at nk;rw[jo,bj,cB] at nk;have n1:¬cQ (ds.getD j (.num 0))=QK:=λ z=>nk (.inl z);have n2:¬jD ds Ss os j (ds.getD j (.num 0)) (bv ds Ss os (Vx ds Ss os j).Ts j) ((aQ ds os).getD j [])=QK:=λ z=>nk (.inr ⟨hr,z⟩)
    have nt:¬ky (ds.getD j (.num 0)):=by
     generalize ds.getD j (.num 0)=d at n1 n2
     cases d with
     |inp ms=>exact m8 rfl n1
     |run w a s|join a b s=>exact m8 rfl n2
     |_=>exact λ h=>h
    obtain⟨t,et⟩:=oj (Ts:=(Vx ds Ss os j).Ts) (Ss:=Ss) (S:=Vy Ss j) nt;have wf:=Af ok hA at'.2.2 et;rw[eb] at n2 ⊢;rw[et] at n2 ⊢
    have key:fU t\/((j:Int) ∉ os/\∀u p:Nat,[(u:Int),(p:Int)]∈(aQ ds os).getD j []->Zv ds u p->fU t):=by
     generalize ds.getD j (.num 0)=d at n1 n2 nt et
     cases d with
     |lay a ms=>cases et;exact .inl ⟨_,_,_,rfl⟩
     |inp ms|run w a s|join a b s=>exact m8 trivial nt
     |_=>exact .inr (LU (jF.mpr n2))
    refine⟨⟨t,_,by rw[cu ca,ln,gz];rfl,eS,wf⟩,λ u p hu hp hd=>?_,λ ho=>?_⟩
    .rw[jE ln];exact key.elim id λ z=>z.2 u p (kz hu hp ca) hd
    .rw[jE ln];exact key.elim id λ z=>m8 ho z.1
abbrev Zw(p:Wh):TV:=.tup [.lst (p.Ts.map Wj),.lst (p.Bs.map Wj),.lst (p.st.map λ k=>.int (k:Nat))]
def iJ{α:Type}{f:α->TV}{l:List α}{i:Nat}(h:((l.map f).mapIdx λ i x=>n6 [.int (i:Nat),x])[i]?=QJ t):∃a,t=.tup [.int (i:Nat),f a]/\l[i]?=QJ a:=by
 rw[pU,aW] at h
 cases e:l[i]? with
 |none=>rw[e] at h;cases h
 |some a=>rw[e] at h;cases h;exact⟨a,rfl,rfl⟩
def uV(l:List Nat):∀x∈l.map (λ k:Nat=>m9 (k:Nat)),Wa x=QK:=λ x hx=>by obtain⟨n,_,rfl⟩:=bn.mp hx;rfl
def uW(d:Stp):_L.eqT (.str (bf (VH d))) (.str "in")=cQ d:=by cases d<;>rfl
def LX(h:cQ d=QL):∀ms,d≠.inp ms:=λ ms e=>by subst e;cases h
def LY(o:Option Tr):(Wj o).nb=QK/\(Wj o).fz=Wj o:=by cases o<;>exact⟨rfl,rfl⟩
def LZ{GT:List TV}{K:TV->Prop}(v:TV)(h:wE FT GT e ρ λ t=>t=v)(k:K v):wE FT GT e ρ K:=au e (λ t e=>by subst e;exact k) h
def Ma{GT:List TV}{K:TV->Prop}(h1:wE FT GT a ρ λ t=>t=.bl x)(h2:x=QL->wE FT GT b ρ λ t=>t=.bl y)(k:K (.bl (x || y))):wE FT GT (.or a b) ρ K:=au a (λ t e=>by
 subst e;show if x=QK then K (.bl QK) else wE FT GT b ρ K
 cases x with
 |true=>exact k
 |false=>exact au b (λ t e=>by subst e;exact k) (h2 rfl)) h1
def Mb{GT:List TV}{K:TV->Prop}(h1:wE FT GT a ρ λ t=>t=.bl x)(h2:x=QK->wE FT GT b ρ λ t=>t=.bl y)(k:K (.bl (x && y))):wE FT GT (.and a b) ρ K:=au a (λ t e=>by
 subst e;show if x=QK then wE FT GT b ρ K else K (.bl QL)
 cases x with
 |false=>exact k
 |true=>exact au b (λ t e=>by subst e;exact k) (h2 rfl)) h1
def Ah{GT:List TV}{ρ:En}{j i:Nat}(e1:ρ[j]?=QJ (QJ (.own xs)))(e2:ρ[i]?=QJ (QJ (Wj o)))(l:xs.length<QR)(k:wS FT GT r (ρ.set j (QJ (.own (xs++[Wj o])))) nx rt):wS FT GT (.met .append j (.a1 (.v i)) r) ρ nx rt:=by
 have f:fzV (.a1 (.v i)) ρ=ρ:=by show XQ ρ i=ρ;unfold XQ;rw[e2];cases o<;>rfl
 show gv (fzV (.a1 (.v i)) ρ)[j]? _;rw[f,e1];show Yn ρ[i]? _;rw[e2];cases o<;>exact⟨rfl,l,k⟩
def i3(ds:List Stp)(Ss:LL)(os:LI)(T B S:List TV)(l:En):En:=QJ (.tup [.tup (ds.map VB),tI os])::QJ (.tup (Ss.map tI))::QJ (.tup (ds.map VB))::QJ (.lst ((aE ds os).map λ k=>.int (k:Nat)))::QJ (.lst ((aQ ds os).map λ l=>.lst (l.map kT)))::QJ (.own T)::QJ (.own B)::QJ (.own S)::l
def YU(w:Str)(st:Int)(A:LI)(k:Nat)(v:TV):TV:=.tup [.str "run",.str w,.int st,tI (A.eraseIdx k),.int (A.getD k 0),.int 0,tI (fb A.length k 0 (bA A)).2,v]
def iK(st:Int)(S:LI)(b:Int)(ss:LI)(v:TV):TV:=.tup [.str "fill",.int st,tI S,.int b,tI ss,v]
def Yg(Ss:LL)(Ts:List (Option Tr))(S:LI)(o:Option Tr)(st:Int):Stp->List TV
 |.run w a k=>[YU w st (Vy Ss a) k.toNat (VG (rm (fb (Vy Ss a).length k.toNat) (gt Ts a)))]
 |.join a b k=>[iK st (Vy Ss a) 0 (bA S) (VG (gt Ts a)),iK st (Vy Ss b) ((Vy Ss a).getD k.toNat 0*(bA S).getD k.toNat 0) (bA S) (VG (gt Ts b))]
 |_=>[iK st S 0 (bA S) (Wj o)]
noncomputable def i4:Stp->Bool
 |.run .. | .join ..=>QK
 |_=>QL
def Mc(h:i4 d=QL):_L.eqT (.str (bf (VH d))) (.str "run")=QL/\_L.eqT (.str (bf (VH d))) (.str "join")=QL/\∀Ss Ts S o st,Yg Ss Ts S o st d=[iK st S 0 (bA S) (Wj o)]:=by
 cases d<;>first|exact QN h|exact⟨rfl,rfl,λ _ _ _ _ _=>rfl⟩
def Me(h:¬Wl A k):(gB A B k).length=A.length:=by
 obtain⟨c,rfl,cl⟩:=dU h;unfold gB;simp
theorem mh{os:LI}:∀n,∀k∈(Vx ds Ss os n).st,k<n/\(cQ (ds.getD k (.num 0))=QL->k∈aE ds os)
 |0,k,h=>nomatch h
 |n+1,k,h=>by
  have ih:=mh (ds:=ds) (Ss:=Ss) (os:=os) n k;have h:k∈(if _ then _ else _:Wh).st:=h;split at h
  .rename_i c
   rcases cr.mp h with h|h
   .exact⟨by have:=(ih h).1;lia,(ih h).2⟩
   .cases aJ.mp h;refine⟨ca,λ z=>?_⟩;unfold WF at c;rw[z,jT,bj,cB] at c;exact c.1
  .exact⟨by have:=(ih h).1;lia,(ih h).2⟩
def Xv(ds:List Stp)(Ss:LL)(p:Wh):Nat->List TV
 |0=>[]
 | i+1=>Xv ds Ss p i++(match p.st[i]? with
  |some k=>if cQ (ds.getD k (.num 0))=QK then [] else Yg Ss p.Ts (Vy Ss k) (p.Bs.getD k QM) (i:Nat) (ds.getD k (.num 0))
  |none=>[])
def Ai(Ss:LL)(Ts:List (Option Tr))(S:LI)(o:Option Tr)(st:Int)(d:Stp):(Yg Ss Ts S o st d).length<=2:=by cases d<;>exact cP rfl
theorem uX(ds:List Stp)(Ss:LL)(p:Wh):∀i,(Xv ds Ss p i).length<=2*i
 |0=>ak _
 |i+1=>by
  have ih:=uX ds Ss p i;show(Xv ds Ss p i++_).length<=_;rw[aK];split
  .split
   .show _+0<=_;lia
   .have:=Ai Ss p.Ts (Vy Ss ‹_›) (p.Bs.getD ‹_› QM) (i:Nat) (ds.getD ‹_› (.num 0));lia
  .show _+0<=_;lia
abbrev Mf(Ss:LL)(Ts:List (Option Tr))(os:LI):TV:=.tup (os.map λ o=>.tup [.int (qL (gt Ts o.toNat)),tI (Vy Ss o.toNat)])
abbrev Aj(ds:List Stp)(Ss:LL)(os:LI)(p:Wh):TV:=.tup [.tup (p.st.map λ k:Nat=>.tup [.int (k:Nat),.int (af (Vy Ss k))]),.tup (Xv ds Ss p p.st.length),Mf Ss p.Ts os]
def aM(ds:List Stp)(os:LI):List Bool:=bP ds ds.length ds.length (bM ds.length os)
def oq(ds:List Stp)(os:LI):(aM ds os).length=ds.length:=by unfold aM;rw[lV,fg]
def kB{ds:List Stp}{os:LI}{k:Nat}(h:k<ds.length):(aM ds os).getD k QL=decide (k∈aE ds os):=by
 rw[ij,cB,mem_reach];exact⟨λ z=>⟨h,z⟩,λ z=>z.2⟩
def mi:∀x∈[n9 "in",.str "num",.str "count"],Wa x=QK:=on
def ou:∀x∈[n9 "each",.str "fold",.str "run"],Wa x=QK:=on
def Ak:∀x∈[n9 "join",.str "fetch"],Wa x=QK:=on
def Mg:∀x∈[n9 "pair",.str "pick",.str "fetch"],Wa x=QK:=on
def oy:∀x∈[n9 "in",.str "lay"],Wa x=QK:=on
def uY:∀x∈[n9 "num",.str "count"],Wa x=QK:=on
def Al:∀x∈[n9 "turn",.str "flip",.str "cut",.str "spread"],Wa x=QK:=on
def Mh{ds:List Stp}{os:LI}{n:Nat}(hn:n=ds.length)(he:∀e∈os,0<=e/\e<(ds.length:Int)):(QW n).map (λ k:Nat=>TV.bl (_L.inT (.int (k:Nat)) (os.map m9)))=(bM ds.length os).map .bl:=by
 subst hn;apply qt;intro i;rw[aW,aW];by_cases c:i<ds.length
 .have z:=uK (n:=ds.length) he i;rw[iB c,aL (by rw[fg];exact c)];rw[aA,aL (by rw[fg];exact c)] at z;have z:(bM ds.length os)[i]'(by rw[fg];exact c)=QK ↔ (i:Int)∈os:=z;have y:=oo (i:Int) os;show QJ (TV.bl (_L.inT (.int (i:Nat)) (os.map m9)))=QJ (TV.bl _);rw[show _L.inT (.int ((i:Nat):Int)) (os.map m9)=(bM ds.length os)[i]'(by rw[fg];exact c) from by rw[ij,y,z]]
 .rw[eI (by rw[bL];lia),eI (by rw[fg];lia)];rfl
def WH(ds:List Stp)(os:LI)(k:Nat):List Nat:=(QW k).filter λ k=>(aM ds os).getD k QL
def Mi(ds:List Stp)(os:LI):WH ds os ds.length=aE ds os:=rfl
def Mj(ds:List Stp)(os:LI)(k:Nat):WH ds os (k+1)=if (aM ds os).getD k QL=QK then WH ds os k++[k] else WH ds os k:=by
 unfold WH;rw[nL,uZ];by_cases c:(aM ds os).getD k QL=QK
 .rw[m7 c,qm (p:=λ k=>(aM ds os).getD k QL) c];rfl
 .rw[k9 c,qo (p:=λ k=>(aM ds os).getD k QL) c];exact fF _
def Am(ds:List Stp)(os:LI)(k:Nat):Wp ds (WH ds os (k+1))=if (aM ds os).getD k QL=QK then Wi k (ah (ds.getD k (.num 0))) (Wp ds (WH ds os k)) else Wp ds (WH ds os k):=by
 rw[Mj];split
 .unfold Wp;rw[iD];rfl
 .rfl
def grB(ds:List Stp)(Ss:LL)(j u:Nat)(p:Int):Bool:=(match ds.getD u (.num 0) with|.spread ..=>QK|_=>QL) || fV ds Ss j u p
def gwB(ds:List Stp)(Ss:LL)(j:Nat)(us:LL):Bool:=us.any λ x=>grB ds Ss j (x.getD 0 0).toNat (x.getD 1 0)
abbrev Xo(n:Nat)(U:List (LL)):List TV:=(QW n).map λ j=>.int ((U.getD j []).length:Nat)
abbrev Xp(ds:List Stp)(Ss:LL)(n:Nat)(U:List (LL)):List TV:=(QW n).map λ j=>.bl (gwB ds Ss j (U.getD j []))
def oz{f g:Nat->TV}{v:TV}(h1:g a=v)(h2:∀j,j≠a->g j=f j):((QW n).map f).set a v=(QW n).map g:=by
 apply qt;intro i;by_cases c:i=a
 .subst c;by_cases l:i<n
  .rw[gc (by rw[ag,bL];exact l),aW,iB l];exact bO QJ h1.symm
  .rw[eI (by rw[cF,ag,bL];lia),eI (by rw[ag,bL];lia)]
 .rw[gh (λ z=>c z.symm),aW,aW];by_cases l:i<n
  .rw[iB l];exact bO QJ (h2 i c).symm
  .rw[eI (by rw[bL];lia)];rfl
def iL{n a:Nat}(h:a<n):VY ((QW n).map f) (a:Int)=QJ (f a):=im (by rw[aW,iB h];rfl)
def qO{U:List (LL)}{a:Nat}(h:a<U.length):(U.set a x).getD a []=x:=by rw[aA,gc h];rfl
def qP{U:List (LL)}{a j:Nat}(h:j≠a):(U.set a x).getD j []=U.getD j []:=by rw[aA,gh (λ z=>h z.symm),<- aA]
def Ml{U:List (LL)}{n a:Nat}{x:LI}(h:a<U.length):(Xo n U).set a (TV.fz (.int (((U.getD a []).length:Nat)+1:Int)))=Xo n (U.set a (U.getD a []++[x])):=oz (by rw[qO h,aK];rfl) λ j hj=>by rw[qP hj]
def Ao(ds:List Stp)(Ss:LL)(j:Nat)(l:LL)(x:LI):gwB ds Ss j (l++[x])=(gwB ds Ss j l || grB ds Ss j (x.getD 0 0).toNat (x.getD 1 0)):=by
 unfold gwB;rw[s0e];show(_ || (_ || QL))=_;rw[gj]
def Mm{U:List (LL)}{n a u p:Nat}(h:a<U.length)(g:grB ds Ss a u p=QK):(Xp ds Ss n U).set a (.bl QK)=Xp ds Ss n (U.set a (U.getD a []++[[(u:Int),(p:Int)]])):=oz (by rw[qO h,Ao];show TV.bl (_ || grB ds Ss a u p)=_;rw[g,s0f]) λ j hj=>by rw[qP hj]
def Mn{U:List (LL)}{n a u p:Nat}(h:a<U.length)(g:grB ds Ss a u p=QL):Xp ds Ss n U=Xp ds Ss n (U.set a (U.getD a []++[[(u:Int),(p:Int)]])):=by
 refine jp λ j hj=>?_;by_cases c:j=a
 .subst c;rw[qO h,Ao];show _=TV.bl (_ || grB ds Ss j u p);rw[g,gj]
 .rw[qP c]
def us0(ds:List Stp)(os:LI):ds.map (λ _=>m9 0)=Xo ds.length (Wp ds (WH ds os 0)):=by
 have z:∀j∈QW ds.length,m9 (((Wp ds (WH ds os 0)).getD j []).length:Nat)=m9 0:=λ j hj=>by
  show m9 (((QT ds.length ([]:LL)).getD j []).length:Nat)=_;rw[aA,dH];split<;>rfl
 unfold Xo;rw[jp z,gF,gF,bL]
def gw0(ds:List Stp)(Ss:LL)(os:LI):ds.map (λ _=>TV.bl QL)=Xp ds Ss ds.length (Wp ds (WH ds os 0)):=by
 have z:∀j∈QW ds.length,TV.bl (gwB ds Ss j ((Wp ds (WH ds os 0)).getD j []))=TV.bl QL:=λ j hj=>by
  show TV.bl (gwB ds Ss j ((QT ds.length ([]:LL)).getD j []))=_;rw[aA,dH];split<;>rfl
 unfold Xp;rw[jp z,gF,gF,bL]
def Mp{ds:List Stp}{a k j:Nat}{d:Stp}(e:ds.getD k (.num 0)=d)(jl:j<(ah d).length):grB ds Ss a k j=(_L.eqT (.str (bf (VH d))) (.str "spread") || (_L.inT (.str (bf (VH d))) [.str "pair",.str "pick",.str "fetch"]&&(!(_L.eqT (.str (bf (VH d))) (.str "fetch")&&decide ((j:Int)=0))&&decide (((Vy Ss a).length:Int)<((Vy Ss k).length:Int))))):=by
 unfold grB fV;rw[e]
 cases d with
 |fetch=>
  have e1:decide ((j:Int)=1)=!decide ((j:Int)=0):=by
   obtain rfl|rfl:j=0\/j=1:=by have:j<2:=jl;lia
   .rfl
   .rfl
  show(QL || (decide ((j:Int)=1)&&_))=_;rw[e1];rfl
 |_=>rfl
def tlt(A B:LI):TV.bl (decide ((((A.map m9).length:Nat):Int)<(((B.map m9).length:Nat):Int)))=.bl (decide ((A.length:Int)<(B.length:Int))):=by rw[ai,ai]
def i5(ds:List Stp)(Ss:LL)(os:LI)(u g:List TV)(l:En):En:=QJ (.tup (ds.map VB))::QJ (.lst (Ss.map tI))::QJ (.lst ((aM ds os).map .bl))::QJ (.own u)::QJ (.own g)::l
noncomputable def WT(d:Stp)(ss:List Str):Str:=match d with
 |.inp _=> "read" |.lay _ _=> "read" |.num _=> "free" |.count _ _=> "free"
 |.turn a _=>ss.getD a "" |.flip a _=>ss.getD a "" |.cut a _ _ _ _=>ss.getD a "" |.spread a _ _=>ss.getD a ""
 |_=> "busy"
def i6{R:List Str}{k:Nat}(h:k<R.length):VY (R.map n9) (k:Int)=QJ (.str (R.getD k "")):=im (by rw[aW,aL h,aA,aL h];rfl)
theorem Ap{os:LI}(k:Nat):∀m,(Vx ds Ss os k).Ts <+: (Vx ds Ss os (k+m)).Ts/\(Vx ds Ss os k).Bs <+: (Vx ds Ss os (k+m)).Bs/\(Vx ds Ss os k).st <+: (Vx ds Ss os (k+m)).st
 |0=>⟨vc _,vc _,vc _⟩
 |m+1=>by
  obtain⟨h1,h2,h3⟩:=Ap (ds:=ds) (Ss:=Ss) (os:=os) k m;show _ <+: (if _ then _ else _:Wh).Ts/\_ <+: (if _ then _ else _:Wh).Bs/\_ <+: (if _ then _ else _:Wh).st;split
  .exact⟨h1.trans (oA _ _),h2.trans (oA _ _),h3.trans (oA _ _)⟩
  .exact⟨h1.trans (oA _ _),h2.trans (oA _ _),h3⟩
def Aq{α:Type}{l m:List α}{i:Nat}(h:l <+: m)(hi:i<l.length):m[i]?=l[i]?:=by
 obtain⟨r,e⟩:=h;rw[<- e,cx hi]
def Ar{os:LI}{k n:Nat}(h:k<=n):(Vx ds Ss os k).Ts <+: (Vx ds Ss os n).Ts/\(Vx ds Ss os k).Bs <+: (Vx ds Ss os n).Bs/\(Vx ds Ss os k).st <+: (Vx ds Ss os n).st:=by
 have z:=Ap (ds:=ds) (Ss:=Ss) (os:=os) k (n-k)
 rwa [show k+(n-k)=n by lia] at z
def qQ{os:LI}{k n a:Nat}(h:k<=n)(ha:a<k):gt (Vx ds Ss os n).Ts a=gt (Vx ds Ss os k).Ts a:=by
 unfold gt;rw[aA,aA,Aq (Ar h).1 (by rw[(fW ds Ss os k).1];exact ha)]
def Mq{os:LI}{k n:Nat}(h:k<n):(Vx ds Ss os n).Bs.getD k QM=bv ds Ss os (Vx ds Ss os k).Ts k:=by
 have l:=(fW ds Ss os k).2.1;rw[aA,Aq (Ar (k:=k+1) h).2.1 (by rw[(fW ds Ss os (k+1)).2.1];lia)];show((if _ then _ else _:Wh).Bs[k]?).getD QM=_;split<;>(show((_++[_])[k]?).getD QM=_;rw[cu ca,l,gz];rfl)
theorem As{os:LI}{k:Nat}:∀n,k∈(Vx ds Ss os n).st ↔ k<n/\WF ds Ss os (Vx ds Ss os k).Ts k=QK
 |0=>⟨λ h=>(nomatch h),λ h=>by lia⟩
 |n+1=>by
  have ih:=As (ds:=ds) (Ss:=Ss) (os:=os) (k:=k) n;show k∈(if _ then _ else _:Wh).st ↔ _;split
  .rename_i c;show k∈_++[n] ↔ _;rw[cr,ih,aJ];constructor
   .rintro(⟨h1,h2⟩|rfl)
    .exact⟨ca,h2⟩
    .exact⟨ca,c⟩
   .rintro⟨h1,h2⟩
    rcases lZ k n with z|z
    .exact .inl ⟨z,h2⟩
    .exact .inr ca
  .rename_i c;rw[ih];constructor
   .rintro⟨h1,h2⟩;exact⟨ca,h2⟩
   .rintro⟨h1,h2⟩
    rcases lZ k n with z|z
    .exact⟨z,h2⟩
    .rw[show k=n by lia] at h2;exact m8 h2 c
section
variable {FT:List Vv}{GT:List TV}{a b:Cd}{ρ:En}{K:TV->Prop}{x y:Bool}
def kC(h1:wE FT GT a ρ λ t=>t=.bl x)(h2:wE FT GT b ρ λ t=>t=.bl y)(k:K (.bl (x || y))):wE FT GT (.or a b) ρ K:=au a (λ t e=>by
 subst e;show if x=QK then K (.bl QK) else wE FT GT b ρ K
 cases x with
 |true=>rw[m7 rfl];exact k
 |false=>rw[k9 on];exact au b (λ t e=>by subst e;exact k) h2) h1
def fj(h1:wE FT GT a ρ λ t=>t=.bl x)(h2:wE FT GT b ρ λ t=>t=.bl y)(k:K (.bl (x && y))):wE FT GT (.and a b) ρ K:=au a (λ t e=>by
 subst e;show if x=QK then wE FT GT b ρ K else K (.bl QL)
 cases x with
 |true=>rw[m7 rfl];exact au b (λ t e=>by subst e;exact k) h2
 |false=>rw[k9 on];exact k) h1
end
noncomputable def kD:Stp->Nat->Bool
 |.lay a _,j=>decide (j=a)
 |_,_=>QL
noncomputable def kE:Stp->Nat->Bool
 |.fetch a _,j=>decide (j=a)
 |_,_=>QL
def Xq(ds:List Stp)(os:LI)(m j:Nat):Bool:=_L.inT (.int (j:Nat)) (os.map m9) || (QW m).any λ i=>(aM ds os).getD i QL&&kD (ds.getD i (.num 0)) j
def XI(ds:List Stp)(os:LI)(m j:Nat):Bool:=(QW m).any λ i=>(aM ds os).getD i QL&&kE (ds.getD i (.num 0)) j
def vd(ds:List Stp)(os:LI)(m j:Nat):Xq ds os (m+1) j=(Xq ds os m j || ((aM ds os).getD m QL&&kD (ds.getD m (.num 0)) j)):=by
 unfold Xq;rw[nL,s0e,Bool.or_assoc];show(_ || (_ || (_ || QL)))=_;rw[gj]
def ve(ds:List Stp)(os:LI)(m j:Nat):XI ds os (m+1) j=(XI ds os m j || ((aM ds os).getD m QL&&kE (ds.getD m (.num 0)) j)):=by
 unfold XI;rw[nL,s0e];show(_ || (_ || QL))=_;rw[gj]
abbrev Xr(ds:List Stp)(os:LI)(m:Nat):List TV:=(QW ds.length).map λ j=>.bl (Xq ds os m j)
abbrev Xs(ds:List Stp)(os:LI)(m:Nat):List TV:=(QW ds.length).map λ j=>.bl (XI ds os m j)
def Mr{os:LI}(h:∀j,((aM ds os).getD m QL&&kD (ds.getD m (.num 0)) j)=QL):Xr ds os (m+1)=Xr ds os m:=jp λ j _=>by rw[vd,h j,gj]
def Mt{os:LI}(h:∀j,((aM ds os).getD m QL&&kE (ds.getD m (.num 0)) j)=QL):Xs ds os (m+1)=Xs ds os m:=jp λ j _=>by rw[ve,h j,gj]
def Mu{os:LI}{m a:Nat}(h:∀j,((aM ds os).getD m QL&&kD (ds.getD m (.num 0)) j)=decide (j=a)):(Xr ds os m).set a (.bl QK)=Xr ds os (m+1):=oz (by rw[vd,h a,bJ rfl,s0f]) λ j hj=>by rw[vd,h j,bw hj,gj]
def Mv{os:LI}{m a:Nat}(h:∀j,((aM ds os).getD m QL&&kE (ds.getD m (.num 0)) j)=decide (j=a)):(Xs ds os m).set a (.bl QK)=Xs ds os (m+1):=oz (by rw[ve,h a,bJ rfl,s0f]) λ j hj=>by rw[ve,h j,bw hj,gj]
def wh0(ds:List Stp)(os:LI):(QW ds.length).map (λ k:Nat=>TV.bl (_L.inT (.int (k:Nat)) (os.map m9)))=Xr ds os 0:=jp λ j _=>by unfold Xq;show _=TV.bl (_ || QL);rw[gj]
def ft0(ds:List Stp)(os:LI):ds.map (λ _=>TV.bl QL)=Xs ds os 0:=by
 show _=(QW ds.length).map λ _=>TV.bl QL;rw[gF,gF,bL]
noncomputable def mj:Stp->Bool
 |.run ..=>QK|.join ..=>QK|_=>QL
noncomputable def iM:Stp->Bool
 |.inp _=>QK|.lay ..=>QK|_=>QL
def Xw(ds:List Stp)(os:LI)(k:Nat)(d:Stp)(s:Str):Bool:=mj d || (Xq ds os ds.length k || (XI ds os ds.length k && !_L.eqT (.str s) (.str "read")))
def ke2(ds:List Stp)(Ss:LL)(os:LI)(k:Nat)(s:Str):Bool:=_L.eqT (.str s) (.str "busy")&&(decide ((1:Int)<(((aQ ds os).getD k []).length:Nat)) || gwB ds Ss k ((aQ ds os).getD k []))
def VN(ds:List Stp)(Ss:LL)(os:LI):Nat->List Nat×List Str
 |0=>([],[])
 |k+1=>
  let p:=VN ds Ss os k
  let d:=ds.getD k (.num 0)
  let s:=WT d p.2
  if ((aM ds os).getD k QL&&((Xw ds os k d s || ke2 ds Ss os k s) && !iM d))=QK then (p.1++[k],p.2++[("read" : Str)]) else (p.1,p.2++[s])
theorem qR(ds:List Stp)(Ss:LL)(os:LI):∀k,(VN ds Ss os k).2.length=k/\(VN ds Ss os k).1.length<=k
 |0=>⟨rfl,ak _⟩
 |k+1=>by
  obtain⟨h1,h2⟩:=qR ds Ss os k;show(if _ then _ else _:List Nat×List Str).2.length=_/\(if _ then _ else _:List Nat×List Str).1.length<=_;split
  .show(_++[_]).length=_/\(_++[_]).length<=_;rw[aK,aK,h1];exact⟨O,by show _+1<=_;lia⟩
  .show(_++[_]).length=_/\_;rw[aK,h1];exact⟨O,by show(VN ds Ss os k).1.length<=_;lia⟩
def Mw(d:Stp):_L.inT (.str (bf (VH d))) [.str "run",.str "join"]=mj d:=by cases d<;>rfl
def Mx(d:Stp):_L.inT (.str (bf (VH d))) [.str "in",.str "lay"]=iM d:=by cases d<;>rfl
def Mz(h:_L.eqT (.str (bf (VH d))) (.str "lay")=QK):∃a ms,d=.lay a ms:=by cases d<;>first|exact⟨_,_,rfl⟩|cases h
def MA(h:_L.eqT (.str (bf (VH d))) (.str "fetch")=QK):∃a b,d=.fetch a b:=by cases d<;>first|exact⟨_,_,rfl⟩|cases h
def MB{b:Bool}(h:(b&&_L.eqT (.str (bf (VH d))) (.str "lay"))=QL):(b&&kD d j)=QL:=by cases b<;>first|rfl|(cases d<;>first|rfl|cases h)
def MC{b:Bool}(h:(b&&_L.eqT (.str (bf (VH d))) (.str "fetch"))=QL):(b&&kE d j)=QL:=by cases b<;>first|rfl|(cases d<;>first|rfl|cases h)
def Yv(ds:List Stp)(Ss:LL)(os:LI)(w f:List TV)(l:En):En:=QJ (.tup (ds.map VB))::QJ (tI os)::QJ (.lst (Ss.map tI))::QJ (.lst ((aM ds os).map .bl))::QJ (.tup [.lst (Xo ds.length (aQ ds os)),.lst (Xp ds Ss ds.length (aQ ds os))])::QJ (.own w)::QJ (.own f)::l
def vf{os:LI}{x:LI}(hx:x∈(aQ ds os).getD a []):∃u p:Nat,x=[(u:Int),(p:Int)]/\u∈aE ds os/\(ah (ds.getD u (.num 0)))[p]?=QJ a:=by
 have inn:∀(u:Nat) (U:List (LL)),u∈aE ds os->(∀a,∀x∈U.getD a [],∃u p:Nat,x=[(u:Int),(p:Int)]/\u∈aE ds os/\(ah (ds.getD u (.num 0)))[p]?=QJ a)->∀j a,∀x∈(Wi u ((ah (ds.getD u (.num 0))).take j) U).getD a [],∃u p:Nat,x=[(u:Int),(p:Int)]/\u∈aE ds os/\(ah (ds.getD u (.num 0)))[p]?=QJ a:=λ u U hu hU j=>by
  induction j with
  |zero=>rw[jB];exact hU
  |succ j ih=>
   intro a x hx
   cases e:(ah (ds.getD u (.num 0)))[j]? with
   |none=>
    rw[ce (by have:=dM.mp e;lia),<- ce (l:=ah (ds.getD u (.num 0))) (i:=j) (by have:=dM.mp e;lia)] at hx;exact ih a x hx
   |some b=>
    rw[jA e] at hx;by_cases c:b=a
    .subst c;by_cases l:b<(Wi u ((ah (ds.getD u (.num 0))).take j) U).length
     .rw[aA,gc l] at hx
      rcases cr.mp hx with hx|hx
      .exact ih b x hx
      .cases aJ.mp hx;exact⟨u,j,rfl,hu,e⟩
     .rw[uT ca] at hx;exact ih b x hx
    .rw[aA,gh c,<- aA] at hx;exact ih a x hx
 have key:∀j a,∀x∈(Wp ds ((aE ds os).take j)).getD a [],∃u p:Nat,x=[(u:Int),(p:Int)]/\u∈aE ds os/\(ah (ds.getD u (.num 0)))[p]?=QJ a:=λ j=>by
  induction j with
  |zero=>
   intro a x hx;rw[jB] at hx;have hx:x∈(QT ds.length ([]:LL)).getD a []:=hx;rw[aA,dH] at hx;split at hx<;>cases hx
  |succ j ih=>
   intro a x hx
   cases e:(aE ds os)[j]? with
   |none=>
    rw[ce (by have:=dM.mp e;lia),<- ce (l:=aE ds os) (i:=j) (by have:=dM.mp e;lia)] at hx;exact ih a x hx
   |some u=>
    rw[oe e] at hx;have z:=inn u _ (aC e) ih (ah (ds.getD u (.num 0))).length a x;rw[bG] at z;exact z hx
 have z:=key (aE ds os).length a;rw[bG] at z;exact z x hx
def MD:_L.inT (.str w) (Xg ds us)=QK ↔ ∃x∈us,WY ds x=w:=by
 unfold _L.inT;rw[iZ];constructor
 .rintro⟨y,hy,e⟩;obtain⟨x,hx,rfl⟩:=bn.mp hy;exact⟨x,hx,aD e⟩
 .rintro⟨x,hx,e⟩;exact⟨_,bn.mpr ⟨x,hx,O⟩,bJ e⟩
def ME{p k:Nat}(h:bf (VH d)="lay")(e:(ah d)[p]?=QJ k):kD d k=QK:=by
 cases d with
 |lay a ms=>
  match p,e with
  |0,e=>cases e;exact bJ rfl
 |_=>exact m8 h (gG rfl)
def MF(h:kD d k=QK):bf (VH d)="lay" /\ (ah d)[0]?=QJ k:=by
 cases d with
 |lay a ms=>cases aD h;exact⟨rfl,rfl⟩
 |_=>exact QN h
def MG(h:kE d k=QK):bf (VH d)="fetch" /\ (ah d)[0]?=QJ k:=by
 cases d with
 |fetch a b=>cases aD h;exact⟨rfl,rfl⟩
 |_=>exact QN h
def MH(h:bf (VH d)="fetch")(e:(ah d)[0]?=QJ k):kE d k=QK:=by
 cases d with
 |fetch a b=>cases e;exact bJ rfl
 |_=>exact m8 h (gG rfl)
def MI{ds:List Stp}{os:LI}{k:Nat}(kl:k<ds.length):Xq ds os ds.length k=(_L.inT (.int (k:Nat)) (os.map m9) || _L.inT (.str "lay") (Xg ds ((aQ ds os).getD k []))):=by
 unfold Xq
 congr 1
 rw[ij,MD,iZ];constructor
 .rintro⟨i,hi,h⟩;rw[bj,kB (hZ.mp hi),cB] at h;obtain⟨h1,h2⟩:=MF h.2;exact⟨_,kz h.1 h2 kl,h1⟩
 .rintro⟨x,hx,e⟩;obtain⟨u,p,rfl,hu,ea⟩:=vf hx;have ul:=(mem_reach.mp hu).1;refine⟨u,hZ.mpr ul,?_⟩;rw[bj,kB ul,cB];exact⟨hu,ME e ea⟩
def MJ{ds:List Stp}{os:LI}{k:Nat}(kl:k<ds.length):XI ds os ds.length k=(((aQ ds os).getD k []).map (gE ds)).any id:=by
 unfold XI;rw[ij,iZ,iZ];constructor
 .rintro⟨i,hi,h⟩;rw[bj,kB (hZ.mp hi),cB] at h;obtain⟨h1,h2⟩:=MG h.2;refine⟨_,bn.mpr ⟨_,kz h.1 h2 kl,O⟩,?_⟩;show gE ds [(i:Int),((0:Nat):Int)]=QK;unfold gE;rw[m7 (show _L.eqT (n9 (WY ds [(i:Int),((0:Nat):Int)])) (.str "fetch")=QK from bJ h1)];rfl
 .rintro⟨y,hy,e⟩;obtain⟨x,hx,rfl⟩:=bn.mp hy;obtain⟨u,p,rfl,hu,ea⟩:=vf hx;have ul:=(mem_reach.mp hu).1;have e:gE ds [(u:Int),(p:Int)]=QK:=e;unfold gE at e;split at e
  .rename_i h;have p0:((p:Int)=0):=aD e;have p0:p=0:=ca;subst p0;refine⟨u,hZ.mpr ul,?_⟩;rw[bj,kB ul,cB];exact⟨hu,MH (aD h) ea⟩
  .cases e
def MK(d:Stp):(match d with|.spread ..=>QK|_=>QL)=decide (bf (VH d)="spread"):=by cases d<;>rfl
theorem At(ds:List Stp)(Ss:LL)(k:Nat):∀us:LL,gwB ds Ss k us=(_L.inT (.str "spread") (Xg ds us) || (us.map λ x=>fV ds Ss k (x.getD 0 0).toNat (x.getD 1 0)).any id)
 |[]=>rfl
 |x::us=>by
  have ih:=At ds Ss k us;show(grB ds Ss k (x.getD 0 0).toNat (x.getD 1 0) || gwB ds Ss k us)=((decide (WY ds x="spread") || _L.inT (.str "spread") (Xg ds us)) || (fV ds Ss k (x.getD 0 0).toNat (x.getD 1 0) || (us.map λ x=>fV ds Ss k (x.getD 0 0).toNat (x.getD 1 0)).any id));rw[ih];unfold grB;rw[MK];show((decide (WY ds x="spread") || _) || _)=_;generalize decide (WY ds x="spread")=p;generalize fV ds Ss k (x.getD 0 0).toNat (x.getD 1 0)=q;generalize _L.inT (.str "spread") (Xg ds us)=r;cases p<;>cases q<;>cases r<;>rfl
noncomputable def WZ:Tr->Str
 |.read .. => "read" |.num _=> "free" |.idx .. => "free" |_=> "busy"
def ML(g:Gf)(t:Tr):WZ (rm g t)=WZ t:=by cases t<;>rfl
def MN(t:Tr):_L.eqT (.str (WZ t)) (.str "read")=_L.eqT (.str (XT t)) (.str "read"):=by cases t<;>rfl
def vg(t:Tr):_L.eqT (.str (WZ t)) (.str "busy")=!cy t:=by cases t<;>rfl
def Au{ds:List Stp}{os:LI}{k:Nat}(kl:k<ds.length)(rj:mj d=QL):jC ds Ss os k t ((aQ ds os).getD k [])=(Xw ds os k d (WZ t) || ke2 ds Ss os k (WZ t)):=by
 unfold jC qM Xw ke2;rw[rj,MI kl,MJ kl,At,MN,vg];generalize _L.inT (.int (k:Nat)) (os.map m9)=A;generalize _L.inT (.str "lay") (Xg ds ((aQ ds os).getD k []))=B;generalize (((aQ ds os).getD k []).map (gE ds)).any id=C;generalize _L.eqT (.str (XT t)) (.str "read")=D;generalize cy t=E;generalize _L.inT (.str "spread") (Xg ds ((aQ ds os).getD k []))=F;generalize (((aQ ds os).getD k []).map λ x=>fV ds Ss k (x.getD 0 0).toNat (x.getD 1 0)).any id=G;generalize decide ((1:Int)<(((aQ ds os).getD k []).length:Nat))=H
 revert A B C D E F G H
 decide +kernel
def Av{ss:List Str}{d:Stp}(h:∀a∈ah d,ss.getD a ""=WZ (gt Ts a))(hf:∀a b,d=.fetch a b->fU (gt Ts a))(e:cE Ts Ss S d=QJ t):WT d ss=WZ t:=by
 cases d with
 |num n|count ms k|each w a|pair w a b|pick a b c|lay a ms|fold w a k=>cases e;rfl
 |fetch a b=>
  obtain⟨st,s,s2,er⟩:=hf a b rfl;have e:QJ (kw (gt Ts a) (Vy Ss a) (Vy Ss b) (bE Ts Ss S b))=QJ t:=e;rw[er] at e;cases e;rfl
 |turn a os|flip a k|cut a k f m g|spread a k m=>cases e;rw[ML];exact h a (by simp[ah])
 |_=>cases e
def Aw(h:qN d=QL):mj d=QL/\iM d=QL:=by cases d<;>first|exact⟨rfl,rfl⟩|cases h
theorem Ax{os:LI}{mo:Int}(gl:cO mo ds Ss)(d40:ds.length<=40):∀k,k<=ds.length->(VN ds Ss os k).1=(Vx ds Ss os k).st.filter (λ k=>!cQ (ds.getD k (.num 0)))/\∀j,j<k->j∈aE ds os->(VN ds Ss os k).2.getD j ""=WZ (gt (Vx ds Ss os k).Ts j)
 |0,_=>⟨rfl,λ j h=>by lia⟩
 |k+1,kl=>by
  obtain⟨h1,h2⟩:=Ax gl d40 (os:=os) k ca;have l2:=(qR ds Ss os k).1;have ln:=(fW ds Ss os k).1;have ih:=kA (os:=os) gl d40 k ca;have lv:=kB (ds:=ds) (os:=os) (k:=k) ca;have st:VN ds Ss os (k+1)=if ((aM ds os).getD k QL&&((Xw ds os k (ds.getD k (.num 0)) (WT (ds.getD k (.num 0)) (VN ds Ss os k).2) || ke2 ds Ss os k (WT (ds.getD k (.num 0)) (VN ds Ss os k).2)) && !iM (ds.getD k (.num 0))))=QK then ((VN ds Ss os k).1++[k],(VN ds Ss os k).2++[("read" : Str)]) else ((VN ds Ss os k).1,(VN ds Ss os k).2++[WT (ds.getD k (.num 0)) (VN ds Ss os k).2]):=rfl;have es:Vx ds Ss os (k+1)=(if WF ds Ss os (Vx ds Ss os k).Ts k=QK then (⟨(Vx ds Ss os k).Ts++[QJ (.read ((Vx ds Ss os k).st.length:Nat) 0 (bA (Vy Ss k)))],(Vx ds Ss os k).Bs++[bv ds Ss os (Vx ds Ss os k).Ts k],(Vx ds Ss os k).st++[k]⟩:Wh) else ⟨(Vx ds Ss os k).Ts++[bv ds Ss os (Vx ds Ss os k).Ts k],(Vx ds Ss os k).Bs++[bv ds Ss os (Vx ds Ss os k).Ts k],(Vx ds Ss os k).st⟩):=rfl;have kb:WF ds Ss os (Vx ds Ss os k).Ts k=(cQ (ds.getD k (.num 0)) || (decide (k∈aE ds os)&&jD ds Ss os k (ds.getD k (.num 0)) (bv ds Ss os (Vx ds Ss os k).Ts k) ((aQ ds os).getD k []))):=rfl;have bo:bv ds Ss os (Vx ds Ss os k).Ts k=if k∈aE ds os then cE (Vx ds Ss os k).Ts Ss (Vy Ss k) (ds.getD k (.num 0)) else QM:=rfl;have ar:=λ hr=>ma gl (show k<=40 by lia) ih hr;have sa:k∈aE ds os->∀a∈ah (ds.getD k (.num 0)),(VN ds Ss os k).2.getD a ""=WZ (gt (Vx ds Ss os k).Ts a):=λ hr a ha=>h2 a ((ar hr).1 a ha).1 (nZ (jz gl) hr ha)
  have fin:∀(P:List Nat×List Str) (x:Str) (y:Option Tr) (Z:Wh),P.2=(VN ds Ss os k).2++[x]->Z.Ts=(Vx ds Ss os k).Ts++[y]->(k∈aE ds os->x=WZ (y.getD (.num 0)))->∀j,j<k+1->j∈aE ds os->P.2.getD j ""=WZ (gt Z.Ts j):=λ P x y Z e1 e2 e3 j hj hr=>by
   rw[e1,e2];by_cases c:j<k
   .rw[uU ca,aA,cx ca,<- aA];exact h2 j c hr
   .have jk:j=k:=by lia
    subst jk;rw[aA,cu ca,l2,gz];unfold gt;rw[aA,cu ca,ln,gz];exact e3 hr
  by_cases ci:cQ (ds.getD k (.num 0))=QK
  .have il:iM (ds.getD k (.num 0))=QK:=by generalize ds.getD k (.num 0)=d at ci;cases d<;>first|rfl|cases ci
   have sb:WT (ds.getD k (.num 0)) (VN ds Ss os k).2="read" := by generalize ds.getD k (.num 0)=d at ci;cases d<;>first|rfl|cases ci
   rw[es,m7 (by rw[kb,ci];rfl),st,il,k9 pv,sb];refine⟨?_,fin _ _ _ _ rfl rfl λ _=>rfl⟩;show(VN ds Ss os k).1=((Vx ds Ss os k).st++[k]).filter _;rw[uZ,h1,qo (by rw[ci];decide)];exact(fF _).symm
  .have ci:cQ (ds.getD k (.num 0))=QL:=jF.mpr ci;rw[ci,jT] at kb;by_cases hr:k∈aE ds os
   .rw[bJ hr,mq] at kb;rw[bJ hr] at lv;rw[m7 hr] at bo;obtain⟨hA,at'⟩:=ar hr
    have key:jD ds Ss os k (ds.getD k (.num 0)) (bv ds Ss os (Vx ds Ss os k).Ts k) ((aQ ds os).getD k [])=((Xw ds os k (ds.getD k (.num 0)) (WT (ds.getD k (.num 0)) (VN ds Ss os k).2) || ke2 ds Ss os k (WT (ds.getD k (.num 0)) (VN ds Ss os k).2)) && !iM (ds.getD k (.num 0))):=by
     rw[bo];have sb:=λ t=>Av (Ts:=(Vx ds Ss os k).Ts) (Ss:=Ss) (S:=Vy Ss k) (t:=t) (sa hr) at'.2.2;have kq:=λ t (d:Stp)=>Au (ds:=ds) (Ss:=Ss) (os:=os) (k:=k) (t:=t) (d:=d) ca;have bs:=oj (Ts:=(Vx ds Ss os k).Ts) (Ss:=Ss) (S:=Vy Ss k) (d:=ds.getD k (.num 0));generalize ds.getD k (.num 0)=d at ci sb bs ⊢
     cases hk:qN d with
     |true=>
      cases d with
      |inp ms=>cases ci
      |lay a ms=>show QL=(_&&QL);rw[lh]
      |run w a s=>rfl
      |join a b s=>exact rfl
      |_=>cases hk
     |false=>
      obtain⟨nt,_,_,e1⟩:=Ac hk;obtain⟨t,et⟩:=bs nt;rw[et,sb t et,e1,kq t d (Aw hk).1,(Aw hk).2];exact(UN _).symm
    rw[key] at kb;rw[lv,mq,<- kb] at st;rw[es,st];by_cases c:WF ds Ss os (Vx ds Ss os k).Ts k=QK
    .rw[m7 c,m7 c];refine⟨?_,fin _ _ _ _ rfl rfl λ _=>rfl⟩;show(VN ds Ss os k).1++[k]=((Vx ds Ss os k).st++[k]).filter _;rw[uZ,h1,qm (by rw[ci];rfl)];rfl
    .rw[k9 c,k9 c];refine⟨h1,fin _ _ _ _ rfl rfl λ _=>?_⟩;have c:WF ds Ss os (Vx ds Ss os k).Ts k=QL:=jF.mpr c
     have nt:¬ky (ds.getD k (.num 0)):=by
      rw[kb,<- key] at c;generalize ds.getD k (.num 0)=d at c ci
      cases d with
      |inp ms=>cases ci
      |run w a s|join a b s=>cases c
      |_=>exact λ h=>h
     obtain⟨t,et⟩:=oj (Ts:=(Vx ds Ss os k).Ts) (Ss:=Ss) (S:=Vy Ss k) nt;rw[bo,et];exact Av (sa hr) at'.2.2 et
   .rw[bw hr,oM] at kb;rw[bw hr] at lv;rw[es,st,lv,k9 (c:=WF ds Ss os (Vx ds Ss os k).Ts k=QK) (by rw[kb];decide),k9 pv];exact⟨h1,fin _ _ _ _ rfl rfl λ h=>m8 h hr⟩
theorem Ay{os:LI}{mo:Int}(gl:cO mo ds Ss)(d40:ds.length<=40):∀k,k<=ds.length->(∀(j:Nat) (t:Tr),(Vx ds Ss os k).Ts[j]?=QJ (QJ t)->VL t<=40)/\∀(j:Nat) (t:Tr),(Vx ds Ss os k).Bs[j]?=QJ (QJ t)->VL t<=40
 |0,_=>⟨λ j t h=>(nomatch h),λ j t h=>(nomatch h)⟩
 |k+1,kl=>by
  obtain⟨h1,h2⟩:=Ay gl d40 (os:=os) k ca;have ih:=kA (os:=os) gl d40 k ca
  have hb:∀t,bv ds Ss os (Vx ds Ss os k).Ts k=QJ t->VL t<=40:=λ t e=>by
   unfold bv at e;split at e
   .rename_i hr;obtain⟨hA,at'⟩:=ma gl ca ih hr;have eS:Ss[k]?=QJ (Vy Ss k):=by unfold Vy;rw[aA,aL (by rw[<- gl.1];lia)];rfl
    have:=(Af (XH (gl.2.2 k _ _ (cI ca) eS)) hA at'.2.2 e).1;lia
   .cases e
  have ap:∀(l:List (Option Tr)) (x:Option Tr),(∀(j:Nat) (t:Tr),l[j]?=QJ (QJ t)->VL t<=40)->(∀t,x=QJ t->VL t<=40)->∀(j:Nat) (t:Tr),(l++[x])[j]?=QJ (QJ t)->VL t<=40:=λ l x a b j t e=>by
   rcases lZ j l.length with z|z
   .rw[cx z] at e;exact a j t e
   .rw[cu z] at e;have:=aC e;exact b t (aJ.mp this).symm
  have es:Vx ds Ss os (k+1)=(if WF ds Ss os (Vx ds Ss os k).Ts k=QK then (⟨(Vx ds Ss os k).Ts++[QJ (.read ((Vx ds Ss os k).st.length:Nat) 0 (bA (Vy Ss k)))],(Vx ds Ss os k).Bs++[bv ds Ss os (Vx ds Ss os k).Ts k],(Vx ds Ss os k).st++[k]⟩:Wh) else ⟨(Vx ds Ss os k).Ts++[bv ds Ss os (Vx ds Ss os k).Ts k],(Vx ds Ss os k).Bs++[bv ds Ss os (Vx ds Ss os k).Ts k],(Vx ds Ss os k).st⟩):=rfl;rw[es];split
  .exact⟨ap _ _ h1 λ t e=>by cases e;exact bY _,ap _ _ h2 hb⟩
  .exact⟨ap _ _ h1 hb,ap _ _ h2 hb⟩
def Az{Ts:List (Option Tr)}(h:∀(j:Nat) (t:Tr),Ts[j]?=QJ (QJ t)->VL t<=40)(a:Nat):VL (gt Ts a)<=40:=by
 unfold gt;rw[aA]
 cases e:Ts[a]? with
 |none=>exact bY _
 |some o=>
  cases o with
  |none=>exact bY _
  |some t=>exact h a t e
def AA{os:LI}:(WF ds Ss os (Vx ds Ss os k).Ts k=QK->(Vx ds Ss os (k+1)).Ts=(Vx ds Ss os k).Ts++[QJ (.read ((Vx ds Ss os k).st.length:Nat) 0 (bA (Vy Ss k)))]/\(Vx ds Ss os (k+1)).st.length=(Vx ds Ss os k).st.length+1)/\(WF ds Ss os (Vx ds Ss os k).Ts k=QL->(Vx ds Ss os (k+1)).Ts=(Vx ds Ss os k).Ts++[bv ds Ss os (Vx ds Ss os k).Ts k]/\(Vx ds Ss os (k+1)).st.length=(Vx ds Ss os k).st.length):=by
 constructor
 .intro c;show(if _ then _ else _:Wh).Ts=_/\(if _ then _ else _:Wh).st.length=_;rw[m7 c];exact⟨O,aK⟩
 .intro c;show(if _ then _ else _:Wh).Ts=_/\(if _ then _ else _:Wh).st.length=_;rw[k9 (by rw[c];decide)];exact⟨O,O⟩
def cN:Tr->Int
 |.each _ t=>1+cN t|.pair _ a b=>1+cN a+cN b|.pick a b c=>1+cN a+cN b+cN c|.fold _ n t=>n*(1+cN t)|.fetch _ _ _ _ _ t=>1+cN t
 |_=>0
def Wc:Tr->Prop
 |.each _ t=>Wc t|.pair _ a b=>Wc a/\Wc b|.pick a b c=>Wc a/\Wc b/\Wc c|.fold _ n t=>(0<=n/\n<=1000000)/\Wc t|.fetch _ _ _ _ _ t=>Wc t
 |_=>True
def cS:List Tr->Int
 |[]=>0
 |t::r=>cN t+cS r
def MO(l:List Tr)(b:Tr):cS (l++[b])=cS l+cN b:=by
 induction l with
 |nil=>show cN b+0=0+cN b;lia
 |cons t r ih=>show cN t+cS (r++[b])=cN t+cS r+cN b;rw[ih];lia
def MP{t b:Tr}(h:Wc t)(m:b∈Xe t):Wc b:=by
 cases t with
 |each w t|fetch _ _ _ _ _ t=>cases aJ.mp m;exact h
 |fold w n t=>cases aJ.mp m;exact h.2
 |pair w a c=>
  rcases aH.mp m with rfl|m
  .exact h.1
  .cases aJ.mp m;exact h.2
 |pick a c e=>
  rcases aH.mp m with rfl|m
  .exact h.1
  .rcases aH.mp m with rfl|m
   .exact h.2.1
   .cases aJ.mp m;exact h.2.2
 |_=>cases m
def mx(h:cy t=QK):cN t=0:=by cases t<;>first|rfl|cases h
inductive Lp where
 |fill (st:Int) (S:LI) (b:Int) (ss:LI) (t:Tr)|run (w:Str) (st:Int) (A:LI) (k:Nat) (t:Tr)
def YV:Lp->TV
 |.fill st S b ss t=>iK st S b ss (VG t)
 |.run w st A k t=>YU w st A k (VG t)
def qS:Lp->Prop
 |.fill _ S _ _ t=>fit S/\VL t<=41/\Wc t
 |.run _ _ A k t=>fit A/\k<A.length/\VL t<=41/\Wc t
def XV:Lp->Int
 |.fill _ S _ _ t=>af S*cN t
 |.run _ _ A k t=>af (A.eraseIdx k)*A.getD k 0*(1+cN t)
def AB(h:fit S):0<=af S/\af S<=512:=by
 have z:=qu (ns:=S) λ n hn=>(h.1 n hn).1;exact⟨z.1,ju z.2 h.2.2.2⟩
def AC(h:fit A):fit (A.eraseIdx k):=by
 have hm:∀n∈A.eraseIdx k,0<=n/\n<=512:=λ n hn=>h.1 n (zm hn);exact⟨hm,by have:=h.2.1;rw[oi];split<;>lia,nQ λ n hn=>(hm n hn).1,ju (zk λ n hn=>(h.1 n hn).1) h.2.2.2⟩
def AD{A:LI}{k:Nat}(h:k<A.length):af A=af (A.eraseIdx k)*A.getD k 0:=by
 have e:A=A.take k++A.getD k 0::A.drop (k+1):=by
  rw[aA,aL h];show A=A.take k++A[k]::A.drop (k+1);rw[List.getElem_cons_drop,uz]
 rw[lM,yU]
 conv=>lhs;rw[e]
 rw[yU,bU];grind
def Xx(Ss:LL)(S:LI):Stp->Int
 |.each ..=>af S|.pair ..=>af S|.pick ..=>af S|.fetch ..=>af S
 |.fold _ a _=>af (Vy Ss a)|.run _ a _=>af (Vy Ss a)
 |_=>0
def vh:∀x∈[n9 "each",.str "pair",.str "pick",.str "fetch"],Wa x=QK:=on
def AE:∀x∈[n9 "fold",.str "run"],Wa x=QK:=on
def MQ{ds:List Stp}{es:LI}(he:∀e∈es,0<=e/\e<(ds.length:Int)){k:Nat}(h:k∈aE ds es):(k:Int)∈es\/∃u,u∈aE ds es/\k∈ah (ds.getD u (.num 0)):=by
 have hl:=fg ds.length es
 have key:∀i,i<=ds.length->(bP ds ds.length i (bM ds.length es)).getD k QL=QK->(k:Int)∈es\/∃u,u∈aE ds es/\k∈ah (ds.getD u (.num 0)):=λ i=>by
  induction i with
  |zero=>exact λ _ h=>.inl ((uK he k).mp h)
  |succ i ih=>
   intro il h
   rcases(qG hl i k).mp h with h|⟨h1,h2,h3⟩
   .exact ih ca h
   .refine .inr ⟨_,mem_reach.mpr ⟨ca,?_⟩,h2⟩;have t:=qH hl (ds.length-i) h1
    rwa [show i+(ds.length-i)=ds.length by lia] at t
 exact key _ (ak _) (mem_reach.mp h).2
def br(f:Nat->Int):Nat->Int
 |0=>0
 |n+1=>br f n+f n
theorem oB{f g:Nat->Int}:∀ {n},(∀k,k<n->f k=g k)->br f n=br g n
 |0,_=>rfl
 |n+1,h=>by show br f n+f n=br g n+g n;rw[oB (n:=n) λ k hk=>h k ca,h n ca]
theorem AF{f g:Nat->Int}:∀ {n},(∀k,k<n->f k<=g k)->br f n<=br g n
 |0,_=>fO _
 |n+1,h=>by have a:=AF (n:=n) λ k hk=>h k ca;have b:=h n ca;show br f n+f n<=br g n+g n;lia
theorem vi(f g:Nat->Int):∀n,br (λ k=>f k+g k) n=br f n+br g n
 |0=>rfl
 |n+1=>by show br (λ k=>f k+g k) n+(f n+g n)=(br f n+f n)+(br g n+g n);rw[vi f g n];lia
theorem vj{f g:Nat->Int}{x:Int}(h1:g a=f a+x)(h2:∀j,j≠a->g j=f j):∀ {n},a<n->br g n=br f n+x
 |n+1,h=>by
  show br g n+g n=(br f n+f n)+x;by_cases c:a=n
  .subst c;rw[h1,oB (n:=a) λ k hk=>h2 k ca];lia
  .rw[vj h1 h2 (n:=n) ca,h2 n (λ z=>c z.symm)];lia
theorem vk{f:Nat->Int}:∀ {n},(∀k,k<n->f k=0)->br f n=0
 |0,_=>rfl
 |n+1,h=>by show br f n+f n=0;rw[vk (n:=n) λ k hk=>h k ca,h n ca];rfl
def MR{f:Nat->Int}{m n:Nat}(h:∀k,k≠m->f k=0)(l:m<n):br f n=f m:=by
 rw[vj (f:=λ _=>0) (g:=f) (a:=m) (x:=f m) (oC _).symm (λ j hj=>h j hj) l,vk λ _ _=>rfl,oC]
def aS(F:Nat->Int):List Nat->Int
 |[]=>0
 |a::r=>F a+aS F r
theorem AG{F G:Nat->Int}:∀ {l:List Nat},(∀a∈l,F a=G a)->aS F l=aS G l
 |[],_=>rfl
 |a::r,h=>by show F a+aS F r=G a+aS G r;rw[h a bc,AG λ b hb=>h b (bg _ hb)]
theorem AH{F:Nat->Int}:∀ {l:List Nat},(∀a∈l,F a=0)->aS F l=0
 |[],_=>rfl
 |a::r,h=>by show F a+aS F r=0;rw[h a bc,AH λ b hb=>h b (bg _ hb)];rfl
abbrev Yw(F:Nat->Int)(n:Nat)(U:List (LL)):Int:=br (λ a=>((U.getD a []).length:Int)*F a) n
def MS{F:Nat->Int}{n a:Nat}{U:List (LL)}{x:LI}(h:a<U.length)(h':a<n):Yw F n (U.set a (U.getD a []++[x]))=Yw F n U+F a :=
 vj (a:=a) (by rw[qO h,aK,gQ,Int.natCast_add,Int.add_mul];show _+1*F a=_;rw[jZ]) (λ j hj=>by rw[qP hj]) h'
theorem AI{F:Nat->Int}{n u:Nat}:∀(as:List Nat) (s:Nat) (U:List (LL)),(∀a∈as,a<n)->U.length=n->Yw F n ((as.zipIdx s).foldl (λ U q=>U.set q.1 (U.getD q.1 []++[[(u:Int),(q.2:Int)]])) U)=Yw F n U+aS F as
 |[],s,U,_,_=>(dy _).symm
 |a::r,s,U,h,l=>by
  rw[List.zipIdx_cons,gk,AI r (s+1) _ (λ b hb=>h b (bg _ hb)) (by rw[cF];exact l),MS (by rw[l];exact h a bc) (h a bc)];show _+F a+aS F r=_+(F a+aS F r);lia
theorem AJ{F:Nat->Int}{ds:List Stp}{os:LI}(ha:∀d∈ds,∀a∈ah d,a<ds.length):∀k,k<=ds.length->Yw F ds.length (Wp ds (WH ds os k))=br (λ k=>if (aM ds os).getD k QL=QK then aS F (ah (ds.getD k (.num 0))) else 0) k
 |0,_=>vk λ k _=>by
  show(((QT ds.length ([]:LL)).getD k []).length:Int)*_=0;rw[aA,dH];split<;>exact Vf _
 |k+1,kl=>by
  have ih:=AJ (F:=F) (os:=os) ha k ca;rw[Am];show _=br _ k+(if _ then _ else _);split
  .rw[<- ih];exact AI _ 0 _ (ha _ (aC (cI ca))) (oa _ _)
  .rw[<- ih,dy]
theorem dX(g:Gf):∀t:Tr,cN (rm g t)=cN t
 |.num _=>rfl|.idx _ _=>rfl|.read _ _ _=>rfl
 |.each _ t=>by show 1+cN (rm g t)=1+cN t;rw[dX g t]
 |.pair _ a b=>by show 1+cN (rm g a)+cN (rm g b)=1+cN a+cN b;rw[dX g a,dX g b]
 |.pick a b c=>by show 1+cN (rm g a)+cN (rm g b)+cN (rm g c)=1+cN a+cN b+cN c;rw[dX g a,dX g b,dX g c]
 |.fold _ n t=>by show n*(1+cN (rm g t))=n*(1+cN t);rw[dX g t]
 |.fetch _ _ _ _ _ t=>by show 1+cN (rm g t)=1+cN t;rw[dX g t]
theorem fX(g:Gf):∀t:Tr,Wc t->Wc (rm g t)
 |.num _,h=>h|.idx _ _,h=>h|.read _ _ _,h=>h
 |.each _ t,h=>fX g t h
 |.pair _ a b,h=>⟨fX g a h.1,fX g b h.2⟩
 |.pick a b c,h=>⟨fX g a h.1,fX g b h.2.1,fX g c h.2.2⟩
 |.fold _ n t,h=>⟨h.1,fX g t h.2⟩
 |.fetch _ _ _ _ _ t,h=>fX g t h
theorem iN:∀t:Tr,Wc t->0<=cN t
 |.num _,_=>fO _|.idx _ _,_=>fO _|.read _ _ _,_=>fO _
 |.each _ t,h=>by have:=iN t h;show 0<=1+cN t;lia
 |.pair _ a b,h=>by have:=iN a h.1;have:=iN b h.2;show 0<=1+cN a+cN b;lia
 |.pick a b c,h=>by have:=iN a h.1;have:=iN b h.2.1;have:=iN c h.2.2;show 0<=1+cN a+cN b+cN c;lia
 |.fold _ n t,h=>qq h.1.1 (by have:=iN t h.2;lia)
 |.fetch _ _ _ _ _ t,h=>by have:=iN t h;show 0<=1+cN t;lia
def MT{Ss:LL}(fS:∀T∈Ss,fit T)(ok:Wu Ss S d)(h:∀a,Wc (gt Ts a))(e:cE Ts Ss S d=QJ t):Wc t:=by
 have l:∀a,Wc (bE Ts Ss S a):=λ a=>fX _ _ (h a)
 cases d with
 |num n|count ms k|lay a ms=>cases e;trivial
 |each w a=>cases e;exact l a
 |pair w a b=>cases e;exact⟨l a,l b⟩
 |pick a b c=>cases e;exact⟨l a,l b,l c⟩
 |fetch a b=>
  have e:QJ (kw (gt Ts a) (Vy Ss a) (Vy Ss b) (bE Ts Ss S b))=QJ t:=e;generalize gt Ts a=r at e;cases e
  cases r<;>first|exact l b|trivial
 |fold w a k=>
  obtain⟨A,ea,_,no,_⟩:=ok;obtain⟨c,rfl,cl⟩:=dU no;cases e;have b:=(fS A (aC ea)).1 _ (gZ cl);refine⟨?_,fX _ _ (h a)⟩;rw[Wk ea];show 0<=A.getD c 0/\A.getD c 0<=1000000;lia
 |turn a os|flip a k|cut a k f m g|spread a k m=>cases e;exact fX _ _ (h a)
 |_=>cases e
def qT{Ts:List (Option Tr)}(h:∀(j:Nat) (t:Tr),Ts[j]?=QJ (QJ t)->Wc t)(a:Nat):Wc (gt Ts a):=by
 unfold gt;rw[aA]
 cases e:Ts[a]? with
 |none=>trivial
 |some o=>cases o with
  |none=>trivial
  |some t=>exact h a t e
theorem vm{os:LI}{mo:Int}(gl:cO mo ds Ss)(fS:∀T∈Ss,fit T):∀k,k<=ds.length->(∀(j:Nat) (t:Tr),(Vx ds Ss os k).Ts[j]?=QJ (QJ t)->Wc t)/\∀(j:Nat) (t:Tr),(Vx ds Ss os k).Bs[j]?=QJ (QJ t)->Wc t
 |0,_=>⟨λ j t h=>(nomatch h),λ j t h=>(nomatch h)⟩
 |k+1,kl=>by
  obtain⟨h1,h2⟩:=vm gl fS (os:=os) k ca
  have hb:∀t,bv ds Ss os (Vx ds Ss os k).Ts k=QJ t->Wc t:=λ t e=>by
   unfold bv at e;split at e
   .have eS:Ss[k]?=QJ (Vy Ss k):=by unfold Vy;rw[aA,aL (by rw[<- gl.1];lia)];rfl
    exact MT fS (XH (gl.2.2 k _ _ (cI ca) eS)) (qT h1) e
   .cases e
  have ap:∀(l:List (Option Tr)) (x:Option Tr),(∀(j:Nat) (t:Tr),l[j]?=QJ (QJ t)->Wc t)->(∀t,x=QJ t->Wc t)->∀(j:Nat) (t:Tr),(l++[x])[j]?=QJ (QJ t)->Wc t:=λ l x a b j t e=>by
   rcases lZ j l.length with z|z
   .rw[cx z] at e;exact a j t e
   .rw[cu z] at e;have:=aC e;exact b t (aJ.mp this).symm
  have es:Vx ds Ss os (k+1)=(if WF ds Ss os (Vx ds Ss os k).Ts k=QK then (⟨(Vx ds Ss os k).Ts++[QJ (.read ((Vx ds Ss os k).st.length:Nat) 0 (bA (Vy Ss k)))],(Vx ds Ss os k).Bs++[bv ds Ss os (Vx ds Ss os k).Ts k],(Vx ds Ss os k).st++[k]⟩:Wh) else ⟨(Vx ds Ss os k).Ts++[bv ds Ss os (Vx ds Ss os k).Ts k],(Vx ds Ss os k).Bs++[bv ds Ss os (Vx ds Ss os k).Ts k],(Vx ds Ss os k).st⟩):=rfl;rw[es];split
  .exact⟨ap _ _ h1 λ t e=>by cases e;trivial,ap _ _ h2 hb⟩
  .exact⟨ap _ _ h1 hb,ap _ _ h2 hb⟩
theorem AK:∀ {ns:LI}{k:Nat}{v:Int},(∀n∈ns,0<=n)->0<=v->v<=ns.getD k 0->af (ns.set k v)<=af ns
 |[],_,_,_,_,_=>fO _
 |n::ns,0,v,h,h0,h1=>by
  show af (v::ns)<=af (n::ns);rw[bU,bU];exact lQ h1 (Kc λ m hm=>h m (bg _ hm))
 |n::ns,k+1,v,h,h0,h1=>by
  show af (n::ns.set k v)<=af (n::ns);rw[bU,bU];exact kh (AK (λ m hm=>h m (bg _ hm)) h0 h1) (h n bc)
abbrev cA(Ss:LL)(Ts:List (Option Tr))(a:Nat):Int:=af (Vy Ss a)*cN (gt Ts a)
noncomputable def iO:Stp->Bool
 |.cut ..=>QK|_=>QL
noncomputable def MU:Stp->Bool
 |.spread ..=>QK|_=>QL
def yC(Ts:List (Option Tr))(Ss:LL)(S:LI):Stp->Int
 |.inp _=>0
 |.run _ a s=>af ((Vy Ss a).eraseIdx s.toNat)*(Vy Ss a).getD s.toNat 0*(1+cN (gt Ts a))
 |.join a b _=>cA Ss Ts a+cA Ss Ts b
 |d=>af S*cN ((cE Ts Ss S d).getD (.num 0))
def my(p c:Int):p*(1+c)=p+p*c:=by rw[s0y,mD]
def MV{Ss:LL}(fS:∀T∈Ss,fit T)(ok:Wu Ss S d)(fo:∀a,Wc (gt Ts a))(hl:∀(p a:Nat),(ah d)[p]?=QJ a->cy (gt Ts a)=QL->MU d=QL/\(uN d (p:Int)=QK->S.length<=(Vy Ss a).length))(hy:∀a ms,d=.lay a ms->fU (gt Ts a))(hf:∀a b,d=.fetch a b->fU (gt Ts a)):yC Ts Ss S d<=Xx Ss S d+aS (cA Ss Ts) (ah d)/\((∀a∈ah d,cy (gt Ts a)=QL->iO d=QL)->yC Ts Ss S d=Xx Ss S d+aS (cA Ss Ts) (ah d)):=by
 have eq:∀ {x y:Int}{P:Prop},x=y->x<=y/\(P->x=y):=λ e=>⟨Int.le_of_eq e,λ _=>e⟩;have fr:∀a,cy (gt Ts a)=QK->cA Ss Ts a=0:=λ a h=>by unfold cA;rw[mx h,kF]
 have rd:∀a,fU (gt Ts a)->cA Ss Ts a=0:=λ a ⟨_,_,_,e⟩=>fr a (by rw[e];rfl)
 have led:∀(p a:Nat),(ah d)[p]?=QJ a->uN d (p:Int)=QK->S.take (Vy Ss a).length=Vy Ss a->cA Ss Ts a=af S*cN (gt Ts a):=λ p a e l hp=>by
  cases h:cy (gt Ts a) with
  |true=>rw[fr a h,mx h,kF]
  |false=>
   have z:=(hl p a e h).2 l;rw[ce z] at hp;unfold cA;rw[<- hp]
 have ld:(VH d=VH (.each "" 0)\/VH d=VH (.pair "" 0 0)\/VH d=VH (.pick 0 0 0))->∀a∈ah d,S.take (Vy Ss a).length=Vy Ss a:=λ h a ha=>by
  obtain⟨A,ea,hp⟩:=uM ok h a ha;rw[Wk ea];exact hp
 have lc:∀a,cN (bE Ts Ss S a)=cN (gt Ts a):=λ a=>dX _ _
 cases d with
 |inp ms=>exact eq rfl
 |num n|count ms k=>exact eq (by show af S*0=0+0;rw[kF];rfl)
 |lay a ms=>exact eq (by show af S*0=0+(cA Ss Ts a+0);rw[rd a (hy a ms rfl),kF];rfl)
 |each w a=>exact eq (by show af S*(1+cN (bE Ts Ss S a))=af S+(cA Ss Ts a+0);rw[lc,my,dy];unfold cA;rw[Wk ok.1])
 |pair w a b=>
  exact eq (by
   show af S*(1+cN (bE Ts Ss S a)+cN (bE Ts Ss S b))=af S+(cA Ss Ts a+(cA Ss Ts b+0));rw[lc,lc,led 0 a rfl rfl (ld (.inr (.inl rfl)) a (by simp[ah])),led 1 b rfl rfl (ld (.inr (.inl rfl)) b (by simp[ah])),s0y,my]
   lia)
 |pick a b c=>
  exact eq (by
   show af S*(1+cN (bE Ts Ss S a)+cN (bE Ts Ss S b)+cN (bE Ts Ss S c))=af S+(cA Ss Ts a+(cA Ss Ts b+(cA Ss Ts c+0)));rw[lc,lc,lc,led 0 a rfl rfl (ld (.inr (.inr rfl)) a (by simp[ah])),led 1 b rfl rfl (ld (.inr (.inr rfl)) b (by simp[ah])),led 2 c rfl rfl (ld (.inr (.inr rfl)) c (by simp[ah])),s0y,s0y,my]
   lia)
 |fetch a b=>
  have r0:=rd a (hf a b rfl);obtain⟨st,s,ss,er⟩:=hf a b rfl;obtain⟨n,r,B,ea,n0,eb,nb,e⟩:=ok;have hp:S.take (Vy Ss b).length=Vy Ss b:=by rw[Wk eb,e];exact s0t
  exact eq (by
   show af S*cN (kw (gt Ts a) (Vy Ss a) (Vy Ss b) (bE Ts Ss S b))=af S+(cA Ss Ts a+(cA Ss Ts b+0));rw[r0,er];show af S*(1+cN (bE Ts Ss S b))=_;rw[lc,led 1 b rfl rfl hp,my]
   lia)
 |fold w a k=>
  obtain⟨A,ea,_,no,rfl⟩:=ok;obtain⟨c,rfl,cl⟩:=dU no
  exact eq (by
   show af (A.eraseIdx c)*((Vy Ss a).getD c 0*(1+cN (rm _ (gt Ts a))))=af (Vy Ss a)+(cA Ss Ts a+0);unfold cA
   rw[Wk ea,dX,<- nM,<- AD cl,my,dy])
 |run w a s=>
  obtain⟨ea,_,no⟩:=ok;obtain⟨c,rfl,cl⟩:=dU no
  exact eq (by
   show af ((Vy Ss a).eraseIdx c)*(Vy Ss a).getD c 0*(1+cN (gt Ts a))=af (Vy Ss a)+(cA Ss Ts a+0);unfold cA
   rw[Wk ea,<- AD cl,my,dy])
 |join a b s=>exact eq (by show cA Ss Ts a+cA Ss Ts b=0+(cA Ss Ts a+(cA Ss Ts b+0));lia)
 |turn a os=>
  obtain⟨A,ea,tk,rfl⟩:=ok;exact eq (by show af (cq A os)*cN (rm _ (gt Ts a))=0+(af (Vy Ss a)*cN (gt Ts a)+0);rw[dX,Wk ea,nR (ze tk)];lia)
 |flip a s=>exact eq (by show af S*cN (rm _ (gt Ts a))=0+(af (Vy Ss a)*cN (gt Ts a)+0);rw[dX,Wk ok.1];lia)
 |spread a s m=>
  have h:cy (gt Ts a)=QK:=by
   cases h:cy (gt Ts a) with
   |true=>rfl
   |false=>cases (hl 0 a rfl h).1
  exact eq (by show af S*cN (rm _ (gt Ts a))=0+(cA Ss Ts a+0);rw[dX,fr a h,mx h,kF];rfl)
 |cut a s f m g=>
  obtain⟨A,ea,no,nb,_,rfl⟩:=ok;obtain⟨c,rfl,cl⟩:=dU no;have c0:=iN _ (fo a);unfold XB at nb;have n0:∀n∈A,0<=n:=λ n hn=>((fS A (aC ea)).1 n hn).1;have a0:=n0 _ (gZ cl)
  have ml:m<=A.getD c 0:=by
   by_cases z:0<m
   .have q:A.getD c 0 > f+(m-1)*g:=by
     have:¬A.getD c 0<=f+(m-1)*g:=λ w=>nb (.inr (.inr (.inr ⟨z,w⟩)));lia
    have w:(m-1)*1<=(m-1)*g:=kh ca ca;lia
   .lia
  have pl:=AK (k:=c) (v:=m) n0 ca ml;show af (A.set c m)*cN (rm _ (gt Ts a))<=0+(af (Vy Ss a)*cN (gt Ts a)+0)/\(_->af (A.set c m)*cN (rm _ (gt Ts a))=0+(af (Vy Ss a)*cN (gt Ts a)+0));rw[dX,Wk ea];refine⟨by have:=lQ pl c0;lia,λ h=>?_⟩
  cases z:cy (gt Ts a) with
  |true=>rw[mx z];lia
  |false=>cases (h a (by simp[ah]) z)
theorem MW{n m:Nat}{lv fr:Nat->Bool}{H:Nat->Nat}{c y p ul:Nat->Int}{as:Nat->List Nat}(swap:∀F,br (λ a=>ul a*F a) n=br (λ k=>if lv k=QK then aS F (as k) else 0) n)(c0:∀a,fr a=QK->c a=0)(h1:∀k a,k<n->lv k=QK->a∈as k->fr a=QL->H a=H k)(h2:∀k,k<n->lv k=QK->fr k=QK->H k=k)(h3:∀a,a<n->fr a=QL->ul a=if lv a=QK then 1 else 0)(h5:∀k,k<n->lv k=QK->fr k=QL->y k=c k)(le:∀k,k<n->lv k=QK->y k<=p k+aS c (as k))(ml:m<n)(mf:fr m=QK) :
  (if lv m=QK then y m else 0)<=br (λ k=>if lv k=QK/\H k=m then p k else 0) n/\((∀k,k<n->lv k=QK->H k=m->y k=p k+aS c (as k))->(if lv m=QK then y m else 0)=br (λ k=>if lv k=QK/\H k=m then p k else 0) n):=by
 have F0:∀a,fr a=QK->(if H a=m then c a else 0)=0:=λ a h=>by rw[c0 a h];exact ite_self 0
 have aF:∀k,k<n->lv k=QK->aS (λ a=>if H a=m then c a else 0) (as k)=if H k=m then aS c (as k) else 0:=λ k kl l=>by
  by_cases z:H k=m
  .rw[m7 z];refine AG λ a ha=>?_
   cases e:fr a with
   |true=>rw[F0 a e,c0 a e]
   |false=>rw[m7 ((h1 k a kl l ha e).trans z)]
  .rw[k9 z];refine AH λ a ha=>?_
   cases e:fr a with
   |true=>exact F0 a e
   |false=>rw[k9 (λ w=>z ((h1 k a kl l ha e).symm.trans w))]
 have e1:br (λ k=>if lv k=QK/\H k=m then y k else 0) n=br (λ k=>if lv k=QK/\fr k=QL then (if H k=m then c k else 0) else 0) n+(if lv m=QK then y m else 0):=by
  have z:(if lv m=QK then y m else 0)=br (λ k=>if k=m then (if lv m=QK then y m else 0) else 0) n:=by
   rw[MR (m:=m) (λ k hk=>k9 hk) ml,m7 rfl]
  rw[z,<- vi];refine oB λ k kl=>?_;by_cases l:lv k=QK
  .cases f:fr k with
   |true=>
    have hk:=h2 k kl l f;rw[k9 (c:=lv k=QK/\QK=QL) (λ w=>by cases w.2),oC];by_cases km:k=m
    .subst km;rw[m7 ⟨l,hk⟩,m7 rfl,m7 l]
    .rw[k9 km,k9 (λ w=>km (hk.symm.trans w.2))]
   |false=>
    have km:k≠m:=λ w=>by rw[w,mf] at f;cases f
    rw[k9 km,dy,m7 (c:=lv k=QK/\QL=QL) ⟨l,rfl⟩];by_cases z:H k=m
    .rw[m7 ⟨l,z⟩,m7 z,h5 k kl l f]
    .rw[k9 (λ w=>z w.2),k9 z]
  .rw[k9 (λ w=>l w.1),k9 (λ w=>l w.1)];by_cases km:k=m
   .subst km;rw[m7 rfl,k9 l];rfl
   .rw[k9 km];rfl
 have e2:br (λ k=>if lv k=QK then aS (λ a=>if H a=m then c a else 0) (as k) else 0) n=br (λ k=>if lv k=QK/\fr k=QL then (if H k=m then c k else 0) else 0) n:=by
  rw[<- swap];refine oB λ a al=>?_
  cases f:fr a with
  |true=>rw[F0 a f,kF,k9 (λ w=>by cases w.2)]
  |false=>
   rw[h3 a al f];by_cases l:lv a=QK
   .rw[m7 l,m7 (c:=lv a=QK/\QL=QL) ⟨l,rfl⟩,jZ]
   .rw[k9 l,k9 (c:=lv a=QK/\QL=QL) (λ w=>l w.1),Vf]
 have e3:=vi (λ k=>if lv k=QK/\H k=m then p k else 0) (λ k=>if lv k=QK then aS (λ a=>if H a=m then c a else 0) (as k) else 0) n
 have pt:∀k,k<n->∀R:Int->Int->Prop,R 0 0->(lv k=QK->H k=m->R (y k) (p k+aS c (as k)))->R (if lv k=QK/\H k=m then y k else 0) ((if lv k=QK/\H k=m then p k else 0)+(if lv k=QK then aS (λ a=>if H a=m then c a else 0) (as k) else 0)):=λ k kl R r0 r1=>by
  by_cases l:lv k=QK
  .rw[m7 (c:=lv k=QK) l,aF k kl l];by_cases z:H k=m
   .rw[m7 ⟨l,z⟩,m7 ⟨l,z⟩,m7 z];exact r1 l z
   .rw[k9 (λ w=>z w.2),k9 (λ w=>z w.2),k9 z];exact r0
  .rw[k9 (λ w=>l w.1),k9 (λ w=>l w.1),k9 l];exact r0
 constructor
 .have:=AF (n:=n) λ k kl=>pt k kl (·<=·) (fO _) λ l _=>le k kl l;lia
 .intro h;have:=oB (n:=n) λ k kl=>pt k kl (·=·) rfl λ l z=>h k kl l z;lia
theorem vo(k:Nat):∀(as:List Nat) (R:List Nat) (j:Nat),(as.foldl (λ R a=>R.set a k) R).getD j 0=if j∈as/\j<R.length then k else R.getD j 0
 |[],R,j=>by rw[k9 (λ w=>by cases w.1)];rfl
 |a::as,R,j=>by
  rw[gk,vo k as,cF];by_cases c:j∈as/\j<R.length
  .rw[m7 c,m7 ⟨bg _ c.1,c.2⟩]
  .rw[k9 c,aA,cV];by_cases e:a=j
   .subst e;by_cases l:a<R.length
    .rw[m7 rfl,m7 l,m7 ⟨bc,l⟩];rfl
    .rw[m7 rfl,k9 l,k9 (λ w=>l w.2),aA,eI ca]
   .rw[k9 e,k9 (λ w=>c ⟨(aH.mp w.1).elim (λ z=>m8 z.symm e) id,w.2⟩),<- aA]
theorem vp(k:Nat):∀(as R:List Nat),(as.foldl (λ R a=>R.set a k) R).length=R.length
 |[],_=>rfl
 |a::as,R=>by rw[gk,vp k as,cF]
def cR(ds:List Stp)(os:LI):Nat->List Nat
 |0=>QT ds.length 0
 |k+1=>if (aM ds os).getD k QL=QK then (ah (ds.getD k (.num 0))).foldl (λ R a=>R.set a k) (cR ds os k) else cR ds os k
theorem oD(ds:List Stp)(os:LI):∀k,(cR ds os k).length=ds.length
 |0=>dO
 |k+1=>by
  show(if _ then _ else _:List Nat).length=_;split
  .rw[vp];exact oD ds os k
  .exact oD ds os k
theorem AL(ds:List Stp)(os:LI)(d0:0<ds.length):∀k,k<=ds.length->∀j,(cR ds os k).getD j 0<ds.length
 |0,_,j=>by show(QT ds.length 0).getD j 0<_;rw[aA,dH];split<;>exact d0
 |k+1,kl,j=>by
  have ih:=AL ds os d0 k ca j;show(if _ then _ else _:List Nat).getD j 0<_;split
  .rw[vo];split<;>lia
  .exact ih
theorem vq{ds:List Stp}{os:LI}{a u:Nat}(al:a<ds.length)(hu:(aM ds os).getD u QL=QK)(ha:a∈ah (ds.getD u (.num 0)))(un:∀j,j<ds.length->(aM ds os).getD j QL=QK->a∈ah (ds.getD j (.num 0))->j=u):∀k,k<=ds.length->u<k->(cR ds os k).getD a 0=u
 |0,_,h=>by lia
 |k+1,kl,h=>by
  show(if _ then _ else _:List Nat).getD a 0=_;by_cases l:(aM ds os).getD k QL=QK
  .rw[m7 l,vo,oD];by_cases m:a∈ah (ds.getD k (.num 0))
   .rw[m7 ⟨m,al⟩];exact un k ca l m
   .rw[k9 (λ w=>m w.1)];have:u≠k:=λ z=>m (z ▸ ha);exact vq al hu ha un k ca ca
  .rw[k9 l];have:u≠k:=λ z=>l (z ▸ hu);exact vq al hu ha un k ca ca
abbrev WU(ds:List Stp)(os:LI)(B:List Str)(k:Nat):Bool:=(aM ds os).getD k QL&&_L.eqT (.str (B.getD k "")) (.str "busy")
def We(ds:List Stp)(os:LI)(B:List Str)(U K:List Nat):Nat->List Nat×List Bool
 |0=>(QW ds.length,QT ds.length QL)
 |i+1=>
  let p:=We ds os B U K i
  let k:=ds.length-1-i
  let u:=U.getD k 0
  if WU ds os B k=QK then (p.1.set k (p.1.getD u 0),p.2.set k (iO (ds.getD u (.num 0)) || (!decide (u∈K)&&p.2.getD u QL))) else p
theorem qU(ds:List Stp)(os:LI)(B:List Str)(U K:List Nat):∀i,(We ds os B U K i).1.length=ds.length/\(We ds os B U K i).2.length=ds.length
 |0=>⟨bL,dO⟩
 |i+1=>by
  obtain⟨h1,h2⟩:=qU ds os B U K i;show(if _ then _ else _:List Nat×List Bool).1.length=_/\(if _ then _ else _:List Nat×List Bool).2.length=_;split
  .exact⟨by rw[cF];exact h1,by rw[cF];exact h2⟩
  .exact⟨h1,h2⟩
theorem AM{ds:List Stp}{os:LI}{U K:List Nat}(hu:∀k,k<ds.length->WU ds os B k=QK->k<U.getD k 0/\U.getD k 0<ds.length):∀i,i<=ds.length->∀k,k<ds.length->(WU ds os B k=QK->ds.length-i<=k->(We ds os B U K i).1.getD k 0=(We ds os B U K i).1.getD (U.getD k 0) 0/\(iO (ds.getD (U.getD k 0) (.num 0))=QK->(We ds os B U K i).2.getD k QL=QK))/\(WU ds os B k=QL->(We ds os B U K i).1.getD k 0=k)
 |0,_,k,kl=>⟨λ _ h=>by lia,λ _=>by show(QW ds.length).getD k 0=k;rw[aA,iB kl];rfl⟩
 |i+1,il,k,kl=>by
  obtain⟨h1,h2⟩:=AM (K:=K) hu i ca k kl;obtain⟨l1,l2⟩:=qU ds os B U K i;have st:We ds os B U K (i+1)=if WU ds os B (ds.length-1-i)=QK then ((We ds os B U K i).1.set (ds.length-1-i) ((We ds os B U K i).1.getD (U.getD (ds.length-1-i) 0) 0),(We ds os B U K i).2.set (ds.length-1-i) (iO (ds.getD (U.getD (ds.length-1-i) 0) (.num 0)) || (!decide (U.getD (ds.length-1-i) 0∈K)&&(We ds os B U K i).2.getD (U.getD (ds.length-1-i) 0) QL))) else We ds os B U K i:=rfl;rw[st];generalize We ds os B U K i=p at *;obtain⟨j,ej⟩:∃j,j=ds.length-1-i:=⟨_,rfl⟩;rw[<- ej];have ne:∀ {x v:Nat},x≠j->(p.1.set j v).getD x 0=p.1.getD x 0:=λ h=>by rw[aA,gh (λ z=>h z.symm),<- aA]
  have ne2:∀ {x:Nat}{v:Bool},x≠j->(p.2.set j v).getD x QL=p.2.getD x QL:=λ h=>by rw[aA,gh (λ z=>h z.symm),<- aA]
  by_cases c:WU ds os B j=QK
  .rw[m7 c];have uj:=hu j ca c;by_cases kj:k=j
   .subst kj;refine⟨λ _ _=>⟨?_,λ hc=>?_⟩,λ z=>by rw[c] at z;cases z⟩
    .show(p.1.set k _).getD k 0=(p.1.set k _).getD (U.getD k 0) 0;rw[ne (x:=U.getD k 0) ca,aA,gc ca];rfl
    .show(p.2.set k _).getD k QL=QK;rw[aA,gc ca,hc];rfl
   .refine⟨λ hb hk=>?_,λ z=>(ne kj).trans (h2 z)⟩;have:=hu k kl hb;obtain⟨z1,z2⟩:=h1 hb ca;exact⟨(ne kj).trans (z1.trans (ne ca).symm),λ hc=>(ne2 kj).trans (z2 hc)⟩
  .rw[k9 c];refine⟨λ hb hk=>h1 hb ?_,h2⟩;have:k≠j:=λ z=>c (z ▸ hb);lia
def AN{d:Stp}(h:∀a∈ah d,gt Ts a=gt Ts' a):cE Ts Ss S d=cE Ts' Ss S d:=by
 cases d<;>simp_all [cE,bE,ah]
def mz{a b:Bool}(h:(a || b)=QL):a=QL/\b=QL:=by cases a<;>cases b<;>simp_all
def qV{os:LI}{mo:Int}{k:Nat}(gl:cO mo ds Ss)(hr:k∈aE ds os)(h:cy (gt (Vx ds Ss os ds.length).Ts k)=QL):(k:Int) ∉ os/\((aQ ds os).getD k []).length<=1/\gwB ds Ss k ((aQ ds os).getD k [])=QL/\yC (Vx ds Ss os ds.length).Ts Ss (Vy Ss k) (ds.getD k (.num 0))=cA Ss (Vx ds Ss os ds.length).Ts k:=by
 have kl:=(mem_reach.mp hr).1;obtain⟨s1',s2'⟩:=AA (ds:=ds) (Ss:=Ss) (os:=os) (k:=k);have ln:=(fW ds Ss os k).1;have eg:gt (Vx ds Ss os ds.length).Ts k=gt (Vx ds Ss os (k+1)).Ts k:=qQ kl ca;have kb:WF ds Ss os (Vx ds Ss os k).Ts k=(cQ (ds.getD k (.num 0)) || (decide (k∈aE ds os)&&jD ds Ss os k (ds.getD k (.num 0)) (bv ds Ss os (Vx ds Ss os k).Ts k) ((aQ ds os).getD k []))):=rfl;have bo:bv ds Ss os (Vx ds Ss os k).Ts k=cE (Vx ds Ss os k).Ts Ss (Vy Ss k) (ds.getD k (.num 0)):=m7 hr;have bp:cE (Vx ds Ss os ds.length).Ts Ss (Vy Ss k) (ds.getD k (.num 0))=cE (Vx ds Ss os k).Ts Ss (Vy Ss k) (ds.getD k (.num 0)):=AN λ a ha=>qQ ca (jz gl k _ (cI kl) a ha)
 cases c:WF ds Ss os (Vx ds Ss os k).Ts k with
 |true=>
  rw[eg,(s1' c).1,jE ln] at h;cases h
 |false=>
  rw[eg,(s2' c).1,jE ln,bo] at h;rw[c,bJ hr,mq,bo] at kb;obtain⟨k1,k2⟩:=mz kb.symm
  have ec:cA Ss (Vx ds Ss os ds.length).Ts k=af (Vy Ss k)*cN ((cE (Vx ds Ss os k).Ts Ss (Vy Ss k) (ds.getD k (.num 0))).getD (.num 0)):=by
   unfold cA;rw[eg,(s2' c).1,jE ln,bo]
  rw[ec,<- bp];rw[<- bp] at h k2;have kq:=λ t (d:Stp)=>Au (ds:=ds) (Ss:=Ss) (os:=os) (k:=k) (t:=t) (d:=d) kl
  have fin:∀t,jC ds Ss os k t ((aQ ds os).getD k [])=QL->cy t=QL->(k:Int) ∉ os/\((aQ ds os).getD k []).length<=1/\gwB ds Ss k ((aQ ds os).getD k [])=QL:=λ t q f=>by
   rw[kq t (.num 0) rfl] at q;obtain⟨q1,q2⟩:=mz q;unfold Xw at q1;unfold ke2 at q2;rw[show mj (.num 0)=QL from rfl,jT] at q1;have w:=(mz q1).1;unfold Xq at w;rw[vg,f] at q2;obtain⟨g1,g2⟩:=mz (show(decide ((1:Int)<(((aQ ds os).getD k []).length:Nat)) || gwB ds Ss k ((aQ ds os).getD k []))=QL from q2);refine⟨λ z=>?_,by have:=gG g1;lia,g2⟩;rw[(oo _ _).mpr z] at w;cases w
  generalize ds.getD k (.num 0)=d at *
  cases d with
  |inp ms=>cases k1
  |run w a s|join a b s=>cases k2
  |lay a ms=>cases h
  |_=>
   obtain⟨f1,f2,f3⟩:=fin _ k2 h;exact⟨f1,f2,f3,O⟩
def jG:Lp->Int
 |.fill st _ _ _ _=>st
 |.run _ st _ _ _=>st
def Zx(Ss:LL)(Ts:List (Option Tr))(S:LI)(t:Tr)(st:Int):Stp->List Lp
 |.run w a k=>[.run w st (Vy Ss a) k.toNat (rm (fb (Vy Ss a).length k.toNat) (gt Ts a))]
 |.join a b k=>[.fill st (Vy Ss a) 0 (bA S) (gt Ts a),.fill st (Vy Ss b) ((Vy Ss a).getD k.toNat 0*(bA S).getD k.toNat 0) (bA S) (gt Ts b)]
 |_=>[.fill st S 0 (bA S) t]
def MX{o:Option Tr}{st:Int}(h:¬ky d->∃t,o=QJ t):cQ d=QL->Yg Ss Ts S o st d=(Zx Ss Ts S (o.getD (.num 0)) st d).map YV:=λ hi=>by
 cases d with
 |inp ms=>cases hi
 |run w a k|join a b k=>rfl
 |_=>obtain⟨t,rfl⟩:=h (λ h=>h);rfl
def MY{Ss:LL}{Ts:List (Option Tr)}{S:LI}{st:Int}:∀q∈Zx Ss Ts S t st d,jG q=st:=λ q hq=>by
 cases d with
 |run w a k=>cases aJ.mp hq;rfl
 |join a b k=>
  rcases aH.mp hq with rfl|hq
  .rfl
  .cases aJ.mp hq;rfl
 |_=>cases aJ.mp hq;rfl
def Yx:List Lp->Int
 |[]=>0
 |q::r=>XV q+Yx r
def cJ:List Lp->Nat->Int
 |[],_=>0
 |q::r,x=>(if jG q=(x:Int) then XV q else 0)+cJ r x
def vt(a b:List Lp)(x:Nat):cJ (a++b) x=cJ a x+cJ b x:=by
 induction a with
 |nil=>exact(oC _).symm
 |cons q r ih=>show _+cJ (r++b) x=_+cJ r x+_;rw[ih];lia
theorem AO{st x:Nat}:∀ {l:List Lp},(∀q∈l,jG q=st)->cJ l x=if x=st then Yx l else 0
 |[],_=>by show(0:Int)=_;split<;>rfl
 |q::r,h=>by
  show(if jG q=(x:Int) then XV q else 0)+cJ r x=_;rw[AO (l:=r) λ q hq=>h q (bg _ hq),h q bc];by_cases c:x=st
  .subst c;rw[m7 rfl,m7 rfl,m7 rfl];rfl
  .rw[k9 ca,k9 c,k9 c];rfl
def Xh(ds:List Stp)(Ss:LL)(p:Wh)(i:Nat):List Lp:=match p.st[i]? with
 |some k=>if cQ (ds.getD k (.num 0))=QK then [] else Zx Ss p.Ts (Vy Ss k) ((p.Bs.getD k QM).getD (.num 0)) (i:Nat) (ds.getD k (.num 0))
 |none=>[]
def iP(ds:List Stp)(Ss:LL)(p:Wh):Nat->List Lp
 |0=>[]
 |i+1=>iP ds Ss p i++Xh ds Ss p i
def AQ{ds:List Stp}{Ss:LL}{p:Wh}:∀q∈Xh ds Ss p i,jG q=(i:Nat):=λ q hq=>by
 unfold Xh at hq;split at hq
 .split at hq
  .cases hq
  .exact MY q hq
 .cases hq
theorem AR:∀n,cJ (iP ds Ss p n) x=if x<n then Yx (Xh ds Ss p x) else 0
 |0=>by rw[k9 ca];rfl
 |n+1=>by
  show cJ (iP ds Ss p n++Xh ds Ss p n) x=_;rw[vt,AR n,AO (st:=n) AQ];by_cases c:x=n
  .subst c;rw[k9 ca,m7 rfl,m7 ca,oC]
  .rw[k9 c,dy];by_cases l:x<n
   .rw[m7 l,m7 ca]
   .rw[k9 l,k9 ca]
section
variable {ds:List Stp}{Ss:LL}{os:LI}{mo:Int}
def AS(gl:cO mo ds Ss){k:Nat}(hr:k∈aE ds os):(Vx ds Ss os ds.length).Bs.getD k QM=cE (Vx ds Ss os ds.length).Ts Ss (Vy Ss k) (ds.getD k (.num 0)):=by
 have kl:=(mem_reach.mp hr).1;rw[Mq kl];have z:bv ds Ss os (Vx ds Ss os k).Ts k=cE (Vx ds Ss os k).Ts Ss (Vy Ss k) (ds.getD k (.num 0)):=m7 hr;rw[z];exact AN λ a ha=>(qQ ca (jz gl k _ (cI kl) a ha)).symm
set_option tactic.hygienic true in
theorem AT(gl:cO mo ds Ss):∀n,Xv ds Ss (Vx ds Ss os ds.length) n=(iP ds Ss (Vx ds Ss os ds.length) n).map YV
 |0=>rfl
 |n+1=>by
  have ih:=AT gl n;show Xv ds Ss _ n++_=(iP ds Ss _ n++Xh ds Ss _ n).map YV;rw[ih,bD]
  congr 1
  unfold Xh;split
  .rename_i k ek;by_cases c:cQ (ds.getD k (.num 0))=QK
   .rw[m7 c,m7 c];rfl
   .rw[k9 c,k9 c];have c:=jF.mpr c;obtain⟨kl,hl⟩:=mh ds.length k (aC ek);refine MX (λ h=>?_) c;rw[AS gl (hl c)];exact oj h
  .rfl
set_option tactic.hygienic true in
def MZ(gl:cO mo ds Ss)(fS:∀T∈Ss,fit T)(d40:ds.length<=40)(i:Nat):∀q∈Xh ds Ss (Vx ds Ss os ds.length) i,qS q:=λ q hq=>by
 obtain⟨dp1,dp2⟩:=Ay gl d40 (os:=os) ds.length (ak _);obtain⟨fo1,fo2⟩:=vm gl fS (os:=os) ds.length (ak _);unfold Xh at hq;split at hq
 .rename_i k ek;obtain⟨kl,hl⟩:=mh ds.length k (aC ek);split at hq
  .cases hq
  .have eS:Ss[k]?=QJ (Vy Ss k):=by unfold Vy;rw[aA,aL (by rw[<- gl.1];exact kl)];rfl
   have ok:=XH (gl.2.2 k _ _ (cI kl) eS);have fk:=fS _ (aC eS);have d1:=λ a=>Az dp1 a;have d2:VL (((Vx ds Ss os ds.length).Bs.getD k QM).getD (.num 0))<=40:=Az dp2 k;have f2:Wc (((Vx ds Ss os ds.length).Bs.getD k QM).getD (.num 0)):=qT fo2 k;have f1:=λ a=>qT fo1 a;generalize Vx ds Ss os ds.length=p at *;generalize ds.getD k (.num 0)=d at *;have oth:qS (.fill (i:Nat) (Vy Ss k) 0 (bA (Vy Ss k)) ((p.Bs.getD k QM).getD (.num 0))):=⟨fk,ca,f2⟩
   cases d with
   |run w a s=>
    cases aJ.mp hq;obtain⟨ea,_,no⟩:=ok;obtain⟨c,rfl,cl⟩:=dU no;rw[<- Wk ea] at cl fk;exact⟨fk,cl,by rw[dN];have:=d1 a;lia,fX _ _ (f1 a)⟩
   |join a b s=>
    obtain⟨A,B,ea,eb,_⟩:=ok
    rcases aH.mp hq with rfl|hq
    .exact⟨by rw[Wk ea];exact fS _ (aC ea),by have:=d1 a;lia,f1 a⟩
    .cases aJ.mp hq;exact⟨by rw[Wk eb];exact fS _ (aC eb),by have:=d1 b;lia,f1 b⟩
   |_=>cases aJ.mp hq;exact oth
 .cases hq
theorem AU(gl:cO mo ds Ss)(fS:∀T∈Ss,fit T)(d40:ds.length<=40):∀n,∀q∈iP ds Ss (Vx ds Ss os ds.length) n,qS q/\∃x:Nat,jG q=x/\x<n
 |0,q,h=>nomatch h
 |n+1,q,h=>by
  rcases cr.mp h with h|h
  .obtain⟨a,x,e,l⟩:=AU gl fS d40 n q h;exact⟨a,x,e,ca⟩
  .exact⟨MZ gl fS d40 n q h,n,AQ q h,ca⟩
def Na(gl:cO mo ds Ss){i m:Nat}(em:(Vx ds Ss os ds.length).st[i]?=QJ m):Yx (Xh ds Ss (Vx ds Ss os ds.length) i)=if (aM ds os).getD m QL=QK then yC (Vx ds Ss os ds.length).Ts Ss (Vy Ss m) (ds.getD m (.num 0)) else 0:=by
 obtain⟨kl,hl⟩:=mh ds.length m (aC em);unfold Xh;rw[em];show Yx (if _ then _ else _)=_;by_cases c:cQ (ds.getD m (.num 0))=QK
 .rw[m7 c]
  have z:yC (Vx ds Ss os ds.length).Ts Ss (Vy Ss m) (ds.getD m (.num 0))=0:=by
   generalize ds.getD m (.num 0)=d at c
   cases d<;>first|rfl|cases c
  rw[z];exact(ite_self 0).symm
 .rw[k9 c];have c:=jF.mpr c;rw[kB kl,bJ (hl c),m7 rfl,AS gl (hl c)];generalize ds.getD m (.num 0)=d at *
  cases d with
  |inp ms=>cases c
  |run w a s=>show _*(1+cN (rm _ _))+0=_;rw[dX,dy];rfl
  |join a b s=>show _+(_+0)=_;rw[dy];rfl
  |_=>exact dy _
def hG(ds:List Stp)(os:LI)(H:List Nat)(L:List Bool)(m:Nat):Nat->Bool
 |0=>QL
 |k+1=>if ((aM ds os).getD k QL&&decide (((H.getD k 0:Nat):Int)=(m:Int)))=QK then hG ds os H L m k || L.getD k QL else hG ds os H L m k
def gH(ds:List Stp)(Ss:LL)(os:LI)(H:List Nat)(m:Nat):Nat->Int
 |0=>0
 |k+1=>if ((aM ds os).getD k QL&&decide (((H.getD k 0:Nat):Int)=(m:Int)))=QK then gH ds Ss os H m k+Xx Ss (Vy Ss k) (ds.getD k (.num 0)) else gH ds Ss os H m k
theorem AW(H:List Nat)(m:Nat):∀n,gH ds Ss os H m n=br (λ k=>if (aM ds os).getD k QL=QK/\H.getD k 0=m then Xx Ss (Vy Ss k) (ds.getD k (.num 0)) else 0) n
 |0=>rfl
 |n+1=>by
  show(if _ then _ else _)=br _ n+(if _ then _ else _);rw[AW H m n];by_cases c:(aM ds os).getD n QL=QK/\H.getD n 0=m
  .rw[m7 (by rw[c.1,c.2];exact bJ rfl),m7 c]
  .rw[k9 (λ w=>c (by rw[bj,cB] at w;exact⟨w.1,ca⟩)),k9 c,dy]
theorem vv:∀ {n},hG ds os H L m n=QL->∀k,k<n->(aM ds os).getD k QL=QK->H.getD k 0=m->L.getD k QL=QL
 |n+1,h,k,kl,l,e=>by
  have h:(if _ then _ else _:Bool)=QL:=h;split at h
  .obtain⟨h1,h2⟩:=mz h;by_cases c:k=n
   .subst c;exact h2
   .exact vv h1 k ca l e
  .rename_i c;refine vv h k ?_ l e;have:k≠n:=λ z=>c (by subst z;rw[l,e];exact bJ rfl);lia
def Nb{k j j':Nat}(h:((aQ ds os).getD k []).length<=1)(kl:k<ds.length)(hj:j∈aE ds os)(hj':j'∈aE ds os)(a:k∈ah (ds.getD j (.num 0)))(a':k∈ah (ds.getD j' (.num 0))):j=j':=by
 obtain⟨p,ep⟩:=jq a;obtain⟨p',ep'⟩:=jq a';have m1:=kz hj ep kl;have m2:=kz hj' ep' kl;generalize (aQ ds os).getD k []=l at *
 match l,h with
 |[],_=>cases m1
 |[x],_=>
  have e:=(aJ.mp m1).trans (aJ.mp m2).symm
  injection e with e _
  lia
def Nc(gd:eX mo ds Ss os){i m:Nat}{H:List Nat}{L:List Bool}(eH:We ds os (VN ds Ss os ds.length).2 (cR ds os ds.length) (VN ds Ss os ds.length).1 ds.length=(H,L))(em:(Vx ds Ss os ds.length).st[i]?=QJ m):cJ (iP ds Ss (Vx ds Ss os ds.length) (Vx ds Ss os ds.length).st.length) i<=gH ds Ss os H m ds.length/\(hG ds os H L m ds.length=QL->cJ (iP ds Ss (Vx ds Ss os ds.length) (Vx ds Ss os ds.length).st.length) i=gH ds Ss os H m ds.length):=by
 obtain⟨hmo,gl,d0,d40,o0,o8,ob⟩:=id gd;have fS:=nT gl hmo;have il:=(aN.mp em).1;obtain⟨ml,_⟩:=mh ds.length m (aC em);obtain⟨_,kp⟩:=(As ds.length).mp (aC em);obtain⟨_,ss⟩:=Ax gl d40 (os:=os) ds.length (ak _);have ga:=jz gl;have ga':=kt gl;rw[AR,m7 il,Na gl em,AW];have lr:∀ {k},k<ds.length->((aM ds os).getD k QL=QK ↔ k∈aE ds os):=λ h=>by rw[kB h,cB]
 have lv:∀ {k},(aM ds os).getD k QL=QK->k<ds.length:=λ {k} h=>by
  rcases lZ k ds.length with z|z
  .exact z
  .rw[aA,eI (by rw[oq];exact z)] at h;cases h
 have bs:∀k,k∈aE ds os->WU ds os (VN ds Ss os ds.length).2 k=!cy (gt (Vx ds Ss os ds.length).Ts k):=λ k hr=>by
  have kl:=(mem_reach.mp hr).1;unfold WU;rw[(lr kl).mpr hr,mq,ss k kl hr,vg]
 have nb:∀k,k<ds.length->k ∉ aE ds os->WU ds os (VN ds Ss os ds.length).2 k=QL:=λ k kl hr=>by
  unfold WU;rw[show(aM ds os).getD k QL=QL from jF.mpr λ z=>hr ((lr kl).mp z)];rfl
 have us:∀k,k∈aE ds os->cy (gt (Vx ds Ss os ds.length).Ts k)=QL->∃u,u∈aE ds os/\k∈ah (ds.getD u (.num 0))/\(cR ds os ds.length).getD k 0=u/\k<u/\∀j,j∈aE ds os->k∈ah (ds.getD j (.num 0))->j=u:=λ k hr f=>by
  have kl:=(mem_reach.mp hr).1;obtain⟨f1,f2,f3,f4⟩:=qV gl hr f;obtain⟨u,hu,ua⟩:=(MQ ob hr).resolve_left f1;have ul:=(mem_reach.mp hu).1;have un:∀j,j∈aE ds os->k∈ah (ds.getD j (.num 0))->j=u:=λ j hj a=>Nb f2 kl hj hu a ua;exact⟨u,hu,ua,vq kl ((lr ul).mpr hu) ua (λ j jl hj a=>un j ((lr jl).mp hj) a) ds.length (ak _) ul,ga u _ (cI ul) k ua,un⟩
 have hm:=AM (ds:=ds) (os:=os) (B:=(VN ds Ss os ds.length).2) (U:=cR ds os ds.length) (K:=(VN ds Ss os ds.length).1) (λ k kl hb=>by
  by_cases hr:k∈aE ds os
  .rw[bs k hr,tH] at hb;obtain⟨u,hu,_,e,lt,_⟩:=us k hr hb;rw[e];exact⟨lt,(mem_reach.mp hu).1⟩
  .rw[nb k kl hr] at hb;cases hb) ds.length (ak _)
 rw[eH] at hm
 have h1:∀k a,k∈aE ds os->a∈ah (ds.getD k (.num 0))->cy (gt (Vx ds Ss os ds.length).Ts a)=QL->a∈aE ds os/\H.getD a 0=H.getD k 0/\(iO (ds.getD k (.num 0))=QK->L.getD a QL=QK):=λ k a hk ha f=>by
  have ar:=nZ ga hk ha;obtain⟨u,hu,_,e,lt,un⟩:=us a ar f;have:=un k hk ha;subst this;have z:=(hm a (mem_reach.mp ar).1).1 (by rw[bs a ar,f];rfl) ca;rw[e] at z;exact⟨ar,z⟩
 have yl:∀k,k<ds.length->(aM ds os).getD k QL=QK->yC (Vx ds Ss os ds.length).Ts Ss (Vy Ss k) (ds.getD k (.num 0))<=Xx Ss (Vy Ss k) (ds.getD k (.num 0))+aS (cA Ss (Vx ds Ss os ds.length).Ts) (ah (ds.getD k (.num 0)))/\((∀a∈ah (ds.getD k (.num 0)),cy (gt (Vx ds Ss os ds.length).Ts a)=QL->iO (ds.getD k (.num 0))=QL)->yC (Vx ds Ss os ds.length).Ts Ss (Vy Ss k) (ds.getD k (.num 0))=Xx Ss (Vy Ss k) (ds.getD k (.num 0))+aS (cA Ss (Vx ds Ss os ds.length).Ts) (ah (ds.getD k (.num 0)))):=λ k kl hl=>by
  have hr:=(lr kl).mp hl;have eS:Ss[k]?=QJ (Vy Ss k):=by unfold Vy;rw[aA,aL (by rw[<- gl.1];exact kl)];rfl
  have at':=(ma gl ca (λ j hj hr=>kA (os:=os) gl d40 ds.length (ak _) j ca hr) hr).2;refine MV fS (XH (gl.2.2 k _ _ (cI kl) eS)) (qT (vm gl fS ds.length (ak _)).1) (λ p a ea f=>?_) at'.2.1 at'.2.2;have am:=aC ea;have ar:=nZ ga hr am;have al:=(mem_reach.mp ar).1;obtain⟨f1,f2,f3,f4⟩:=qV gl ar f
  have g:grB ds Ss a k (p:Int)=QL:=by
   have z:=kz hr ea al;unfold gwB at f3;have y:=List.any_eq_false.mp f3 _ z;exact jF.mpr y
  unfold grB fV at g;obtain⟨g1,g2⟩:=mz g;generalize ds.getD k (.num 0)=d at *;refine⟨(by cases d<;>first|rfl|cases g1),λ h=>?_⟩;rw[h,mq] at g2;have:=gG g2;lia
 have main:=MW (n:=ds.length) (m:=m) (lv:=λ k=>(aM ds os).getD k QL) (fr:=λ k=>cy (gt (Vx ds Ss os ds.length).Ts k)) (H:=λ k=>H.getD k 0) (c:=cA Ss (Vx ds Ss os ds.length).Ts) (y:=λ k=>yC (Vx ds Ss os ds.length).Ts Ss (Vy Ss k) (ds.getD k (.num 0))) (p:=λ k=>Xx Ss (Vy Ss k) (ds.getD k (.num 0))) (ul:=λ a=>((aQ ds os).getD a []).length) (as:=λ k=>ah (ds.getD k (.num 0)))
  (λ F=>AJ ga' ds.length (ak _)) (λ a f=>by unfold cA;rw[mx f,kF]) (λ k a kl l ha f=>(h1 k a ((lr kl).mp l) ha f).2.1) (λ k kl l f=>(hm k kl).2 (by rw[bs k ((lr kl).mp l),f];rfl))
  (λ a al f=>by
   by_cases l:(aM ds os).getD a QL=QK
   .have ar:=(lr al).mp l;obtain⟨f1,f2,f3,f4⟩:=qV gl ar f;obtain⟨u,hu,ua,_⟩:=us a ar f;obtain⟨p,ep⟩:=jq ua;have z:=qW (kz hu ep al);show(((aQ ds os).getD a []).length:Int)=if _ then _ else _;rw[m7 l];lia
   .show(((aQ ds os).getD a []).length:Int)=if _ then _ else _;rw[k9 l]
    have z:(aQ ds os).getD a []=[]:=List.eq_nil_iff_forall_not_mem.mpr λ x hx=>by
     obtain⟨u,p,_,hu,ea⟩:=vf hx;exact l ((lr al).mpr (nZ ga hu (aC ea)))
    rw[z];rfl)
  (λ k kl l f=>(qV gl ((lr kl).mp l) f).2.2.2) (λ k kl l=>(yl k kl l).1) ml
  (by
   have eg:gt (Vx ds Ss os ds.length).Ts m=gt (Vx ds Ss os (m+1)).Ts m:=qQ ml ca;show cy (gt (Vx ds Ss os ds.length).Ts m)=QK;rw[eg,((AA (ds:=ds) (Ss:=Ss) (os:=os) (k:=m)).1 kp).1,jE (fW ds Ss os m).1]
   rfl)
 refine⟨main.1,λ hc=>main.2 λ k kl l e=>(yl k kl l).2 λ a ha f=>?_⟩;obtain⟨ar,ha',hcut⟩:=h1 k a ((lr kl).mp l) ha f;have al:=(mem_reach.mp ar).1;have lo:=vv hc a al ((lr al).mpr ar) (ha'.trans e);exact jF.mpr λ z=>by rw[hcut z] at lo;cases lo
end
def Zy{R:List Nat}{k:Nat}(h:k<R.length):VY (R.map λ k:Nat=>m9 (k:Nat)) (k:Int)=QJ (.int (R.getD k 0:Nat)):=im (by rw[aW,aL h,aA,aL h];rfl)
def Nd(ds:List Stp)(os:LI):ds.map (λ _=>m9 0)=(cR ds os 0).map λ k:Nat=>m9 (k:Nat):=by
 show _=(QT ds.length 0).map _;rw[gF,nY];rfl
def Nf(d:Stp):_L.eqT (.str (bf (VH d))) (.str "cut")=iO d:=by cases d<;>rfl
def Yy(ds:List Stp)(os:LI)(B:List Str)(K:List Nat)(u:List TV)(l:En):En:=QJ (.tup (ds.map VB))::QJ (.lst ((aM ds os).map .bl))::QJ (.lst (B.map .str))::QJ (.lst (K.map λ k:Nat=>.int (k:Nat)))::QJ (.own u)::l
def Zz(ns:LI)(ds:List Stp)(Ss:LL)(os:LI)(H:List Nat)(L:List Bool)(p:Wh)(l:En):En:=QJ (lI ns)::QJ (.tup (ds.map VB))::QJ (tI os)::QJ (.lst (Ss.map tI))::QJ (.lst ((aM ds os).map .bl))::QJ (.lst ((VN ds Ss os ds.length).1.map λ k:Nat=>.int (k:Nat)))::QJ (.lst ((VN ds Ss os ds.length).2.map .str))::QJ (.lst (Xo ds.length (aQ ds os)))::QJ (.lst (H.map λ k:Nat=>.int (k:Nat)))::QJ (.lst (L.map .bl))::QJ (Aj ds Ss os p)::l
def zd:DR:=dr "wrapped" ["n"] λ _ _=>False
abbrev zO:Vv:=λ _ _=>False
def ZA:Vv:=λ ts Q=>∃n,ts=[.int n]/\Q (.int (ka n))
def zc0:Ct:=(.ret (.ad (.md (.sb V0 (.g 0)) (.bin .Pow N2 (.n 64))) (.g 0)))
def i7:Vv:=λ ts Q=>∃n:Int,ts=[.int n]/\Q (.int (if n<0 then -1 else if 0<n then 1 else 0))
def zc1:Ct:=(.r (.lt V0 N0) (.neg N1) (.ret (.ite (.gt V0 N0) N1 N0)))
def i8:Vv:=λ ts Q=>∃x y:Int,ts=[.int x,.int y]/\Xm x/\Xm y/\Q (.int (uo x y))
def zc2:Ct:=(.r (.eq V1 N0) N0 (.ret (.c1 0 (.dv V0 V1))))
def i9:Vv:=λ ts Q=>∃x y:Int,ts=[.int x,.int y]/\Q (.int (uq x y))
def zc3:Ct:=(.ret (.ite (.eq V1 N0) V0 (.md V0 V1)))
def j4:Vv:=λ ts Q=>∃(w:Str) (x:Int),ts=[.str w,.int x]/\w∈nO/\Q (.int (yX w x))
def zc4:Ct:=(.r (.es V0 "neg") (.c1 0 (.neg V1)) (.r (.es V0 "abs") (.c1 0 (.b1 .abs V1)) (.r (.es V0 "sign") (.c1 1 V1) (.r (.es V0 "not") (.ite (.eq V1 N0) N1 N0) .never))))
def j5:Vv:=λ ts Q=>∃(w:Str) (x y:Int),ts=[.str w,.int x,.int y]/\Xm x/\Xm y/\w∈nP/\Q (.int (yV w x y))
def zc5:Ct:=(.r (.es V0 "add") (.c1 0 (.ad V1 V2)) (.r (.es V0 "sub") (.c1 0 (.sb V1 V2)) (.r (.es V0 "mul") (.c1 0 (.ml V1 V2)) (.r (.es V0 "quo") (.c2 2 V1 V2) (.r (.es V0 "rest") (.c2 3 V1 V2) (.r (.es V0 "max") (.b2 .max V1 V2) (.r (.es V0 "min") (.b2 .min V1 V2) (.r (.es V0 "less") (.ite (.lt V1 V2) N1 N0) (.r (.es V0 "like") (.ite (.eq V1 V2) N1 N0) (.r (.es V0 "and") (.bin .BitAnd V1 V2) (.r (.es V0 "or") (.bin .BitOr V1 V2) (.r (.es V0 "xor") (.bin .BitXor V1 V2) .never))))))))))))
def j6:Vv:=λ ts Q=>∃(w:Str),ts=[.str w]/\Yd w/\Q (.int (dW w))
def zc6:Ct:=(.r (.cmp .In V0 (.t3 (.w "add") (.w "or") (.w "xor"))) N0 (.r (.es V0 "mul") N1 (.r (.es V0 "max") (.g 0) (.r (.es V0 "min") (.g 1) (.r (.es V0 "and") (.neg N1) .never)))))
def j7:Vv:=λ ts Q=>∃i:Nat,i<15/\ts=[.str (bf i)]/\Q (.lst ((yY i).map .int))
def zc7:Ct:=(.ret (.compI ["kind","place"] [] [] [0,1] .seq (.a1 (.dk 6 V0)) (.es V0 "step") V1))
def j8:Vv:=λ ts Q=>∃d:Stp,ts=[VB d]/\Q (tI ((ah d).map λ a:Nat=>(a:Int)))
def zc8:Ct:=(.ret (.b1 .tuple (.comp ["place"] ["step"] [0] [0] .seq (.a1 (.c1 7 (.x 0 0))) (.ix V1 V0))))
def j9:Vv:=λ ts Q=>∃(t:TV) (ds:List Stp) (es:LI),ts=[t,tI es]/\t=.tup (ds.map VB)/\ds.length<=40/\(∀e∈es,0<=e/\e<(ds.length:Int))/\(∀d∈ds,∀a∈ah d,a<ds.length)/\Q (.lst ((aE ds es).map λ k=>.int (k:Nat)))
def zc9:Ct:=(.set 2 (.comp ["step"] [] [] [0] .seq (.a1 V0) (.c (.bl QL))) (.for [3] .seq (.a1 V1) (.put 2 V3 (.c (.bl QK)) .nil) (.for [4] .rng3 (.a3 (.sb (.ln V0) N1) (.neg N1) (.neg N1)) (.i (.ix V2 V4) (.for [5] .seq (.a1 (.c1 8 (.ix V0 V4))) (.put 2 V5 (.c (.bl QK)) .nil) .nil) .nil) (.ret (.compI ["k"] ["reached"] [2] [0] .rng (.a1 (.ln V0)) (.ix V1 V0) V0)))))
def AX:Vv:=λ ts Q=>∃(t:TV),ts=[t]/\∃ns,(t=tI ns\/t=lI ns)/\cD ns/\Q (.int (af ns))
def Ng:Ct:=(.set 1 N1 (.for [2] .seq (.a1 V0) (.set 1 (.ml V1 V2) .nil) (.ret V1)))
def AY:Vv:=λ ts Q=>∃ns,ts=[tI ns]/\cD ns/\ns.length<=63/\Q (.int (af (ns.map ao)))
def Nh:Ct:=(.ret (.c1 10 (.comp ["side"] [] [] [0] .seq (.a1 V0) (.ite (.ne V0 N0) V0 N1))))
def AZ:Vv:=λ ts Q=>∃ns,ts=[tI ns]/\cD ns/\ns.length<=63/\¬du ns/\Q (tI ns)
def Ni:Ct:=(.nv (.gt (.ln V0) (.g 2)) (.nv (.gt (.c1 11 V0) (.g 3)) (.ret V0)))
def Ba:Vv:=λ ts Q=>∃ns,ts=[tI ns]/\cD ns/\ns.length<=63/\Q (tI (Xl ns ns.length).reverse)
def Nj:Ct:=(.set 1 .l0 (.set 2 N1 (.for [3] (.rev QK) (.a1 V0) (.met .append 1 (.a1 V2) (.set 2 (.ml V2 V3) .nil)) (.ret (.trev QL V1)))))
def Bb:Vv:=λ ts Q=>∃(ns:LI) (k:Nat) (m:Int),ts=[tI ns,.int k,.int m]/\ns.length<=63/\k<ns.length/\Q (tI (ns.set k m))
def Nk:Ct:=(.ret (.ad (.ad (.st V0 V1) (.t1 V2)) (.sf V0 (.ad V1 N1))))
def Bc:Vv:=λ ts Q=>∃(ns:LI) (k:Nat) (m:Int),ts=[tI ns,.int k,.int m]/\ns.length<=63/\Q (tI (bW ns k m))
def Nl:Ct:=(.ret (.ad (.ad (.st V0 V1) (.t1 V2)) (.sf V0 V1)))
def Bd:Vv:=λ ts Q=>∃(ns:LI) (k:Nat),ts=[tI ns,.int k]/\ns.length<=63/\k<ns.length/\Q (tI (ns.eraseIdx k))
def Nm:Ct:=(.ret (.ad (.st V0 V1) (.sf V0 (.ad V1 N1))))
def Be:Vv:=λ ts Q=>∃(ns:LI) (side:Int),ts=[tI ns,.int side]/\¬Wl ns side/\Q .non
def Nn:Ct:=(.nv (.or (.lt V1 N0) (.ge V1 (.ln V0))) .nil)
def Bf:Vv:=λ ts Q=>∃(ns os:LI),ts=[tI ns,tI os]/\ns.length<=20/\os.length<=20/\kg ns.length os/\Q (tI (cq ns os))
def No:Ct:=(.nv (.ne (.b1 .sorted V1) (.lrng QL (.ln V0))) (.ret (.b1 .tuple (.comp ["side"] ["sides"] [0] [0] .seq (.a1 V1) (.ix V1 V0)))))
def Bg:Vv:=λ ts Q=>∃(ns:LI) (side:Int),ts=[tI ns,.int side]/\¬Wl ns side/\Q (tI ns)
def Np:Ct:=(.ex (.c2 17 V0 V1) (.ret V0))
def Bh:Vv:=λ ts Q=>∃(ns:LI) (side first many step:Int),ts=[tI ns,.int side,.int first,.int many,.int step]/\ns.length<=63/\-100<many/\many<1000000/\¬Wl ns side/\¬XB ns side first many step/\Q (tI (ns.set side.toNat many))
def Nq:Ct:=(.ex (.c2 17 V0 V1) (.nv (.or (.lt V2 N0) (.or (.lt V3 N0) (.lt V4 N1))) (.nv (.and (.gt V3 N0) (.ge (.ad V2 (.ml (.sb V3 N1) V4)) (.ix V0 V1))) (.ret (.c3 14 V0 V1 V3)))))
def Bi:Vv:=λ ts Q=>∃(ns:LI) (side many:Int),ts=[tI ns,.int side,.int many]/\cD ns/\ns.length<=20/\many<1000000/\¬lO ns side/\¬many<0/\¬du (bW ns side.toNat many)/\Q (tI (bW ns side.toNat many))
def Nr:Ct:=(.nv (.or (.lt V1 N0) (.gt V1 (.ln V0))) (.nv (.lt V2 N0) (.ret (.c1 12 (.c3 15 V0 V1 V2)))))
def Bj:Vv:=λ ts Q=>∃(ns ms:LI),ts=[tI ns,tI ms]/\cD ns/\cD ms/\ms.length<=20/\¬du ms/\af ns=af ms/\Q (tI ms)
def Nt:Ct:=(.ex (.c1 12 V1) (.nv (.ne (.c1 10 V0) (.c1 10 V1)) (.ret V1)))
def Bk:Vv:=λ ts Q=>∃(ns ms:LI) (side:Int),ts=[tI ns,tI ms,.int side]/\sm ns/\sm ms/\ns.length<=20/\ns.length=ms.length/\¬Wl ns side/\ns.eraseIdx side.toNat=ms.eraseIdx side.toNat/\¬du (gB ns ms side)/\Q (tI (gB ns ms side))
def Nu:Ct:=(.nv (.ne (.ln V0) (.ln V1)) (.ex (.c2 17 V0 V2) (.nv (.ne (.c2 16 V0 V2) (.c2 16 V1 V2)) (.ret (.c1 12 (.c3 14 V0 V2 (.ad (.ix V0 V2) (.ix V1 V2))))))))
def Bl:Vv:=λ ts Q=>∃(ns ms:LI),ts=[tI ns,tI ms]/\ms.take ns.length=ns/\Q (tI ms)
def Nv:Ct:=(.nv (.ne (.st V1 (.ln V0)) V0) (.ret V1))
def Bm:Vv:=λ ts Q=>∃(ns ms:LI),ts=[tI ns,tI ms]/\cG ns ms/\Q (tI (bV ns ms))
def Nw:Ct:=(.r (.gt (.ln V0) (.ln V1)) (.c2 24 V1 V0) (.ret (.c2 24 V0 V1)))
def Bn:Vv:=λ ts Q=>∃(ns ms ks:LI),ts=[tI ns,tI ms,tI ks]/\cG ns ms/\cG (bV ns ms) ks/\Q (tI (bV (bV ns ms) ks))
def Nx:Ct:=(.ret (.c2 25 (.c2 25 V0 V1) V2))
def Bo:Vv:=λ ts Q=>∃(n:Int) (r ms:LI),ts=[tI (n::r),tI ms]/\cD (n::r)/\cD ms/\r.length<20/\ms.length<=20/\n≠0/\¬du (ms++r)/\Q (tI (ms++r))
def Ny:Ct:=(.nv (.eq (.ln V0) N0) (.nv (.eq (.x 0 0) N0) (.ret (.c1 12 (.ad V1 (.sf V0 N1))))))
def Bp:Vv:=λ ts Q=>∃(ns:LI) (side:Int),ts=[tI ns,.int side]/\ns.length<=63/\¬Wl ns side/\Q (tI (ns.eraseIdx side.toNat))
def Nz:Ct:=(.ex (.c2 17 V0 V1) (.ret (.c2 16 V0 V1)))
def Bq:Vv:=λ ts Q=>∃(ns:LI) (side:Int),ts=[tI ns,.int side]/\cD ns/\ns.length<=20/\¬du ns/\¬Wl ns side/\Q (tI ns)
def NA:Ct:=(.ex (.c1 12 V0) (.ex (.c2 17 V0 V1) (.ret V0)))
def Br:Vv:=λ ts Q=>∃d:Stp,ts=[VB d]/\zD d/\Q .non
def NB:Ct:=(.i (.es (.x 0 0) "each") (.ex (.c2 4 (.x 0 1) N0) .nil) (.i (.es (.x 0 0) "pair") (.ex (.c3 5 (.x 0 1) N0 N0) .nil) (.i (.cmp .In (.x 0 0) (.t2 (.w "fold") (.w "run"))) (.ex (.c1 6 (.x 0 1)) .nil) .nil)))
def Bt:Vv:=λ ts Q=>∃(d:Stp) (S:LI) (Ss:LL),ts=[VB d]/\VH d<3/\Wu Ss S d/\fit S/\Q (tI S)
def NC:Ct:=(.r (.es (.x 0 0) "in") (.c1 12 (.x 0 1)) (.r (.es (.x 0 0) "count") (.c2 29 (.x 0 1) (.x 0 2)) (.ret .t0)))
def Bu:Vv:=λ ts Q=>∃(d:Stp) (S A:LI) (Ss:LL) (a:Nat),ts=[VB d,tI A]/\ah d=[a]/\Ss[a]?=QJ A/\fit A/\Wu Ss S d/\fit S/\Q (tI S)
def ND:Ct:=(.set 2 (.x 0 0) (.r (.es V2 "turn") (.c2 18 V1 (.x 0 2)) (.r (.es V2 "flip") (.c2 19 V1 (.x 0 2)) (.r (.es V2 "cut") (.call 20 (.cons V1 (.cons (.x 0 2) (.cons (.x 0 3) (.cons (.x 0 4) (.cons (.x 0 5) .nil)))))) (.r (.es V2 "spread") (.c3 21 V1 (.x 0 2) (.x 0 3)) (.r (.es V2 "lay") (.c2 22 V1 (.x 0 2)) (.r (.es V2 "fold") (.c2 28 V1 (.x 0 3)) (.r (.es V2 "run") (.c2 19 V1 (.x 0 3)) (.ret V1)))))))))
def Bv:Vv:=λ ts Q=>∃(t:TV) (d:Stp) (S:LI) (Ss:LL),ts=[VB d,t]/\t=.lst (Ss.map tI)/\(∀T∈Ss,fit T)/\Wu Ss S d/\fit S/\Q (tI S)
def NE:Ct:=(.ex (.c1 30 V0) (.set 2 (.comp ["number"] ["sides"] [1] [0] .seq (.a1 (.c1 8 V0)) (.ix V1 V0)) (.set 3 (.x 0 0) (.r (.eq (.ln V2) N0) (.c1 31 V0) (.r (.eq (.ln V2) N1) (.c2 32 V0 (.x 2 0)) (.r (.es V3 "pair") (.c2 25 (.x 2 0) (.x 2 1)) (.r (.es V3 "join") (.c3 23 (.x 2 0) (.x 2 1) (.x 0 3)) (.r (.es V3 "fetch") (.c2 27 (.x 2 0) (.x 2 1)) (.ret (.c3 26 (.x 2 0) (.x 2 1) (.x 2 2)))))))))))
def Bw:Vv:=λ ts Q=>∃(t:TV) (d:Stp) (S:LI) (Ss:LL),ts=[VB d,t]/\t=.lst (Ss.map tI)/\(∀T∈Ss,fit T)/\Ss.length<40/\Wu Ss S d/\fit S/\Q (.tup [tI S,.non])
def NF:Ct:=(.set 2 (.ln V1) (.r (.ge V2 (.g 4)) (.t2 (.c .non) (.w "many")) (.r (.b1 .any (.comp ["number"] ["k"] [2] [0] .seq (.a1 (.c1 8 V0)) (.or (.lt V0 N0) (.ge V0 V1)))) (.t2 (.c .non) (.w "name")) (.tri (.ret (.t2 (.c2 33 V0 V1) (.c .non))) .nil))))
def Bx:Vv:=λ ts Q=>∃(ds:List Stp) (Ss:LL) (os:LI) (mo:Int),ts=[.tup [.tup (ds.map VB),tI os]]/\eX mo ds Ss os/\Q (.tup [.tup (Ss.map tI),.non])
def NG:Ct:=(.set 1 (.x 0 0) (.set 2 (.x 0 1) (.set 3 .l0 (.for [4] .seq (.a1 V1) (.set 5 (.c2 34 V4 V3) (.r (.cmp .IsNot (.x 5 1) (.c .non)) (.t2 (.b1 .tuple V3) (.t2 (.ln V3) (.x 5 1))) (.met .append 3 (.a1 (.x 5 0)) .nil))) (.r (.or (.not (.cm2 .LtE .LtE N1 (.ln V2) (.g 5))) (.b1 .any (.comp ["out"] ["steps"] [1] [0] .seq (.a1 V2) (.or (.lt V0 N0) (.ge V0 (.ln V1)))))) (.t2 (.b1 .tuple V3) (.t2 (.ln V1) (.w "out"))) (.ret (.t2 (.b1 .tuple V3) (.c .non))))))))
def By:Vv:=λ ts Q=>∃(ds:List Stp) (Ss:LL) (os:LI) (mo:Int),ts=[.tup [.tup (ds.map VB),tI os]]/\eX mo ds Ss os/\Q (.tup (Ss.map tI))
def NH:Ct:=(.set 1 (.c1 35 V0) (.set 2 (.x 1 1) (.nv (.cmp .IsNot V2 (.c .non)) (.ret (.x 1 0)))))
def Bz:Vv:=λ ts Q=>∃ns,ts=[tI ns]/\cD ns/\ns.length<=63/\Q (Wo ns 0 (bA ns))
def NI:Ct:=(.ret (.t3 V0 N0 (.c1 13 V0)))
def BA:Vv:=λ ts Q=>∃(ns ss os:LI) (b:Int),ts=[Wo ns b ss,tI os]/\ns.length<=6/\ns.length<=ss.length/\ss.length<=60/\kg ns.length os/\Q (Wo (cq ns os) b (cq ss os++ss.drop ns.length))
def NJ:Ct:=(.set 2 (.c2 18 (.x 0 0) V1) (.set 3 (.x 0 2) (.set 4 (.b1 .tuple (.comp ["side"] ["strides"] [3] [0] .seq (.a1 V1) (.ix V1 V0))) (.ret (.t3 V2 (.x 0 1) (.ad V4 (.sf V3 (.ln V2))))))))
def BB:Vv:=λ ts Q=>∃(ns ss:LI) (b:Int) (k:Nat),ts=[Wo ns b ss,.int k]/\ns.length<=6/\ns.length<=ss.length/\ss.length<=60/\k<ns.length/\(∀n∈ns,0<=n/\n<=512)/\Q (Wo ns (b+(ns.getD k 0-1)*ss.getD k 0) (ss.set k (-ss.getD k 0)))
def NK:Ct:=(.set 2 (.c2 19 (.x 0 0) V1) (.set 3 (.ix (.x 0 2) V1) (.set 4 (.ad (.x 0 1) (.ml (.sb (.ix V2 V1) N1) V3)) (.fz 4 (.ret (.t3 V2 V4 (.c3 14 (.x 0 2) V1 (.neg V3))))))))
def BC:Vv:=λ ts Q=>∃(ns ss:LI) (b f m g:Int) (k:Nat),ts=[Wo ns b ss,.int k,.int f,.int m,.int g]/\ns.length<=6/\ns.length<=ss.length/\ss.length<=60/\k<ns.length/\(m<=512/\f<=512/\g<=512)/\¬XB ns k f m g/\Q (Wo (ns.set k m) (b+f*ss.getD k 0) (ss.set k (ss.getD k 0*g)))
def NL:Ct:=(.set 5 (.call 20 (.cons (.x 0 0) (.cons V1 (.cons V2 (.cons V3 (.cons V4 .nil)))))) (.set 6 (.ix (.x 0 2) V1) (.ret (.t3 V5 (.ad (.x 0 1) (.ml V2 V6)) (.c3 14 (.x 0 2) V1 (.ml V6 V4))))))
def BD:Vv:=λ ts Q=>∃(ns ss:LI) (b m:Int) (k:Nat),ts=[Wo ns b ss,.int k,.int m]/\cD ns/\ns.length<=6/\ns.length<=ss.length/\ss.length<=60/\k<=ns.length/\0<=m/\m<1000000/\¬du (bW ns k m)/\Q (Wo (bW ns k m) b (bW ss k 0))
def NM:Ct:=(.set 3 (.c3 21 (.x 0 0) V1 V2) (.ret (.t3 V3 (.x 0 1) (.c3 15 (.x 0 2) V1 N0))))
def BE:Vv:=λ ts Q=>∃(ns ms ss:LI) (b:Int),ts=[Wo ns b ss,tI ms]/\ms.take ns.length=ns/\ns.length<=6/\ms.length<=6/\ss.length<=60/\Q (Wo ms b (iG ns.length (ms.length-ns.length) b ss).2)
def NN:Ct:=(.ex (.c2 24 (.x 0 0) V1) (.set 2 (.ln (.x 0 0)) (.set 3 (.x 0 2) (.set 4 (.ml (.t1 N0) (.sb (.ln V1) V2)) (.ret (.t3 V1 (.x 0 1) (.ad (.ad (.st V3 V2) V4) (.sf V3 V2))))))))
def BF:Vv:=λ ts Q=>∃(ns ss:LI) (b:Int) (k:Nat),ts=[Wo ns b ss,.int k]/\ns.length<=6/\ns.length<=ss.length/\ss.length<=60/\k<ns.length/\Q (Wo (ns.eraseIdx k) b (fb ns.length k b ss).2)
def NO:Ct:=(.set 2 (.c2 28 (.x 0 0) V1) (.set 3 (.x 0 2) (.ret (.t3 V2 (.x 0 1) (.c3 15 (.c2 16 V3 V1) (.ln V2) (.ix V3 V1))))))
def BG:Vv:=λ ts Q=>∃(d:Stp) (A S ss:LI) (b:Int) (Ss:LL),ts=[VB d,Wo A b ss]/\Yf d/\Ss[(ah d).headD 0]?=QJ A/\fit A/\Wu Ss S d/\A.length<=ss.length/\ss.length<=60/\Q (Wo S (eJ A d b ss).1 (eJ A d b ss).2)
def NP:Ct:=(.r (.es (.x 0 0) "turn") (.c2 38 V1 (.x 0 2)) (.r (.es (.x 0 0) "flip") (.c2 39 V1 (.x 0 2)) (.r (.es (.x 0 0) "cut") (.call 40 (.cons V1 (.cons (.x 0 2) (.cons (.x 0 3) (.cons (.x 0 4) (.cons (.x 0 5) .nil)))))) (.ret (.c3 41 V1 (.x 0 2) (.x 0 3))))))
def BH:Vv:=λ ts Q=>∃t:Tr,ts=[VG t]/\Q (.bl (match t with|.num _=>QK|.idx _ _=>QK|.read _ _ _=>QK|_=>QL))
def NQ:Ct:=(.ret (.cmp .In (.x 0 0) (.t3 (.w "num") (.w "index") (.w "read"))))
def BJ:Vv:=λ ts Q=>∃t:Tr,ts=[VG t]/\Q (.tup ((Xe t).map VG))
def NR:Ct:=(.set 1 (.x 0 0) (.r (.es V1 "pick") (.sf V0 N1) (.r (.cmp .In V1 (.t2 (.w "each") (.w "pair"))) (.sf V0 N2) (.r (.es V1 "fold") (.sf V0 N3) (.r (.es V1 "fetch") (.sf V0 N6) (.ret .t0))))))
def BK:Vv->Vv:=λ Φ ts Q=>∃(t:Tr) (g:Gf),ts=[VG t]/\h8 Φ g (Zu t)/\Q (.tup (YT (rm g t)))
def NS:Ct:=(.set 2 (.x 0 0) (.r (.es V2 "index") (.ad (.t1 (.w "index")) (.ap 1 47 (.a2 (.x 0 1) (.x 0 2)))) (.r (.es V2 "read") (.ad (.t2 (.w "read") (.x 0 1)) (.ap 1 47 (.a2 (.x 0 2) (.x 0 3)))) (.i (.es V2 "fetch") (.set 3 (.ap 1 47 (.a2 (.x 0 2) (.x 0 5))) (.ret (.tup (.cons (.w "fetch") (.cons (.x 0 1) (.cons (.x 3 0) (.cons (.x 0 3) (.cons (.x 0 4) (.cons (.x 3 1) .nil))))))))) (.ret (.st V0 (.sb (.ln V0) (.ln (.c1 46 V0)))))))))
def BL:Nat->Vv->Vv:=λ d=>match d with|0=>λ _ _ _=>False|d+1=>λ Φ ts Q=>∃(t:Tr) (g:Gf),ts=[VG t]/\VL t<=d/\h8 Φ g (VX t)/\Q (VG (rm g t))
def NT:Ct:=(.set 2 .l0 (.for [3] .seq (.a1 (.c1 46 V0)) (.met .append 2 (.a1 (.cf 1 48 "remade" V3)) .nil) (.ret (.ad (.cf 1 48 "root_remade" V0) (.b1 .tuple V2)))))
def BM:Nat->Vv:=λ d=>match d with|0=>λ _ _=>False|d+1=>λ ts Q=>∃t:Tr,ts=[VG t]/\VL t<=d/\Wc t/\Q (.int (cN t))
def NU:Vv:=BM 42
def NV:Ct:=(.r (.c1 45 V0) N0 (.set 1 N1 (.for [2] .seq (.a1 (.c1 46 V0)) (.set 1 (.ad V1 (.c1 49 V2)) .nil) (.ret (.ite (.es (.x 0 0) "fold") (.ml (.x 0 2) V1) V1)))))
def BO:Vv:=λ ts Q=>∃(ds:List Stp) (Ss:LL) (os:LI) (mo:Int),ts=[.tup [.tup (ds.map VB),tI os]]/\eX mo ds Ss os/\Q (.lst ((aE ds os).map λ k=>.int (k:Nat)))
def NW:Ct:=(.ret (.c2 9 (.x 0 0) (.x 0 1)))
def BP:Vv:=λ ts Q=>∃(ds:List Stp) (Ss:LL) (os:LI) (mo:Int),ts=[.tup [.tup (ds.map VB),tI os]]/\eX mo ds Ss os/\Q (.lst ((aQ ds os).map λ l=>.lst (l.map kT)))
def NX:Ct:=(.set 1 (.x 0 0) (.nl 2 ["step"] .seq (.a1 V1) (.for [3] .seq (.a1 (.c1 92 V0)) (.for [4,5] (.enum QK) (.a1 (.c1 8 (.ix V1 V3))) (.pu 2 5 (.t2 V3 V4) .nil) .nil) (.fu 2 (.ret V2)))))
def qX:Vv->Vv:=λ Φ ts Q=>∃(t:Tr) (S:LI) (h:Gf),ts=[VG t,tI S]/\VL t<=41/\isM Φ S h (VX t)/\Q (VG (rm h t))
def NY:Cd:=(.a1 V0)
def NZ:Cd:=(.sf (.ap 3 46 (.a1 (.t3 V2 V0 V1))) N1)
def BQ:Vv:=λ ts Q=>∃(t:Tr) (S L:LI),ts=[VG t,tI S,tI L]/\VL t<=41/\nW S.length t/\L.take S.length=S/\S.length<=6/\L.length<=6/\Q (VG (rm (iG S.length (L.length-S.length)) t))
noncomputable def Oa:Ct:=.nil
def Ob:Cd:=(.a2 V0 V1)
def Oc:Cd:=(.c2 42 V0 V1)
def BR:Vv:=λ ts Q=>∃(t:Tr) (S:LI) (k:Nat),ts=[VG t,tI S,.int k]/\VL t<=41/\nW S.length t/\S.length<=6/\k<S.length/\Q (VG (rm (fb S.length k) t))
noncomputable def Od:Ct:=.nil
def Oe:Cd:=(.a2 V0 V1)
def Of:Cd:=(.c2 43 V0 V1)
def BS:Vv:=λ ts Q=>∃(st:Int) (S:LI),ts=[.int st,tI S]/\cD S/\S.length<=63/\Q (VG (.read st 0 (bA S)))
def Og:Ct:=(.ret (.tup (.cons (.w "read") (.cons V0 (.cons N0 (.cons (.c1 13 V1) .nil))))))
def BU:Vv:=λ ts Q=>∃(a b:Nat) (n:Int) (r B S ss:LI) (st s:Int) (t:Tr) (Ss:LL) (Ts:List (Option Tr)),ts=[VB (.fetch a b),tI S,.tup (Ss.map tI),.lst (Ts.map Wj)]/\Ss[a]?=QJ (n::r)/\Ss[b]?=QJ B/\Ts[a]?=QJ (QJ (.read st s ss))/\Ts[b]?=QJ (QJ t)/\0<ss.length/\ss.length<=60/\B.length<=6/\S.length<=6/\S.take B.length=B/\VL t<=41/\nW B.length t/\Q (VG (kw (.read st s ss) (n::r) B (rm (iG B.length (S.length-B.length)) t)))
def Oh:Ct:=(.set 4 (.ix V3 (.x 0 1)) (.set 5 (.ix V2 (.x 0 2)) (.set 6 (.ad (.ml (.t1 N0) (.ln V5)) (.sf (.x 4 3) N1)) (.set 7 (.c3 95 (.ix V3 (.x 0 2)) V5 V1) (.fz 6 (.ret (.tup (.cons (.w "fetch") (.cons (.x 4 1) (.cons (.x 4 2) (.cons (.ix (.x 4 3) N0) (.cons (.ix (.ix V2 (.x 0 1)) N0) (.cons V6 (.cons V7 .nil))))))))))))))
def BV:Vv:=λ ts Q=>∃(d:Stp) (S:LI) (Ss:LL) (Ts:List (Option Tr)),ts=[VB d,tI S,.tup (Ss.map tI),.lst (Ts.map Wj)]/\Wu Ss S d/\(∀T∈Ss,fit T)/\fit S/\zY Ts Ss d/\Q (Wj (cE Ts Ss S d))
def Oi:Ct:=(.set 4 (.x 0 0) (.set 5 (.c1 8 V0) (.r (.es V4 "num") V0 (.r (.es V4 "count") (.t3 (.w "index") N0 (.b1 .tuple (.comp ["side"] ["step"] [0] [0] .rng (.a1 (.ln V1)) (.ite (.eq V0 (.x 1 2)) N1 N0)))) (.i (.cmp .In V4 (.t3 (.w "each") (.w "pair") (.w "pick"))) (.set 6 (.st V0 (.sb (.ln V0) (.ln V5))) (.ret (.ad V6 (.b1 .tuple (.comp ["number"] ["own","trees","sides"] [1,3,2] [0] .seq (.a1 V5) (.c3 95 (.ix V2 V0) (.ix V3 V0) V1)))))) .nil)))))
def Oj:Cd:=(.a2 (.ix V3 (.x 5 0)) (.ix V2 (.x 5 0)))
def BW:Cd:=(.c2 44 V1 V0)
def Ol:Cd:=(.cmp .In V4 (.tup (.cons (.w "turn") (.cons (.w "flip") (.cons (.w "cut") (.cons (.w "spread") .nil))))))
def Om:Ct:=(.r (.es V4 "lay") (.c2 97 (.ix (.ix V3 (.x 5 0)) N1) V1) (.r (.es V4 "fetch") (.call 98 (.cons V0 (.cons V1 (.cons V2 (.cons V3 .nil))))) (.i (.es V4 "fold") (.set 7 (.ix V2 (.x 5 0)) (.ret (.tup (.cons (.w "fold") (.cons (.x 0 1) (.cons (.ix V7 (.x 0 3)) (.cons (.c3 96 (.ix V3 (.x 5 0)) V7 (.x 0 3)) .nil))))))) (.ret (.c .non)))))
def BX:Vv:=λ ts Q=>∃(ds:List Stp) (Ss:LL) (k u:Nat) (p:Int) (d:Stp) (S A:LI),ts=[.int k,kT [(u:Int),p],.tup (ds.map VB),.tup (Ss.map tI)]/\ds[u]?=QJ d/\Ss[u]?=QJ A/\Ss[k]?=QJ S/\Q (.bl (fV ds Ss k u p))
def On:Ct:=(.set 4 (.ix (.ix V2 (.x 1 0)) N0) (.set 5 (.or (.cmp .In V4 (.t2 (.w "pair") (.w "pick"))) (.and (.es V4 "fetch") (.eq (.x 1 1) N1))) (.ret (.and V5 (.gt (.ln (.ix V3 (.x 1 0))) (.ln (.ix V3 V0)))))))
def BY:Vv:=λ ts Q=>∃(ds:List Stp) (Ss:LL) (os:LI) (k:Nat) (d:Stp) (o:Option Tr) (us:LL) (S:LI),ts=[.int k,Wj o,.tup [.tup (ds.map VB),tI os],.tup (Ss.map tI),.lst (us.map kT)]/\ds[k]?=QJ d/\Ss[k]?=QJ S/\ds.length=Ss.length/\(∀x∈us,∃u p:Nat,x=[(u:Int),(p:Int)]/\u<ds.length)/\us.length<=900/\(¬ky d->∃t,o=QJ t)/\(∀ms,d≠.inp ms)/\Q (.bl (jD ds Ss os k d o us))
def Oo:Ct:=(.set 5 (.x 2 0) (.r (.es (.ix (.ix V5 V0) N0) "lay") (.c (.bl QL)) (.r (.or (.cmp .In (.ix (.ix V5 V0) N0) (.t2 (.w "run") (.w "join"))) (.cmp .In V0 (.x 2 1))) (.c (.bl QK)) (.set 6 (.comp ["use"] ["steps"] [5] [0] .seq (.a1 V4) (.ix (.ix V1 (.x 0 0)) N0)) (.r (.cmp .In (.w "lay") V6) (.c (.bl QK)) (.r (.and (.ne (.x 1 0) (.w "read")) (.b1 .any (.comp ["use"] ["steps"] [5] [0] .seq (.a1 V4) (.and (.es (.ix (.ix V1 (.x 0 0)) N0) "fetch") (.eq (.x 0 1) N0))))) (.c (.bl QK)) (.r (.c1 45 V1) (.c (.bl QL)) (.ret (.or (.gt (.ln V4) N1) (.or (.cmp .In (.w "spread") V6) (.b1 .any (.comp ["use"] ["k","steps","sides"] [0,5,3] [0] .seq (.a1 V4) (.call 100 (.cons V1 (.cons V0 (.cons V2 (.cons V3 .nil)))))))))))))))))
def BZ:Vv:=λ ts Q=>∃(ds:List Stp) (Ss:LL) (os:LI) (mo:Int),ts=[.tup [.tup (ds.map VB),tI os],.tup (Ss.map tI)]/\eX mo ds Ss os/\Q (Zw (Vx ds Ss os ds.length))
def Op:Ct:=(.set 2 (.x 0 0) (.set 3 (.c1 92 V0) (.set 4 (.c1 93 V0) (.set 5 .l0 (.set 6 .l0 (.set 7 .l0 (.for [8,9] (.enum QK) (.a1 V2) (.set 10 (.ite (.cmp .In V8 V3) (.call 99 (.cons V9 (.cons (.ix V1 V8) (.cons V1 (.cons V5 .nil))))) (.c .non)) (.met .append 6 (.a1 WM) (.i (.or (.es (.x 9 0) "in") (.and (.cmp .In V8 V3) (.call 101 (.cons V8 (.cons WM (.cons V0 (.cons V1 (.cons (.ix V4 V8) .nil)))))))) (.set 10 (.c2 97 (.ln V7) (.ix V1 V8)) (.met .append 7 (.a1 V8) .nil)) (.met .append 5 (.a1 WM) .nil)))) (.fz 7 (.fz 6 (.fz 5 (.ret (.t3 V5 V6 V7))))))))))))
def Ca:Vv:=λ ts Q=>∃(w:Str) (a k:Nat) (st:Int) (A:LI) (t:Tr) (Ss:LL) (Ts:List (Option Tr)),ts=[VB (.run w a k),.int st,.tup (Ss.map tI),.lst (Ts.map Wj)]/\Ss[a]?=QJ A/\Ts[a]?=QJ (QJ t)/\fit A/\k<A.length/\VL t<=41/\nW A.length t/\Q (YU w st A k (VG (rm (fb A.length k) t)))
def Oq:Ct:=(.set 4 (.ix V2 (.x 0 2)) (.set 5 (.x 0 3) (.set 6 (.c2 43 (.c1 37 V4) V5) (.set 7 (.c3 96 (.ix V3 (.x 0 2)) V4 V5) (.ret (.tup (.cons (.w "run") (.cons (.x 0 1) (.cons V1 (.cons (.x 6 0) (.cons (.ix V4 V5) (.cons (.x 6 1) (.cons (.x 6 2) (.cons V7 .nil))))))))))))))
def Cb:Vv:=λ ts Q=>∃(a b k:Nat) (st:Int) (A B S:LI) (ta tb:Tr) (Ss:LL) (Ts:List (Option Tr)),ts=[VB (.join a b k),.int st,tI S,.tup (Ss.map tI),.lst (Ts.map Wj)]/\Ss[a]?=QJ A/\Ss[b]?=QJ B/\Ts[a]?=QJ (QJ ta)/\Ts[b]?=QJ (QJ tb)/\fit A/\fit S/\k<A.length/\S.length=A.length/\Q (.lst [iK st A 0 (bA S) (VG ta),iK st B (A.getD k 0*(bA S).getD k 0) (bA S) (VG tb)])
def Os:Ct:=(.set 5 (.x 0 1) (.set 6 (.x 0 2) (.set 7 (.c1 13 V2) (.set 8 (.ml (.ix (.ix V3 V5) (.x 0 3)) (.ix V7 (.x 0 3))) (.fz 8 (.ret (.lst (.a2 (.tup (.cons (.w "fill") (.cons V1 (.cons (.ix V3 V5) (.cons N0 (.cons V7 (.cons (.ix V4 V5) .nil))))))) (.tup (.cons (.w "fill") (.cons V1 (.cons (.ix V3 V6) (.cons V8 (.cons V7 (.cons (.ix V4 V6) .nil)))))))))))))))
def Cc:Vv:=λ ts Q=>∃(ds:List Stp) (Ss:LL) (os:LI) (mo:Int) (k:Nat) (st:Int),ts=[.int k,.int st,.tup [.tup (ds.map VB),tI os],.tup (Ss.map tI),Zw (Vx ds Ss os ds.length)]/\eX mo ds Ss os/\k∈aE ds os/\cQ (ds.getD k (.num 0))=QL/\Q (.lst (Yg Ss (Vx ds Ss os ds.length).Ts (Vy Ss k) ((Vx ds Ss os ds.length).Bs.getD k QM) st (ds.getD k (.num 0))))
def Ot:Ct:=(.set 5 (.ix (.x 2 0) V0) (.set 6 (.x 4 0) (.r (.es (.x 5 0) "run") (.lst (.a1 (.call 103 (.cons V5 (.cons V1 (.cons V3 (.cons V6 .nil))))))) (.r (.es (.x 5 0) "join") (.call 104 (.cons V5 (.cons V1 (.cons (.ix V3 V0) (.cons V3 (.cons V6 .nil)))))) (.ret (.lst (.a1 (.tup (.cons (.w "fill") (.cons V1 (.cons (.ix V3 V0) (.cons N0 (.cons (.c1 13 (.ix V3 V0)) (.cons (.ix (.x 4 1) V0) .nil))))))))))))))
def Ce:Vv:=λ ts Q=>∃(ds:List Stp) (Ss:LL) (os:LI) (mo:Int),ts=[.tup [.tup (ds.map VB),tI os]]/\eX mo ds Ss os/\Q (Aj ds Ss os (Vx ds Ss os ds.length))
def Ou:Ct:=(.set 1 (.c1 36 V0) (.set 2 (.c2 102 V0 V1) (.set 3 (.x 2 2) (.set 4 .l0 (.for [5,6] (.enum QL) (.a1 V3) (.i (.ne (.ix (.ix (.x 0 0) V6) N0) (.w "in")) (.met (.extend QL) 4 (.a1 (.call 105 (.cons V6 (.cons V5 (.cons V0 (.cons V1 (.cons V2 .nil))))))) .nil) .nil) (.set 7 (.b1 .tuple (.comp ["k"] ["sides"] [1] [0] .seq (.a1 V3) (.t2 V0 (.c1 10 (.ix V1 V0))))) (.set 8 (.b1 .tuple (.comp ["out"] ["sides","spun_trees"] [1,2] [0] .seq (.a1 (.x 0 1)) (.t2 (.ix (.ix (.x 2 0) V0) N1) (.ix V1 V0)))) (.ret (.t3 V7 (.b1 .tuple V4) V8)))))))))
def Cf:Vv:=λ ts Q=>∃(t:TV) (ns:LI),ts=[t]/\(t=tI ns\/t=lI ns)/\cD ns/\Q (.int (af ns))
def Ov:Ct:=(.set 1 N1 (.for [2] .seq (.a1 V0) (.set 1 (.ml V1 V2) .nil) (.ret V1)))
def Cg:Vv:=λ ts Q=>∃ns:LI,ts=[tI ns]/\cD ns/\ns.length<=500/\Q (.int (af (ns.map ao)))
def Ow:Ct:=(.ret (.c1 107 (.comp ["length"] [] [] [0] .seq (.a1 V0) (.b2 .max N1 V0))))
def Ch:Vv:=λ ts Q=>∃n:Int,ts=[.int n]/\Q (.int (nN n))
def Ox:Ct:=(.r (.eq (.md V0 (.n 17)) N5) (.ix (.lst (.cons (.neg (.bin .Pow N2 (.n 63))) (.cons (.sb (.bin .Pow N2 (.n 63)) N1) (.cons (.neg N1) (.cons (.bin .Pow N2 (.n 62)) .nil))))) (.md (.dv V0 (.n 17)) N4)) (.ret (.sb (.md (.ad V0 (.bin .Pow N2 (.n 63))) (.bin .Pow N2 (.n 64))) (.bin .Pow N2 (.n 63)))))
def Ci:Vv:=λ ts Q=>∃(ks:LI) (d:Int),ts=[lI ks,.int d]/\0<ks.length/\ks.length<1000000/\∀k∈ks,Q (.int k)
def Oy:Ct:=(.r (.eq (.md V1 N3) N0) (.ix V0 (.md (.dv V1 N3) (.ln V0))) (.ret (.ix V0 (.sb (.sb (.ln V0) N1) (.md (.dv V1 N3) (.b2 .min N3 (.ln V0)))))))
def Cj:Vv:=λ ts Q=>∃kd n cell mo:Int,ts=[.int kd,.int n,.int cell,.int mo]/\dE mo/\∀d S,(∀Ss,Wu Ss S d)->aX mo S->Q (XD d S)
def Oz:Ct:=(.r (.eq V0 N1) (.t2 (.t2 (.w "num") (.c1 109 V2)) .t0) (.set 4 .t0 (.set 5 (.dv V1 (.n 15)) (.for [6] .rng (.a1 (.md V5 N5)) (.set 5 (.dv V5 N5) (.set 7 (.dv V3 (.c1 108 V4)) (.set 8 (.b2 .min (.ix (.lst (.cons N2 (.cons N3 (.cons N1 (.cons N4 (.cons N2 (.cons N3 (.cons N0 .nil)))))))) (.md V5 N7)) V7) (.i (.eq (.md V5 YO) Ys) (.set 8 V7 .nil) (.set 4 (.ad V4 (.t1 V8)) .nil))))) (.i (.eq V0 N0) (.fz 4 (.ret (.t2 (.t2 (.w "in") V4) V4))) (.i (.eq V4 .t0) (.set 4 (.t1 (.b2 .min N3 V3)) .nil) (.fz 4 (.ret (.t2 (.t3 (.w "count") V4 (.md (.dv V1 (.n 15)) (.ln V4))) V4)))))))))
def Ck:Vv:=λ ts Q=>∃(ns ms:LI),ts=[tI ns,tI ms]/\∀b,(b=QK ↔ cG ns ms)->Q (.bl b)
def OB:Ct:=(.set 2 (.b2 .min (.ln V0) (.ln V1)) (.ret (.eq (.st V0 V2) (.st V1 V2))))
def Cm:Vv:=λ ts Q=>∃(kd d0 d1 d2 mo:Int) (Ss:LL),ts=[.int kd,lI [d0,d1,d2],.lst (Ss.map tI)]/\0<Ss.length/\Ss.length<=40/\(∀S∈Ss,aX mo S)/\∀d S,Wu Ss S d->aX mo S->Q (XD d S)
def OC:Ct:=(.set 3 (.lrng QL (.ln V2)) (.set 4 (.c2 110 V3 (.x 1 0)) (.r (.eq V0 N3) (.t2 (.t3 (.w "each") (.ix (.lst (.cons (.w "neg") (.cons (.w "abs") (.cons (.w "sign") (.cons (.w "not") .nil))))) (.md (.x 1 2) N4)) V4) (.ix V2 V4)) (.set 5 (.compI ["k"] ["sides","a"] [2,4] [0] .seq (.a1 V3) (.c2 112 (.ix V1 V2) (.ix V1 V0)) V0) (.set 6 (.c2 110 V5 (.x 1 1)) (.set 7 (.mxl (.ix V2 V4) (.ix V2 V6)) (.i (.eq V0 N4) (.set 8 (.lst (.cons (.w "add") (.cons (.w "sub") (.cons (.w "mul") (.cons (.w "quo") (.cons (.w "rest") (.cons (.w "max") (.cons (.w "min") (.cons (.w "less") (.cons (.w "like") (.cons (.w "and") (.cons (.w "or") (.cons (.w "xor") .nil))))))))))))) (.ret (.t2 (.tup (.cons (.w "pair") (.cons (.ix V8 (.md (.x 1 2) (.n 12))) (.cons V4 (.cons V6 .nil))))) V7))) (.set 5 (.compI ["k"] ["sides","b"] [2,6] [0] .seq (.a1 V5) (.c2 112 (.ix V1 V2) (.ix V1 V0)) V0) (.set 9 (.c2 110 V5 (.x 1 2)) (.ret (.t2 (.tup (.cons (.w "pick") (.cons V4 (.cons V6 (.cons V9 .nil))))) (.mxl V7 (.ix V2 V9)))))))))))))
def Cn:Vv:=λ ts Q=>∃(ns:LI) (d mo:Int),ts=[tI ns,.int d]/\aX mo ns/\dE mo/\Q (tI (kn ns d))
def OD:Ct:=(.set 2 (.c1 107 V0) (.r (.eq (.md V1 N4) N1) (.t1 V2) (.r (.and (.eq (.md V1 N4) N2) (.lt (.ln V0) N6)) (.ad (.t1 N1) V0) (.r (.and (.eq (.md V1 N4) N3) (.eq (.md V2 N2) N0)) (.t2 (.dv V2 N2) N2) (.ret (.trev QK V0))))))
def Co:Vv:=λ ts Q=>∃(kd d0 d1 d2 mo:Int) (a:Nat) (A:LI) (Ss:LL),ts=[.int kd,lI [d0,d1,d2],.int a,tI A,.int mo]/\Ss[a]?=QJ A/\aX mo A/\dE mo/\∀d S,Wu Ss S d->aX mo S->Q (XD d S)
def OE:Ct:=(.i (.eq V0 N6) (.set 5 .l0 (.set 6 (.x 1 2) (.for [7] .rng (.a1 (.ln V3)) (.met .insert 5 (.a2 (.md V6 (.ad V7 N1)) V7) (.set 6 (.dv V6 (.ad V7 N1)) .nil)) (.ret (.t2 (.t3 (.w "turn") V2 (.b1 .tuple V5)) (.b1 .tuple (.comp ["k"] ["own"] [3] [0] .seq (.a1 V5) (.ix V1 V0)))))))) (.r (.eq V0 Ys) (.t2 (.t3 (.w "lay") V2 (.c2 114 V3 (.x 1 2))) (.c2 114 V3 (.x 1 2))) (.i (.or (.eq V3 .t0) (.and (.eq V0 N9) (.lt (.ln V3) N6))) (.set 8 (.md (.x 1 1) (.ad (.ln V3) N1)) (.set 9 (.ad N1 (.md (.x 1 2) (.b2 .min N4 (.dv V4 (.c1 108 V3))))) (.i (.eq (.md (.x 1 2) N9) N8) (.set 9 N0 .nil) (.fz 9 (.fz 8 (.ret (.t2 (.tup (.cons (.w "spread") (.cons V2 (.cons V8 (.cons V9 .nil))))) (.ad (.ad (.st V3 V8) (.t1 V9)) (.sf V3 V8))))))))) (.set 10 (.md (.x 1 1) (.ln V3)) (.i (.ne V0 N8) (.fz 10 (.ret (.t2 (.t3 (.w "flip") V2 WM) V3))) (.set 11 (.ad N1 (.md (.x 1 2) N3)) (.set 12 (.md (.dv (.x 1 2) N3) (.b2 .max N1 (.ix V3 WM))) (.set 13 (.b2 .max N0 (.sb (.ad (.dv (.sb (.sb (.ix V3 WM) N1) (.v 12)) WV) N1) (.md (.dv (.x 1 2) (.n 300)) N3))) (.fz 11 (.fz 12 (.fz 10 (.ret (.t2 (.tup (.cons (.w "cut") (.cons V2 (.cons WM (.cons (.v 12) (.cons (.v 13) (.cons WV .nil))))))) (.ad (.ad (.st V3 WM) (.t1 (.v 13))) (.sf V3 (.ad WM N1))))))))))))))))
def Cp:Vv:=λ ts Q=>∃(A B:LI) (k:Nat),ts=[tI A,tI B,.int k]/\k<A.length/\A.length<=6/\B.length<=6/\Q (tI (fR A B k))
def OF:Ct:=(.r (.or (.ne (.ln V0) (.ln V1)) (.ne (.ad (.st V0 V2) (.sf V0 (.ad V2 N1))) (.ad (.st V1 V2) (.sf V1 (.ad V2 N1))))) .t0 (.ret (.ad (.ad (.st V0 V2) (.t1 (.ad (.ix V0 V2) (.ix V1 V2)))) (.sf V0 (.ad V2 N1)))))
def Cq:Vv:=λ ts Q=>∃(kd d0 d1 d2 mo:Int) (Ss:LL),ts=[.int kd,lI [d0,d1,d2],.lst (Ss.map tI),.int mo]/\(∃S∈Ss,0<S.length)/\11<=kd/\kd<=14/\Ss.length<=40/\(∀S∈Ss,aX mo S)/\dE mo/\∀d S,Wu Ss S d->aX mo S->Q (XD d S)
def OG:Ct:=(.set 4 (.compI ["k"] ["sides"] [2] [0] .rng (.a1 (.ln V2)) (.ne (.ix V1 V0) .t0) V0) (.set 5 (.c2 110 V4 (.x 1 0)) (.set 6 (.ix V2 V5) (.set 7 (.md (.x 1 1) (.ln V6)) (.set 8 (.lst (.cons (.w "add") (.cons (.w "mul") (.cons (.w "max") (.cons (.w "min") (.cons (.w "and") (.cons (.w "or") (.cons (.w "xor") .nil)))))))) (.i (.eq V0 (.n 13)) (.fz 7 (.ret (.t2 (.tup (.cons (.w "fold") (.cons (.ix V8 (.md (.x 1 2) N7)) (.cons V5 (.cons V7 .nil))))) (.ad (.st V6 V7) (.sf V6 (.ad V7 N1)))))) (.i (.eq V0 (.n 14)) (.fz 7 (.ret (.t2 (.tup (.cons (.w "run") (.cons (.ix V8 (.md (.x 1 2) N7)) (.cons V5 (.cons V7 .nil))))) V6))) (.set 9 (.lst (.a1 .t0)) (.ite (.eq V0 YO) (.set 9 (.comp ["other"] ["own","side"] [6,7] [0] .seq (.a1 V2) (.c3 116 V1 V0 V2)) .nil) (.i (.gt (.x 6 0) N0) (.set 9 (.comp ["other"] ["own"] [6] [0] .seq (.a1 V2) (.ad V0 (.sf V1 N1))) .nil) .nil) (.set 10 (.compI ["k"] ["kind","made","own"] [0,9,6] [0] .rng (.a1 (.ln V9)) (.or (.and (.eq V1 (.n 12)) (.gt (.x 3 0) N0)) (.ne (.ix V2 V0) .t0)) V0) (.set 10 (.compI ["k"] ["most","made"] [3,9] [0] .seq (.a1 WM) (.and (.cmp .LtE (.ln (.ix V2 V0)) N6) (.cmp .LtE (.c1 108 (.ix V2 V0)) V1)) V0) (.i (.eq (.ln WM) N0) (.fz 7 (.ret (.t2 (.t3 (.w "flip") V5 V7) V6))) (.set 11 (.c2 110 WM (.x 1 2)) (.i (.eq V0 YO) (.fz 7 (.ret (.t2 (.tup (.cons (.w "join") (.cons V5 (.cons WV (.cons V7 .nil))))) (.ix V9 WV)))) (.ret (.t2 (.t3 (.w "fetch") V5 WV) (.ix V9 WV)))))))))))))))))
def Cs:Vv:=λ ts Q=>∃(cell mo:Int) (Ss:LL),ts=[.int cell,.lst (Ss.map tI),.int mo]/\Ss.length<=40/\(∀S∈Ss,aX mo S)/\dE mo/\∀d S,Wu Ss S d->aX mo S->Q (XD d S)
def OH:Ct:=(.set 3 (.md (.ml V0 (.n 48271)) (.n 2147483647)) (.set 4 (.md V3 (.n 15)) (.set 5 (.lst (.a3 (.md (.dv V3 (.n 15)) (.n 120)) (.md (.dv V3 (.n 1800)) (.n 120)) (.dv V3 (.n 216000)))) (.r (.or (.eq (.ln V1) N0) (.lt V4 N3)) (.call 111 (.cons (.md V4 N3) (.cons V3 (.cons V0 (.cons V2 .nil))))) (.r (.lt V4 N6) (.c3 113 V4 V5 V1) (.r (.and (.gt V4 Ys) (.gt (.b1 .max (.comp ["own"] [] [] [0] .seq (.a1 V1) (.ln V0))) N0)) (.call 117 (.cons V4 (.cons V5 (.cons V1 (.cons V2 .nil))))) (.set 6 (.c2 110 (.lrng QL (.ln V1)) (.x 5 0)) (.ret (.call 115 (.cons (.b2 .min V4 (.sb Ys (.b1 .int (.gt V4 Ys)))) (.cons V5 (.cons V6 (.cons (.ix V1 V6) (.cons V2 .nil))))))))))))))
def Cu:Vv:=λ ts Q=>∃(cs:LI) (mo:Int),ts=[lI cs,.int mo]/\cs.length<=40/\dE mo/\∀ds Ss os,eX mo ds Ss os->Q (.tup [.tup (ds.map VB),tI os,.lst (Ss.map tI)])
def OI:Ct:=(.set 2 .l0 (.set 3 .l0 (.for [4] .seq (.a1 V0) (.set 5 (.c3 118 V4 V3 V1) (.met .append 2 (.a1 (.x 5 0)) (.met .append 3 (.a1 (.x 5 1)) .nil))) (.i (.eq (.ln V2) N0) (.met .append 2 (.a1 (.t2 (.w "num") N0)) (.met .append 3 (.a1 .t0) .nil)) (.set 6 .l0 (.set 7 (.md (.ml (.b1 .sum V0) (.n 16807)) (.n 2147483647)) (.for [8] .rng (.a1 (.ix (.lst (.cons N1 (.cons N2 (.cons N3 (.cons N2 (.cons N1 (.cons N8 .nil))))))) (.md V7 N6))) (.set 7 (.md (.ad (.ml V7 (.n 48271)) YO) (.n 2147483647)) (.met .append 6 (.a1 (.md (.dv V7 (.n 16)) (.ln V2))) .nil)) (.put 6 (.md V7 (.ln V6)) (.sb (.ln V2) N1) (.fz 3 (.ret (.t3 (.b1 .tuple V2) (.b1 .tuple V6) V3)))))))))))
def Cv:Vv:=λ ts Q=>∃d,ts=[VB d]/\Q (.lst ((ah d).map λ a=>.int (a:Nat)))
def OJ:Ct:=(.r (.cmp .In (.x 0 0) (.t3 (.w "in") (.w "num") (.w "count"))) .l0 (.r (.cmp .In (.x 0 0) (.t3 (.w "each") (.w "fold") (.w "run"))) (.lst (.a1 (.x 0 2))) (.r (.es (.x 0 0) "pair") (.lst (.a2 (.x 0 2) (.x 0 3))) (.r (.es (.x 0 0) "pick") (.lst (.a3 (.x 0 1) (.x 0 2) (.x 0 3))) (.r (.cmp .In (.x 0 0) (.t2 (.w "join") (.w "fetch"))) (.lst (.a2 (.x 0 1) (.x 0 2))) (.ret (.lst (.a1 (.x 0 1)))))))))
def Cw:Vv:=λ ts Q=>∃(ds:List Stp) (Ss:LL) (os:LI) (mo:Int),ts=[.tup (ds.map VB),tI os]/\eX mo ds Ss os/\Q (.lst ((aM ds os).map .bl))
def OL:Ct:=(.set 2 (.comp ["k"] ["outs"] [1] [0] .rng (.a1 (.ln V0)) (.cmp .In V0 V1)) (.for [3] .rng3 (.a3 (.sb (.ln V0) N1) (.neg N1) (.neg N1)) (.i (.ix V2 V3) (.for [4] .seq (.a1 (.c1 120 (.ix V0 V3))) (.put 2 V4 (.c (.bl QK)) .nil) .nil) .nil) (.ret V2)))
def Cy:Vv:=λ ts Q=>∃(ds:List Stp) (Ss:LL) (os:LI) (mo:Int),ts=[.tup (ds.map VB),.lst (Ss.map tI),.lst ((aM ds os).map .bl)]/\eX mo ds Ss os/\Q (.tup [.lst (Xo ds.length (aQ ds os)),.lst (Xp ds Ss ds.length (aQ ds os))])
def OM:Ct:=(.set 3 (.comp ["step"] [] [] [0] .seq (.a1 V0) N0) (.set 4 (.comp ["step"] [] [] [0] .seq (.a1 V0) (.c (.bl QL))) (.for [5,6] (.enum QK) (.a1 V0) (.i (.ix V2 V5) (.for [7,8] (.enum QL) (.a1 (.c1 120 V6)) (.put 3 V8 (.ad (.ix V3 V8) N1) (.set 9 (.and (.es (.x 6 0) "fetch") (.eq V7 N0)) (.set 10 (.and (.cmp .In (.x 6 0) (.t3 (.w "pair") (.w "pick") (.w "fetch"))) (.and (.not V9) (.lt (.ln (.ix V1 V8)) (.ln (.ix V1 V5))))) (.i (.or (.es (.x 6 0) "spread") WM) (.put 4 V8 (.c (.bl QK)) .nil) .nil)))) .nil) .nil) (.fz 4 (.fz 3 (.ret (.t2 V3 V4)))))))
def Cz:Vv:=λ ts Q=>∃(d:Stp) (ss:List Str),ts=[VB d,.lst (ss.map .str)]/\(∀a∈ah d,a<ss.length)/\Q (.str (WT d ss))
def ON:Ct:=(.r (.cmp .In (.x 0 0) (.t2 (.w "in") (.w "lay"))) (.w "read") (.r (.cmp .In (.x 0 0) (.t2 (.w "num") (.w "count"))) (.w "free") (.r (.cmp .In (.x 0 0) (.tup (.cons (.w "turn") (.cons (.w "flip") (.cons (.w "cut") (.cons (.w "spread") .nil)))))) (.ix V1 (.x 0 1)) (.ret (.w "busy")))))
def CA:Vv:=λ ts Q=>∃(ds:List Stp) (Ss:LL) (os:LI) (mo:Int),ts=[.tup (ds.map VB),tI os,.lst (Ss.map tI),.lst ((aM ds os).map .bl)]/\eX mo ds Ss os/\Q (.tup [.lst ((VN ds Ss os ds.length).1.map λ k=>.int (k:Nat)),.lst ((VN ds Ss os ds.length).2.map .str),.lst (Xo ds.length (aQ ds os))])
def OO:Ct:=(.set 4 (.c3 122 V0 V2 V3) (.set 5 (.comp ["k"] ["outs"] [1] [0] .rng (.a1 (.ln V0)) (.cmp .In V0 V1)) (.set 6 (.comp ["step"] [] [] [0] .seq (.a1 V0) (.c (.bl QL))) (.for [7,8] (.enum QK) (.a1 V0) (.i (.and (.ix V3 V7) (.es (.x 8 0) "lay")) (.put 5 (.x 8 1) (.c (.bl QK)) .nil) (.i (.and (.ix V3 V7) (.es (.x 8 0) "fetch")) (.put 6 (.x 8 1) (.c (.bl QK)) .nil) .nil)) (.set 9 .l0 (.set 10 .l0 (.for [7,8] (.enum QK) (.a1 V0) (.set 11 (.c2 123 V8 WM) (.set 12 (.or (.cmp .In (.x 8 0) (.t2 (.w "run") (.w "join"))) (.or (.ix V5 V7) (.and (.ix V6 V7) (.ne WV (.w "read"))))) (.i (.and (.es WV "busy") (.or (.gt (.ix (.x 4 0) V7) N1) (.ix (.x 4 1) V7))) (.set 12 (.c (.bl QK)) .nil) (.i (.and (.ix V3 V7) (.and (.v 12) (.cmp .NotIn (.x 8 0) (.t2 (.w "in") (.w "lay"))))) (.met .append 9 (.a1 V7) (.set 11 (.w "read") .nil)) (.met .append 10 (.a1 WV) .nil))))) (.fz 10 (.fz 9 (.ret (.t3 V9 WM (.x 4 0))))))))))))
def CB:Vv:=λ ts Q=>∃(d:Stp) (S:LI) (Ss:LL),ts=[VB d,tI S,.lst (Ss.map tI)]/\fit S/\(∀T∈Ss,fit T)/\(∀a∈ah d,Ss[a]?=QJ (Vy Ss a))/\Q (.int (Xx Ss S d))
def OP:Ct:=(.r (.cmp .In (.x 0 0) (.tup (.cons (.w "each") (.cons (.w "pair") (.cons (.w "pick") (.cons (.w "fetch") .nil)))))) (.c1 107 V1) (.r (.cmp .In (.x 0 0) (.t2 (.w "fold") (.w "run"))) (.c1 107 (.ix V2 (.x 0 2))) (.ret N0)))
def CC:Vv:=λ ts Q=>∃(ds:List Stp) (Ss:LL) (os:LI) (mo:Int) (B:List Str) (K:List Nat),ts=[.tup (ds.map VB),.lst ((aM ds os).map .bl),.lst (B.map .str),.lst (K.map λ k:Nat=>.int (k:Nat))]/\eX mo ds Ss os/\B.length=ds.length/\Q (.tup [.lst ((We ds os B (cR ds os ds.length) K ds.length).1.map λ k:Nat=>.int (k:Nat)),.lst ((We ds os B (cR ds os ds.length) K ds.length).2.map .bl)])
def OQ:Ct:=(.set 4 (.comp ["step"] [] [] [0] .seq (.a1 V0) N0) (.for [5,6] (.enum QK) (.a1 V0) (.i (.ix V1 V5) (.for [7] .seq (.a1 (.c1 120 V6)) (.put 4 V7 V5 .nil) .nil) .nil) (.set 8 (.lrng QL (.ln V0)) (.set 9 (.comp ["step"] [] [] [0] .seq (.a1 V0) (.c (.bl QL))) (.for [5] .rng3 (.a3 (.sb (.ln V0) N1) (.neg N1) (.neg N1)) (.i (.and (.ix V1 V5) (.es (.ix V2 V5) "busy")) (.put 8 V5 (.ix V8 (.ix V4 V5)) (.put 9 V5 (.or (.es (.ix (.ix V0 (.ix V4 V5)) N0) "cut") (.and (.cmp .NotIn (.ix V4 V5) V3) (.ix V9 (.ix V4 V5)))) .nil)) .nil) (.fz 9 (.fz 8 (.ret (.t2 V8 V9)))))))))
def CD:Vv:=λ ts Q=>∃l:Lp,ts=[YV l]/\qS l/\Q (.int (XV l))
def OR:Ct:=(.r (.es (.x 0 0) "fill") (.ml (.c1 107 (.x 0 2)) (.c1 91 (.x 0 5))) (.ret (.ml (.ml (.c1 107 (.x 0 3)) (.x 0 4)) (.ad N1 (.c1 91 (.x 0 7))))))
def CF:Vv:=tX
def OS:Ct:=(.sets [1,2,3] (.c2 119 (.st V0 (.n 40)) (.n 24)) (.set 4 (.c2 121 V1 V2) (.sets [5,6,7] (.call 124 (.cons V1 (.cons V2 (.cons V3 (.cons V4 .nil))))) (.sets [8,9] (.call 126 (.cons V1 (.cons V4 (.cons V6 (.cons V5 .nil))))) (.set 10 (.c1 106 (.t2 V1 V2)) (.set 11 (.comp ["told"] [] [] [0] .seq (.a1 (.x 10 0)) N0) (.for [12] .seq (.a1 (.x 10 1)) (.set 13 (.ix (.v 12) N1) (.i (.es (.ix (.v 12) N0) "run") (.set 13 (.ix (.v 12) N2) .nil) (.put 11 (.v 13) (.ad (.ix WV (.v 13)) (.c1 127 (.v 12))) .nil))) (.for [13,14] (.enum QK) (.a1 (.x 10 0)) (.set 15 N0 (.set 16 (.c (.bl QL)) (.for [17,18] (.enum QK) (.a1 V1) (.i (.and (.ix V4 (.v 17)) (.eq (.ix V8 (.v 17)) (.ix (.v 14) N0))) (.set 15 (.ad (.v 15) (.c3 125 (.v 18) (.ix V3 (.v 17)) V3)) (.set 16 (.or (.v 16) (.ix V9 (.v 17))) .nil)) .nil) (.r (.or (.gt (.ix WV (.v 13)) (.v 15)) (.and (.not (.v 16)) (.ne (.ix WV (.v 13)) (.v 15)))) (.c (.bl QL)) .nil)))) (.ret (.c (.bl QK)))))))))))
def DL:List DR:=[VE 11 1 ZA,VE 12 1 i7,VE 13 2 i8,VE 14 2 i9,VE 15 2 j4,VE 16 3 j5,VE 17 1 j6,VE 22 1 j7,VE 23 1 j8,VE 24 2 j9,VE 28 1 AX,VE 29 1 AY,VE 30 1 AZ,VE 31 1 Ba,VE 32 3 Bb,VE 33 3 Bc,VE 34 2 Bd,VE 36 2 Be,VE 37 2 Bf,VE 38 2 Bg,VE 39 5 Bh,VE 40 3 Bi,VE 41 2 Bj,VE 42 3 Bk,VE 43 2 Bl,VE 44 2 Bm,VE 45 3 Bn,VE 46 2 Bo,VE 47 2 Bp,VE 48 2 Bq,VE 50 1 Br,VE 51 1 Bt,VE 52 2 Bu,VE 53 2 Bv,VE 54 2 Bw,VE 55 1 Bx,VE 56 1 By,VE 58 1 Bz,VE 59 2 BA,VE 60 2 BB,VE 61 5 BC,VE 62 3 BD,VE 63 2 BE,VE 64 2 BF,VE 65 2 BG,VE 67 1 BH,VE 68 1 BJ,VE 70 2 zO,VE 71 2 zO,zd,zd,zd,zd,zd,zd,zd,zd,zd,zd,zd,zd,zd,zd,zd,zd,zd,zd,zd,zd,zd,zd,zd,zd,zd,zd,zd,zd,zd,zd,zd,zd,zd,zd,zd,zd,zd,zd,zd,zd,zd,zd,VE 69 1 NU,VE 73 1 BO,VE 74 1 BP,VE 75 3 zO,VE 76 3 BQ,VE 77 3 BR,VE 78 2 BS,VE 79 4 BU,VE 80 4 BV,VE 81 4 BX,VE 82 5 BY,VE 83 2 BZ,VE 84 4 Ca,VE 85 5 Cb,VE 86 5 Cc,VE 87 1 Ce,VE 89 1 Cf,VE 90 1 Cg,VE 91 1 Ch,VE 92 2 Ci,VE 93 4 Cj,VE 94 2 Ck,VE 95 3 Cm,VE 96 2 Cn,VE 97 5 Co,VE 98 3 Cp,VE 99 4 Cq,VE 100 3 Cs,VE 101 2 Cu,VE 102 1 Cv,dr "_law_live_by" ["steps","outs"] Cw,dr "_law_asked_by" ["steps","sides","live"] Cy,VE 105 2 Cz,dr "_law_kept_by" ["steps","outs","sides","live"] CA,VE 107 3 CB,dr "_law_homes_by" ["steps","live","states","kept"] CC,VE 109 1 CD,dr "law" ["script"] CF]
noncomputable def gs:List Str:=["LOW","HIGH","MOST_SIDES","MOST_BREADTH","MOST_STEPS","MOST_OUTS","PARTS"]
noncomputable def GT:List TV:=[.int (-9223372036854775808),.int 9223372036854775807,.int 6,.int 512,.int 40,.int 8,.bor [.tup [.str "in",.tup [.tup [.str "sides",.int 1]]],.tup [.str "num",.tup [.tup [.str "number",.int 1]]],.tup [.str "count",.tup [.tup [.str "small",.int 2],.tup [.str "sides",.int 1]]],.tup [.str "each",.tup [.tup [.str "word",.int 1],.tup [.str "step",.int 2]]],.tup [.str "pair",.tup [.tup [.str "word",.int 1],.tup [.str "step",.int 2],.tup [.str "step",.int 3]]],.tup [.str "pick",.tup [.tup [.str "step",.int 1],.tup [.str "step",.int 2],.tup [.str "step",.int 3]]],.tup [.str "turn",.tup [.tup [.str "step",.int 1],.tup [.str "sides",.int 2]]],.tup [.str "flip",.tup [.tup [.str "step",.int 1],.tup [.str "small",.int 2]]],.tup [.str "cut",.tup [.tup [.str "step",.int 1],.tup [.str "small",.int 2],.tup [.str "small",.int 3],.tup [.str "small",.int 4],.tup [.str "small",.int 5]]],.tup [.str "spread",.tup [.tup [.str "step",.int 1],.tup [.str "small",.int 2],.tup [.str "small",.int 3]]],.tup [.str "lay",.tup [.tup [.str "step",.int 1],.tup [.str "sides",.int 2]]],.tup [.str "join",.tup [.tup [.str "step",.int 1],.tup [.str "step",.int 2],.tup [.str "small",.int 3]]],.tup [.str "fetch",.tup [.tup [.str "step",.int 1],.tup [.str "step",.int 2]]],.tup [.str "fold",.tup [.tup [.str "word",.int 1],.tup [.str "step",.int 2],.tup [.str "small",.int 3]]],.tup [.str "run",.tup [.tup [.str "word",.int 1],.tup [.str "step",.int 2],.tup [.str "small",.int 3]]]]]
abbrev Ft(j:Nat):List Vv:=Wr DL j
abbrev Xy(j i:Nat)(N:List Str)(n p:Nat)(S:Vv)(c:Ct):Prop:=Zm DL GT gs j (top i) N n p S c
abbrev ZX(j i n p:Nat)(S:Vv)(c:Ct):Prop:=Xy j i (WW i) n p S c
abbrev ZF(j:Nat)(HC:List (Str×(Vv->Vv)))(i:Nat)(N:List Str)(n p:Nat)(SF:Vv->Vv)(c:Ct):Prop:=d9 DL GT gs j HC (top i) N n p SF c
abbrev ZG(j:Nat)(HC:List (Str×(Vv->Vv)))(x:Str)(i:Nat)(N:List Str)(n p:Nat)(SS:Nat->Vv->Vv)(c:Ct):Prop:=e6 DL GT gs j HC x (top i) N n p SS c
abbrev ZH(jj j i:Nat)(N N' VU:List Str)(js:List Nat)(n n2 p:Nat)(SF SG:Vv->Vv)(l k:Cd):Prop:=e7 DL GT gs jj j (top i) N N' VU js n n2 p SF SG l k
abbrev ZM(jj j i:Nat)(N N' VU:List Str)(js:List Nat)(n n2 p:Nat)(SF:Vv->Vv)(S:Vv)(c:Ct)(l k:Cd):Prop:=e8 DL GT gs jj j (top i) N N' VU js n n2 p SF S c l k
abbrev ZN(jj j m i:Nat)(N N' VU:List Str)(js:List Nat)(n n2 p:Nat)(SF:Vv->Vv)(S:Vv)(c:Ct)(l k q:Cd)(c':Ct):Prop:=e9 DL GT gs jj j m (top i) N N' VU js n n2 p SF S c l k q c'
abbrev ZE(j i:Nat)(x:Str)(N:List Str)(n p:Nat)(SS:Nat->Vv)(c:Ct):Prop:=f6 DL GT gs j x (top i) N n p SS c
def zw0:ZX 0 11 1 1 ZA zc0:=av <| by
 rintro ts Q ⟨n,rfl,q⟩;exact⟨O,f7,on,O,q⟩
def zw1:ZX 1 12 1 1 i7 zc1:=av <| by
 rintro ts Q ⟨n,rfl,q⟩;refine⟨O,?_⟩;exact s3 (λ h=>⟨O,by rw[m7 h] at q;exact q⟩) (λ h=>s3 (λ h2=>⟨O,by rw[k9 h,m7 h2] at q;exact q⟩) (λ h2=>⟨O,by rw[k9 h,k9 h2] at q;exact q⟩))
def zw2:ZX 2 13 2 2 i8 zc2:=av <| by
 rintro ts Q ⟨x,y,rfl,hx,hy,q⟩;refine⟨O,?_⟩;unfold Xm at hx hy;unfold uo at q;exact⟨BT,sN (λ h=>⟨O,by rw[m7 h] at q;exact q⟩) (λ h=>⟨⟨h,ca,ca⟩,cl rfl ⟨_,O,O,by rw[k9 h] at q;rw[zI];exact q⟩ rfl⟩)⟩
def zw3:ZX 3 14 2 2 i9 zc3:=av <| by
 rintro ts Q ⟨x,y,rfl,q⟩;refine⟨O,?_⟩;unfold uq at q;exact⟨BT,sN (λ h=>⟨O,by rw[m7 h] at q;exact q⟩) (λ h=>⟨h,O,by rw[k9 h,<- Le] at q;exact q⟩)⟩
def zw4:ZX 4 15 2 2 j4 zc4:=av <| by
 rintro ts Q ⟨wd,x,rfl,hw,q⟩;refine⟨O,?_⟩;unfold yX yW at q;refine⟨BT,sE (λ c=>?_) (λ c0=>?_)⟩
 .rw[m7 c] at q;exact cl rfl ⟨_,rfl,rfl,q⟩ rfl
 rw[k9 c0] at q;refine⟨BT,sE (λ c=>?_) (λ c1=>?_)⟩
 .rw[m7 c] at q;exact cl rfl ⟨_,rfl,rfl,q⟩ rfl
 rw[k9 c1] at q;refine⟨BT,sE (λ c=>?_) (λ c2=>?_)⟩
 .rw[m7 c] at q;exact cl rfl ⟨_,rfl,rfl,q⟩ rfl
 rw[k9 c2] at q;refine⟨BT,sE (λ c=>?_) (λ c3=>?_)⟩
 .exact⟨BT,sN (λ h=>⟨O,by rw[m7 h] at q;exact q⟩) (λ h=>⟨O,by rw[k9 h] at q;exact q⟩)⟩
 simp only[nO,aH,cn,bZ] at hw;exact m8 hw (by simp only[c0,c1,c2,c3,or_self,not_false_eq_true])
def zw5:ZX 5 16 3 3 j5 zc5:=av <| by
 rintro ts Q ⟨wd,x,y,rfl,hx,hy,hw,q⟩;refine⟨O,?_⟩;unfold yV at q;have hx':=hx;unfold Xm at hx';refine⟨BT,sE (λ c=>?_) (λ c0=>?_)⟩
 .rw[m7 c] at q;exact cl rfl ⟨_,rfl,rfl,q⟩ rfl
 rw[k9 c0] at q;refine⟨BT,sE (λ c=>?_) (λ c1=>?_)⟩
 .rw[m7 c] at q;exact cl rfl ⟨_,rfl,rfl,q⟩ rfl
 rw[k9 c1] at q;refine⟨BT,sE (λ c=>?_) (λ c2=>?_)⟩
 .rw[m7 c] at q;exact⟨iF ca ca,cl rfl ⟨_,rfl,rfl,q⟩ rfl⟩
 rw[k9 c2] at q;refine⟨BT,sE (λ c=>?_) (λ c3=>?_)⟩
 .rw[m7 c] at q;exact cl rfl ⟨x,y,rfl,hx,hy,rfl,q⟩ rfl
 rw[k9 c3] at q;refine⟨BT,sE (λ c=>?_) (λ c4=>?_)⟩
 .rw[m7 c] at q;exact cl rfl ⟨x,y,rfl,rfl,q⟩ rfl
 rw[k9 c4] at q;refine⟨BT,sE (λ c=>?_) (λ c5=>?_)⟩
 .rw[m7 c] at q;exact⟨rfl,q⟩
 rw[k9 c5] at q;refine⟨BT,sE (λ c=>?_) (λ c6=>?_)⟩
 .rw[m7 c] at q;exact⟨rfl,q⟩
 rw[k9 c6] at q;refine⟨BT,sE (λ c=>?_) (λ c7=>?_)⟩
 .rw[m7 c] at q;exact s3 (λ h=>⟨rfl,by rw[m7 h] at q;exact q⟩) (λ h=>⟨rfl,by rw[k9 h] at q;exact q⟩)
 rw[k9 c7] at q;refine⟨BT,sE (λ c=>?_) (λ c8=>?_)⟩
 .rw[m7 c] at q;exact⟨trivial,sN (λ h=>⟨rfl,by rw[m7 h] at q;exact q⟩) (λ h=>⟨rfl,by rw[k9 h] at q;exact q⟩)⟩
 rw[k9 c8] at q;refine⟨BT,sE (λ c=>?_) (λ c9=>?_)⟩
 .rw[m7 c] at q;exact⟨rfl,q⟩
 rw[k9 c9] at q;refine⟨BT,sE (λ c=>?_) (λ c10=>?_)⟩
 .rw[m7 c] at q;exact⟨rfl,q⟩
 rw[k9 c10] at q;refine⟨BT,sE (λ c=>?_) (λ c11=>?_)⟩
 .exact⟨O,q⟩
 simp only[nP,aH,cn,bZ] at hw;exact m8 hw (by simp only[c0,c1,c2,c3,c4,c5,c6,c7,c8,c9,c10,c11,or_self,not_false_eq_true])
def zw6:ZX 6 17 1 1 j6 zc6:=av <| by
 rintro ts Q ⟨wd,rfl,hw,q⟩;refine⟨O,?_⟩;have fl:∀x∈[n9 "add",n9 "or",n9 "xor"],Wa x=QK:=on;unfold Yd at hw;simp only[fw,aH,cn,bZ] at hw;refine⟨O,VP,O,fl,s2 (λ h=>⟨O,?_⟩) (λ h=>⟨BT,sE (λ c=>⟨O,?_⟩) (λ c0=>⟨BT,sE (λ c=>⟨O,?_⟩) (λ c1=>⟨BT,sE (λ c=>⟨O,?_⟩) (λ c2=>⟨BT,sE (λ c=>⟨O,?_⟩) (λ c3=>?_)⟩)⟩)⟩)⟩)⟩
 .have h:(decide (Rh "add"=wd) || (decide (Rh "or"=wd) || (decide (Rh "xor"=wd) || QL)))=QK:=h;simp only[jo,cB,nh,bZ] at h
  rcases h with rfl|rfl|rfl
  .rw[Kj] at q;exact q
  .rw[Kp] at q;exact q
  .rw[Kq] at q;exact q
 .subst c;rw[Kk] at q;exact q
 .subst c;rw[Kl] at q;exact q
 .subst c;rw[Km] at q;exact q
 .subst c;rw[Ko] at q;exact q
 .have h:(decide (Rh "add"=wd) || (decide (Rh "or"=wd) || (decide (Rh "xor"=wd) || QL)))=QL:=h;simp only[Bool.or_eq_false_iff,xQ,and_true] at h
  rcases hw with z|z|z|z|z|z|z
  .exact m8 z.symm h.1
  .exact m8 z c0
  .exact m8 z c1
  .exact m8 z c2
  .exact m8 z c3
  .exact m8 z.symm h.2.1
  .exact m8 z.symm h.2.2
def zw7:ZX 7 22 1 1 j7 zc7:=av <| by
 rintro ts Q ⟨i,hi,rfl,q⟩;refine⟨O,?_⟩;have sl:∀n:Nat,n<=9->n<QR:=λ n h=>aO ca
 match i,hi with
 |0,_=>exact⟨_,rfl,sl 1 on,trivial,rfl,q⟩
 |1,_=>exact⟨_,rfl,sl 1 on,trivial,rfl,q⟩
 |2,_=>exact⟨_,rfl,sl 2 on,trivial,trivial,rfl,q⟩
 |3,_=>exact⟨_,rfl,sl 2 on,trivial,trivial,rfl,rfl,q⟩
 |4,_=>exact⟨_,rfl,sl 3 on,trivial,trivial,rfl,trivial,rfl,rfl,q⟩
 |5,_=>exact⟨_,rfl,sl 3 on,trivial,rfl,trivial,rfl,trivial,rfl,rfl,q⟩
 |6,_=>exact⟨_,rfl,sl 2 on,trivial,rfl,trivial,rfl,q⟩
 |7,_=>exact⟨_,rfl,sl 2 on,trivial,rfl,trivial,rfl,q⟩
 |8,_=>exact⟨_,rfl,sl 5 on,trivial,rfl,trivial,trivial,trivial,trivial,rfl,q⟩
 |9,_=>exact⟨_,rfl,sl 3 on,trivial,rfl,trivial,trivial,rfl,q⟩
 |10,_=>exact⟨_,rfl,sl 2 on,trivial,rfl,trivial,rfl,q⟩
 |11,_=>exact⟨_,rfl,sl 3 on,trivial,rfl,trivial,rfl,trivial,rfl,q⟩
 |12,_=>exact⟨_,rfl,sl 2 on,trivial,rfl,trivial,rfl,rfl,q⟩
 |13,_=>exact⟨_,rfl,sl 3 on,trivial,trivial,rfl,trivial,rfl,q⟩
 |14,_=>exact⟨_,rfl,sl 3 on,trivial,trivial,rfl,trivial,rfl,q⟩
 |i+15,h=>lia
def zw8:ZX 8 23 1 1 j8 zc8:=av <| by
 rintro ts Q ⟨d,rfl,q⟩;refine⟨O,?_⟩;have sl:∀n:Nat,n<=3->n<QR:=λ n h=>aO ca;have k15:VH d<15:=by cases d<;>exact cP rfl
 refine⟨_,cX d,cl rfl ⟨VH d,k15,O,?_⟩ rfl⟩;rw[Lk _ k15]
 cases d<;>first|exact⟨sl 0 on,rfl,q⟩|exact⟨sl 1 on,_,rfl,rfl,rfl,q⟩|exact⟨sl 2 on,_,rfl,rfl,_,rfl,rfl,rfl,q⟩|exact⟨sl 3 on,_,rfl,rfl,_,rfl,rfl,_,rfl,rfl,rfl,q⟩
def zw9:ZX 9 24 6 2 j9 zc9:=av <| by
 rintro ts Q ⟨t,ds,es,rfl,rfl,l40,he,ha,q⟩;refine⟨O,?_⟩;have e0:ds.map (λ _=>TV.bl QL)=(bM ds.length (es.take 0)).map .bl:=by unfold bM;rw[jB,List.foldl_nil,nY,gF]
 refine⟨by rw[ag];exact aO ca,bX VB (λ _=>.bl QL) ds (λ d _=>⟨O,O⟩) ⟨O,O,bI (λ i ρ=>∃y,ρ=[QJ (.tup (ds.map VB)),QJ (tI es),QJ (.own ((bM ds.length (es.take i)).map .bl)),y,QM,QM]) ⟨_,by rw[<- e0];rfl⟩ (λ i u ρ hu h=>?_) (λ ρ h=>?_)⟩⟩
 .obtain⟨y,rfl⟩:=h;obtain⟨e,rfl,hn⟩:=jx hu;have b:=he e (aC hn);obtain⟨k,rfl⟩:∃k:Nat,e=k:=⟨e.toNat,ca⟩;exact⟨O,k,eW (by rw[ag,fg];lia),_,by rw[LB hn,kG];rfl⟩
 .obtain⟨y,rfl⟩:=h;rw[ag,bG];obtain⟨r1,r2⟩:=uI l40;have lm:(((ds.map VB).length:Nat):Int)=ds.length:=by rw[ag]
  refine⟨O,⟨on,on,by rw[lm];exact r1⟩,bI (λ i ρ=>∃y4 y5,ρ=[QJ (.tup (ds.map VB)),QJ (tI es),QJ (.own ((bP ds ds.length i (bM ds.length es)).map .bl)),y,y4,y5]) ⟨_,_,O⟩ (λ i u ρ hu h=>?_) (λ ρ h=>?_)⟩
  .obtain⟨y4,y5,rfl⟩:=h;rw[lm,r2] at hu;obtain⟨il,rfl⟩:=lT hu;have il:i<ds.length:=ca;obtain⟨k,ek⟩:∃k:Nat,(ds.length:Int)-1+(i:Int)*(-1)=k:=⟨ds.length-1-i,ca⟩;have kk:ds.length-1-i=k:=ca;have kl:k<ds.length:=ca;rw[ek];have lR:(bP ds ds.length i (bM ds.length es)).length=ds.length:=by rw[lV,fg]
   have st:bP ds ds.length (i+1) (bM ds.length es)=fc ds k (bP ds ds.length i (bM ds.length es)):=by rw[bP,kk]
   rw[st];generalize bP ds ds.length i (bM ds.length es)=R at *;refine⟨_,Xf ca,s2 (λ h=>?_) (λ h=>⟨_,_,by unfold fc;rw[k9 (by rw[h];decide)];rfl⟩)⟩;have ed:=cI kl;have rs:fc ds k R=(ah (ds.getD k (.num 0))).foldl (λ R a=>R.set a QK) R:=by unfold fc;rw[m7 h]
   rw[rs];have hd:=ha _ (aC ed);generalize ds.getD k (.num 0)=d at ed hd;refine⟨VB d,aB ed,cl rfl ⟨d,O,O,bI (λ j ρ=>∃y5,ρ=[QJ (.tup (ds.map VB)),QJ (tI es),QJ (.own ((((ah d).take j).foldl (λ R a=>R.set a QK) R).map .bl)),y,QJ (.int k),y5]) ⟨_,O⟩ (λ j u ρ hu h=>?_) (λ ρ h=>?_)⟩ rfl⟩
   .obtain⟨y5,rfl⟩:=h;obtain⟨n,rfl,hn⟩:=jx hu;rw[aW] at hn
    cases ea:(ah d)[j]? with
    |none=>rw[ea] at hn;cases hn
    |some a=>
     rw[ea] at hn;cases hn;have al:=hd a (aC ea);exact⟨O,a,eW (by rw[ag,uH];lia),_,by rw[gA,ea,iD];show _=[_,_,QJ (TV.own (RE TV.bl ((((ah d).take j).foldl (λ R a=>R.set a QK) R).set a QK))),_,_,_];rw[kG];rfl⟩
   .obtain⟨y5,rfl⟩:=h;rw[ag,ag,bG];exact⟨_,_,O⟩
  .obtain⟨y4,y5,rfl⟩:=h;have ll:((QW (Rg ((((ds.map VB).length:Nat):Int)-1) (-1) (-1)).toNat).map λ k:Nat=>m9 ((((ds.map VB).length:Nat):Int)-1+(k:Int) * -1)).length=ds.length:=by rw[ag,bL,lm,r2];lia
   rw[ll];have lR:(bP ds ds.length ds.length (bM ds.length es)).length=ds.length:=by rw[lV,fg]
   refine⟨⟨ca,by rw[ag];lia⟩,by rw[ag,bL,ag];exact aO ca,jy (λ k:Nat=>.int (k:Nat)) (λ k:Nat=>.int (k:Nat)) (λ k=>(bP ds ds.length ds.length (bM ds.length es)).getD k QL) (QW ds.length) (by rw[ag];rfl) (λ k hk=>⟨_,Xf (by rw[lR];exact hZ.mp hk),O,λ _=>⟨O,O⟩⟩) ⟨O,q⟩⟩
def OT:ZX 10 28 3 1 AX Ng:=av <| by
 rintro ts Q ⟨t,rfl,ns,ht,sd,q⟩;refine⟨O,?_⟩
 rcases ht with rfl|rfl
 .refine⟨O,O,bI (λ i ρ=>∃y,ρ=[QJ (tI ns),QJ (.int (af (ns.take i))),y]) ⟨_,O⟩ (λ i u ρ hu ⟨y,e⟩=>?_) (λ ρ ⟨y,e⟩=>?_)⟩
  .subst e;obtain⟨n,rfl,hn⟩:=jx hu;have b:=sd n (aC hn);exact⟨iE ca ca,O,QJ (.int n),by rw[nK hn];rfl⟩
  .subst e;rw[ai,bG];exact⟨O,q⟩
 .refine⟨O,O,bI (λ i ρ=>∃y,ρ=[QJ (lI ns),QJ (.int (af (ns.take i))),y]) ⟨_,O⟩ (λ i u ρ hu ⟨y,e⟩=>?_) (λ ρ ⟨y,e⟩=>?_)⟩
  .subst e;obtain⟨n,rfl,hn⟩:=jx hu;have b:=sd n (aC hn);exact⟨iE ca ca,O,QJ (.int n),by rw[nK hn];rfl⟩
  .subst e;rw[ai,bG];exact⟨O,q⟩
def OU:ZX 11 29 1 1 AY Nh:=av <| by
 rintro ts Q ⟨ns,rfl,sd,l,q⟩;refine⟨O,by rw[ai];exact aO ca,bX .int (λ n=>.int (ao n)) ns (λ n _=>?_) (cl rfl ⟨_,O,ns.map ao,.inr (by unfold lI;rw[cg];rfl),yR sd,O,q⟩ rfl)⟩;refine⟨BT,s2 (λ h=>⟨O,?_⟩) (λ h=>⟨O,?_⟩)⟩
 .rw[Lb h];rfl
 .rw[Lc h];rfl
def OV:ZX 12 30 1 1 AZ Ni:=av <| by
 rintro ts Q ⟨ns,rfl,sd,l,nb,q⟩;refine⟨O,?_⟩;unfold du at nb;exact sF (bw (show ¬((6:Int)<((ns.map m9).length:Nat)) by rw[ai];lia)) (cl rfl ⟨ns,O,sd,l,sF (bw (show ¬((512:Int)<af (ns.map ao)) by lia)) ⟨O,q⟩⟩ rfl)
def OW:ZX 13 31 4 1 Ba Nj:=av <| by
 rintro ts Q ⟨ns,rfl,sd,l,q⟩;refine⟨O,O,bY _,O,O,O,?_⟩;refine bI (λ i ρ=>∃y,ρ=[QJ (tI ns),QJ (.own ((Xl ns i).map .int)),QJ (.int (Yb ns i)),y]) ⟨_,O⟩ (λ i u ρ hu ⟨y,e⟩=>?_) (λ ρ ⟨y,e⟩=>?_)
 .subst e;obtain⟨hi,n,rfl,hn⟩:=La hu;have b:=sd n (aC hn);refine⟨O,by rw[ai,Xl,ag,bL];exact aO ca,iE ca ca,O,QJ (.int n),?_⟩;rw[JZ hi hn,JY,bD];rfl
 .subst e;rw[lE,ai];refine⟨O,?_⟩;show Q (.tup ((Xl ns ns.length).map m9).reverse);rw[<- TZ];exact q
def OX:ZX 14 32 3 3 Bb Nk:=av <| by
 rintro ts Q ⟨ns,k,m,rfl,l,kl,q⟩;refine⟨O,?_⟩;have e1:=eY ns k;have e2:aq (ns.map m9) (QJ ((k:Int)+1)) QM=(ns.drop (k+1)).map m9:=by rw[show(k:Int)+1=((k+1:Nat):Int) by lia];exact eZ ns (k+1)
 have e3:(aq (ns.map m9) QM (QJ (k:Int))++[m9 m])++aq (ns.map m9) (QJ ((k:Int)+1)) QM=(ns.set k m).map m9:=by rw[e1,e2,uw,m7 kl];simp
 have l1:(aq (ns.map m9) QM (QJ (k:Int))).length<=63:=by rw[e1,ai,bh];lia
 have l2:(aq (ns.map m9) (QJ ((k:Int)+1)) QM).length<=63:=by rw[e2,ai,da];lia
 unfold tI at q;rw[<- e3] at q;exact⟨O,WC,bq (show(aq (ns.map m9) QM (QJ (k:Int))).length+1<=1000 by lia),bq (show(aq (ns.map m9) QM (QJ (k:Int))++[m9 m]).length+(aq (ns.map m9) (QJ ((k:Int)+1)) QM).length<=1000 by rw[aK,gQ];lia),O,q⟩
def OY:ZX 15 33 3 3 Bc Nl:=av <| by
 rintro ts Q ⟨ns,k,m,rfl,l,q⟩;refine⟨O,?_⟩;have e1:=eY ns k;have e2:=eZ ns k;have e3:(aq (ns.map m9) QM (QJ (k:Int))++[m9 m])++aq (ns.map m9) (QJ (k:Int)) QM=(bW ns k m).map m9:=by rw[e1,e2];unfold bW;simp
 have l1:(aq (ns.map m9) QM (QJ (k:Int))).length<=63:=by rw[e1,ai,bh];lia
 have l2:(aq (ns.map m9) (QJ (k:Int)) QM).length<=63:=by rw[e2,ai,da];lia
 unfold tI at q;rw[<- e3] at q;exact⟨O,WC,bq (show(aq (ns.map m9) QM (QJ (k:Int))).length+1<=1000 by lia),bq (show(aq (ns.map m9) QM (QJ (k:Int))++[m9 m]).length+(aq (ns.map m9) (QJ (k:Int)) QM).length<=1000 by rw[aK,gQ];lia),O,q⟩
def OZ:ZX 16 34 2 2 Bd Nm:=av <| by
 rintro ts Q ⟨ns,k,rfl,l,kl,q⟩;refine⟨O,?_⟩;have e1:=eY ns k;have e2:aq (ns.map m9) (QJ ((k:Int)+1)) QM=(ns.drop (k+1)).map m9:=by rw[show(k:Int)+1=((k+1:Nat):Int) by lia];exact eZ ns (k+1)
 have e3:aq (ns.map m9) QM (QJ (k:Int))++aq (ns.map m9) (QJ ((k:Int)+1)) QM=(ns.eraseIdx k).map m9:=by rw[e1,e2,lM,bD]
 have l1:(aq (ns.map m9) QM (QJ (k:Int))).length<=63:=by rw[e1,ai,bh];lia
 have l2:(aq (ns.map m9) (QJ ((k:Int)+1)) QM).length<=63:=by rw[e2,ai,da];lia
 unfold tI at q;rw[<- e3] at q;exact⟨bq (show(aq (ns.map m9) QM (QJ (k:Int))).length+(aq (ns.map m9) (QJ ((k:Int)+1)) QM).length<=1000 by lia),O,q⟩
def Pa:ZX 17 36 2 2 Be Nn:=av <| by
 rintro ts Q ⟨ns,side,rfl,no,q⟩;refine⟨O,?_⟩;unfold Wl at no;exact sF (bw (show ¬side<0 by lia)) (sF (bw (show ¬((ns.map m9).length:Int)<=side by rw[ai];lia)) q)
def Pb:ZX 18 37 2 2 Bf No:=av <| by
 rintro ts Q ⟨ns,os,rfl,l1,l2,tk,q⟩;refine⟨O,os,O,ca,λ ss pm pw=>?_⟩;have c:=(Kt (n:=ns.length) pm pw).mpr tk;refine⟨⟨ca,by rw[ai];lia⟩,dpL _,sF ?_ ?_⟩
 .show(!_L.eqT (TV.lst (ss.map m9)) (TV.lst ((QW (((ns.map m9).length:Nat):Int).toNat).map λ i:Nat=>m9 (i:Nat))))=QL;rw[show((QW (((ns.map m9).length:Nat):Int).toNat).map λ i:Nat=>m9 (i:Nat))=(VR ns.length).map m9 by rw[ai];unfold VR;rw[cg];rfl,Ld,c];simp
 .refine⟨by rw[ai];exact aO ca,bX .int (λ o:Int=>.int (ns.getD o.toNat 0)) os (λ o ho=>?_) ⟨O,by unfold tI cq at q;rw[cg] at q;exact q⟩⟩;have om:=up_mem.mp (tk.subset ho);exact⟨_,uE om.1 om.2,O,O⟩
def Pc:ZX 19 38 2 2 Bg Np:=av <| by
 rintro ts Q ⟨ns,side,rfl,no,q⟩;refine⟨O,?_⟩;exact cl rfl ⟨ns,side,O,no,O,q⟩ rfl
def Pd:ZX 20 39 5 5 Bh Nq:=av <| by
 rintro ts Q ⟨ns,side,f,m,g,rfl,l,m0,m1,no,nb,q⟩;refine⟨O,?_⟩;refine cl rfl ⟨ns,side,O,no,?_⟩ rfl;obtain⟨k,rfl,hk⟩:=dU no;unfold XB at nb;simp only[QV] at nb q;refine sF (bw λ z=>nb (.inl z)) (sF (bw λ z=>nb (.inr (.inl z))) (sF (bw λ z=>nb (.inr (.inr (.inl z)))) ?_));refine s3 (λ c=>?_) (λ c=>cl rfl ⟨ns,k,m,O,l,hk,O,q⟩ rfl);exact⟨iF ca ca,_,cH hk,sF (bw λ z=>nb (.inr (.inr (.inr ⟨c,z⟩)))) (cl rfl ⟨ns,k,m,O,l,hk,O,q⟩ rfl)⟩
def Pe:ZX 21 40 3 3 Bi Nr:=av <| by
 rintro ts Q ⟨ns,side,m,rfl,sd,l,m1,no,mn,nb,q⟩;refine⟨O,?_⟩;unfold lO at no;obtain⟨k,rfl⟩:∃k:Nat,side=k:=⟨side.toNat,ca⟩;simp only[QV] at nb q;have il:=zb ns k m;refine sF (bw (show ¬((ns.map m9).length:Int)<k by rw[ai];lia)) (sF (bw mn) (cl rfl ⟨ns,k,m,O,ca,cl rfl ⟨bW ns k m,O,λ n hn=>?_,ca,nb,O,q⟩ rfl⟩ rfl));unfold bW at hn;simp only[cr,aJ] at hn
 rcases hn with (h|h)|h
 .exact sd n (s0q h)
 .lia
 .exact sd n (s0p h)
def Pf:ZX 22 41 2 2 Bj Nt:=av <| by
 rintro ts Q ⟨ns,ms,rfl,sd,sm',l,nb,e,q⟩;refine⟨O,?_⟩;exact cl rfl ⟨ms,O,sm',ca,nb,cl rfl ⟨_,O,ns,.inl rfl,sd,cl rfl ⟨_,O,ms,.inl rfl,sm',BT,sF (YR e) ⟨O,q⟩⟩ rfl⟩ rfl⟩ rfl
def Pg:ZX 23 42 3 3 Bk Nu:=av <| by
 rintro ts Q ⟨ns,ms,side,rfl,hn,hm,l,ll,no,c,nb,q⟩;refine⟨O,BT,sF (YR (by rw[ai,ai,ll])) (cl rfl ⟨ns,side,O,no,?_⟩ rfl)⟩;obtain⟨k,rfl,hk⟩:=dU no;simp only[QV] at c;have n1:=hn _ (getD_mem hk);have n2:=hm _ (getD_mem (ns:=ms) (k:=k) ca);refine cl rfl ⟨ns,k,O,ca,hk,cl rfl ⟨ms,k,O,ca,ca,Xu _,sF ?_ ?_⟩ rfl⟩ rfl
 .show(!_L.eqT (n6 ((ns.eraseIdx k).map m9)) (n6 ((ms.eraseIdx k).map m9)))=QL;rw[nU,c];simp
 .refine⟨_,cH hk,_,cH (ns:=ms) ca,cl rfl ⟨ns,k,_,O,ca,hk,cl rfl ⟨_,O,λ n hn'=>?_,by rw[cF];lia,nb,O,q⟩ rfl⟩ rfl⟩
  rcases nS hn' with z|z
  .exact Kg hn n z
  .lia
def Ph:ZX 24 43 2 2 Bl Nv:=av <| by
 rintro ts Q ⟨ns,ms,rfl,c,q⟩;refine⟨O,?_⟩;have e1:aq (ms.map m9) QM (QJ (((ns.map m9).length:Nat):Int))=ns.map m9:=by rw[ai,eY,c]
 exact⟨by show _L.dp 99 (n6 (aq (ms.map m9) QM (QJ (((ns.map m9).length:Nat):Int))));rw[e1];exact Xu ns,sF (by show(!_L.eqT (n6 (aq (ms.map m9) QM (QJ (((ns.map m9).length:Nat):Int)))) (n6 (ns.map m9)))=QL;rw[e1,nU];simp) ⟨O,q⟩⟩
def Pi:ZX 25 44 2 2 Bm Nw:=av <| by
 rintro ts Q ⟨ns,ms,rfl,c,q⟩;refine⟨O,?_⟩;unfold cG at c;unfold bV at q;refine s2 (λ h=>?_) (λ h=>?_)
 .have h:(((ms.map m9).length:Nat):Int)<((ns.map m9).length:Nat):=aD h;rw[ai,ai] at h;rw[m7 ca] at c q;exact cl rfl ⟨ms,ns,O,c,O,q⟩ rfl
 .have h:¬(((ms.map m9).length:Nat):Int)<((ns.map m9).length:Nat):=gG h;rw[ai,ai] at h;rw[k9 ca] at c q;exact cl rfl ⟨ns,ms,O,c,O,q⟩ rfl
def Pj:ZX 26 45 3 3 Bn Nx:=av <| by
 rintro ts Q ⟨ns,ms,ks,rfl,c1,c2,q⟩;refine⟨O,?_⟩;exact cl rfl ⟨ns,ms,O,c1,cl rfl ⟨_,ks,O,c2,O,q⟩ rfl⟩ rfl
def Pk:ZX 27 46 2 2 Bo Ny:=av <| by
 rintro ts Q ⟨n,r,ms,rfl,sd,sm',l1,l2,n0,nb,q⟩;refine⟨O,?_⟩;have e1:aq ((n::r).map m9) (QJ 1) QM=r.map m9:=eZ (n::r) 1;have lc:(aq ((n::r).map m9) (QJ 1) QM).length<=20:=by rw[e1,ai];lia
 refine⟨BT,.int n,im (j:=0) rfl,BT,sN (λ h=>m8 h n0) (λ _=>⟨bq (show(ms.map m9).length+(aq ((n::r).map m9) (QJ 1) QM).length<=1000 by rw[ai];lia),cl rfl ⟨ms++r,?_,λ x hx=>?_,by rw[aK];lia,nb,O,q⟩ rfl⟩)⟩
 .show[n6 (ms.map m9++aq ((n::r).map m9) (QJ 1) QM)]=[tI (ms++r)];rw[e1,<- bD];rfl
 .rcases cr.mp hx with h|h
  .exact sm' x h
  .exact sd x (bg _ h)
def Pl:ZX 28 47 2 2 Bp Nz:=av <| by
 rintro ts Q ⟨ns,side,rfl,l,no,q⟩;refine⟨O,?_⟩;refine cl rfl ⟨ns,side,O,no,?_⟩ rfl;obtain⟨k,rfl,hk⟩:=dU no;simp only[QV] at q;exact cl rfl ⟨ns,k,O,l,hk,O,q⟩ rfl
def Pm:ZX 29 48 2 2 Bq NA:=av <| by
 rintro ts Q ⟨ns,side,rfl,sd,l,nb,no,q⟩;refine⟨O,?_⟩;exact cl rfl ⟨ns,O,sd,ca,nb,cl rfl ⟨ns,side,O,no,O,q⟩ rfl⟩ rfl
def Pn:ZX 30 50 1 1 Br NB:=av <| by
 rintro ts Q ⟨d,rfl,hw,q⟩;refine⟨O,?_⟩
 cases d with
 |each w a=>exact⟨_,rfl,trivial,_,rfl,cl rfl ⟨w,0,rfl,hw,_,rfl,trivial,_,rfl,rfl,VJ,rfl,YS,q⟩ rfl⟩
 |pair w a b=>exact⟨_,rfl,trivial,_,rfl,trivial,_,rfl,cl rfl ⟨w,0,0,rfl,⟨on,on⟩,⟨on,on⟩,hw,_,rfl,rfl,VJ,rfl,YS,q⟩ rfl⟩
 |fold w a s|run w a s=>exact⟨_,rfl,trivial,_,rfl,trivial,_,rfl,rfl,VJ,rfl,YS,_,rfl,cl rfl ⟨w,rfl,hw,q⟩ rfl⟩
 |_=>exact⟨_,rfl,trivial,_,rfl,trivial,_,rfl,rfl,VJ,rfl,YS,q⟩
def Po:ZX 31 51 1 1 Bt NC:=av <| by
 rintro ts Q ⟨d,S,Ss,rfl,k3,ok,fs,q⟩;refine⟨O,?_⟩;have sd:=dD fs;have s6:=fs.2.1
 cases d with
 |inp ms=>obtain⟨rfl,nb⟩:=ok;exact⟨_,rfl,trivial,_,rfl,cl rfl ⟨S,rfl,sd,ca,nb,rfl,q⟩ rfl⟩
 |count ms k=>obtain⟨rfl,nb,no⟩:=ok;exact⟨_,rfl,trivial,_,rfl,trivial,_,rfl,_,rfl,cl rfl ⟨S,k,rfl,sd,ca,nb,no,rfl,q⟩ rfl⟩
 |num n=>obtain⟨rfl,_⟩:=ok;exact⟨_,rfl,trivial,_,rfl,trivial,rfl,Wn,rfl,q⟩
 |_=>exact m8 k3 (gG rfl)
def Pp:ZX 32 52 3 2 Bu ND:=av <| by
 rintro ts Q ⟨d,S,A,Ss,a,rfl,ha,ea,fA,ok,fs,q⟩;refine⟨O,?_⟩;have sd:=dD fs;have Vy:=dD fA;have s6:=fs.2.1;have a6:=fA.2.1
 cases d with
 |each w a=>
  cases ha;cases ok.1.symm.trans ea;exact⟨_,O,O,BT,BT,BT,BT,BT,BT,BT,O,q⟩
 |turn a os=>
  cases ha;obtain⟨A',ea',tk,rfl⟩:=ok;cases ea'.symm.trans ea;exact⟨_,O,O,BT,_,O,cl rfl ⟨A,os,O,ca,by rw[tk.length_eq,fQ];lia,tk,O,q⟩ rfl⟩
 |flip a s=>
  cases ha;obtain⟨ea',no⟩:=ok;cases ea'.symm.trans ea;exact⟨_,O,O,BT,BT,_,O,cl rfl ⟨S,s,O,no,O,q⟩ rfl⟩
 |cut a s f m g=>
  cases ha;obtain⟨A',ea',no,nb,m5,rfl⟩:=ok;cases ea'.symm.trans ea;exact⟨_,O,O,BT,BT,BT,_,O,_,O,_,O,_,O,cl rfl ⟨A,s,f,m,g,O,ca,by unfold XB at nb;lia,ca,no,nb,O,q⟩ rfl⟩
 |spread a s m=>
  cases ha;obtain⟨A',ea',no,nm,m5,nb,rfl⟩:=ok;cases ea'.symm.trans ea;exact⟨_,O,O,BT,BT,BT,BT,_,O,_,O,cl rfl ⟨A,s,m,O,Vy,ca,ca,no,nm,nb,O,q⟩ rfl⟩
 |lay a ms=>
  cases ha;obtain⟨A',ea',nb,e,rfl⟩:=ok;cases ea'.symm.trans ea;exact⟨_,O,O,BT,BT,BT,BT,BT,_,O,cl rfl ⟨A,S,O,Vy,sd,ca,nb,e,O,q⟩ rfl⟩
 |fold w a s=>
  cases ha;obtain⟨A',ea',hw,no,rfl⟩:=ok;cases ea'.symm.trans ea;exact⟨_,O,O,BT,BT,BT,BT,BT,BT,_,O,cl rfl ⟨A,s,O,ca,no,O,q⟩ rfl⟩
 |run w a s=>
  cases ha;obtain⟨ea',hw,no⟩:=ok;cases ea'.symm.trans ea;exact⟨_,O,O,BT,BT,BT,BT,BT,BT,BT,_,O,cl rfl ⟨S,s,O,no,O,q⟩ rfl⟩
 |_=>cases ha
def Pq:ZX 33 53 4 2 Bv NE:=av <| by
 rintro ts Q ⟨t,d,S,Ss,rfl,ht,fS,ok,fs,q⟩;refine⟨O,?_⟩;subst ht
 cases d with
 |pair w a b=>
  obtain⟨A,B,ea,eb,hw,po,rfl⟩:=ok;exact cl rfl ⟨(Stp.pair w a b),O,hw,cl rfl ⟨(Stp.pair w a b),O,Xn (cP rfl),tI A,aB ea,O,tI B,aB eb,O,O,_,O,O,BT,BT,BT,_,O,_,O,cl rfl ⟨A,B,O,po,O,q⟩ rfl⟩ rfl⟩ rfl
 |join a b s=>
  obtain⟨A,B,ea,eb,ll,no,ee,nb,rfl⟩:=ok;have fA:=fS _ (aC ea);have fB:=fS _ (aC eb);have a6:=fA.2.1;exact cl rfl ⟨(Stp.join a b s),O,BT,cl rfl ⟨(Stp.join a b s),O,Xn (cP rfl),tI A,aB ea,O,tI B,aB eb,O,O,_,O,O,BT,BT,BT,BT,_,O,_,O,_,O,cl rfl ⟨A,B,s,O,zE fA,zE fB,ca,ll,no,ee,nb,O,q⟩ rfl⟩ rfl⟩ rfl
 |fetch a b=>
  obtain⟨n,r,B,ea,n0,eb,nb,rfl⟩:=ok;have fA:=fS _ (aC ea);have fB:=fS _ (aC eb);have a6:=fA.2.1;have b6:=fB.2.1;rw[Rs] at a6;exact cl rfl ⟨(Stp.fetch a b),O,BT,cl rfl ⟨(Stp.fetch a b),O,Xn (cP rfl),tI (n::r),aB ea,O,tI B,aB eb,O,O,_,O,O,BT,BT,BT,BT,BT,_,O,_,O,cl rfl ⟨n,r,B,O,dD fA,dD fB,ca,ca,n0,nb,O,q⟩ rfl⟩ rfl⟩ rfl
 |pick a b c=>
  obtain⟨A,B,C,ea,eb,ec,p1,p2,rfl⟩:=ok;exact cl rfl ⟨(Stp.pick a b c),O,BT,cl rfl ⟨(Stp.pick a b c),O,Xn (cP rfl),tI A,aB ea,O,tI B,aB eb,O,tI C,aB ec,O,O,_,O,O,BT,BT,BT,BT,BT,_,O,_,O,_,O,cl rfl ⟨A,B,C,O,p1,p2,O,q⟩ rfl⟩ rfl⟩ rfl
 |_=>first|exact cl rfl ⟨_,rfl,uB ok,cl rfl ⟨_,rfl,Xn (cP rfl),rfl,_,rfl,rfl,trivial,cl rfl ⟨_,S,Ss,rfl,cP rfl,ok,fs,rfl,q⟩ rfl⟩ rfl⟩ rfl|exact cl rfl ⟨_,rfl,uB ok,cl rfl ⟨_,rfl,Xn (cP rfl),tI S,aB ok.1,rfl,rfl,_,rfl,rfl,trivial,trivial,_,rfl,cl rfl ⟨_,S,S,Ss,_,rfl,rfl,ok.1,fS _ (aC ok.1),ok,fs,rfl,q⟩ rfl⟩ rfl⟩ rfl|(obtain⟨A,ea,_⟩:=id ok;exact cl rfl ⟨_,rfl,uB ok,cl rfl ⟨_,rfl,Xn (cP rfl),tI A,aB ea,rfl,rfl,_,rfl,rfl,trivial,trivial,_,rfl,cl rfl ⟨_,S,A,Ss,_,rfl,rfl,ea,fS _ (aC ea),ok,fs,rfl,q⟩ rfl⟩ rfl⟩ rfl)
def Ps:ZX 34 54 3 2 Bw NF:=av <| by
 rintro ts Q ⟨t,d,S,Ss,rfl,ht,fS,l40,ok,fs,q⟩;refine⟨O,?_⟩;have al:=uC ok;have a3:=KY d;subst ht;refine⟨O,sF (bw (show ¬(40:Int)<=((Ss.map tI).length:Nat) by rw[ag];lia)) (cl rfl ⟨d,O,by rw[ag,ag];exact Xn a3,zH (l:=ah d) (f:=λ a:Nat=>.int (a:Int)) (by rw[cg];rfl) (λ _=>.bl QL) (λ a ha=>?_) ⟨(ah d).map λ _=>QL,by rw[cg];rfl,sF pv (cl rfl ⟨_,d,S,Ss,O,O,fS,ok,fs,O,VJ,O,q⟩ rfl)⟩⟩ rfl)⟩;refine⟨O,?_⟩;have:=al a ha;show TV.bl (decide (((Ss.map tI).length:Nat)<=(a:Int)))=TV.bl QL;rw[ag,bw ca]
def Pt:ZX 35 55 6 1 Bx NG:=av <| by
 rintro ts Q ⟨ds,Ss,os,mo,rfl,gd,q⟩;refine⟨O,?_⟩;obtain⟨hmo,gl,d0,d40,o0,o8,ho⟩:=gd;refine⟨_,O,O,_,O,O,O,bY _,O,O,?_⟩;refine bI (λ i ρ=>∃y z,ρ=[QJ (.tup [.tup (ds.map VB),tI os]),QJ (.tup (ds.map VB)),QJ (tI os),QJ (.own ((Ss.take i).map tI)),y,z]) ⟨_,_,O⟩ (λ i u ρ hu ⟨y,z,e⟩=>?_) (λ ρ ⟨y,z,e⟩=>?_)
 .subst e;obtain⟨d,rfl,ed⟩:=Lf hu;have idl:=(aN.mp ed).1;have il:i<Ss.length:=by rw[<- gl.1];exact idl
  have eS:=aL il;generalize Ss[i]=S at eS;have ok:=gl.2.2 i d S ed eS;have fs:=gl.2.1 S (aC eS);exact WX rfl ⟨_,d,S,Ss.take i,O,O,λ T hT=>jv (gl.2.1 T (s0q hT)) hmo,by rw[bh];lia,ok,jv fs hmo,LF2 S,O,_,O,O,_,O,O,by rw[ag,bh];exact aO ca,_,_,by rw[gA,eS,bD];rfl⟩
 .subst e;rw[ag,ce (by rw[gl.1];exact ak _)];refine sT (bJ (show(1:Int)<=((os.map m9).length:Nat) by rw[ai];lia)) (sF (by rw[bJ (show(((os.map m9).length:Nat):Int)<=8 by rw[ai];lia)];rfl) ⟨by rw[ai];exact aO ca,bX .int (λ _=>.bl QL) os (λ o ho'=>?_) ⟨os.map λ _=>QL,by rw[cg];rfl,sF pv ⟨O,VJ,O,q⟩⟩⟩);have b:=ho o ho';refine sF (bw (show ¬o<0 by lia)) ⟨O,?_⟩;show TV.bl (decide (((ds.map VB).length:Nat)<=o))=TV.bl QL;rw[ag,bw ca]
def Pu:ZX 36 56 3 1 By NH:=av <| by
 rintro ts Q ⟨ds,Ss,os,mo,rfl,gd,q⟩;refine⟨O,?_⟩;exact cl rfl ⟨ds,Ss,os,mo,O,gd,O,_,O,O,O,_,O,O,q⟩ rfl
def Pv:ZX 37 58 1 1 Bz NI:=av <| by
 rintro ts Q ⟨ns,rfl,sd,l,q⟩;refine⟨O,?_⟩;exact cl rfl ⟨ns,O,sd,l,O,VP,O,q⟩ rfl
def Pw:ZX 38 59 5 2 BA NJ:=av <| by
 rintro ts Q ⟨ns,ss,os,b,rfl,l,sl,s6,t,q⟩;refine⟨O,?_⟩;have ol:=zF t;have tl:(cq ns os).length=ns.length:=by unfold cq;rw[ag,ol]
 refine⟨_,O,cl rfl ⟨ns,os,O,ca,ca,t,O,?_⟩ rfl⟩;have om:∀o∈os,0<=o/\o<(ns.length:Int):=λ o ho=>up_mem.mp (t.subset ho);have e1:aq (ss.map m9) (QJ (((cq ns os).map m9).length:Nat)) QM=(ss.drop ns.length).map m9:=by rw[ai,tl,eZ]
 refine⟨_,O,O,by rw[ai];exact aO ca,bX m9 (λ o:Int=>.int (ss.getD o.toNat 0)) os (λ o ho=>?_) ⟨O,_,O,?_⟩⟩
 .have:=om o ho;exact⟨.int (ss.getD o.toNat 0),uE ca ca,O,O⟩
 have z:(os.map λ o:Int=>m9 (ss.getD o.toNat 0))=(cq ss os).map m9:=by unfold cq;rw[cg];rfl
 refine⟨?_,O,VP,O,?_⟩
 .show(os.map λ o:Int=>m9 (ss.getD o.toNat 0)).length+(aq (ss.map m9) (QJ (((cq ns os).map m9).length:Nat)) QM).length<=QR;rw[e1,ag,ai,da];exact bq ca
 .show Q (.tup [tI (cq ns os),.int b,.tup ((os.map λ o:Int=>m9 (ss.getD o.toNat 0))++aq (ss.map m9) (QJ (((cq ns os).map m9).length:Nat)) QM)]);rw[e1,z,<- bD];exact q
def Px:ZX 39 60 5 2 BB NK:=av <| by
 rintro ts Q ⟨ns,ss,b,k,rfl,l,sl,s6,kl,nb,q⟩;refine⟨O,?_⟩;have n5:=nb (ns.getD k 0) (gZ kl);refine⟨_,O,cl rfl ⟨ns,(k:Int),O,by unfold Wl;lia,O,?_⟩ rfl⟩;refine⟨_,O,.int (ss.getD k 0),cH ca,O,_,O,.int (ns.getD k 0),cH kl,iF ca ca,O,_,O,?_⟩;exact cl rfl ⟨ss,k,_,O,ca,ca,O,VP,O,q⟩ rfl
def Py:ZX 40 61 7 5 BC NL:=av <| by
 rintro ts Q ⟨ns,ss,b,f,m,g,k,rfl,l,sl,s6,kl,m5,nb,q⟩;refine⟨O,?_⟩;have nb':=nb;unfold XB at nb';refine⟨_,O,cl rfl ⟨ns,(k:Int),f,m,g,O,ca,ca,ca,by unfold Wl;lia,nb,O,?_⟩ rfl⟩;rw[QV];refine⟨_,O,.int (ss.getD k 0),cH ca,O,_,O,iF ca ca,_,O,iE ca ca,?_⟩;exact cl rfl ⟨ss,k,_,O,ca,ca,O,VP,O,q⟩ rfl
def Pz:ZX 41 62 4 3 BD NM:=av <| by
 rintro ts Q ⟨ns,ss,b,m,k,rfl,sd,l,sl,s6,kl,m0,m1,nb,q⟩;refine⟨O,_,O,cl rfl ⟨ns,(k:Int),m,O,sd,ca,m1,by unfold lO;lia,ca,by rw[QV];exact nb,O,?_⟩ rfl⟩;rw[QV];exact⟨_,O,_,O,cl rfl ⟨ss,k,0,O,ca,O,VP,O,q⟩ rfl⟩
def PB:ZX 42 63 5 2 BE NN:=av <| by
 rintro ts Q ⟨ns,ms,ss,b,rfl,hp,nl,ml,sl,q⟩;refine⟨O,?_⟩;have le:ns.length<=ms.length:=by rw[<- hp,bh];lia
 have e1:(aq (ss.map m9) QM (QJ (((ns.map m9).length:Nat):Int)))=(ss.take ns.length).map m9:=by rw[ai,eY]
 have e2:(aq (ss.map m9) (QJ (((ns.map m9).length:Nat):Int)) QM)=(ss.drop ns.length).map m9:=by rw[ai,eZ]
 have e3:(QT ((((ms.map m9).length:Nat):Int)-(((ns.map m9).length:Nat):Int)).toNat (RE TV.fz [m9 0])).flatten=(eV (ms.length-ns.length)).map m9:=by rw[ai,ai];exact Ly _ _
 have l1:(ss.take ns.length).length<=60:=by rw[bh];lia
 have l2:(ss.drop ns.length).length<=60:=by rw[da];lia
 have l3:(eV (ms.length-ns.length)).length<=6:=by rw[qr];lia
 refine⟨_,O,cl rfl ⟨ns,ms,O,hp,?_⟩ rfl⟩;refine⟨_,O,O,_,O,O,O,WC,pv,⟨by rw[ai,ai];lia,by rw[ai,ai];lia⟩,?_,O,_,O,?_,?_,O,VP,O,?_⟩
 .rw[ai,ai];exact bq (by show 1*_<=1000;lia)
 .rw[e1,e3,ai,ai];exact bq ca
 .rw[e1,e2,e3,aK,ai,ai,ai];exact bq ca
 .show Q (.tup [tI ms,.int b,.tup (aq (ss.map m9) QM (QJ (((ns.map m9).length:Nat):Int))++(QT ((((ms.map m9).length:Nat):Int)-(((ns.map m9).length:Nat):Int)).toNat (RE TV.fz [m9 0])).flatten++aq (ss.map m9) (QJ (((ns.map m9).length:Nat):Int)) QM)]);rw[e1,e2,e3,<- bD,<- bD];exact q
def PD:ZX 43 64 4 2 BF NO:=av <| by
 rintro ts Q ⟨ns,ss,b,k,rfl,l,sl,s6,kl,q⟩;refine⟨O,?_⟩;have el:(ns.eraseIdx k).length=ns.length-1:=by rw[oi,m7 kl]
 refine⟨_,O,cl rfl ⟨ns,(k:Int),O,ca,by unfold Wl;lia,?_⟩ rfl⟩;rw[QV];refine⟨O,_,O,O,_,O,cl rfl ⟨ss,k,O,ca,ca,?_⟩ rfl⟩;exact⟨.int (ss.getD k 0),cH ca,cl rfl ⟨ss.eraseIdx k,ns.length-1,_,by rw[ai,el];rfl,by rw[oi];split<;>lia,O,VP,O,q⟩ rfl⟩
def PF:ZX 44 65 2 2 BG NP:=av <| by
 rintro ts Q ⟨d,A,S,ss,b,Ss,rfl,m4,ea,fA,ok,sl,s6,q⟩;refine⟨O,?_⟩;have sd:=dD fA;have l6:=fA.2.1
 cases d with
 |turn a os=>
  obtain⟨A',e2,tk,rfl⟩:=ok;cases bN (ea.symm.trans e2);exact⟨_,O,BT,_,O,cl rfl ⟨A,ss,os,b,O,l6,sl,s6,tk,O,q⟩ rfl⟩
 |flip a s=>
  obtain⟨e2,no⟩:=ok;cases bN (ea.symm.trans e2);obtain⟨k,rfl,kl⟩:=dU no;exact⟨_,O,BT,_,O,BT,_,O,cl rfl ⟨A,ss,b,k,O,l6,sl,s6,kl,fA.1,O,q⟩ rfl⟩
 |cut a s f m g=>
  obtain⟨A',e2,no,nb,m5,rfl⟩:=ok;cases bN (ea.symm.trans e2);obtain⟨k,rfl,kl⟩:=dU no;exact⟨_,O,BT,_,O,BT,_,O,BT,_,O,_,O,_,O,_,O,cl rfl ⟨A,ss,b,f,m,g,k,O,l6,sl,s6,kl,m5,nb,O,q⟩ rfl⟩
 |spread a s m=>
  obtain⟨A',e2,no,m0,m5,nb,rfl⟩:=ok;cases bN (ea.symm.trans e2);unfold lO at no;obtain⟨k,rfl⟩:∃k:Nat,s=k:=⟨s.toNat,ca⟩;exact⟨_,O,BT,_,O,BT,_,O,BT,_,O,_,O,cl rfl ⟨A,ss,b,m,k,O,sd,l6,sl,s6,ca,ca,ca,nb,O,q⟩ rfl⟩
 |_=>exact m4.elim
def PH:ZX 45 67 1 1 BH NQ:=av <| by
 rintro ts Q ⟨t,rfl,q⟩;refine⟨O,?_⟩;cases t<;>exact⟨_,rfl,rfl,VP,rfl,Lw,rfl,q⟩
def PJ:ZX 46 68 2 1 BJ NR:=av <| by
 rintro ts Q ⟨t,rfl,q⟩;refine⟨O,?_⟩
 cases t with
 |pick a b c=>exact⟨_,rfl,rfl,trivial,rfl,q⟩
 |each w t|pair w a b=>exact⟨_,rfl,rfl,trivial,rfl,VJ,rfl,qF,rfl,q⟩
 |fold w n t=>exact⟨_,rfl,rfl,trivial,rfl,VJ,rfl,qF,trivial,rfl,q⟩
 |fetch st s r n ss t=>exact⟨_,rfl,rfl,trivial,rfl,VJ,rfl,qF,trivial,trivial,rfl,q⟩
 |_=>exact⟨_,rfl,rfl,trivial,rfl,VJ,rfl,qF,trivial,trivial,rfl,Wn,rfl,q⟩
def PL:ZF 47 [] 70 (WW 70) 4 2 BK NS:=by
 refine⟨by kernel_rfl,?_⟩;rintro Φ fa ts P' ⟨t,g,rfl,hg,q⟩;refine⟨O,?_⟩;have ap:∀(p:Int×LI) (Q:TV->Prop),p∈Zu t->Q (.tup [.int (g p.1 p.2).1,tI (g p.1 p.2).2])->∃P1,(∃S,(Ft 48++[Xd [] Φ fa])[48]?=QJ S/\S (.str "" :: .obj (.fn fa)::[.int p.1,tI p.2]) P1)/\∀t,P1 t->Q t:=λ p Q hp hq=>⟨Q,⟨_,rfl,.inl ⟨_,rfl,hg p hp Q hq⟩⟩,λ _ h=>h⟩
 cases t with
 |idx s ss=>exact⟨_,rfl,rfl,trivial,rfl,WC,rfl,_,rfl,_,rfl,rfl,ap (s,ss) _ bc ⟨bq (show 1+2<=1000 by decide),rfl,q⟩⟩
 |read st s ss=>exact⟨_,rfl,rfl,trivial,trivial,_,rfl,rfl,VJ,rfl,_,rfl,_,rfl,rfl,ap (s,ss) _ bc ⟨bq (show 2+2<=1000 by decide),rfl,q⟩⟩
 |fetch st s r n ss t=>exact⟨_,rfl,rfl,trivial,trivial,trivial,rfl,_,rfl,_,rfl,rfl,ap (s,ss) _ bc ⟨rfl,_,rfl,_,rfl,_,rfl,_,rfl,_,rfl,rfl,Ye,rfl,q⟩⟩
 |_=>exact⟨_,rfl,rfl,trivial,trivial,trivial,cl rfl ⟨_,rfl,rfl,q⟩ rfl⟩
def PP:Xy 47 70 (WW 70) 4 2 zO .never:=⟨by kernel_rfl,λ _ _ h=>h.elim⟩
def PQ:ZG 48 [("root_remade",BK)] "remade" 71 (WW 71) 4 2 BL NT:=by
 refine⟨by kernel_rfl,λ _ _ _ (h:False)=>h,?_⟩;rintro d Φ fa ts P' ⟨t,g,rfl,hd,hg,q⟩;refine⟨O,?_⟩;refine⟨O,Wn,O,cl rfl ⟨t,O,O,?_⟩ rfl⟩;refine bI (λ i ρ=>∃y,ρ=[QJ (VG t),QJ (.obj (.fn fa)),QJ (.own (((Xe t).take i).map λ b=>VG (rm g b))),y]) ⟨_,O⟩ (λ i u ρ hu h=>?_) (λ ρ h=>?_)
 .obtain⟨y,rfl⟩:=h;rw[aW] at hu;obtain⟨b,eb,rfl⟩:=jr.mp hu;have mb:=aC eb;have db:=zP mb;obtain⟨d,rfl⟩:∃d',d=d' + 1:=⟨d-1,ca⟩;have bl:=zQ t;refine⟨⟨_,O,.inr ⟨"remade",_,on,O,.inl rfl⟩⟩,O,_,⟨_,O,.inr ⟨"remade",_,on,O,.inr ⟨_,O,b,g,O,ca,λ p hp=>hg p (Lu mb p hp),O,?_,QJ (VG b),?_⟩⟩⟩,λ _ h=>h⟩
  .rw[ag,bh];exact aO ca
  .show[QJ (VG t),QJ (.obj (.fn fa)),QJ (TV.own (((Xe t).take i).map (λ b=>VG (rm g b))++[VG (rm g b)])),QJ (VG b)]=_;rw[gA,eb,bD];rfl
 .obtain⟨y,rfl⟩:=h;rw[ag,bG];have bl:=zQ t;have rl:=Lx (rm g t);refine⟨⟨_,O,.inr ⟨"root_remade",_,on,O,.inl rfl⟩⟩,O,_,⟨_,O,.inr ⟨"root_remade",_,on,O,.inr ⟨_,O,t,g,O,λ p hp=>hg p (Lv p hp),?_,O,?_⟩⟩⟩,λ _ h=>h⟩
  .rw[ag];exact bq ca
  .show P' (.tup (YT (rm g t)++(Xe t).map λ b=>VG (rm g b)));rw[Lr];exact q
def PR:Xy 48 71 (WW 71) 4 2 zO .never:=⟨by kernel_rfl,λ _ _ h=>h.elim⟩
def PU:ZE 49 69 "calls_of" (WW 69) 3 1 BM NV:=av <| by
 refine⟨λ ts Q h=>h,λ d ts Q h=>?_⟩;obtain⟨t,rfl,hd,fo,q⟩:=h;refine⟨O,?_⟩;refine cl rfl ⟨t,O,s2 (λ h=>⟨O,?_⟩) (λ h=>?_)⟩ rfl
 .have h:cy t=QK:=by cases t<;>exact h
  rw[mx h] at q;exact q
 have h:cy t=QL:=by cases t<;>exact h
 refine⟨O,cl rfl ⟨t,O,O,?_⟩ rfl⟩;refine bI (λ i ρ=>∃y,ρ=[QJ (VG t),QJ (.int (1+cS ((Xe t).take i))),y]) ⟨_,O⟩ (λ i u ρ hu h=>?_) (λ ρ h'=>?_)
 .obtain⟨y,rfl⟩:=h;rw[aW] at hu;obtain⟨b,eb,rfl⟩:=jr.mp hu;have mb:=aC eb;have db:=zP mb;obtain⟨d,rfl⟩:∃d',d=d' + 1:=⟨d-1,ca⟩;refine cl rfl ⟨b,O,ca,MP fo mb,O,QJ (VG b),?_⟩ rfl;rw[gA,eb];show _=[QJ (VG t),QJ (m9 (1+cS ((Xe t).take i++[b]))),QJ (VG b)];rw[MO,<- qY];rfl
 .obtain⟨y,rfl⟩:=h';rw[ag,bG]
  cases t with
  |fold w n t=>exact⟨_,rfl,trivial,_,rfl,iF (by have:=fo.1;lia) (by have:=fo.1;lia),rfl,by show Q (.int (n*(1+(cN t+0))));rw[dy];exact q⟩
  |each w t|fetch a b c e f t=>exact⟨_,rfl,trivial,rfl,by show Q (.int (1+(cN t+0)));rw[dy];exact q⟩
  |pair w a b=>exact⟨_,rfl,trivial,rfl,by show Q (.int (1+(cN a+(cN b+0))));rw[dy,<- qY];exact q⟩
  |pick a b c=>exact⟨_,rfl,trivial,rfl,by show Q (.int (1+(cN a+(cN b+(cN c+0)))));rw[dy,<- qY,<- qY];exact q⟩
  |_=>cases h
def PV:ZX 92 73 1 1 BO NW:=av <| by
 rintro ts Q ⟨ds,Ss,os,mo,rfl,gd,q⟩;refine⟨O,?_⟩;obtain⟨_,gl,d0,d40,o0,o8,ob⟩:=gd;exact⟨_,O,_,O,cl rfl ⟨_,ds,os,O,O,d40,ob,kt gl,O,q⟩ rfl⟩
def PX:ZX 93 74 6 1 BP NX:=av <| by
 rintro ts Q ⟨ds,Ss,os,mo,rfl,gd,q⟩;refine⟨O,?_⟩;obtain⟨_,gl,d0,d40,o0,o8,ob⟩:=id gd;have rl:=zX ds os;refine⟨_,O,O,O,by rw[ag];exact aO ca,λ as nd al=>?_⟩;rw[ag] at al;rw[al];refine cl rfl ⟨ds,Ss,os,mo,O,gd,O,?_⟩ rfl;refine bI (λ i ρ=>∃y3 y4 y5,ρ=[QJ (.tup [.tup (ds.map VB),tI os]),QJ (.tup (ds.map VB)),QJ (.obj (.lls as (Wp ds ((aE ds os).take i)))),y3,y4,y5]) ⟨_,_,_,O⟩ (λ i t ρ ht h=>?_) (λ ρ h=>?_)
 .obtain⟨y3,y4,y5,rfl⟩:=h;obtain⟨u,rfl,eu⟩:=uL ht;have ul:=(mem_reach.mp (aC eu)).1;have ed:=cI ul;have st:=oe (ds:=ds) eu;have ui:=(aN.mp eu).1;have bu:=qK (ds:=ds) (live:=aE ds os) i;have lu:=oa ds ((aE ds os).take i);rw[st];have hd:=kt gl _ (aC ed);generalize ds.getD u (.num 0)=d at ed hd;generalize Wp ds ((aE ds os).take i)=U at *;refine⟨VB d,aB ed,cl rfl ⟨d,O,O,?_⟩ rfl⟩;refine bI (λ j ρ=>∃y4 y5,ρ=[QJ (.tup [.tup (ds.map VB),tI os]),QJ (.tup (ds.map VB)),QJ (.obj (.lls as (Wi u ((ah d).take j) U))),QJ (.int u),y4,y5]) ⟨_,_,O⟩ (λ j t ρ ht h=>?_) (λ ρ h=>?_)
  .obtain⟨y4,y5,rfl⟩:=h;obtain⟨c,rfl,ec⟩:=Lg ht;rw[aW] at ec;obtain⟨a,ea,rfl⟩:=jr.mp ec;have al':=hd a (aC ea);have jl:=(aN.mp ea).1;have a3:=zW d;have ll:(Wi u ((ah d).take j) U).length=ds.length:=by rw[qI,lu]
   have bb:=qJ (u:=u) (as:=ah d) bu j;have eg:(Wi u ((ah d).take j) U)[a]?=QJ ((Wi u ((ah d).take j) U).getD a []):=by rw[aA,aL ca];rfl
   have lb:=bb _ (aC eg);exact⟨a,_,O,eg,ca,O,VJ,[(u:Int),(j:Int)],O,_,_,by rw[jA ea];rfl⟩
  .obtain⟨y4,y5,rfl⟩:=h;rw[iQ,ag,ag,bG];exact⟨_,_,_,O⟩
 .obtain⟨y3,y4,y5,rfl⟩:=h;rw[ag,bG];exact⟨O,q⟩
def PY:ZH 46 94 75 (WW 75) ["start","strides","sides","move"] ["start","strides"] [1,2] 3 4 3 (BL 42) qX NY NZ:=by
 refine⟨by kernel_rfl,?_⟩;rintro Φ fa ts P' ⟨t,S,h,rfl,hd,hm,q⟩;refine⟨O,?_⟩;refine⟨O,[tI S,.obj (.fn fa)],λ args Q=>∃p∈VX t,args=[.int p.1,tI p.2]/\Q (.tup [.int (h p.1 p.2).1,tI (h p.1 p.2).2]),_,O,λ u hu=>?_,⟨t,h,O,hd,λ p hp Q hq=>⟨p,hp,O,hq⟩,O⟩,?_,λ t e=>e ▸ q⟩
 .rcases aH.mp hu with rfl|hu
  .exact .inl (nX S)
  .cases aJ.mp hu;exact .inr ⟨fa,rfl⟩
 .rintro args P'' ⟨p,hp,rfl,hq⟩;obtain⟨S',hφ⟩:=hm p hp;exact⟨O,O,O,VP,O,_,⟨_,O,.inl ⟨_,O,hφ _ ⟨O,hq⟩⟩⟩,λ _ h=>h⟩
def PZ:Xy 94 75 (WW 75) 3 3 zO .never:=⟨by kernel_rfl,λ _ _ h=>h.elim⟩
def Qa:ZM 45 95 76 (WW 76) ["view","longer"] ["view"] [2] 3 2 3 qX BQ Oa Ob Oc:=av <| by
 rintro ts Q ⟨t,S,L,rfl,hd,hl,hp,s6,l6,q⟩;refine⟨O,O,[tI L],λ args Q=>∃p∈VX t,args=[Wo S p.1 p.2]/\Q (Wo L p.1 (iG S.length (L.length-S.length) p.1 p.2).2),_,O,λ u hu=>?_,⟨t,S,iG S.length (L.length-S.length),O,hd,λ p hp=>⟨L,λ Q hq=>⟨p,hp,O,hq⟩⟩,O⟩,?_,λ t e=>e ▸ q⟩
 .cases aJ.mp hu;exact .inl (nX L)
 .rintro args P'' ⟨p,hp',rfl,hq⟩;exact⟨O,cl rfl ⟨S,L,p.2,p.1,O,hp,s6,l6,(hl p hp').2,O,hq⟩ rfl⟩
def Qb:ZM 45 96 77 (WW 77) ["view","side"] ["view"] [2] 3 2 3 qX BR Od Oe Of:=av <| by
 rintro ts Q ⟨t,S,k,rfl,hd,hl,s6,kl,q⟩;refine⟨O,O,[.int k],λ args Q=>∃p∈VX t,args=[Wo S p.1 p.2]/\Q (Wo (S.eraseIdx k) p.1 (fb S.length k p.1 p.2).2),_,O,λ u hu=>?_,⟨t,S,fb S.length k,O,hd,λ p hp=>⟨S.eraseIdx k,λ Q hq=>⟨p,hp,O,hq⟩⟩,O⟩,?_,λ t e=>e ▸ q⟩
 .cases aJ.mp hu;exact .inl (by simp[LF])
 .rintro args P'' ⟨p,hp',rfl,hq⟩;exact⟨O,cl rfl ⟨S,p.2,p.1,k,O,s6,(hl p hp').1,(hl p hp').2,kl,O,hq⟩ rfl⟩
def Qc:ZX 97 78 2 2 BS Og:=av <| by
 rintro ts Q ⟨st,S,rfl,sd,l,q⟩;refine⟨O,?_⟩;exact cl rfl ⟨S,O,sd,l,O,Wx,O,q⟩ rfl
def Qd:ZX 98 79 8 4 BU Oh:=av <| by
 rintro ts Q ⟨a,b,n,r,B,S,ss,st,s,t,Ss,Ts,rfl,ea,eb,eta,etb,s0,s6,b6,S6,hp,hd,hl,q⟩;refine⟨O,?_⟩;have e1:aq (ss.map m9) (QJ 1) QM=(ss.drop 1).map m9:=eZ ss 1;have e3:(QT (((B.map m9).length:Nat):Int).toNat (RE TV.fz [m9 0])).flatten=(eV B.length).map m9:=by rw[ai];exact LK _
 refine⟨_,O,VG (.read st s ss),aB eta,O,_,O,tI B,aB eb,O,O,WC,pv,⟨by rw[ai];lia,by rw[ai];lia⟩,by rw[ai];exact bq (by show 1*_<=1000;lia),_,O,?_,O,_,O,VG t,aB etb,?_⟩
 .rw[e3,e1,ai,ai,qr,da];exact bq ca
 .refine cl rfl ⟨t,B,S,O,hd,hl,hp,b6,S6,O,_,O,_,O,_,O,_,(show VY (ss.map m9) 0=QJ (.int (ss.getD 0 0)) from cH (k:=0) s0),_,O,tI (n::r),aB ea,.int n,cH (ns:=n::r) (k:=0) pv,O,Zr,O,?_⟩ rfl;show Q (.tup [.str "fetch",.int st,.int s,.int (ss.getD 0 0),.int n,.tup ((QT (((B.map m9).length:Nat):Int).toNat (RE TV.fz [m9 0])).flatten++aq (ss.map m9) (QJ 1) QM),VG (rm (iG B.length (S.length-B.length)) t)]);rw[e3,e1,<- bD];exact q
def Qe:ZN 45 99 5 80 (WW 80) ["view","step"] ["view"] [0] 8 2 4 qX BV Oi Oj BW Ol Om:=av <| by
 rintro ts Q ⟨d,S,Ss,Ts,rfl,ok,fS,fs,⟨hA,hlay,hfet⟩,q⟩;refine⟨O,?_⟩;have S6:=fs.2.1;have sd:=dD fs
 rcases Bool.eq_false_or_eq_true (Aa d) with hl|n
 .obtain⟨m,c1,c2,c3,a3,e⟩:=LH (Ts:=Ts) (Ss:=Ss) (S:=S) hl;rw[e] at q;refine⟨_,cX d,O,cl rfl ⟨d,O,O,BT,sF c1 ⟨BT,sF c2 ⟨O,VP,O,lX,sT c3 ⟨O,by rw[ag,ag];exact aO ca,zH (l:=ah d) (f:=λ a:Nat=>m9 (a:Int)) (cg ..) (λ a=>VG (bE Ts Ss S a)) (λ a ha=>?_) ⟨bq a3.2,O,q⟩⟩⟩⟩⟩ rfl⟩;obtain⟨t,A,et,eA,wf⟩:=hA a ha;obtain⟨A',eA',hp⟩:=uM ok m a ha;cases eA.symm.trans eA';have a6:=(fS A (aC eA)).2.1;have w:=og wf a6 (ak _);exact⟨VG t,aB et,tI A,aB eA,cl rfl ⟨t,A,S,O,w.1,w.2,hp,a6,S6,O,by unfold bE;rw[dF et,Wk eA];rfl⟩ rfl⟩
 have mvd:Yf d->∀q':Q (Wj (cE Ts Ss S d)),∀t A,Ts[(ah d).headD 0]?=QJ (QJ t)->Ss[(ah d).headD 0]?=QJ A->XR 40 A t->Q (VG (rm (eJ A d) t))/\fit A/\VL t<=41/\∀(args:List TV) (P'':TV->Prop),(∃p∈VX t,args=[Wo A p.1 p.2]/\P'' (Wo S (eJ A d p.1 p.2).1 (eJ A d p.1 p.2).2))->args.length=1/\wE (Wr DL 45) GT BW (Wf 2 (args++[VB d])) λ u=>u.pl=QK/\P'' u:=λ m q' t A et eA wf=>by
  have fA:=fS A (aC eA);have w:=og wf fA.2.1 (ak _);refine⟨?_,fA,w.1,?_⟩
  .rw[Ab m,dF et,Wk eA] at q';exact q'
  .rintro args P'' ⟨p,hp,rfl,hq⟩;have lp:=w.2 p hp;exact⟨O,cl rfl ⟨d,A,S,p.2,p.1,Ss,O,m,eA,fA,ok,lp.1,lp.2,O,hq⟩ rfl⟩
 rcases Classical.em (Yf d) with m|m
 .obtain⟨a,ea,c1,c2,c3,c4⟩:=zZ m;obtain⟨t,A,et,eA,wf⟩:=hA a (by rw[ea];exact bc);obtain⟨q',fA,hd,hw⟩:=mvd m q t A (by rw[ea];exact et) (by rw[ea];exact eA) wf;have u0:VY (((ah d).map λ a:Nat=>(a:Int)).map m9) 0=QJ (.int a):=by rw[ea];rfl
  exact⟨_,cX d,O,cl rfl ⟨d,O,O,BT,sF c1 ⟨BT,sF c2 ⟨O,VP,O,lX,sF c3 ⟨O,Wx,O,oh,sT c4 ⟨_,u0,VG t,aB et,_,u0,tI A,aB eA,O,[VB _],λ args Q=>∃p∈VX t,args=[Wo A p.1 p.2]/\Q (Wo S (eJ A _ p.1 p.2).1 (eJ A _ p.1 p.2).2),_,O,λ u hu=>by cases aJ.mp hu;exact .inl (zK _),⟨t,A,eJ A _,O,hd,λ p hp=>⟨S,λ Q hq=>⟨p,hp,O,hq⟩⟩,O⟩,hw,λ t e=>e ▸ q'⟩⟩⟩⟩⟩ rfl⟩
 cases d with
 |num n=>exact⟨_,rfl,rfl,cl rfl ⟨_,rfl,rfl,trivial,rfl,q⟩ rfl⟩
 |count ms k=>
  refine⟨_,O,O,cl rfl ⟨_,O,O,BT,BT,⟨by rw[ai];lia,by rw[ai];lia⟩,by rw[ag,bL,ai,QV];exact aO ca,bX (λ i:Nat=>.int (i:Nat)) (λ j:Nat=>.int (if (j:Int)=k then 1 else 0)) (QW (((S.map m9).length:Nat):Int).toNat) (λ j hj=>⟨_,O,BT,sN (λ h=>⟨O,by rw[m7 h];rfl⟩) (λ h=>⟨O,by rw[k9 h];rfl⟩)⟩) ⟨O,VP,O,?_⟩⟩ rfl⟩;have e:(QW (((S.map m9).length:Nat):Int).toNat).map (λ j:Nat=>m9 (if (j:Int)=k then 1 else 0))=((QW S.length).map λ j:Nat=>if (j:Int)=k then (1:Int) else 0).map m9:=by rw[ai,QV,cg];rfl
  show Q (.tup [.str "index",.int 0,.tup _]);rw[e];exact q
 |each|pair|pick=>cases n
 |turn|flip|cut|spread=>exact m8 trivial m
 |lay a ms=>
  obtain⟨t,A,et,eA,wf⟩:=hA a (by simp[ah]);obtain⟨st,s,ss,e⟩:=hlay a ms rfl;rw[dF et] at e;subst e;refine⟨_,O,O,cl rfl ⟨_,O,O,BT,BT,O,VP,O,lX,O,Wx,O,oh,BT,_,O,VG (.read st s ss),aB et,_,O,cl rfl ⟨st,S,O,sd,ca,O,?_⟩ rfl⟩ rfl⟩;have z:Q (VG (.read (qL (gt Ts a)) 0 (bA S))):=q;rw[dF et] at z;exact z
 |fetch a b=>
  obtain⟨t,A,et,eA,wf⟩:=hA a (by simp[ah]);obtain⟨t',B,et',eB,wf'⟩:=hA b (by simp[ah]);obtain⟨n,r,B',ea,n0,eb,nb,rfl⟩:=ok;cases eB.symm.trans eb;cases eA.symm.trans ea;obtain⟨st,s,ss,e⟩:=hfet a b rfl;rw[dF et] at e;subst e;have a6:(n::r).length<=6:=(fS _ (aC eA)).2.1;have b6:=(fS B (aC eB)).2.1;have lp:=wf.2 (s,ss) bc;have w':=og wf' b6 (ak _);have l1:(n::r).length<=ss.length/\ss.length<=(n::r).length+0:=lp;rw[Rs] at l1 a6;refine⟨_,O,O,cl rfl ⟨_,O,O,BT,BT,O,VP,O,lX,O,Wx,O,oh,BT,BT,cl rfl ⟨a,b,n,r,B,_,ss,st,s,t',Ss,Ts,O,eA,eB,et,et',ca,ca,b6,S6,s0t,w'.1,w'.2,O,?_⟩ rfl⟩ rfl⟩;have z:Q (VG (kw (gt Ts a) (Vy Ss a) (Vy Ss b) (bE Ts Ss (B++r) b))):=q;unfold bE at z;rw[dF et,dF et',Wk eA,Wk eB] at z;exact z
 |fold w a side=>
  obtain⟨t,A,et,eA,wf⟩:=hA a (by simp[ah]);obtain⟨A',ea,hw,no,rfl⟩:=ok;cases eA.symm.trans ea;obtain⟨k,rfl,kl⟩:=dU no;have a6:=(fS A (aC eA)).2.1;have w':=og wf a6 (ak _);refine⟨_,O,O,cl rfl ⟨_,O,O,BT,BT,O,VP,O,lX,O,Wx,O,oh,BT,BT,BT,_,O,tI A,aB eA,O,_,O,_,O,.int (A.getD k 0),cH kl,_,O,VG t,aB et,_,O,cl rfl ⟨t,A,k,O,w'.1,w'.2,a6,kl,O,Wx,O,?_⟩ rfl⟩ rfl⟩;have z:Q (VG (.fold w ((Vy Ss a).getD k 0) (rm (fb (Vy Ss a).length k) (gt Ts a)))):=q;rw[dF et,Wk eA] at z;exact z
 |_=>exact⟨_,rfl,rfl,cl rfl ⟨_,rfl,rfl,trivial,trivial,rfl,VP,rfl,lX,rfl,Wx,rfl,oh,trivial,trivial,trivial,rfl,q⟩ rfl⟩
def Qf:ZX 100 81 6 4 BX On:=av <| by
 rintro ts Q ⟨ds,Ss,k,u,p,d,S,A,rfl,ed,eA,eS,q⟩;refine⟨O,?_⟩;unfold fV at q;rw[gD ed,Wk eA,Wk eS] at q;have fin:Q (.bl (decide ((((S.map m9).length:Nat):Int)<(((A.map m9).length:Nat):Int))))->Q (.bl (decide ((S.length:Int)<(A.length:Int)))):=λ z=>by rw[ai,ai] at z;exact z
 have fin':Q (.bl (decide ((S.length:Int)<(A.length:Int))))->Q (.bl (decide ((((S.map m9).length:Nat):Int)<(((A.map m9).length:Nat):Int)))):=λ z=>by rw[ai,ai];exact z
 cases d with
 |pair w a b|pick a b c=>exact⟨_,rfl,VB _,aB ed,_,rfl,rfl,rfl,VJ,rfl,uO,rfl,_,rfl,tI A,aB eA,tI S,aB eS,rfl,fin' q⟩
 |fetch a b=>
  have q:Q (.bl (decide (p=1)&&decide ((S.length:Int)<(A.length:Int)))):=q;refine⟨_,O,VB _,aB ed,_,O,O,O,VJ,O,uO,BT,_,O,BT,O,?_⟩;refine s2 (λ h=>?_) (λ h=>?_)
  .have h:decide (p=1)=QK:=h;rw[h] at q;exact⟨_,O,tI A,aB eA,tI S,aB eS,O,fin' q⟩
  .have h:decide (p=1)=QL:=h;rw[h] at q;exact⟨O,q⟩
 |_=>exact⟨_,rfl,VB _,aB ed,_,rfl,rfl,rfl,VJ,rfl,uO,trivial,rfl,rfl,q⟩
def Qg:ZX 101 82 7 5 BY Oo:=av <| by
 rintro ts Q ⟨ds,Ss,os,k,d,o,us,S,rfl,ed,eS,lS,hu,u9,ho,ni,q⟩;refine⟨O,?_⟩
 cases hk:qN d with
 |true=>
  cases d with
  |inp ms=>exact m8 rfl (ni ms)
  |lay a ms=>
   obtain⟨t,rfl⟩:=ho (λ h=>h);exact⟨_,O,O,VB _,aB ed,_,O,BT,O,q⟩
  |run w a s|join a b s=>cases o<;>exact⟨_,rfl,rfl,VB _,aB ed,_,rfl,trivial,VB _,aB ed,_,rfl,rfl,VJ,rfl,uP,rfl,q⟩
  |_=>exact QN hk
 |false=>
  obtain⟨nt,c1,c2,e1⟩:=Ac hk;obtain⟨t,rfl⟩:=ho nt;rw[e1] at q;unfold jC at q;refine⟨_,O,O,VB _,aB ed,_,cX d,BT,sF c1 ⟨VB _,aB ed,_,cX d,O,VJ,O,uP,sF c2 ⟨_,O,O,Zt os,s2 (λ h=>⟨O,by rw[m7 h] at q;exact q⟩) (λ h=>?_)⟩⟩⟩;rw[k9 (by rw[h];decide)] at q;refine⟨by rw[ag];exact aO ca,bX kT (λ x=>.str (WY ds x)) us (λ x hx=>?_) ⟨O,?_⟩⟩
  .obtain⟨u,p,rfl,ul⟩:=hu x hx;exact⟨_,O,VB _,aB (cI ul),_,cX _,O,O⟩
  refine⟨O,h9 ds us,s2 (λ h=>⟨O,by rw[m7 h] at q;exact q⟩) (λ h=>?_)⟩;rw[k9 (by rw[h];decide)] at q
  have fin:Q (.bl (qM ds Ss k t us))->wS (Wr DL 101) GT ((.r (.c1 45 V1) (.c (.bl QL)) (.ret (.or (.gt (.ln V4) N1) (.or (.cmp .In (.w "spread") V6) (.b1 .any (.comp ["use"] ["k","steps","sides"] [0,5,3] [0] .seq (.a1 V4) (.call 100 (.cons V1 (.cons V0 (.cons V2 (.cons V3 .nil)))))))))))) [QJ (.int k),QJ (VG t),QJ (.tup [.tup (ds.map VB),tI os]),QJ (.tup (Ss.map tI)),QJ (.lst (us.map kT)),QJ (.tup (ds.map VB)),QJ (.own (Xg ds us))] (λ _=>Q .non) Q:=λ q=>by
   unfold qM at q;refine cl rfl ⟨t,O,s2 (λ h=>⟨O,?_⟩) (λ h=>?_)⟩ rfl
   .have h:cy t=QK:=by cases t<;>exact h
    rw[m7 h] at q;exact q
   have h:cy t=QL:=by cases t<;>exact h
   rw[k9 (by rw[h];decide)] at q;refine s2 (λ h=>⟨O,?_⟩) (λ h=>?_)
   .have h:decide (1<(us.length:Int))=QK:=by rw[<- ag (f:=kT)];exact h
    rw[m7 h] at q;exact q
   have h:decide (1<(us.length:Int))=QL:=by rw[<- ag (f:=kT)];exact h
   rw[k9 (by rw[h];decide)] at q;refine⟨O,h9 ds us,s2 (λ h=>⟨O,by rw[m7 h] at q;exact q⟩) (λ h=>?_)⟩;rw[k9 (by rw[h];decide)] at q;refine⟨by rw[ag];exact aO ca,bX kT (λ x=>.bl (fV ds Ss k (x.getD 0 0).toNat (x.getD 1 0))) us (λ x hx=>?_) ⟨_,Ad _ us,O,q⟩⟩;obtain⟨u,p,rfl,ul⟩:=hu x hx;exact cl rfl ⟨ds,Ss,k,u,p,_,S,_,O,cI ul,aL ca,eS,O,O⟩ rfl
  refine⟨_,trK t,BT,s2 (λ h=>?_) (λ h=>fin (by rw[k9 (by rw[k9 (by rw[show(!_L.eqT (n9 (XT t)) (.str "read"))=QL from h];decide)];decide)] at q;exact q))⟩;rw[m7 (show(!_L.eqT (n9 (XT t)) (.str "read"))=QK from h)] at q;refine⟨by rw[ag];exact aO ca,bX kT (λ x=>.bl (gE ds x)) us (λ x hx=>?_) ⟨_,Ad _ us,s2 (λ h=>⟨O,by rw[m7 h] at q;exact q⟩) (λ h=>fin (by rw[k9 (by rw[h];decide)] at q;exact q))⟩⟩;obtain⟨u,p,rfl,ul⟩:=hu x hx;unfold gE;refine⟨_,O,VB _,aB (cI ul),_,cX _,BT,s2 (λ h=>?_) (λ h=>?_)⟩
  .rw[m7 (show _L.eqT (n9 (WY ds [(u:Int),(p:Int)])) (.str "fetch")=QK from h)];exact⟨_,O,BT,O,O⟩
  .rw[k9 (by rw[show _L.eqT (n9 (WY ds [(u:Int),(p:Int)])) (.str "fetch")=QL from h];decide)];exact⟨O,O⟩
def Qh:ZX 102 83 11 2 BZ Op:=av <| by
 rintro ts Q ⟨ds,Ss,os,mo,rfl,gd,q⟩;refine⟨O,?_⟩;obtain⟨hmo,gl,d0,d40,o0,o8,ob⟩:=id gd;have fS:=nT gl hmo;refine⟨_,O,O,cl rfl ⟨ds,Ss,os,mo,O,gd,O,cl rfl ⟨ds,Ss,os,mo,O,gd,O,O,Wn,O,O,Wn,O,O,Wn,O,O,?_⟩ rfl⟩ rfl⟩;refine bI (λ i ρ=>∃y8 y9 y10,ρ=i3 ds Ss os ((Vx ds Ss os i).Ts.map Wj) ((Vx ds Ss os i).Bs.map Wj) ((Vx ds Ss os i).st.map λ k=>.int (k:Nat)) [y8,y9,y10]) ⟨_,_,_,O⟩ (λ i t ρ ht h=>?_) (λ ρ h=>?_)
 .obtain⟨y8,y9,y10,rfl⟩:=h;obtain⟨d,rfl,ed⟩:=iJ ht;have il:=(aN.mp ed).1;have eS:Ss[i]?=QJ (Vy Ss i):=by unfold Vy;rw[aA,aL (by rw[<- gl.1];exact il)];rfl
  have sz:∀n:Nat,n<=50->n<QR:=λ n h=>aO ca;have fi:fit (Vy Ss i):=fS _ (aC eS);have inl:=Ag i (aE ds os);have ih:=kA (os:=os) gl d40 i ca;obtain⟨l1,l2,l3⟩:=fW ds Ss os i;have st:Vx ds Ss os (i+1)=if WF ds Ss os (Vx ds Ss os i).Ts i=QK then ⟨(Vx ds Ss os i).Ts++[QJ (.read ((Vx ds Ss os i).st.length:Nat) 0 (bA (Vy Ss i)))],(Vx ds Ss os i).Bs++[bv ds Ss os (Vx ds Ss os i).Ts i],(Vx ds Ss os i).st++[i]⟩ else ⟨(Vx ds Ss os i).Ts++[bv ds Ss os (Vx ds Ss os i).Ts i],(Vx ds Ss os i).Bs++[bv ds Ss os (Vx ds Ss os i).Ts i],(Vx ds Ss os i).st⟩:=rfl;generalize Vx ds Ss os i=p at st ih l1 l2 l3 ⊢;have kp:WF ds Ss os p.Ts i=(cQ d || (decide (i∈aE ds os)&&jD ds Ss os i d (bv ds Ss os p.Ts i) ((aQ ds os).getD i []))):=by unfold WF;rw[gD ed]
  have hB:i∈aE ds os->bv ds Ss os p.Ts i=cE p.Ts Ss (Vy Ss i) d:=λ hr=>by unfold bv;rw[m7 hr,gD ed]
  have hN:i ∉ aE ds os->bv ds Ss os p.Ts i=QM:=λ hr=>k9 hr;generalize bv ds Ss os p.Ts i=o at st kp hB hN;rw[kp] at st;refine LZ (Wj o) ⟨O,uV _,s2 (λ h=>?_) (λ h=>by rw[hN (gG (inl.symm.trans h))];rfl)⟩ ⟨(LY _).1,Ah rfl rfl (by rw[ag,l2];exact sz _ ca) ?_⟩
  .have hr:=aD (inl.symm.trans h);have at':=(ma gl ca ih hr).2;rw[gD ed] at at';exact⟨tI (Vy Ss i),aB eS,WX rfl ⟨d,_,Ss,p.Ts,O,XH (gl.2.2 i _ _ ed eS),fS,fi,at',LJ _,by rw[hB hr]⟩⟩
  refine kr (λ ρ=>∃o' S',Vx ds Ss os (i+1)=⟨p.Ts++[o'],p.Bs++[o],S'⟩/\ρ=i3 ds Ss os (p.Ts.map Wj) (p.Bs.map Wj++[Wj o]) (S'.map λ k=>.int (k:Nat)) [QJ (.int i),QJ (VB d),QJ (Wj o')]) (Ma ⟨_,cX d,BT,bO TV.bl (uW d)⟩ (λ hi=>Mb ⟨O,uV _,bO TV.bl inl⟩ (λ hr=>?_) rfl) (s2 (λ h=>?_) (λ h=>⟨o,p.st,by rw[st,k9 (by rw[h];decide)],O⟩))) (λ ρ' h=>?_)
  .have hr:=aD hr;have ul:i<(aQ ds os).length:=by rw[show aQ ds os=Wp ds (aE ds os) from rfl,oa];exact il
   have ub:((aQ ds os).getD i []).length<=900:=by
    have z:=qK (ds:=ds) (live:=aE ds os) (aE ds os).length;rw[bG] at z;have rl:=zX ds os;have:=z ((aQ ds os).getD i []) (by rw[aA,aL ul];exact lw _);lia
   have hn:¬ky d->∃t,o=QJ t:=λ h=>by rw[hB hr];exact oj h
   cases o<;>exact⟨.lst (((aQ ds os).getD i []).map kT),aB (f:=λ l:LL=>TV.lst (l.map kT)) (by rw[aA,aL ul];rfl),cl rfl ⟨ds,Ss,os,i,d,_,_,Vy Ss i,rfl,ed,eS,gl.1,LQ,ub,hn,LX hi,rfl⟩ rfl⟩
  .exact⟨tI (Vy Ss i),aB eS,cl rfl ⟨_,_,O,dD fi,by have:=fi.2.1;lia,O,O,by rw[ag];exact sz _ ca,_,_,by rw[st,m7 h],by rw[bD,ag];rfl⟩ rfl⟩
  obtain⟨o',S',e,rfl⟩:=h;exact Ah rfl rfl (by rw[ag,l1];exact sz _ ca) ⟨_,_,_,by rw[e,bD,bD];rfl⟩
 obtain⟨y8,y9,y10,rfl⟩:=h;rw[iQ,ag];exact⟨O,VP,O,q⟩
def Qi:ZX 103 84 8 4 Ca Oq:=av <| by
 rintro ts Q ⟨w,a,k,st,A,t,Ss,Ts,rfl,eA,et,fA,kl,hd,hl,q⟩;refine⟨O,?_⟩;have sl:=qE A;have a6:=fA.2.1;refine⟨_,O,tI A,aB eA,O,_,O,O,cl rfl ⟨A,O,dD fA,ca,cl rfl ⟨A,bA A,0,k,O,a6,ca,ca,kl,O,_,O,VG t,aB et,cl rfl ⟨t,A,k,O,hd,hl,a6,kl,O,_,O,_,O,.int (A.getD k 0),cH kl,_,O,_,O,O,bq (cP rfl),O,q⟩ rfl⟩ rfl⟩ rfl⟩
def Qj:ZX 104 85 9 5 Cb Os:=av <| by
 rintro ts Q ⟨a,b,k,st,A,B,S,ta,tb,Ss,Ts,rfl,eA,eB,eta,etb,fA,fS,kl,lS,q⟩;refine⟨O,?_⟩;have sl:(Xl S S.length).reverse.length=S.length:=qE S;have s6:=fS.2.1;have n5:=fA.1 (A.getD k 0) (gZ kl);refine⟨_,O,O,_,O,O,cl rfl ⟨S,O,dD fS,ca,O,tI A,aB eA,_,O,.int (A.getD k 0),cH kl,_,O,.int ((bA S).getD k 0),cH ca,iF ca ca,O,tI A,aB eA,VG ta,aB eta,O,Ye,tI B,aB eB,VG tb,aB etb,O,Ye,O,VJ,O,q⟩ rfl⟩
def Qk:ZX 105 86 7 5 Cc Ot:=av <| by
 rintro ts Q ⟨ds,Ss,os,mo,k,st,rfl,gd,hk,hi,q⟩;refine⟨O,?_⟩;obtain⟨hmo,gl,d0,d40,o0,o8,ob⟩:=id gd;have fS:=nT gl hmo;have kl:=(mem_reach.mp hk).1;have ed:=cI kl;have eS:Ss[k]?=QJ (Vy Ss k):=by unfold Vy;rw[aA,aL (by rw[<- gl.1];exact kl)];rfl
 have fi:fit (Vy Ss k):=fS _ (aC eS);have hA:=(ma gl ca (λ j hj hr=>kA gl d40 ds.length (ak _) j ca hr) hk).2.1;have ok:=XH (gl.2.2 k _ _ ed eS);obtain⟨l1,l2,l3⟩:=fW ds Ss os ds.length;generalize Vx ds Ss os ds.length=p at *;have eB:p.Bs[k]?=QJ (p.Bs.getD k QM):=by rw[aA,aL ca];rfl
 generalize ds.getD k (.num 0)=d at *;have s6:=fi.2.1
 cases hk:i4 d with
 |true=>
  cases d with
  |run w a s=>
   obtain⟨t,A,et,eA,wf⟩:=hA a (by simp[ah]);obtain⟨eA',hw,no⟩:=ok;obtain⟨c,rfl,cl'⟩:=dU no;cases eA.symm.trans eA';have wf':=og wf s6 (ak _);have q:Q (.lst [YU w st (Vy Ss a) c (VG (rm (fb (Vy Ss a).length c) (gt p.Ts a)))]):=q;rw[Wk eA,dF et] at q;exact⟨_,O,VB _,aB ed,O,_,O,O,_,O,BT,cl rfl ⟨w,a,c,st,_,t,Ss,p.Ts,O,eA,et,fi,cl',wf'.1,wf'.2,O,WC,O,q⟩ rfl⟩
  |join a b s=>
   obtain⟨ta,A,eta,eA,wfa⟩:=hA a (by simp[ah]);obtain⟨tb,B,etb,eB',wfb⟩:=hA b (by simp[ah]);obtain⟨A',B',ea,eb,lAB,no,er,nb,e⟩:=ok;cases eA.symm.trans ea;cases eB'.symm.trans eb;have jl:(Vy Ss k).length=A.length:=by rw[e];exact Me no
   obtain⟨c,rfl,cl'⟩:=dU no;have q:Q (.lst [iK st (Vy Ss a) 0 (bA (Vy Ss k)) (VG (gt p.Ts a)),iK st (Vy Ss b) ((Vy Ss a).getD c 0*(bA (Vy Ss k)).getD c 0) (bA (Vy Ss k)) (VG (gt p.Ts b))]):=q;rw[Wk eA,Wk eB',dF eta,dF etb] at q;exact⟨_,O,VB _,aB ed,O,_,O,O,_,O,BT,_,O,BT,tI _,aB eS,cl rfl ⟨a,b,c,st,A,B,_,ta,tb,Ss,p.Ts,O,eA,eB',eta,etb,fS _ (aC eA),fi,cl',jl,O,q⟩ rfl⟩
  |_=>exact QN hk
 |false=>
  obtain⟨c1,c2,e1⟩:=Mc hk;rw[e1] at q;refine⟨_,O,VB _,aB ed,O,_,O,O,_,cX d,BT,sF c1 ⟨_,cX d,BT,sF c2 ⟨tI _,aB eS,tI _,aB eS,cl rfl ⟨_,O,dD fi,ca,_,O,Wj (p.Bs.getD k QM),aB eB,?_⟩ rfl⟩⟩⟩;generalize p.Bs.getD k QM=o at *;cases o<;>exact⟨rfl,Ye,rfl,WC,rfl,q⟩
def Ql:ZX 106 87 9 1 Ce Ou:=av <| by
 rintro ts Q ⟨ds,Ss,os,mo,rfl,gd,q⟩;refine⟨O,?_⟩;obtain⟨hmo,gl,d0,d40,o0,o8,ob⟩:=id gd;have fS:=nT gl hmo;have hst:=mh (ds:=ds) (Ss:=Ss) (os:=os) ds.length;obtain⟨l1,l2,l3⟩:=fW ds Ss os ds.length;have inv:=λ o h=>kA (os:=os) gl d40 ds.length (ak _) o h;have eSk:∀k,k<ds.length->Ss[k]?=QJ (Vy Ss k):=λ k kl=>by unfold Vy;rw[aA,aL (by rw[<- gl.1];exact kl)];rfl
 refine cl rfl ⟨ds,Ss,os,mo,O,gd,O,cl rfl ⟨ds,Ss,os,mo,O,gd,O,_,O,O,O,Wn,O,O,?_⟩ rfl⟩ rfl;generalize hp:Vx ds Ss os ds.length=p at *;refine bI (λ i ρ=>∃y5 y6,ρ=[QJ (.tup [.tup (ds.map VB),tI os]),QJ (.tup (Ss.map tI)),QJ (Zw p),QJ (.lst (p.st.map λ k=>.int (k:Nat))),QJ (.own (Xv ds Ss p i)),y5,y6,QM,QM]) ⟨_,_,O⟩ (λ i t ρ ht h=>?_) (λ ρ h=>?_)
 .obtain⟨y5,y6,rfl⟩:=h;obtain⟨k,rfl,ek⟩:=iJ (f:=λ k:Nat=>m9 (k:Nat)) ht;obtain⟨kl,hl⟩:=hst k (aC ek);have il:=(aN.mp ek).1;have ll:=uX ds Ss p i;have e:Xv ds Ss p (i+1)=Xv ds Ss p i++(if cQ (ds.getD k (.num 0))=QK then [] else Yg Ss p.Ts (Vy Ss k) (p.Bs.getD k QM) (i:Nat) (ds.getD k (.num 0))):=by show _++_=_;rw[ek]
  rw[e];refine⟨_,O,VB _,aB (cI kl),_,cX _,BT,s2 (λ h=>?_) (λ h=>?_)⟩
  .have h:cQ (ds.getD k (.num 0))=QL:=by rw[<- uW];exact tH _ |>.mp h
   rw[k9 (by rw[h];decide)];have l2':=Ai Ss p.Ts (Vy Ss k) (p.Bs.getD k QM) (i:Nat) (ds.getD k (.num 0));refine cl rfl ⟨ds,Ss,os,mo,k,(i:Nat),by rw[hp];rfl,gd,hl h,h,?_⟩ rfl;rw[hp];exact⟨O,bq ca,_,_,O⟩
  .have h:cQ (ds.getD k (.num 0))=QK:=by rw[<- uW];exact(Bool.not_eq_false' _).mp h
   rw[m7 h,fF];exact⟨_,_,O⟩
 obtain⟨y5,y6,rfl⟩:=h;rw[iQ,ag];have ll:=uX ds Ss p p.st.length;refine⟨by rw[ag];exact aO ca,bX (λ k:Nat=>.int (k:Nat)) (λ k:Nat=>.tup [.int (k:Nat),.int (af (Vy Ss k))]) p.st (λ k hk=>?_) ⟨O,_,O,by rw[ai];exact aO ca,bX m9 (λ o:Int=>.tup [.int (qL (gt p.Ts o.toNat)),tI (Vy Ss o.toNat)]) os (λ o ho=>?_) ⟨O,O,VP,O,q⟩⟩⟩
 .obtain⟨kl,_⟩:=hst k hk;have eS:=eSk k kl;exact⟨tI _,aB eS,cl rfl ⟨_,O,Vy Ss k,.inl rfl,dD (fS _ (aC eS)),O,VJ,O,O⟩ rfl⟩
 .obtain⟨b0,b1⟩:=ob o ho;obtain⟨k,rfl⟩:∃k:Nat,o=k:=⟨o.toNat,ca⟩;have I:=inv k ca (LD ob ho);obtain⟨t,A,e1,e2,_⟩:=I.w;obtain⟨st,s,ss,e⟩:=I.o ho;rw[QV,e];rw[dF e1] at e;subst e;exact⟨_,O,VG (.read st s ss),aB e1,_,O,tI _,aB (eSk k ca),O,VJ,O,O⟩
def Qm:ZX 107 89 3 1 Cf Ov:=av <| by
 rintro ts Q ⟨t,ns,rfl,ht,sd,q⟩;refine⟨O,?_⟩
 rcases ht with rfl|rfl
 .refine⟨O,O,bI (λ i ρ=>∃y,ρ=[QJ (tI ns),QJ (.int (af (ns.take i))),y]) ⟨_,O⟩ (λ i u ρ hu ⟨y,e⟩=>?_) (λ ρ ⟨y,e⟩=>?_)⟩
  .subst e;obtain⟨n,rfl,hn⟩:=jx hu;have b:=sd n (aC hn);exact⟨iE ca ca,O,QJ (.int n),by rw[nK hn];rfl⟩
  .subst e;rw[ai,bG];exact⟨O,q⟩
 .refine⟨O,O,bI (λ i ρ=>∃y,ρ=[QJ (lI ns),QJ (.int (af (ns.take i))),y]) ⟨_,O⟩ (λ i u ρ hu ⟨y,e⟩=>?_) (λ ρ ⟨y,e⟩=>?_)⟩
  .subst e;obtain⟨n,rfl,hn⟩:=jx hu;have b:=sd n (aC hn);exact⟨iE ca ca,O,QJ (.int n),by rw[nK hn];rfl⟩
  .subst e;rw[ai,bG];exact⟨O,q⟩
def Qn:ZX 108 90 1 1 Cg Ow:=av <| by
 rintro ts Q ⟨ns,rfl,sd,l,q⟩;refine⟨O,by rw[ai];exact aO ca,bX .int (λ n=>.int (ao n)) ns (λ n hn=>⟨O,?_⟩) (cl rfl ⟨_,ns.map ao,O,.inr (by unfold lI;rw[cg];rfl),yR sd,O,q⟩ rfl)⟩;rw[<- uu (sd n hn).1];rfl
def Qo:ZX 109 91 1 1 Ch Ox:=av <| by
 rintro ts Q ⟨n,rfl,q⟩;refine⟨O,?_⟩;have m17:aU n 17=n%17:=m7 on;unfold nN at q;refine⟨on,BT,sN (λ h=>?_) (λ h=>?_)⟩
 .rw[m17] at h;rw[m7 h] at q;have e:aU (be n 17) 4=n/17%4:=by rw[show be n 17=n/17 from m7 on];exact m7 on
  exact⟨YQ,YQ,p62,O,Wx,⟨on,on,on⟩,on,.int _,(by rw[e];exact Lh ca ca),O,q⟩
 .rw[m17] at h;rw[k9 h] at q;exact⟨YQ,f7,on,YQ,O,q⟩
def Qp:ZX 110 92 2 2 Ci Oy:=av <| by
 rintro ts Q ⟨ks,d,rfl,l,l2,q⟩;refine⟨O,on,BT,sN (λ h=>?_) (λ h=>?_)⟩
 .obtain⟨k,e,kl⟩:=qA (be d 3) l;exact⟨⟨on,on,on⟩,by rw[ai];lia,.int (ks.getD k 0),by rw[e];exact cH kl,O,q _ (gZ kl)⟩
 .obtain⟨m,em,m0,m1⟩:∃m:Nat,(if (((ks.map m9).length:Nat):Int)<3 then (((ks.map m9).length:Nat):Int) else 3)=m/\0<m/\m<=ks.length:=if c:(ks.length:Int)<3 then ⟨_,by rw[ai,m7 c],l,ak _⟩ else ⟨3,by rw[ai,k9 c];rfl,on,ca⟩;obtain⟨k,e,kl⟩:=nV (be d 3) m0;exact⟨⟨on,on,on⟩,by rw[em];lia,.int (ks.getD (ks.length-1-k) 0),by rw[em,e,ai,show(ks.length:Int)-1-k=((ks.length-1-k:Nat):Int) by lia];exact cH ca,O,q _ (gZ ca)⟩
def Qq:ZX 111 93 9 4 Cj Oz:=av <| by
 rintro ts Q ⟨kd,n,cell,mo,rfl,hmo,q⟩;refine⟨O,?_⟩;have m2:=hmo.1;have m3:=hmo.2;refine⟨BT,sN (λ c=>cl rfl ⟨cell,O,O,VJ,O,Wn,O,VJ,O,q (.num (nN cell)) [] (λ _=>⟨O,Ki cell⟩) (qx hmo)⟩ rfl) (λ c=>?_)⟩;have b5:0<=aU (be n 15) 5/\aU (be n 15) 5<5:=by rw[dw on];lia
 refine⟨O,Wn,O,⟨on,on,on⟩,O,on,O,⟨ca,ca⟩,?_⟩;refine bI (λ i ρ=>∃(ms:LI) (pt:Int) (y6 y7 y8:Option TV),aX mo ms/\ms.length=i/\ρ=[QJ (.int kd),QJ (.int n),QJ (.int cell),QJ (.int mo),QJ (tI ms),QJ (.int pt),y6,y7,y8]) ⟨[],_,_,_,_,qx hmo,O,O⟩ (λ i t ρ ht h=>?_) (λ ρ h=>?_)
 .obtain⟨ms,pt,y6,y7,y8,hf,ml,rfl⟩:=h;obtain⟨il,rfl⟩:=lT ht;have sdm:cD ms:=λ n hn=>by have:=hf.1 n hn;exact⟨ca,ca⟩
  have pb:=hf.2.2;have d1:1<=mo/af (ms.map ao):=uv pb.1 pb.2;have dv:be mo (af (ms.map ao))=mo/af (ms.map ao):=zJ ca;have fs:=λ n=>uy (n:=n) hf ca;obtain⟨x,hx,x0⟩:=Ll (aU (be pt 5) 7) (by rw[dw on];lia) (by rw[dw on];lia);refine⟨⟨on,on,on⟩,O,cl rfl ⟨ms,O,sdm,ca,⟨ca,ca,ca⟩,O,O,Zr,on,.int x,hx,O,?_⟩ rfl⟩;rw[dv];generalize mo/af (ms.map ao)=fr at *
  have fin:∀x:Int,0<=x->x<=fr->(ms.map m9).length + [m9 x].length<=QR/\(n6 (ms.map m9++[m9 x])).nb=QK/\∃(ms':LI) (pt':Int) (y6 y7 y8:Option TV),aX mo ms'/\ms'.length=i+1/\[QJ (m9 kd),QJ (.int n),QJ (.int cell),QJ (.int mo),QJ (n6 (ms.map m9++[m9 x])),QJ (.int (be pt 5)),QJ (.int (i:Nat)),QJ (.int fr),QJ (.int x)]=[QJ (.int kd),QJ (.int n),QJ (.int cell),QJ (.int mo),QJ (tI ms'),QJ (.int pt'),y6,y7,y8]:=λ x x0 x1=>
   ⟨bq (show(ms.map m9).length+1<=1000 by rw[ai];lia),rfl,ms++[x],_,_,_,_,fs x x0 x1,by rw[aK,ml];rfl,by unfold tI;rw[bD];rfl⟩
  exact⟨on,BT,sN (λ _=>⟨O,O,WC,fin fr ca (fO _)⟩) (λ _=>⟨O,WC,fin _ (by split<;>lia) (by split<;>lia)⟩)⟩
 .obtain⟨ms,pt,y6,y7,y8,hf,ml,rfl⟩:=h;refine⟨BT,sN (λ _=>⟨O,VJ,O,VJ,O,q (.inp ms) ms (λ _=>⟨O,qw (jv hf hmo)⟩) hf⟩) (λ _=>⟨O,Wn,Xu ms,?_⟩)⟩
  have fin:∀ns:LI,aX mo ns->0<ns.length->((15:Int)≠0/\-18446744073709551616<(15:Int)/\(15:Int)<1606938044258990275541962092341162602522202993782792835301376)/\(((ns.map m9).length:Nat):Int)≠0/\[n9 "count",tI ns,m9 (aU (be n 15) ((ns.map m9).length:Nat))].all TV.nb=QK/\3<=QR/\[n6 [n9 "count",tI ns,m9 (aU (be n 15) ((ns.map m9).length:Nat))],tI ns].all TV.nb=QK/\2<=QR/\QK=QK/\Q (.tup [n6 [n9 "count",tI ns,m9 (aU (be n 15) ((ns.map m9).length:Nat))],tI ns]):=λ ns hf l0=>by
   refine⟨⟨on,on,on⟩,by rw[ai];lia,O,VP,O,VJ,O,?_⟩;rw[ai,dw ca];have f0:=qy (be n 15) (show(ns.length:Int)≠0 by lia);have f1:=qz (be n 15) (show(0:Int)<ns.length by lia);exact q (.count ns (be n 15%ns.length)) ns (λ _=>⟨O,qw (jv hf hmo),λ z=>by unfold Wl at z;lia⟩) hf
  by_cases c0:ms=[]
  .have x0:0<=(if mo<3 then mo else 3)/\(if mo<3 then mo else 3)<=mo:=by split<;>lia
   exact sT ((lU ms).trans (bJ c0)) ⟨O,WC,O,fin [if mo<3 then mo else 3] (uy (ns:=[]) (qx hmo) on x0.1 (by show _<=mo/1;rw[Vd];exact x0.2)) (pO _)⟩
  .exact sF ((lU ms).trans (bw c0)) (fin ms hf (qZ.mpr c0))
def Qr:ZX 112 94 3 2 Ck OB:=av <| by
 rintro ts Q ⟨ns,ms,rfl,q⟩;refine⟨O,?_⟩;have hm:(if (((ms.map m9).length:Nat):Int)<(((ns.map m9).length:Nat):Int) then (((ms.map m9).length:Nat):Int) else (((ns.map m9).length:Nat):Int))=((if ms.length<ns.length then ms.length else ns.length:Nat):Int):=by rw[ai,ai];split<;>split<;>lia
 refine⟨O,?_⟩;rw[hm];generalize hL:(if ms.length<ns.length then ms.length else ns.length)=L;have e1:=eY ns L;have e2:=eY ms L;refine⟨by show _L.dp 99 (n6 (aq (ns.map m9) QM (QJ (L:Int))));rw[e1];exact Xu _,O,?_⟩;show Q (.bl (_L.eqT (n6 (aq (ns.map m9) QM (QJ (L:Int)))) (n6 (aq (ms.map m9) QM (QJ (L:Int))))));rw[e1,e2,nU];refine q _ ?_;rw[cB];unfold cG;subst hL;by_cases c:ms.length<ns.length
 .rw[m7 c,m7 c,bG]
 .rw[k9 c,k9 c,bG];exact eq_comm
def Qs:ZX 113 95 10 3 Cm OC:=av <| by
 rintro ts Q ⟨kd,d0,d1,d2,mo,Ss,rfl,n0,n4,hS,q⟩;refine⟨O,⟨ca,by rw[ag];lia⟩,O,?_⟩;rw[ag,qC];refine⟨_,O,WX rfl ⟨VR Ss.length,d0,O,by rw[fQ];exact n0,by rw[fQ];lia,λ k hk=>?_⟩⟩;obtain⟨a,rfl,al⟩:=gC hk;have eA:=fT al;generalize Ss.getD a []=A at eA;have fA:=hS _ (aC eA);obtain⟨w4,hw4,wm4⟩:=uG nO (k:=aU d2 4) (by rw[dw on];lia) (by rw[dw on];show d2%4<((4:Nat):Int);lia);refine⟨by simp[LF],O,BT,sN (λ _=>⟨O,Wx,_,O,on,.str w4,hw4,O,VP,tI A,aB eA,O,VJ,O,q (.each w4 a) A ⟨eA,wm4⟩ fA⟩) (λ _=>?_)⟩;refine⟨by rw[ai,fQ];exact aO ca,jy m9 m9 (pB Ss A) (VR Ss.length) rfl (λ k hk=>?_) ?_⟩
 .obtain⟨j,rfl,jl⟩:=gC hk;exact⟨tI A,aB eA,tI (Ss.getD j []),aB (fT jl),cl rfl ⟨A,Ss.getD j [],O,λ b hb=>⟨by rw[zM hb (qD (k:=(j:Int)))],λ _=>⟨O,O⟩⟩⟩ rfl⟩
 generalize hks:(VR Ss.length).filter (pB Ss A)=ks;have km:∀k,k∈ks ↔ k∈VR Ss.length/\cG A (Ss.getD k.toNat []):=λ k=>by rw[<- hks,hW,qD]
 have kl:ks.length<=40:=by rw[<- hks];exact cY (lW _ _) (by rw[fQ];exact n4)
 have kpos:0<ks.length:=qW ((km a).mpr ⟨zw al,by rw[QV,aA,eA];exact zn A⟩);refine⟨O,_,O,WX rfl ⟨ks,d1,O,kpos,ca,λ k hk=>?_⟩⟩;obtain⟨ku,pB'⟩:=(km k).mp hk;obtain⟨b,rfl,bl⟩:=gC ku;have eB:=fT bl;rw[QV] at pB';generalize Ss.getD b []=B at eB pB';have fB:=hS _ (aC eB);have fL:aX mo (bV A B):=zu fA fB;obtain⟨w,hw,wm⟩:=uG nP (k:=aU d2 12) (by rw[dw on];lia) (by rw[dw on];show d2%12<((12:Nat):Int);lia);refine⟨by simp[LF],O,tI A,aB eA,tI B,aB eB,O,?_⟩;rw[f9 pB'];refine⟨BT,sN (λ _=>⟨O,Li,O,_,O,on,.str w,hw,O,Wx,O,VJ,O,q (.pair w a b) (bV A B) ⟨A,B,eA,eB,wm,pB',O⟩ fL⟩) (λ _=>?_)⟩;refine⟨by rw[ai];exact aO ca,jy m9 m9 (pB Ss B) ks rfl (λ k hk=>?_) ?_⟩
 .obtain⟨j,rfl,jl⟩:=gC ((km k).mp hk).1;exact⟨tI B,aB eB,tI (Ss.getD j []),aB (fT jl),cl rfl ⟨B,Ss.getD j [],O,λ b hb=>⟨by rw[zM hb (qD (k:=(j:Int)))],λ _=>⟨O,O⟩⟩⟩ rfl⟩
 generalize hls:ks.filter (pB Ss B)=ls;have lm:∀k,k∈ls ↔ k∈ks/\cG B (Ss.getD k.toNat []):=λ k=>by rw[<- hls,hW,qD]
 have ll:ls.length<=40:=by rw[<- hls];exact cY (lW _ _) kl
 have lpos:0<ls.length:=qW ((lm b).mpr ⟨hk,by rw[QV,aA,eB];exact zn B⟩);refine⟨O,_,O,WX rfl ⟨ls,d2,O,lpos,ca,λ k hk2=>?_⟩⟩;obtain⟨kk,pC⟩:=(lm k).mp hk2;obtain⟨ku2,pAC⟩:=(km k).mp kk;obtain⟨c,rfl,cl'⟩:=gC ku2;have eC:=fT cl';rw[QV] at pC pAC;generalize Ss.getD c []=C at eC pC pAC;have fC:=hS _ (aC eC)
 have pLC:cG (bV A B) C:=by
  by_cases z:A.length<B.length
  .rw[zr z];exact pC
  .rw[zq pB' ca];exact pAC
 have z:Q (.tup [VB (.pick a b c),n6 (if ((bV A B).map m9).length<(C.map m9).length then C.map m9 else (bV A B).map m9)]):=by rw[f9 pLC];exact q (.pick a b c) (bV (bV A B) C) ⟨A,B,C,eA,eB,eC,pB',pLC,rfl⟩ (zu fL fC)
 exact⟨by simp[LF],O,O,Wx,tI C,aB eC,O,VJ,O,z⟩
def Qt:ZX 114 96 3 2 Cn OD:=av <| by
 rintro ts Q ⟨ns,d,mo,rfl,ft,mk,q⟩;refine⟨O,?_⟩;have fA:=jv ft mk;have sd:=dD fA;have l6:=fA.2.1;have m4:aU d 4=d%4:=m7 on;unfold kn at q;refine cl rfl ⟨_,ns,O,.inl rfl,sd,O,on,BT,sN (λ h=>?_) (λ h=>⟨on,BT,?_⟩)⟩ rfl
 .rw[m4] at h;rw[m7 h] at q;exact⟨O,WC,O,q⟩
 rw[m4] at h;rw[k9 h] at q;have v2:be (af ns) 2=af ns/2:=m7 on;have w2:aU (af ns) 2=af ns%2:=m7 on;have rv:Q (tI ns.reverse)->Q (n6 (ns.map m9).reverse):=λ q=>by rw[<- TZ];exact q
 refine sN (λ h2=>?_) (λ h2=>?_)
 .rw[m4] at h2;refine s2 (λ h3=>?_) (λ h3=>?_)
  .have h3:(((ns.map m9).length:Nat):Int)<6:=aD h3;rw[ai] at h3;rw[m7 ⟨h2,ca⟩] at q;exact⟨O,WC,bq (show 1+(ns.map m9).length<=1000 by rw[ai];lia),O,q⟩
  .have h3:¬(((ns.map m9).length:Nat):Int)<6:=gG h3;rw[ai] at h3;rw[k9 ca,k9 ca] at q;exact⟨on,BT,sN (λ h4=>by rw[m4] at h4;lia) (λ h4=>⟨O,rv q⟩)⟩
 .rw[m4] at h2;rw[k9 (λ z=>h2 z.1)] at q;refine⟨on,BT,sN (λ h4=>⟨on,BT,sN (λ h5=>?_) (λ h5=>⟨O,rv ?_⟩)⟩) (λ h4=>⟨O,rv ?_⟩)⟩
  .rw[m4] at h4;rw[w2] at h5;rw[m7 ⟨h4,h5⟩,<- v2] at q;exact⟨⟨on,on,on⟩,O,VJ,O,q⟩
  .rw[w2] at h5
   rwa [k9 (λ z=>h5 z.2)] at q
  .rw[m4] at h4
   rwa [k9 (λ z=>h4 z.1)] at q
def Qu:ZX 115 97 14 5 Co OE:=av <| by
 rintro ts Q ⟨kd,d0,d1,d2,mo,a,A,Ss,rfl,ea,hf,hmo,q⟩;refine⟨O,?_⟩;have a6:=hf.2.1;have sd:=KC hf hmo;have m1:=hmo.1;have m2:=hmo.2;have pb:=hf.2.2;refine⟨BT,sN (λ _=>?_) (λ _=>?_)⟩
 .refine⟨O,Wn,O,_,O,O,O,⟨ca,by rw[ai];lia⟩,?_⟩;refine bI (λ i ρ=>∃(os:LI) (n:Int) (y:Option TV),os.Perm (VR i)/\ρ=[QJ (.int kd),QJ (lI [d0,d1,d2]),QJ (.int a),QJ (tI A),QJ (.int mo),QJ (.own (os.map .int)),QJ (.int n),y,QM,QM,QM,QM,QM,QM]) ⟨[],_,_,List.Perm.refl _,O⟩ (λ i t ρ ht h=>?_) (λ ρ h=>?_)
  .obtain⟨os,n,y,pm,rfl⟩:=h;obtain⟨il,rfl⟩:=lT ht;rw[ai] at il;have ol:os.length=i:=by rw[pm.length_eq,fQ]
   obtain⟨k,mp,f1⟩:∃k:Nat,aU n ((i:Int)+1)=k/\k<i+1:=nV n (Nat.succ_pos i);refine⟨show(i:Int)+1≠0 by lia,O,⟨by rw[mp];lia,by rw[mp,ai,ol];lia⟩,by rw[ai];exact aO ca,⟨show(i:Int)+1≠0 by lia,show -18446744073709551616<(i:Int)+1 by lia,show(i:Int)+1<_ by lia⟩,O,os.take (aU n ((i:Int)+1)).toNat++(i:Int)::os.drop (aU n ((i:Int)+1)).toNat,be n ((i:Int)+1),QJ (.int (i:Nat)),KF pm,by rw[bD,dg,UQ,UP];rfl⟩
  .obtain⟨os,n,y,pm,rfl⟩:=h;rw[ag,bL,ai,QV] at pm;have ol:os.length=A.length:=by rw[pm.length_eq,fQ]
   have om:∀z∈os,0<=z/\z<(A.length:Int):=λ z hz=>up_mem.mp (pm.subset hz);refine⟨O,VP,by rw[ai];exact aO ca,bX .int (λ z:Int=>.int (A.getD z.toNat 0)) os (λ z hz=>⟨_,uE (om z hz).1 (om z hz).2,O,O⟩) ⟨O,VJ,O,?_⟩⟩;have z:=q (.turn a os) (cq A os) ⟨A,ea,pm,rfl⟩ (KG hf pm);unfold XD VB XC tI cq at z;rw[cg] at z;exact z
 have lo:=KD (d:=d2) hf hmo;refine⟨BT,sN (λ _=>⟨_,O,cl rfl ⟨A,d2,mo,O,hf,hmo,O,VP,_,O,cl rfl ⟨A,d2,mo,O,hf,hmo,O,VJ,O,q (.lay a (kn A d2)) (kn A d2) ⟨A,ea,qw (jv lo.1 hmo),lo.2.symm,O⟩ lo.1⟩ rfl⟩ rfl⟩) (λ _=>?_)⟩;refine⟨O,Wn,Xu A,or3 (λ sp=>?_) (λ ne=>?_)⟩
 .have l6:A.length<6:=by
   rcases sp with z|⟨_,z⟩
   .have z:=aD ((lU A).symm.trans z);rw[z];decide
   .have z:(((A.map m9).length:Nat):Int)<6:=aD z;rw[ai] at z;lia
  obtain⟨k,mp,f1⟩:∃k:Nat,aU d1 ((((A.map m9).length:Nat):Int)+1)=k/\k<A.length+1:=by rw[ai];exact nV d1 (Nat.succ_pos _)
  refine⟨_,O,show(((A.map m9).length:Nat):Int)+1≠0 by rw[ai];lia,O,?_⟩;rw[mp];have dv:=uv pb.1 pb.2;have de:be mo (af (A.map ao))=mo/af (A.map ao):=zJ ca;refine⟨_,O,cl rfl ⟨A,O,sd,ca,⟨ca,ca,ca⟩,?_⟩ rfl⟩;rw[de];have fi:=λ x=>KJ (x:=x) (k:=k) hf l6;have fm:mo/af (A.map ao)<=mo:=TY _ ca;generalize mo/af (A.map ao)=fr at *;have c4:0<(if fr<4 then fr else 4)/\(if fr<4 then fr else 4)<=fr:=by split<;>lia
  have me:aU d2 (if fr<4 then fr else 4)=d2%(if fr<4 then fr else 4):=dw c4.1;have g0:=qy d2 (show(if fr<4 then fr else 4)≠0 by lia);have g1:=qz d2 c4.1
  have fin:∀x:Int,0<=x->x<=fr->Q (.tup [.tup [.str "spread",.int a,.int k,.int x],.tup ((aq (A.map m9) QM (QJ (k:Int))++[m9 x])++aq (A.map m9) (QJ (k:Int)) QM)]):=λ x x0 x1=>by
   rw[Lm];exact q (.spread a k x) (bW A k x) ⟨A,ea,by unfold lO;lia,ca,ca,qw (jv (fi x x0 x1) hmo),O⟩ (fi x x0 x1)
  have la:=ko (a:=QM) (b:=QJ (k:Int)) a6;have lb:=ko (a:=QJ (k:Int)) (b:=QM) a6;have l2:∀x,(aq (A.map m9) QM (QJ (k:Int))++[m9 x]).length+(aq (A.map m9) (QJ (k:Int)) QM).length<=QR:=λ x=>bq (by rw[aK,gQ];lia);have l1:(aq (A.map m9) QM (QJ (k:Int))).length+1<=QR:=bq ca;exact⟨show(if fr<4 then fr else 4)≠0 by lia,O,_,O,on,BT,sN (λ _=>⟨O,O,Wx,O,WC,l1,l2 _,O,VJ,O,fin 0 ca ca⟩) (λ _=>⟨O,Wx,O,WC,l1,l2 _,O,VJ,O,fin _ (by rw[me];lia) (by rw[me];lia)⟩)⟩
 .have A0:0<A.length:=qZ.mpr (gG ((lU A).symm.trans ne));obtain⟨k,mp,kl⟩:=qA d1 A0;refine⟨_,O,show(((A.map m9).length:Nat):Int)≠0 by rw[ai];lia,O,?_⟩;rw[mp];refine⟨BT,s2 (λ _=>⟨O,VP,O,VJ,O,q (.flip a k) A ⟨ea,by unfold Wl;lia⟩ hf⟩) (λ _=>?_)⟩;have an:=(hf.1 _ (gZ kl)).1;have am:=(hf.1 _ (gZ kl)).2;have o1:=jt an;have ge:aU d2 3=d2%3:=dw on;have fe:aU (be d2 3) (if A.getD k 0 > 1 then A.getD k 0 else 1)=be d2 3%ao (A.getD k 0):=by rw[uu an];exact dw ca
  have h0:=qy (be d2 3) (show ao (A.getD k 0)≠0 by lia);have h1:=qz (be d2 3) (show 0<ao (A.getD k 0) by lia);have o2:ao (A.getD k 0)<=512:=by have:=hmo.2;unfold ao;split<;>lia
  have g1:1<=1+aU d2 3/\1+aU d2 3<=3:=by rw[ge];lia
  refine⟨_,O,on,O,_,O,⟨on,on,on⟩,_,cH kl,show(if A.getD k 0 > 1 then A.getD k 0 else 1)≠0 by rw[uu an];lia,O,?_⟩;rw[fe];generalize be d2 3%ao (A.getD k 0)=f at *;generalize 1+aU d2 3=g at *;have e3:0<=aU (be d2 300) 3:=by rw[dw on];lia
  have cm:=KP (e:=aU (be d2 300) 3) an h0 g1.1 e3;rw[<- zI] at cm;have la:=ko (a:=QM) (b:=QJ (k:Int)) a6;have lb:=ko (a:=QJ ((k:Int)+1)) (b:=QM) a6;have l2:∀x,(aq (A.map m9) QM (QJ (k:Int))++[m9 x]).length+(aq (A.map m9) (QJ ((k:Int)+1)) QM).length<=QR:=λ x=>bq (by rw[aK,gQ];lia);refine⟨_,cH kl,⟨ca,ca,ca⟩,_,O,⟨on,on,on⟩,on,O,?_⟩;generalize (if be (A.getD k 0-1-f) g+1-aU (be d2 300) 3 > 0 then be (A.getD k 0-1-f) g+1-aU (be d2 300) 3 else 0)=m at *;refine⟨O,Ye,O,WC,bq (by show(aq (A.map m9) QM (QJ (k:Int))).length+1<=1000;lia),l2 m,O,VJ,O,?_⟩;show Q (.tup [.tup [.str "cut",.int a,.int k,.int f,.int m,.int g],.tup ((aq (A.map m9) QM (QJ (k:Int))++[m9 m])++aq (A.map m9) (QJ ((k:Int)+1)) QM)]);rw[Ln kl];exact q (.cut a k f m g) (A.set k m) ⟨A,ea,by unfold Wl;lia,by unfold XB;rw[QV];exact λ z=>z.elim ca λ z=>z.elim ca λ z=>z.elim ca cm.2.2,⟨ca,ca,ca⟩,by rw[QV]⟩ (KN hf cm.1 cm.2.1)
def Qv:ZX 116 98 3 3 Cp OF:=av <| by
 rintro ts Q ⟨A,B,k,rfl,kl,a6,b6,q⟩;refine⟨O,?_⟩
 have ct:∀L:LI,L.length<=6->aq (L.map m9) QM (QJ (k:Int))++aq (L.map m9) (QJ ((k:Int)+1)) QM=(L.eraseIdx k).map m9/\(aq (L.map m9) QM (QJ (k:Int))).length<=6/\(aq (L.map m9) (QJ ((k:Int)+1)) QM).length<=6:=λ L hL=>by
  have e1:=eY L k;have e2:aq (L.map m9) (QJ ((k:Int)+1)) QM=(L.drop (k+1)).map m9:=by rw[show(k:Int)+1=((k+1:Nat):Int) by lia];exact eZ L (k+1)
  refine⟨by rw[e1,e2,lM,bD],by rw[e1,ai,bh];lia,by rw[e2,ai,da];lia⟩
 obtain⟨ea,la,lb⟩:=ct A a6;obtain⟨eb,lc,ld⟩:=ct B b6;unfold fR at q;have nl:∀a b:Nat,a<=6->b<=6->a+b<=QR:=λ a b h1 h2=>bq ca;have dpA:_L.dp 99 (n6 (aq (A.map m9) QM (QJ (k:Int))++aq (A.map m9) (QJ ((k:Int)+1)) QM)):=by rw[ea];exact Xu _
 have eq1:_L.eqT (n6 (aq (A.map m9) QM (QJ (k:Int))++aq (A.map m9) (QJ ((k:Int)+1)) QM)) (n6 (aq (B.map m9) QM (QJ (k:Int))++aq (B.map m9) (QJ ((k:Int)+1)) QM))=decide (A.eraseIdx k=B.eraseIdx k):=by rw[ea,eb,nU]
 by_cases c1:A.length=B.length
 .by_cases c2:A.eraseIdx k=B.eraseIdx k
  .rw[m7 ⟨c1,c2⟩] at q;have e1:=eY A k;have e2:aq (A.map m9) (QJ ((k:Int)+1)) QM=(A.drop (k+1)).map m9:=by rw[show(k:Int)+1=((k+1:Nat):Int) by lia];exact eZ A (k+1)
   have e3:(aq (A.map m9) QM (QJ (k:Int))++[m9 (A.getD k 0+B.getD k 0)])++aq (A.map m9) (QJ ((k:Int)+1)) QM=(gB A B k).map m9:=by unfold gB;rw[QV,e1,e2,uw,m7 kl];simp
   unfold tI at q;rw[<- e3] at q;exact⟨BT,sF (YR (by rw[ai,ai,c1])) ⟨nl _ _ la lb,nl _ _ lc ld,dpA,sF (by show(!_L.eqT (n6 _) (n6 _))=QL;rw[eq1,bJ c2];rfl) ⟨_,cH kl,_,cH ca,O,WC,nl _ 1 la on,bq (show(aq (A.map m9) QM (QJ (k:Int))++[m9 (A.getD k 0+B.getD k 0)]).length+(aq (A.map m9) (QJ ((k:Int)+1)) QM).length<=1000 by rw[aK,gQ];lia),O,q⟩⟩⟩
  .rw[k9 (λ z=>c2 z.2)] at q;exact⟨BT,sF (YR (by rw[ai,ai,c1])) ⟨nl _ _ la lb,nl _ _ lc ld,dpA,sT (by show(!_L.eqT (n6 _) (n6 _))=QK;rw[eq1,bw c2];rfl) ⟨O,Wn,O,q⟩⟩⟩
 .rw[k9 (λ z=>c1 z.1)] at q;exact⟨BT,sT (neT (by rw[ai,ai];lia)) ⟨O,Wn,O,q⟩⟩
def Qw:ZX 117 99 12 4 Cq OG:=av <| by
 rintro ts Q ⟨kd,d0,d1,d2,mo,Ss,rfl,⟨S0,S0m,S0l⟩,k11,k14,n4,hS,hmo,q⟩;refine⟨O,?_⟩;obtain⟨j0,j0l,j0e⟩:=List.mem_iff_getElem.mp S0m;refine⟨⟨ca,by rw[ag];lia⟩,by rw[ag,bL,ag];exact aO ca,jy m9 m9 (λ k:Int=>!decide (Ss.getD k.toNat []=[])) (VR Ss.length) (by rw[ag];exact qC _) (λ k hk=>?_) ?_⟩
 .obtain⟨j,rfl,jl⟩:=gC hk;exact⟨tI (Ss.getD j []),aB (fT jl),O,Wn,Xu _,by rw[QV,<- lU];rfl,λ _=>⟨O,O⟩⟩
 generalize hks:(VR Ss.length).filter (λ k:Int=>!decide (Ss.getD k.toNat []=[]))=ks;have km:∀k,k∈ks ↔ k∈VR Ss.length/\Ss.getD k.toNat []≠[]:=λ k=>by rw[<- hks,hW];simp
 have kl:ks.length<=40:=by rw[<- hks];exact cY (lW _ _) (by rw[fQ];exact n4)
 have kpos:0<ks.length:=qW ((km j0).mpr ⟨zw j0l,by rw[QV,aA,aL j0l,j0e];exact qZ.mp S0l⟩);refine⟨O,_,O,WX rfl ⟨ks,d0,O,kpos,ca,λ k hk=>?_⟩⟩;obtain⟨ku,An⟩:=(km k).mp hk;obtain⟨a,rfl,al⟩:=gC ku;have eA:=fT al;rw[QV] at An;generalize Ss.getD a []=A at eA An;have A0:=qZ.mpr An;have fA:=hS _ (aC eA);have a6:=fA.2.1;obtain⟨k,mp,kl⟩:=qA d1 A0;refine⟨by simp[LF],O,tI A,aB eA,O,_,O,show(((A.map m9).length:Nat):Int)≠0 by rw[ai];lia,O,?_⟩;rw[mp];obtain⟨w,hw,wm⟩:=uG fw (k:=aU d2 7) (by rw[dw on];lia) (by rw[dw on];show d2%7<((7:Nat):Int);lia);have la:=ko (a:=QM) (b:=QJ (k:Int)) a6;have lb:=ko (a:=QJ ((k:Int)+1)) (b:=QM) a6;have er:aq (A.map m9) QM (QJ (k:Int))++aq (A.map m9) (QJ ((k:Int)+1)) QM=(A.eraseIdx k).map m9:=by rw[show(k:Int)+1=((k+1:Nat):Int) by lia,eY,eZ,lM,bD]
 have qf:Q (.tup [.tup [.str "fold",.str w,.int a,.int k],.tup (aq (A.map m9) QM (QJ (k:Int))++aq (A.map m9) (QJ ((k:Int)+1)) QM)]):=by
  rw[er];exact q (.fold w a k) (A.eraseIdx k) ⟨A,eA,wm,by unfold Wl;lia,by rw[QV]⟩ (KO fA)
 refine⟨O,Zr,O,BT,sN (λ _=>⟨_,O,on,.str w,hw,O,Wx,bq (by show(aq (A.map m9) QM (QJ (k:Int))).length+(aq (A.map m9) (QJ ((k:Int)+1)) QM).length<=1000;lia),O,VJ,O,qf⟩) (λ n13=>?_)⟩;refine⟨BT,sN (λ _=>⟨_,O,on,.str w,hw,O,Wx,O,VJ,O,q (.run w a k) A ⟨eA,wm,by unfold Wl;lia⟩ fA⟩) (λ n14=>?_)⟩;refine⟨O,Wn,O,WC,O,?_⟩;refine kr (λ ρ=>∃Ms:LL,Md kd A k Ss Ms/\ρ=[QJ (.int kd),QJ (lI [d0,d1,d2]),QJ (.lst (Ss.map tI)),QJ (.int mo),QJ (.own (ks.map .int)),QJ (.int a),QJ (tI A),QJ (.int k),QJ (.own (fw.map .str)),QJ (.own (Ms.map tI)),QM,QM]) ?_ (λ ρ' ⟨Ms,hM,e⟩=>?_)
 .refine⟨BT,sN (λ c11=>⟨by rw[ag];exact aO ca,bX tI (λ B=>tI (fR A B k)) Ss (λ B hB=>cl rfl ⟨A,B,k,O,kl,a6,(hS B hB).2.1,O,O⟩ rfl) ⟨O,Ss.map (λ B=>fR A B k),.inl ⟨c11,O⟩,by rw[cg];rfl⟩⟩) (λ c11=>⟨_,zN A0,s3 (λ cA=>⟨by rw[ag];exact aO ca,bX tI (λ B=>tI (B++A.drop 1)) Ss (λ B hB=>?_) ⟨O,Ss.map (λ B=>B++A.drop 1),.inr (.inl ⟨ca,cA,O⟩),by rw[cg];rfl⟩⟩) (λ cA=>⟨[[]],.inr (.inr ⟨c11,cA,O⟩),O⟩)⟩)⟩;have e1:aq (A.map m9) (QJ 1) QM=(A.drop 1).map m9:=eZ A 1;have b6:=(hS B hB).2.1;have lc:=ko (a:=QJ 1) (b:=QM) a6;refine⟨bq (by show(B.map m9).length+(aq (A.map m9) (QJ 1) QM).length<=1000;rw[ai];lia),O,?_⟩;show n6 (B.map m9++aq (A.map m9) (QJ 1) QM)=tI (B++A.drop 1);rw[e1,<- bD];rfl
 subst e;have ml:=KQ hM n4;have mb:=KR hM fA hS hmo;refine⟨⟨ca,by rw[ag];lia⟩,by rw[ag,bL,ag];exact aO ca,jy m9 m9 (λ k:Int=>(decide (kd=12)&&decide (0<A.getD 0 0)) || !decide (Ms.getD k.toNat []=[])) (VR Ms.length) (by rw[ag];exact qC _) (λ k hk=>?_) ?_⟩
 .obtain⟨j,rfl,jl⟩:=gC hk;have nn:(!_L.eqT (tI (Ms.getD j [])).fz (n6 []).fz)=!decide (Ms.getD ((j:Int).toNat) []=[]):=by rw[QV,<- lU];rfl
  refine⟨BT,sN (λ c12=>⟨_,zN A0,s3 (λ cA=>?_) (λ cA=>?_)⟩) (λ c12=>?_)⟩
  .exact⟨by rw[bJ c12,bJ cA];rfl,λ _=>⟨O,O⟩⟩
  .exact⟨tI (Ms.getD j []),aB (fT jl),O,Wn,Xu _,by rw[bw cA,lh,jT,<- nn];rfl,λ _=>⟨O,O⟩⟩
  .exact⟨tI (Ms.getD j []),aB (fT jl),O,Wn,Xu _,by rw[bw c12,oM,jT,<- nn];rfl,λ _=>⟨O,O⟩⟩
 generalize hks1:(VR Ms.length).filter (λ k:Int=>(decide (kd=12)&&decide (0<A.getD 0 0)) || !decide (Ms.getD k.toNat []=[]))=ks1;have km1:∀k,k∈ks1 ↔ k∈VR Ms.length/\((kd=12/\0<A.getD 0 0)\/Ms.getD k.toNat []≠[]):=λ k=>by rw[<- hks1,hW];simp
 have kl1:ks1.length<=40:=by rw[<- hks1];exact cY (lW _ _) (by rw[fQ];exact ml)
 refine⟨O,by rw[ai];exact aO ca,jy m9 m9 (λ k:Int=>decide ((Ms.getD k.toNat []).length<=6)&&decide (af ((Ms.getD k.toNat []).map ao)<=mo)) ks1 rfl (λ k hk=>?_) ?_⟩
 .obtain⟨j,rfl,jl⟩:=gC ((km1 k).mp hk).1;rw[QV];have eM:=fT jl;generalize Ms.getD j []=M at *;refine⟨tI M,aB eM,s2 (λ c6=>?_) (λ c6=>?_)⟩
  .have c6:(((M.map m9).length:Nat):Int)<=6:=aD c6;rw[ai] at c6;exact⟨tI M,aB eM,cl rfl ⟨M,O,KS (mb M (aC eM)),ca,by rw[bJ (show M.length<=6 by lia),mq],λ _=>⟨O,O⟩⟩ rfl⟩
  .have c6:¬(((M.map m9).length:Nat):Int)<=6:=gG c6;rw[ai] at c6;exact⟨by rw[bw (show ¬M.length<=6 by lia),oM],λ _=>⟨O,O⟩⟩
 generalize hls:ks1.filter (λ k:Int=>decide ((Ms.getD k.toNat []).length<=6)&&decide (af ((Ms.getD k.toNat []).map ao)<=mo))=ls;have lm:∀k,k∈ls ↔ k∈ks1/\(Ms.getD k.toNat []).length<=6/\af ((Ms.getD k.toNat []).map ao)<=mo:=λ k=>by rw[<- hls,hW,bj,cB,cB]
 have ll:ls.length<=40:=by rw[<- hls];exact cY (lW _ _) kl1
 refine⟨O,BT,sN (λ _=>⟨O,VP,O,VJ,O,q (.flip a k) A ⟨eA,by unfold Wl;lia⟩ fA⟩) (λ lne=>?_)⟩;have lne:ls.length≠0:=λ z=>lne (by rw[ai,z];rfl);refine⟨_,O,WX rfl ⟨ls,d2,O,ca,ca,λ x hx=>?_⟩⟩;obtain⟨xm,m6,mw⟩:=(lm x).mp hx;obtain⟨xu,hb⟩:=(km1 x).mp xm;obtain⟨b,rfl,bl⟩:=gC xu;rw[QV] at m6 mw hb;have eM:=fT bl;generalize Ms.getD b []=M at *;have nb:=KU hmo m6 mw;have fM:=uA (λ n hn=>(mb M (aC eM) n hn).1) m6 mw;refine⟨by simp[LF],O,BT,sN (λ c11=>?_) (λ n11=>?_)⟩
 .have mne:¬M=[]:=hb.elim (λ z=>by lia) id
  obtain⟨B,eB,rfl⟩:∃B,Ss[b]?=QJ B/\M=fR A B k:=by
   rcases hM with ⟨_,rfl⟩|⟨z,_⟩|⟨z,_⟩
   .rw[aW] at eM
    cases hx:Ss[b]? with
    |none=>rw[hx] at eM;cases eM
    |some B=>rw[hx] at eM;cases eM;exact⟨B,rfl,rfl⟩
   .lia
   .exact m8 c11 z
  obtain⟨j1,j2,j3⟩:=zA mne;exact⟨O,Wx,tI (fR A B k),aB eM,O,VJ,O,q (.join a b k) (fR A B k) ⟨A,B,eA,eB,j1,by unfold Wl;lia,by rw[QV];exact j2,by rw[<- j3];exact nb,j3⟩ fM⟩
 have k12:kd=12:=ca
 obtain⟨n,r,rfl⟩:∃n r,A=n::r:=by
  match A,A0 with
  |n::r,_=>exact⟨n,r,rfl⟩
 obtain⟨B,n0,eB,rfl⟩:∃B,0<n/\Ss[b]?=QJ B/\M=B++r:=by
  rcases hM with ⟨z,_⟩|⟨_,z,rfl⟩|⟨_,z,rfl⟩
  .exact m8 z n11
  .rw[aW] at eM
   cases hx:Ss[b]? with
   |none=>rw[hx] at eM;cases eM
   |some B=>rw[hx] at eM;cases eM;exact⟨B,z,rfl,rfl⟩
  .rcases hb with y|y
   .exact m8 y.2 z
   .match b,eM with
    |0,eM=>cases eM;exact m8 rfl y
 exact⟨O,VP,tI (B++r),aB eM,O,VJ,O,q (.fetch a b) (B++r) ⟨n,r,B,eA,ca,eB,nb,O⟩ fM⟩
def Qx:ZX 118 100 7 3 Cs OH:=av <| by
 rintro ts Q ⟨cell,mo,Ss,rfl,n4,hS,hmo,q⟩;refine⟨O,iE on on,on,O,?_⟩;generalize aU (cell*48271) 2147483647=n;refine⟨on,O,?_⟩;obtain⟨kd,ek⟩:∃kd,aU n 15=kd:=⟨_,rfl⟩;have kb:0<=kd/\kd<15:=by rw[<- ek,dw on];lia
 rw[ek];refine⟨⟨on,on,on⟩,on,⟨on,on,on⟩,on,⟨on,on,on⟩,O,VP,O,?_⟩;generalize aU (be n 15) 120=d0;generalize aU (be n 1800) 120=d1;generalize be n 216000=d2;refine⟨BT,s2 (λ _=>⟨on,cl rfl ⟨_,n,cell,mo,O,hmo,λ d S ok fs=>⟨O,q d S (ok Ss) fs⟩⟩ rfl⟩) (λ h0=>s3 (λ _=>⟨on,cl rfl ⟨_,n,cell,mo,O,hmo,λ d S ok fs=>⟨O,q d S (ok Ss) fs⟩⟩ rfl⟩) (λ k3=>?_))⟩
 have n0:0<Ss.length:=by
  have h0:¬(((Ss.map tI).length:Nat):Int)=0:=gG h0;rw[ag] at h0;lia
 refine s3 (λ _=>WX rfl ⟨kd,d0,d1,d2,mo,Ss,O,n0,n4,hS,λ d S ok fs=>⟨qB d S,O,q d S ok fs⟩⟩) (λ k6=>?_);refine kr (λ ρ=>ρ=[QJ (.int cell),QJ (.lst (Ss.map tI)),QJ (.int mo),QJ (.int n),QJ (.int kd),QJ (.own [.int d0,.int d1,.int d2]),QM]) ?_ (λ ρ' e=>?_)
 .refine s3 (λ h10=>⟨by rw[ag];exact aO ca,bX tI (λ S=>.int ((S.map m9).length:Nat)) Ss (λ S _=>⟨O,O⟩) ⟨Ss.map (λ S=>(S.length:Int)),by rw[cg];exact jp λ S _=>by rw[ai];rfl,by rw[ag];exact n0,λ M hM _=>s3 (λ hM0=>?_) (λ _=>rfl)⟩⟩) (λ h10=>rfl);exact WX rfl ⟨kd,d0,d1,d2,mo,Ss,O,KW hM ca,ca,ca,n4,hS,hmo,λ d S ok fs=>⟨qB d S,O,q d S ok fs⟩⟩
 subst e;refine⟨⟨ca,by rw[ag];lia⟩,_,O,cl rfl ⟨VR Ss.length,d0,by show[TV.lst ((QW (((Ss.map tI).length:Nat):Int).toNat).map λ i:Nat=>m9 (i:Nat)),m9 d0]=_;rw[ag,qC];rfl,by rw[fQ];exact n0,by rw[fQ];lia,λ k hk=>?_⟩ rfl⟩;obtain⟨a,rfl,al⟩:=gC hk;have eA:=fT al;generalize Ss.getD a []=A at eA;exact⟨O,tI A,aB eA,WX rfl ⟨_,d0,d1,d2,mo,a,A,Ss,O,eA,hS _ (aC eA),hmo,λ d S ok fs=>⟨qB d S,O,q d S ok fs⟩⟩⟩
def Qy:ZX 119 101 9 2 Cu OI:=av <| by
 rintro ts Q ⟨cs,mo,rfl,c40,hmo,q⟩;refine⟨O,O,Wn,O,O,Wn,O,O,?_⟩;refine bI (λ i ρ=>∃(ds:List Stp) (Ss:LL) (y4 y5:Option TV),cO mo ds Ss/\ds.length=i/\ρ=[QJ (lI cs),QJ (.int mo),QJ (.own (ds.map VB)),QJ (.own (Ss.map tI)),y4,y5,QM,QM,QM]) ⟨[],[],_,_,zz mo,O,O⟩ (λ i t ρ ht h=>?_) (λ ρ h=>?_)
 .obtain⟨ds,Ss,y4,y5,gl,dl,rfl⟩:=h;obtain⟨c,rfl,hc⟩:=jx ht;have il:=(aN.mp hc).1;have Sl:Ss.length=i:=by rw[<- gl.1,dl]
  exact WX rfl ⟨c,mo,Ss,O,ca,gl.2.1,hmo,λ d S ok fs=>⟨qB d S,O,_,O,O,by rw[ag,dl];exact aO ca,_,O,O,by rw[ag,Sl];exact aO ca,ds++[d],Ss++[S],_,_,zx gl ok fs,by rw[aK,dl];rfl,by rw[bD,bD];rfl⟩⟩
 obtain⟨ds,Ss,y4,y5,gl,dl,rfl⟩:=h;rw[ag] at dl;refine kr (λ ρ=>∃(ds:List Stp) (Ss:LL),cO mo ds Ss/\0<ds.length/\ds.length<=40/\ρ=[QJ (lI cs),QJ (.int mo),QJ (.own (ds.map VB)),QJ (.own (Ss.map tI)),y4,y5,QM,QM,QM]) ?_ (λ ρ' h=>?_)
 .refine⟨BT,sN (λ z=>?_) (λ z=>⟨ds,Ss,gl,by rw[ag] at z;lia,ca,O⟩)⟩;rw[ag] at z;have e1:ds=[]:=CG.mp ca;have e2:Ss=[]:=CG.mp (by rw[<- gl.1,e1];rfl);subst e1 e2;exact⟨O,VJ,O,Xn (n:=0) on,O,Wn,O,Xn (n:=0) on,[.num 0],[[]],zx (zz mo) (d:=.num 0) (S:=[]) ⟨O,by unfold Xm;decide⟩ (qx hmo),on,on,O⟩
 obtain⟨ds,Ss,gl,d0,d40,rfl⟩:=h;refine⟨O,Wn,O,cs,O,iE on on,on,O,?_⟩;generalize aU (cs.sum*16807) 2147483647=n;obtain⟨x,hx,x1,x8⟩:=Lo (aU n 6) (by rw[dw on];lia) (by rw[dw on];lia);refine⟨O,Ye,on,.int x,hx,O,⟨ca,ca⟩,?_⟩;refine bI (λ i ρ=>∃(os:LI) (n:Int) (y8:Option TV),os.length=i/\(∀o∈os,0<=o/\o<(ds.length:Int))/\ρ=[QJ (lI cs),QJ (.int mo),QJ (.own (ds.map VB)),QJ (.own (Ss.map tI)),y4,y5,QJ (.own (os.map .int)),QJ (.int n),y8]) ⟨[],n,_,O,(λ o ho=>nomatch ho),O⟩ (λ i t ρ ht h=>?_) (λ ρ h=>?_)
 .obtain⟨os,n,y8,ol,ob,rfl⟩:=h;obtain⟨il,rfl⟩:=lT ht;obtain⟨k,em,kl⟩:∃k:Nat,aU (be (aU (n*48271+11) 2147483647) 16) (((ds.map VB).length:Nat):Int)=k/\k<ds.length:=by rw[ag];exact nV _ d0
  refine⟨iE on on,on,O,⟨on,on,on⟩,by rw[ag];lia,O,by rw[ai,ol];exact aO ca,os++[(k:Int)],aU (n*48271+11) 2147483647,QJ (.int (i:Nat)),by rw[aK,ol];rfl,λ o ho=>?_,by rw[em,bD];rfl⟩
  rcases cr.mp ho with z|z
  .exact ob o z
  .cases aJ.mp z;lia
 obtain⟨os,n,y8,ol,ob,rfl⟩:=h;rw[ag,bL] at ol;obtain⟨k,hk,f1⟩:=qA n (A:=os) ca;refine⟨O,by rw[ai];lia,k,by rw[hk,ai];exact eW f1,O,VP,O,?_⟩
 have z:=q ds Ss (os.set k ((ds.length:Int) - 1)) ⟨hmo,gl,d0,d40,by rw[cF];lia,by rw[cF];lia,λ o ho=>by
  rcases nS ho with z|z
  .exact ob o z
  .lia⟩
 unfold tI at z;rw[kG] at z;show Q (.tup [.tup (ds.map VB),.tup ((os.map m9).set k (.int (((ds.map VB).length:Nat)-1))),.lst (Ss.map tI)]);rw[ag];exact z
def Qz:ZX 120 102 1 1 Cv OJ:=av <| by
 rintro ts Q ⟨d,rfl,q⟩;refine⟨O,?_⟩
 cases d with
 |inp ms|num n|count ms k=>exact⟨_,rfl,rfl,VP,rfl,mi,rfl,Wn,rfl,q⟩
 |each w a|fold w a s|run w a s=>exact⟨_,rfl,rfl,VP,rfl,mi,_,rfl,rfl,VP,rfl,ou,_,rfl,rfl,WC,rfl,q⟩
 |pair w a b=>exact⟨_,rfl,rfl,VP,rfl,mi,_,rfl,rfl,VP,rfl,ou,_,rfl,trivial,_,rfl,_,rfl,rfl,VJ,rfl,q⟩
 |pick a b c=>exact⟨_,rfl,rfl,VP,rfl,mi,_,rfl,rfl,VP,rfl,ou,_,rfl,trivial,_,rfl,trivial,_,rfl,_,rfl,_,rfl,rfl,VP,rfl,q⟩
 |join a b s|fetch a b=>exact⟨_,rfl,rfl,VP,rfl,mi,_,rfl,rfl,VP,rfl,ou,_,rfl,trivial,_,rfl,trivial,_,rfl,rfl,VJ,rfl,Ak,_,rfl,_,rfl,rfl,VJ,rfl,q⟩
 |turn a os|flip a k|cut a k f m g|spread a k m|lay a ms=>exact⟨_,rfl,rfl,VP,rfl,mi,_,rfl,rfl,VP,rfl,ou,_,rfl,trivial,_,rfl,trivial,_,rfl,rfl,VJ,rfl,Ak,_,rfl,rfl,WC,rfl,q⟩
def QA:Xy 121 103 ["steps","outs","live","k","arg"] 5 2 Cw OL:=av <| by
 rintro ts Q ⟨ds,Ss,os,mo,rfl,gd,q⟩;refine⟨O,?_⟩;obtain⟨_,gl,d0,d40,o0,o8,ob⟩:=gd;have ha:=kt gl;have lm:(((ds.map VB).length:Nat):Int)=ds.length:=by rw[ag]
 have e0:=Mh (ds:=ds) (os:=os) (n:=(((ds.map VB).length:Nat):Int).toNat) (by rw[lm];rfl) ob;refine⟨⟨by rw[lm];lia,by rw[lm];lia⟩,by rw[ag,bL,lm];exact aO ca,bX (λ i:Nat=>.int (i:Nat)) (λ k:Nat=>TV.bl (_L.inT (.int (k:Nat)) (os.map m9))) (QW (((ds.map VB).length:Nat):Int).toNat) (λ k hk=>⟨O,Zt os,O,O⟩) ⟨O,O,?_⟩⟩;obtain⟨r1,r2⟩:=uI d40;refine⟨⟨on,on,by rw[lm];exact r1⟩,bI (λ i ρ=>∃y4 y5,ρ=[QJ (.tup (ds.map VB)),QJ (tI os),QJ (.own ((bP ds ds.length i (bM ds.length os)).map .bl)),y4,y5]) ⟨_,_,by rw[e0];rfl⟩ (λ i u ρ hu h=>?_) (λ ρ h=>?_)⟩
 .obtain⟨y4,y5,rfl⟩:=h;rw[lm,r2] at hu;obtain⟨il,rfl⟩:=lT hu;have il:i<ds.length:=ca;obtain⟨k,ek⟩:∃k:Nat,(ds.length:Int)-1+(i:Int)*(-1)=k:=⟨ds.length-1-i,ca⟩;have kk:ds.length-1-i=k:=ca;have kl:k<ds.length:=ca;rw[ek];have lR:(bP ds ds.length i (bM ds.length os)).length=ds.length:=by rw[lV,fg]
  have st:bP ds ds.length (i+1) (bM ds.length os)=fc ds k (bP ds ds.length i (bM ds.length os)):=by rw[bP,kk]
  rw[st];generalize bP ds ds.length i (bM ds.length os)=R at *;refine⟨_,Xf ca,s2 (λ h=>?_) (λ h=>⟨_,_,by unfold fc;rw[k9 (by rw[h];decide)];rfl⟩)⟩;have ed:=cI kl;have rs:fc ds k R=(ah (ds.getD k (.num 0))).foldl (λ R a=>R.set a QK) R:=by unfold fc;rw[m7 h]
  rw[rs];have hd:=ha _ (aC ed);generalize ds.getD k (.num 0)=d at ed hd;refine⟨VB d,aB ed,cl rfl ⟨d,O,O,bI (λ j ρ=>∃y5,ρ=[QJ (.tup (ds.map VB)),QJ (tI os),QJ (.own ((((ah d).take j).foldl (λ R a=>R.set a QK) R).map .bl)),QJ (.int k),y5]) ⟨_,O⟩ (λ j u ρ hu h=>?_) (λ ρ h=>?_)⟩ rfl⟩
  .obtain⟨y5,rfl⟩:=h;obtain⟨a,rfl,ea⟩:=uL hu;have al:=hd a (aC ea);exact⟨O,a,eW (by rw[ag,uH];lia),_,by rw[gA,ea,iD];show _=[_,_,QJ (TV.own (RE TV.bl ((((ah d).take j).foldl (λ R a=>R.set a QK) R).set a QK))),_,_];rw[kG];rfl⟩
  .obtain⟨y5,rfl⟩:=h;rw[ag,bG];exact⟨_,_,O⟩
 .obtain⟨y4,y5,rfl⟩:=h;rw[ag,bL,lm,r2];exact⟨O,q⟩
def QB:Xy 122 104 ["steps","sides","live","uses","grown","k","step","place","arg","first","led"] 11 3 Cy OM:=av <| by
 rintro ts Q ⟨ds,Ss,os,mo,rfl,gd,q⟩;refine⟨O,?_⟩;obtain⟨_,gl,d0,d40,o0,o8,ob⟩:=gd;have ha:=kt gl;have ll:=oq ds os;have eS:∀i,i<ds.length->Ss[i]?=QJ (Vy Ss i):=λ i il=>by unfold Vy;rw[aA,aL (by rw[<- gl.1];exact il)];rfl
 refine⟨by rw[ag];exact aO ca,bX VB (λ _=>.int 0) ds (λ d _=>⟨O,O⟩) ⟨O,by rw[ag];exact aO ca,bX VB (λ _=>.bl QL) ds (λ d _=>⟨O,O⟩) ⟨O,O,?_⟩⟩⟩;refine bI (λ i ρ=>∃y5 y6 y7 y8 y9 y10,ρ=i5 ds Ss os (Xo ds.length (Wp ds (WH ds os i))) (Xp ds Ss ds.length (Wp ds (WH ds os i))) [y5,y6,y7,y8,y9,y10]) ⟨_,_,_,_,_,_,by rw[<- us0,<- gw0];rfl⟩ (λ i t ρ ht h=>?_) (λ ρ h=>?_)
 .obtain⟨y5,y6,y7,y8,y9,y10,rfl⟩:=h;obtain⟨d,rfl,ed⟩:=iJ ht;have il:=(aN.mp ed).1;have st:=Am ds os i;have lu:=oa ds (WH ds os i);rw[gD ed] at st;generalize Wp ds (WH ds os i)=U at *;refine⟨_,Xf ca,s2 (λ h=>?_) (λ h=>⟨_,_,_,_,_,_,by rw[st,k9 (by rw[h];decide)];rfl⟩)⟩;rw[st,m7 h];refine cl rfl ⟨d,O,O,?_⟩ rfl;refine bI (λ j ρ=>∃y7 y8 y9 y10,ρ=i5 ds Ss os (Xo ds.length (Wi i ((ah d).take j) U)) (Xp ds Ss ds.length (Wi i ((ah d).take j) U)) [QJ (.int i),QJ (VB d),y7,y8,y9,y10]) ⟨_,_,_,_,O⟩ (λ j u ρ hu h=>?_) (λ ρ h=>?_)
  .obtain⟨y7,y8,y9,y10,rfl⟩:=h;obtain⟨a,rfl,ea⟩:=iJ (f:=λ a:Nat=>m9 (a:Nat)) hu;have al:=ha _ (aC ed) a (aC ea);have ll:a<(Wi i ((ah d).take j) U).length:=by rw[qI,lu];exact al
   have rl:∀f:Nat->TV,a<((QW ds.length).map f).length:=λ f=>by rw[ag,bL];exact al
   refine⟨_,iL al,O,a,eW (rl _),?_⟩;rw[Ml (x:=[(i:Int),(j:Int)]) ll];have gb:=Mp (Ss:=Ss) (a:=a) (gD ed) (aN.mp ea).1;refine fj (x:=_L.eqT (.str (bf (VH d))) (.str "fetch")) (y:=decide ((j:Int)=0)) ⟨_,cX d,BT,O⟩ ⟨BT,O⟩ ⟨O,fj (x:=_L.inT (.str (bf (VH d))) [.str "pair",.str "pick",.str "fetch"]) ⟨_,cX d,O,VP,O,Mg,O⟩ (fj (x:=!(_L.eqT (.str (bf (VH d))) (.str "fetch")&&decide ((j:Int)=0))) rfl ⟨tI _,aB (eS a al),tI _,aB (eS i il),tlt _ _⟩ rfl) ⟨O,kC (x:=_L.eqT (.str (bf (VH d))) (.str "spread")) ⟨_,cX d,BT,O⟩ rfl (s2 (λ h=>⟨O,a,eW (rl _),_,_,_,_,by rw[jA ea,<- Mm ll (gb.trans h)];rfl⟩) (λ h=>⟨_,_,_,_,by rw[jA ea,<- Mn ll (gb.trans h)];rfl⟩))⟩⟩
  .obtain⟨y7,y8,y9,y10,rfl⟩:=h;rw[iQ,ag,bG];exact⟨_,_,_,_,_,_,O⟩
 .obtain⟨y5,y6,y7,y8,y9,y10,rfl⟩:=h;rw[iQ,ag,Mi];exact⟨O,VJ,O,q⟩
def QC:ZX 123 105 2 2 Cz ON:=av <| by
 rintro ts Q ⟨d,ss,rfl,ha,q⟩;refine⟨O,?_⟩
 cases d with
 |inp ms|lay a ms=>exact⟨_,rfl,rfl,VJ,rfl,oy,rfl,q⟩
 |num n|count ms k=>exact⟨_,rfl,rfl,VJ,rfl,oy,_,rfl,rfl,VJ,rfl,uY,rfl,q⟩
 |turn a os|flip a k|cut a k f m g|spread a k m=>exact⟨_,rfl,rfl,VJ,rfl,oy,_,rfl,rfl,VJ,rfl,uY,_,rfl,rfl,Wx,rfl,Al,_,rfl,_,i6 (ha a (by simp[ah])),rfl,q⟩
 |_=>exact⟨_,rfl,rfl,VJ,rfl,oy,_,rfl,rfl,VJ,rfl,uY,_,rfl,rfl,Wx,rfl,Al,rfl,q⟩
def QD:Xy 124 106 ["steps","outs","sides","live","asked","whole","fetched","k","step","kept","states","state","keep"] 13 4 CA OO:=av <| by
 rintro ts Q ⟨ds,Ss,os,mo,rfl,gd,q⟩;refine⟨O,?_⟩;obtain⟨_,gl,d0,d40,o0,o8,ob⟩:=id gd;have ll:=oq ds os;have lm:(((ds.map VB).length:Nat):Int)=ds.length:=by rw[ag]
 have ln:(((ds.map VB).length:Nat):Int).toNat=ds.length:=by rw[lm];rfl
 refine cl rfl ⟨ds,Ss,os,mo,O,gd,O,⟨by rw[lm];lia,by rw[lm];lia⟩,by rw[ag,bL,lm];exact aO ca,bX (λ i:Nat=>.int (i:Nat)) (λ k:Nat=>TV.bl (_L.inT (.int (k:Nat)) (os.map m9))) (QW (((ds.map VB).length:Nat):Int).toNat) (λ k hk=>⟨O,Zt os,O,O⟩) ⟨O,by rw[ag];exact aO ca,bX VB (λ _=>.bl QL) ds (λ d _=>⟨O,O⟩) ⟨O,O,?_⟩⟩⟩ rfl;refine bI (λ i ρ=>∃y7 y8,ρ=Yv ds Ss os (Xr ds os i) (Xs ds os i) [y7,y8,QM,QM,QM,QM]) ⟨_,_,by rw[<- wh0,<- ft0,ln];rfl⟩ (λ i t ρ ht h=>?_) (λ ρ h=>?_)
 .obtain⟨y7,y8,rfl⟩:=h;obtain⟨d,rfl,ed⟩:=iJ ht;have gd':=gD ed;have hd:=kt gl _ (aC ed);have rl:∀f:Nat->TV,((QW ds.length).map f).length=ds.length:=λ f=>by rw[ag,bL]
  have el:=Xf (R:=aM ds os) (k:=i) (by rw[ll];exact(aN.mp ed).1);refine kr (λ ρ=>ρ=Yv ds Ss os (Xr ds os (i+1)) (Xs ds os i) [QJ (.int i),QJ (VB d),QM,QM,QM,QM]) (fj (y:=_L.eqT (.str (bf (VH d))) (.str "lay")) ⟨_,el,O⟩ ⟨_,cX d,BT,O⟩ (s2 (λ h=>?_) (λ h=>by rw[Mr λ j=>by rw[gd'];exact MB h];rfl))) (λ ρ' e=>?_)
  .obtain⟨a,ms,rfl⟩:=Mz (an h).2;exact⟨O,_,O,a,eW (by rw[rl];exact hd a (by simp[ah])),by rw[<- Mu λ j=>by rw[gd',(an h).1];rfl];rfl⟩
  subst e;refine fj (y:=_L.eqT (.str (bf (VH d))) (.str "fetch")) ⟨_,el,O⟩ ⟨_,cX d,BT,O⟩ (s2 (λ h=>?_) (λ h=>⟨_,_,by rw[Mt λ j=>by rw[gd'];exact MC h]⟩));obtain⟨a,b,rfl⟩:=MA (an h).2;exact⟨O,_,O,a,eW (by rw[rl];exact hd a (by simp[ah])),_,_,by rw[<- Mv λ j=>by rw[gd',(an h).1];rfl];rfl⟩
 obtain⟨y7,y8,rfl⟩:=h;rw[iQ,ag];refine⟨O,Wn,O,O,Wn,O,O,?_⟩;refine bI (λ i ρ=>∃y7 y8 y11 y12,ρ=Yv ds Ss os (Xr ds os ds.length) (Xs ds os ds.length) [y7,y8,QJ (.own ((VN ds Ss os i).1.map λ k=>.int (k:Nat))),QJ (.own ((VN ds Ss os i).2.map .str)),y11,y12]) ⟨_,_,_,_,O⟩ (λ i t ρ ht h=>?_) (λ ρ h=>?_)
 .obtain⟨y7,y8,y11,y12,rfl⟩:=h;obtain⟨d,rfl,ed⟩:=iJ ht;have il:=(aN.mp ed).1;obtain⟨l2,l1⟩:=qR ds Ss os i;have el:=Xf (R:=aM ds os) (k:=i) ca;have sz:∀n:Nat,n<=50->n<QR:=λ n h=>aO ca;have st:VN ds Ss os (i+1)=if ((aM ds os).getD i QL&&((Xw ds os i (ds.getD i (.num 0)) (WT (ds.getD i (.num 0)) (VN ds Ss os i).2) || ke2 ds Ss os i (WT (ds.getD i (.num 0)) (VN ds Ss os i).2)) && !iM (ds.getD i (.num 0))))=QK then ((VN ds Ss os i).1++[i],(VN ds Ss os i).2++[("read" : Str)]) else ((VN ds Ss os i).1,(VN ds Ss os i).2++[WT (ds.getD i (.num 0)) (VN ds Ss os i).2]):=rfl;rw[gD ed] at st;refine WX rfl ⟨d,(VN ds Ss os i).2,O,λ a ha=>by rw[l2];exact jz gl i d ed a ha,by simp[LF],O,?_⟩;generalize WT d (VN ds Ss os i).2=s at st ⊢;refine kC (x:=mj d) ⟨_,cX d,O,VJ,O,uP,bO TV.bl (Mw d)⟩ (kC ⟨_,iL (f:=λ j=>TV.bl (Xq ds os ds.length j)) il,O⟩ (fj (y:=!_L.eqT (.str s) (.str "read")) ⟨_,iL (f:=λ j=>TV.bl (XI ds os ds.length j)) il,O⟩ ⟨BT,O⟩ rfl) rfl) ⟨O,?_⟩;refine kr (λ ρ=>ρ=Yv ds Ss os (Xr ds os ds.length) (Xs ds os ds.length) [QJ (.int i),QJ (VB d),QJ (.own ((VN ds Ss os i).1.map λ k=>.int (k:Nat))),QJ (.own ((VN ds Ss os i).2.map .str)),QJ (.str s),QJ (.bl (Xw ds os i d s || ke2 ds Ss os i s))]) (fj (x:=_L.eqT (.str s) (.str "busy")) ⟨BT,O⟩ (kC ⟨_,O,_,iL (f:=λ j=>m9 (((aQ ds os).getD j []).length:Nat)) il,O⟩ ⟨_,O,_,iL (f:=λ j=>TV.bl (gwB ds Ss j ((aQ ds os).getD j []))) il,O⟩ rfl) (s2 (λ h=>⟨O,by rw[show ke2 ds Ss os i s=QK from h,s0f];rfl⟩) (λ h=>by rw[show ke2 ds Ss os i s=QL from h,gj];rfl))) (λ ρ' e=>?_);subst e;generalize (Xw ds os i d s || ke2 ds Ss os i s)=kq at st ⊢;refine kr (λ ρ=>∃l s' y,VN ds Ss os (i+1)=(l,(VN ds Ss os i).2++[s'])/\ρ=Yv ds Ss os (Xr ds os ds.length) (Xs ds os ds.length) [QJ (.int i),QJ (VB d),QJ (.own (l.map λ k=>.int (k:Nat))),QJ (.own ((VN ds Ss os i).2.map .str)),QJ (.str s'),y]) (fj (y:=kq && !iM d) ⟨_,el,O⟩ (fj (x:=kq) (y:=!iM d) rfl ⟨_,cX d,O,VJ,O,oy,bO (λ b=>TV.bl (!b)) (Mx d)⟩ rfl) (s2 (λ h=>⟨O,by rw[ag];exact sz _ ca,O,_,_,_,by rw[st,m7 h],by rw[bD];rfl⟩) (λ h=>⟨_,_,_,by rw[st,k9 (by rw[h];decide)],O⟩))) (λ ρ' e=>?_);obtain⟨l,s',y,e,rfl⟩:=e;exact⟨O,by rw[ag,l2];exact sz _ ca,_,_,_,_,by rw[e,bD];rfl⟩
 obtain⟨y7,y8,y11,y12,rfl⟩:=h;rw[iQ,ag];exact⟨_,O,O,VP,O,q⟩
def QE:ZX 125 107 3 3 CB OP:=av <| by
 rintro ts Q ⟨d,S,Ss,rfl,fS,fs,hA,q⟩;refine⟨O,?_⟩
 cases d with
 |each w a|pair w a b|pick a b c|fetch a b=>exact⟨_,rfl,rfl,Wx,rfl,vh,cl rfl ⟨_,S,rfl,.inl rfl,dD fS,rfl,q⟩ rfl⟩
 |fold w a k|run w a k=>exact⟨_,rfl,rfl,Wx,rfl,vh,_,rfl,rfl,VJ,rfl,AE,_,rfl,tI _,aB (hA a (by simp[ah])),cl rfl ⟨_,_,rfl,.inl rfl,dD (fs _ (aC (hA a (by simp[ah])))),rfl,q⟩ rfl⟩
 |_=>exact⟨_,rfl,rfl,Wx,rfl,vh,_,rfl,rfl,VJ,rfl,AE,rfl,q⟩
def QF:Xy 126 108 ["steps","live","states","kept","users","k","step","arg","homes","lost"] 10 4 CC OQ:=av <| by
 rintro ts Q ⟨ds,Ss,os,mo,B,K,rfl,gd,lB,q⟩;refine⟨O,?_⟩;obtain⟨_,gl,d0,d40,o0,o8,ob⟩:=id gd;have ll:=oq ds os;have ha:=kt gl;have lm:(((ds.map VB).length:Nat):Int)=ds.length:=by rw[ag]
 refine⟨by rw[ag];exact aO ca,bX VB (λ _=>.int 0) ds (λ d _=>⟨O,O⟩) ⟨O,O,?_⟩⟩;refine bI (λ i ρ=>∃y5 y6 y7,ρ=Yy ds os B K ((cR ds os i).map λ k:Nat=>.int (k:Nat)) [y5,y6,y7,QM,QM]) ⟨_,_,_,by rw[<- Nd];rfl⟩ (λ i t ρ ht h=>?_) (λ ρ h=>?_)
 .obtain⟨y5,y6,y7,rfl⟩:=h;obtain⟨d,rfl,ed⟩:=iJ ht;have il:=(aN.mp ed).1;have ul:=oD ds os i;have st:cR ds os (i+1)=if (aM ds os).getD i QL=QK then (ah (ds.getD i (.num 0))).foldl (λ R a=>R.set a i) (cR ds os i) else cR ds os i:=rfl;rw[gD ed] at st;rw[st];generalize cR ds os i=R at *;refine⟨_,Xf ca,s2 (λ h=>?_) (λ h=>⟨_,_,_,by rw[k9 (by rw[h];decide)];rfl⟩)⟩;rw[m7 h];have hd:=ha _ (aC ed);refine cl rfl ⟨d,O,O,?_⟩ rfl;refine bI (λ j ρ=>∃y7,ρ=Yy ds os B K ((((ah d).take j).foldl (λ R a=>R.set a i) R).map λ k:Nat=>.int (k:Nat)) [QJ (.int i),QJ (VB d),y7,QM,QM]) ⟨_,O⟩ (λ j u ρ hu h=>?_) (λ ρ h=>?_)
  .obtain⟨y7,rfl⟩:=h;obtain⟨a,rfl,ea⟩:=uL hu;have al:=hd a (aC ea);exact⟨O,a,eW (by rw[ag,vp];lia),_,by rw[gA,ea,iD];show _=Yy _ _ _ _ (RE _ (List.set _ a i)) _;rw[kG];rfl⟩
  .obtain⟨y7,rfl⟩:=h;rw[ag,bG];exact⟨_,_,_,O⟩
 obtain⟨y5,y6,y7,rfl⟩:=h;rw[iQ,ag];refine⟨⟨by rw[lm];lia,by rw[lm];lia⟩,O,by rw[ag];exact aO ca,bX VB (λ _=>.bl QL) ds (λ d _=>⟨O,O⟩) ⟨O,O,?_⟩⟩;obtain⟨r1,r2⟩:=uI d40;have ul:=oD ds os ds.length;have ut:=AL ds os d0 ds.length (ak _);generalize cR ds os ds.length=U at *;refine⟨⟨on,on,by rw[lm];exact r1⟩,bI (λ i ρ=>∃y5,ρ=Yy ds os B K (U.map λ k:Nat=>.int (k:Nat)) [y5,y6,y7,QJ (.own ((We ds os B U K i).1.map λ k:Nat=>.int (k:Nat))),QJ (.own ((We ds os B U K i).2.map .bl))]) ⟨_,by rw[lm,QV];show _=Yy _ _ _ _ _ [_,_,_,QJ (TV.own ((QW ds.length).map _)),QJ (TV.own ((QT ds.length QL).map TV.bl))];rw[nY,<- gF];rfl⟩ (λ i u ρ hu h=>?_) (λ ρ h=>?_)⟩
 .obtain⟨y5,rfl⟩:=h;rw[lm,r2] at hu;obtain⟨il,rfl⟩:=lT hu;have il:i<ds.length:=ca;obtain⟨k,ek⟩:∃k:Nat,(ds.length:Int)-1+(i:Int)*(-1)=k:=⟨ds.length-1-i,ca⟩;have kk:ds.length-1-i=k:=ca;have kl:k<ds.length:=ca;rw[ek];obtain⟨l1,l2⟩:=qU ds os B U K i;have st:We ds os B U K (i+1)=if WU ds os B k=QK then ((We ds os B U K i).1.set k ((We ds os B U K i).1.getD (U.getD k 0) 0),(We ds os B U K i).2.set k (iO (ds.getD (U.getD k 0) (.num 0)) || (!decide (U.getD k 0∈K)&&(We ds os B U K i).2.getD (U.getD k 0) QL))) else We ds os B U K i:=by rw[We,kk]
  rw[st];generalize We ds os B U K i=p at *;have uk:=ut k;have eu:=Zy (R:=U) (k:=k) ca;generalize U.getD k 0=u at *;refine fj (x:=(aM ds os).getD k QL) (y:=_L.eqT (.str (B.getD k "")) (.str "busy")) ⟨_,Xf ca,O⟩ ⟨_,i6 ca,BT,O⟩ (s2 (λ h=>?_) (λ h=>⟨_,by rw[k9 (by rw[show WU ds os B k=QL from h];decide)];rfl⟩));rw[m7 (show WU ds os B k=QK from h)];refine⟨_,eu,_,Zy ca,O,k,eW (by rw[ag];lia),?_⟩;refine kC (x:=iO (ds.getD u (.num 0))) (y:=!decide (u∈K)&&p.2.getD u QL) ⟨_,eu,VB _,aB (cI uk),_,cX _,BT,bO TV.bl (Nf _)⟩ (fj (x:=!decide (u∈K)) (y:=p.2.getD u QL) ⟨_,eu,O,uV K,bO (λ b=>TV.bl (!b)) (Ag u K)⟩ ⟨_,eu,_,Xf ca,O⟩ rfl) ⟨O,k,eW (by rw[ag];lia),QJ (.int (k:Nat)),?_⟩;rw[kG,kG];rfl
 .obtain⟨y5,rfl⟩:=h;rw[ag,bL,lm,r2];exact⟨O,VJ,O,q⟩
def QG:ZX 127 109 1 1 CD OR:=av <| by
 rintro ts Q ⟨l,rfl,ok,q⟩;refine⟨O,?_⟩
 cases l with
 |fill st S b ss t=>
  obtain⟨fS,hd,fo⟩:=ok;have bd:=AB fS;exact⟨_,O,BT,_,O,cl rfl ⟨_,S,O,.inl rfl,dD fS,_,O,cl rfl ⟨t,O,hd,fo,iF ca ca,O,q⟩ rfl⟩ rfl⟩
 |run w st A k t=>
  obtain⟨fS,kl,hd,fo⟩:=ok;have bd:=AB (AC (k:=k) fS);have b1:=fS.1 (A.getD k 0) (gZ kl)
  have pp:-18446744073709551616<af (A.eraseIdx k)*A.getD k 0/\af (A.eraseIdx k)*A.getD k 0<18446744073709551616:=by
   have z:0<=af (A.eraseIdx k)*A.getD k 0:=qq ca ca;have z2:af (A.eraseIdx k)*A.getD k 0<=512*1000000:=qv ca ca ca ca;lia
  exact⟨_,O,BT,_,O,cl rfl ⟨_,_,O,.inl rfl,dD (AC fS),_,O,iF ca ca,_,O,cl rfl ⟨t,O,hd,fo,iF pp.1 pp.2,O,q⟩ rfl⟩ rfl⟩
def QH:Xy 128 110 ["script","steps","outs","sides","live","kept","states","uses","homes","lost","weft","calls","loop","store","told","due","cut_off","k","step"] 19 1 CF OS:=av <| by
 rintro ts Q ⟨ns,rfl,h63,q⟩;refine⟨O,?_⟩;have e40:aq (ns.map m9) QM (QJ (40:Int))=(ns.take 40).map m9:=eY ns 40;refine cl rfl ⟨ns.take 40,24,by show[TV.lst (aq (ns.map m9) QM (QJ (40:Int))),m9 24]=_;rw[e40];rfl,by rw[bh];lia,⟨on,on⟩,λ ds Ss os gd=>cl rfl ⟨ds,Ss,os,24,O,gd,O,cl rfl ⟨ds,Ss,os,24,O,gd,cl rfl ⟨ds,Ss,os,24,_,_,O,gd,(qR ds Ss os ds.length).1,O,VJ,cl rfl ⟨ds,Ss,os,24,O,gd,O,?_⟩ rfl⟩ rfl⟩ rfl⟩ rfl⟩ rfl;obtain⟨hmo,gl,d0,d40,o0,o8,ob⟩:=id gd;have fS:=nT gl hmo;have eSk:∀k,k<ds.length->Ss[k]?=QJ (Vy Ss k):=λ k kl=>by unfold Vy;rw[aA,aL (by rw[<- gl.1];exact kl)];rfl
 obtain⟨l1,l2,l3⟩:=fW ds Ss os ds.length;have ll:=oq ds os;have lp:=AT (os:=os) gl (Vx ds Ss os ds.length).st.length;have lo:=AU gl fS d40 (os:=os) (Vx ds Ss os ds.length).st.length;obtain⟨hl1,hl2⟩:=qU ds os (VN ds Ss os ds.length).2 (cR ds os ds.length) (VN ds Ss os ds.length).1 ds.length;have main:=λ i m H L (e:We ds os (VN ds Ss os ds.length).2 (cR ds os ds.length) (VN ds Ss os ds.length).1 ds.length=(H,L)) em=>Nc gd (i:=i) (m:=m) e em;obtain⟨H,L,eHL⟩:∃H L,We ds os (VN ds Ss os ds.length).2 (cR ds os ds.length) (VN ds Ss os ds.length).1 ds.length=(H,L):=⟨_,_,rfl⟩;have main:=λ i m em=>main i m H L eHL em;rw[eHL] at hl1 hl2 ⊢;have hl1:H.length=ds.length:=hl1;have hl2:L.length=ds.length:=hl2;generalize hp:Vx ds Ss os ds.length=p at *;generalize hL:iP ds Ss p p.st.length=Lq at *;refine⟨_,O,by rw[ag];exact aO ca,bX (λ k:Nat=>.tup [.int (k:Nat),.int (af (Vy Ss k))]) (λ _=>.int 0) p.st (λ k _=>⟨O,O⟩) ⟨O,_,O,O,?_⟩⟩;refine bI (λ j ρ=>∃y12 y13,ρ=Zz ns ds Ss os H L p [QJ (.own ((QW p.st.length).map λ x:Nat=>.int (cJ (Lq.take j) x))),y12,y13,QM,QM,QM,QM,QM]) ⟨_,_,by rw[gF,<- bL (n:=p.st.length),<- gF,bL];rfl⟩ (λ j t ρ ht h=>?_) (λ ρ h=>?_)
 .obtain⟨y12,y13,rfl⟩:=h;rw[lp,aW] at ht;obtain⟨u,eu,rfl⟩:=jr.mp ht;obtain⟨ok,x,ex,xl⟩:=lo u (aC eu)
  have key:((QW p.st.length).map λ x:Nat=>m9 (cJ (Lq.take j) x)).set x (.int (cJ (Lq.take j) x+XV u))=(QW p.st.length).map λ x:Nat=>m9 (cJ (Lq.take (j+1)) x):=by
   rw[gA,eu];refine oz ?_ λ z hz=>?_
   .rw[vt];show m9 (_+((if jG u=(x:Int) then XV u else 0)+0))=_;rw[m7 ex,dy]
   .rw[vt];show m9 (_+((if jG u=(z:Int) then XV u else 0)+0))=_;rw[k9 ca];show m9 (_+(0+0))=_;rw[dy,dy]
  rw[<- key]
  cases u with
  |fill st S b ss t=>
   cases (show st=(x:Int) from ex);exact⟨_,O,O,_,O,BT,_,iL xl,cl rfl ⟨.fill _ S b ss t,O,ok,O,x,eW (by rw[ag,bL];exact xl),_,_,O⟩ rfl⟩
  |run w st A k t=>
   cases (show st=(x:Int) from ex);exact⟨_,O,O,_,O,BT,_,O,O,_,iL xl,cl rfl ⟨.run w _ A k t,O,ok,O,x,eW (by rw[ag,bL];exact xl),_,_,O⟩ rfl⟩
 obtain⟨y12,y13,rfl⟩:=h;rw[lp,ag,bG];refine⟨_,O,O,?_⟩;refine bI (λ j ρ=>∃y13 y14 y15 y16 y17 y18,ρ=Zz ns ds Ss os H L p [QJ (.own ((QW p.st.length).map λ x:Nat=>.int (cJ Lq x))),y12,y13,y14,y15,y16,y17,y18]) ⟨_,_,_,_,_,_,O⟩ (λ i t ρ ht h=>?_) (λ ρ h=>?_)
 .obtain⟨y13,y14,y15,y16,y17,y18,rfl⟩:=h;obtain⟨m,rfl,em⟩:=iJ ht;have il:=(aN.mp em).1;obtain⟨main1,main2⟩:=main i m em;refine⟨O,O,O,?_⟩;refine bI (λ j ρ=>∃y17 y18,ρ=Zz ns ds Ss os H L p [QJ (.own ((QW p.st.length).map λ x:Nat=>.int (cJ Lq x))),y12,QJ (.int i),QJ (.tup [.int (m:Nat),.int (af (Vy Ss m))]),QJ (.int (gH ds Ss os H m j)),QJ (.bl (hG ds os H L m j)),y17,y18]) ⟨_,_,O⟩ (λ j t ρ ht h=>?_) (λ ρ h=>?_)
  .obtain⟨y17,y18,rfl⟩:=h;obtain⟨d,rfl,ed⟩:=iJ ht;have jl:=(aN.mp ed).1;have e1:gH ds Ss os H m (j+1)=if ((aM ds os).getD j QL&&decide (((H.getD j 0:Nat):Int)=(m:Int)))=QK then gH ds Ss os H m j+Xx Ss (Vy Ss j) (ds.getD j (.num 0)) else gH ds Ss os H m j:=rfl
   have e2:hG ds os H L m (j+1)=if ((aM ds os).getD j QL&&decide (((H.getD j 0:Nat):Int)=(m:Int)))=QK then hG ds os H L m j || L.getD j QL else hG ds os H L m j:=rfl
   rw[gD ed] at e1;have ok:=XH (gl.2.2 j _ _ ed (eSk j jl));rw[e1,e2];generalize gH ds Ss os H m j=x at *;generalize hG ds os H L m j=y at *;refine fj (x:=(aM ds os).getD j QL) (y:=decide (((H.getD j 0:Nat):Int)=(m:Int))) ⟨_,Xf ca,O⟩ ⟨_,Zy ca,_,O,BT,O⟩ (s2 (λ h=>?_) (λ h=>?_))
   .rw[m7 h,m7 h];refine⟨tI (Vy Ss j),aB (eSk j jl),cl rfl ⟨d,Vy Ss j,Ss,O,fS _ (aC (eSk j jl)),fS,λ a ha=>eSk a ?_,O,kC (x:=y) (y:=L.getD j QL) rfl ⟨_,Xf ca,O⟩ ⟨O,_,_,O⟩⟩ rfl⟩;have:=uC ok a ha;have:=gl.1;lia
   .rw[k9 (by rw[h];decide),k9 (by rw[h];decide)];exact⟨_,_,O⟩
  .obtain⟨y17,y18,rfl⟩:=h;rw[iQ,ag];generalize gH ds Ss os H m ds.length=x at *;generalize hG ds os H L m ds.length=y at *;refine kC (x:=decide (x<cJ Lq i)) (y:=!y && !decide (cJ Lq i=x)) ⟨_,iL il,O⟩ (fj (x:=!y) (y:=!decide (cJ Lq i=x)) rfl ⟨_,iL il,BT,O⟩ rfl) (sF ?_ ⟨_,_,_,_,_,_,O⟩);rw[bw ca,jT]
   cases y with
   |true=>rfl
   |false=>rw[bJ (main2 rfl)];rfl
 obtain⟨y13,y14,y15,y16,y17,y18,rfl⟩:=h;exact⟨O,q⟩
def glt_ex{K:FG}{st:Ra}{oc:Value}{od an:OA}{osl:AV}{kV doc pm ct:Value}{oc2:Value}{od2:OA}{vs:Array Value}{sl2:AV}(a:W.nsIn K Rc x=QJ (QJ (.ref f)))(l:K.lookup f=QJ ⟨oc,od,.func (W.fnOf x x (ip st) (aR st) (aI st) .none kV doc pm an (.ref c) ct),osl⟩)(q:W.codeIn K (.ref c) x=QK)(k:W.keepIn K (.ref f)=QK)(h4:K.lookup c=QJ ⟨oc2,od2,.fields vs,sl2⟩)(h5:vs[11]?=QJ (.ref T)):∃f fd c,WB K x st f fd c T:=⟨_,_,_,⟨wF l q k,a⟩,rfl,Hr a l rfl h4 h5⟩
def rb(K:FG)(ts:List QO):Sp:=λ vs H Q _=>∃(a:QO) (ns:LI),vs=[.ref a]/\SqL K H a (ns.map V.int)/\ns.length<=63/\(∀T∈ts,H T=QJ (.tbl #[]))/\∀H',Q (.bl QK) H'
def fx{α:Type}{p:α->Prop}{a:α}{l:List α}(h:p a)(t:∀n∈l,p n):∀n∈a::l,p n:=λ n hn=>by
 rcases aH.mp hn with rfl|z
 .exact h
 .exact t n z
def fx0{α:Type}{p:α->Prop}:∀n∈([]:List α),p n:=λ _ h=>nomatch h
noncomputable def pT(p:Str×List (Str×Int)):TV:=.tup [.str p.1,.tup (p.2.map λ q=>.tup [.str q.1,.int q.2])]
theorem CH{K:FG}:∀ {fs:List (Str×Int)}{xs:List V},ug K fs xs->RpL K F H (fs.map λ q=>.tup [.str q.1,.int q.2]) xs
 |[],[],_=>rfl
 |[],_::_,h=>h.elim
 |_::_,[],h=>h.elim
 |f::fs,y::ys,⟨⟨a,e,k⟩,h2⟩=>⟨y,ys,rfl,⟨a,_,e,k.sq,_,_,rfl,rfl,_,_,rfl,rfl,rfl⟩,CH h2⟩
theorem CI{K:FG}:∀ {fs:List (Str×List (Str×Int))}{kvs:LA},uh K fs kvs->∀y t,Ym (fs.map pT) y=QJ t->∃a,kvs.lookup y=QJ a/\∀F H,Rp K F H t (.ref a)
 |[],_,_,y,t,e=>nomatch e
 |_::_,[],h,_,_,_=>h.elim
 |(g,gs)::fs,(p,pa)::ps,h,y,t,e=>by
  obtain⟨⟨e1,xs,k1,k2⟩,h2⟩:=h;cases (show p=g from e1);have e:(if decide (g=y)=QK then QJ (n6 (gs.map λ q=>.tup [.str q.1,.int q.2])) else Ym (fs.map pT) y)=QJ t:=e;rw[eh];by_cases c:g=y
  .subst c;rw[m7 (bJ rfl)] at e;cases e;rw[show(g == g)=QK from kU g];exact⟨pa,O,λ F H=>⟨pa,xs,O,k1.sq,CH k2⟩⟩
  .rw[k9 (by rw[bw c];decide)] at e;rw[show(y == g)=QL from rg.mpr λ z=>c z.symm];exact CI h2 y t e
def kts{K:FG}{sl:AV}(h:K.lookup a=QJ ⟨.type "tuple",QM,.seq #[.str x t,.int i u] n,sl⟩):KTup K a [.str x,.int i]:=nJ h (small (show(2:Nat)<=1000 by decide)) (.cons ⟨_,rfl⟩ (.cons ⟨_,rfl⟩ .nil))
def ktr1{K:FG}{sl:AV}(h:K.lookup a=QJ ⟨.type "tuple",QM,.seq #[.ref a0] n,sl⟩):KTup K a [.ref a0]:=nJ h (small (show(1:Nat)<=1000 by decide)) (.cons rfl (.nil))
def ktr2{K:FG}{sl:AV}(h:K.lookup a=QJ ⟨.type "tuple",QM,.seq #[.ref a0,.ref a1] n,sl⟩):KTup K a [.ref a0,.ref a1]:=nJ h (small (show(2:Nat)<=1000 by decide)) (.cons rfl (.cons rfl (.nil)))
def ktr3{K:FG}{sl:AV}(h:K.lookup a=QJ ⟨.type "tuple",QM,.seq #[.ref a0,.ref a1,.ref a2] n,sl⟩):KTup K a [.ref a0,.ref a1,.ref a2]:=nJ h (small (show(3:Nat)<=1000 by decide)) (.cons rfl (.cons rfl (.cons rfl (.nil))))
def ktr5{K:FG}{a a0 a1 a2 a3 a4:QO}{sl:AV}(h:K.lookup a=QJ ⟨.type "tuple",QM,.seq #[.ref a0,.ref a1,.ref a2,.ref a3,.ref a4] n,sl⟩):KTup K a [.ref a0,.ref a1,.ref a2,.ref a3,.ref a4]:=nJ h (small (show(5:Nat)<=1000 by decide)) (.cons rfl (.cons rfl (.cons rfl (.cons rfl (.cons rfl (.nil))))))
theorem pt_mk{w:QY}{K:FG}{t0 t1 t2 t3 t4 t5 t6 t7 t8 t9 t10 t11 t12 t13 t14:Tok}{a0 a1 a2 a3 a4 a5 a6 a7 a8 a9 a10 a11 a12 a13 a14:QO}
  (gPT:W.nsIn K Rc "PARTS"=QJ (QJ (.ref dPT))) (dPT0:(dPT == Ta)=QL)
  (lPT:K.lookup dPT=QJ { cls:=.type "dict",data:=.dict #[⟨Rl w.params "in",.str "in" t0,.ref a0⟩,⟨Rl w.params "num",.str "num" t1,.ref a1⟩,⟨Rl w.params "count",.str "count" t2,.ref a2⟩,⟨Rl w.params "each",.str "each" t3,.ref a3⟩,⟨Rl w.params "pair",.str "pair" t4,.ref a4⟩,⟨Rl w.params "pick",.str "pick" t5,.ref a5⟩,⟨Rl w.params "turn",.str "turn" t6,.ref a6⟩,⟨Rl w.params "flip",.str "flip" t7,.ref a7⟩,⟨Rl w.params "cut",.str "cut" t8,.ref a8⟩,⟨Rl w.params "spread",.str "spread" t9,.ref a9⟩,⟨Rl w.params "lay",.str "lay" t10,.ref a10⟩,⟨Rl w.params "join",.str "join" t11,.ref a11⟩,⟨Rl w.params "fetch",.str "fetch" t12,.ref a12⟩,⟨Rl w.params "fold",.str "fold" t13,.ref a13⟩,⟨Rl w.params "run",.str "run" t14,.ref a14⟩] nPT })(l0:KTup K a0 [.ref a0_0])
  (l0_0:KTup K a0_0 [.str "sides",.int 1])(l1:KTup K a1 [.ref a1_0])
  (l1_0:KTup K a1_0 [.str "number",.int 1])(l2:KTup K a2 [.ref a2_0,.ref a2_1])
  (l2_0:KTup K a2_0 [.str "small",.int 2])
  (l2_1:KTup K a2_1 [.str "sides",.int 1])(l3:KTup K a3 [.ref a3_0,.ref a3_1])
  (l3_0:KTup K a3_0 [.str "word",.int 1])
  (l3_1:KTup K a3_1 [.str "step",.int 2])(l4:KTup K a4 [.ref a4_0,.ref a4_1,.ref a4_2])
  (l4_0:KTup K a4_0 [.str "word",.int 1])
  (l4_1:KTup K a4_1 [.str "step",.int 2])
  (l4_2:KTup K a4_2 [.str "step",.int 3])(l5:KTup K a5 [.ref a5_0,.ref a5_1,.ref a5_2])
  (l5_0:KTup K a5_0 [.str "step",.int 1])
  (l5_1:KTup K a5_1 [.str "step",.int 2])
  (l5_2:KTup K a5_2 [.str "step",.int 3])(l6:KTup K a6 [.ref a6_0,.ref a6_1])
  (l6_0:KTup K a6_0 [.str "step",.int 1])
  (l6_1:KTup K a6_1 [.str "sides",.int 2])(l7:KTup K a7 [.ref a7_0,.ref a7_1])
  (l7_0:KTup K a7_0 [.str "step",.int 1])
  (l7_1:KTup K a7_1 [.str "small",.int 2])(l8:KTup K a8 [.ref a8_0,.ref a8_1,.ref a8_2,.ref a8_3,.ref a8_4])
  (l8_0:KTup K a8_0 [.str "step",.int 1])
  (l8_1:KTup K a8_1 [.str "small",.int 2])
  (l8_2:KTup K a8_2 [.str "small",.int 3])
  (l8_3:KTup K a8_3 [.str "small",.int 4])
  (l8_4:KTup K a8_4 [.str "small",.int 5])(l9:KTup K a9 [.ref a9_0,.ref a9_1,.ref a9_2])
  (l9_0:KTup K a9_0 [.str "step",.int 1])
  (l9_1:KTup K a9_1 [.str "small",.int 2])
  (l9_2:KTup K a9_2 [.str "small",.int 3])(l10:KTup K a10 [.ref a10_0,.ref a10_1])
  (l10_0:KTup K a10_0 [.str "step",.int 1])
  (l10_1:KTup K a10_1 [.str "sides",.int 2])(l11:KTup K a11 [.ref a11_0,.ref a11_1,.ref a11_2])
  (l11_0:KTup K a11_0 [.str "step",.int 1])
  (l11_1:KTup K a11_1 [.str "step",.int 2])
  (l11_2:KTup K a11_2 [.str "small",.int 3])(l12:KTup K a12 [.ref a12_0,.ref a12_1])
  (l12_0:KTup K a12_0 [.str "step",.int 1])
  (l12_1:KTup K a12_1 [.str "step",.int 2])(l13:KTup K a13 [.ref a13_0,.ref a13_1,.ref a13_2])
  (l13_0:KTup K a13_0 [.str "word",.int 1])
  (l13_1:KTup K a13_1 [.str "step",.int 2])
  (l13_2:KTup K a13_2 [.str "small",.int 3])(l14:KTup K a14 [.ref a14_0,.ref a14_1,.ref a14_2])
  (l14_0:KTup K a14_0 [.str "word",.int 1])
  (l14_1:KTup K a14_1 [.str "step",.int 2])
  (l14_2:KTup K a14_2 [.str "small",.int 3]):∃d,W.nsIn K Rc "PARTS"=QJ (QJ (.ref d))/\yQ P w K d:=⟨_,gPT,⟨_,KTab.mk (l:=[("in",t0,a0),("num",t1,a1),("count",t2,a2),("each",t3,a3),("pair",t4,a4),("pick",t5,a5),("turn",t6,a6),("flip",t7,a7),("cut",t8,a8),("spread",t9,a9),("lay",t10,a10),("join",t11,a11),("fetch",t12,a12),("fold",t13,a13),("run",t14,a14)]) dPT0 lPT rfl (show(["in","num","count","each","pair","pick","turn","flip","cut","spread","lay","join","fetch","fold","run"]:List Str).Nodup by decide +kernel),⟨⟨rfl,_,l0,⟨⟨_,rfl,l0_0⟩,trivial⟩⟩,⟨⟨rfl,_,l1,⟨⟨_,rfl,l1_0⟩,trivial⟩⟩,⟨⟨rfl,_,l2,⟨⟨_,rfl,l2_0⟩,⟨⟨_,rfl,l2_1⟩,trivial⟩⟩⟩,⟨⟨rfl,_,l3,⟨⟨_,rfl,l3_0⟩,⟨⟨_,rfl,l3_1⟩,trivial⟩⟩⟩,⟨⟨rfl,_,l4,⟨⟨_,rfl,l4_0⟩,⟨⟨_,rfl,l4_1⟩,⟨⟨_,rfl,l4_2⟩,trivial⟩⟩⟩⟩,⟨⟨rfl,_,l5,⟨⟨_,rfl,l5_0⟩,⟨⟨_,rfl,l5_1⟩,⟨⟨_,rfl,l5_2⟩,trivial⟩⟩⟩⟩,⟨⟨rfl,_,l6,⟨⟨_,rfl,l6_0⟩,⟨⟨_,rfl,l6_1⟩,trivial⟩⟩⟩,⟨⟨rfl,_,l7,⟨⟨_,rfl,l7_0⟩,⟨⟨_,rfl,l7_1⟩,trivial⟩⟩⟩,⟨⟨rfl,_,l8,⟨⟨_,rfl,l8_0⟩,⟨⟨_,rfl,l8_1⟩,⟨⟨_,rfl,l8_2⟩,⟨⟨_,rfl,l8_3⟩,⟨⟨_,rfl,l8_4⟩,trivial⟩⟩⟩⟩⟩⟩,⟨⟨rfl,_,l9,⟨⟨_,rfl,l9_0⟩,⟨⟨_,rfl,l9_1⟩,⟨⟨_,rfl,l9_2⟩,trivial⟩⟩⟩⟩,⟨⟨rfl,_,l10,⟨⟨_,rfl,l10_0⟩,⟨⟨_,rfl,l10_1⟩,trivial⟩⟩⟩,⟨⟨rfl,_,l11,⟨⟨_,rfl,l11_0⟩,⟨⟨_,rfl,l11_1⟩,⟨⟨_,rfl,l11_2⟩,trivial⟩⟩⟩⟩,⟨⟨rfl,_,l12,⟨⟨_,rfl,l12_0⟩,⟨⟨_,rfl,l12_1⟩,trivial⟩⟩⟩,⟨⟨rfl,_,l13,⟨⟨_,rfl,l13_0⟩,⟨⟨_,rfl,l13_1⟩,⟨⟨_,rfl,l13_2⟩,trivial⟩⟩⟩⟩,⟨⟨rfl,_,l14,⟨⟨_,rfl,l14_0⟩,⟨⟨_,rfl,l14_1⟩,⟨⟨_,rfl,l14_2⟩,trivial⟩⟩⟩⟩,trivial⟩⟩⟩⟩⟩⟩⟩⟩⟩⟩⟩⟩⟩⟩⟩⟩⟩
abbrev ax(K:FG)(x:Str)(i:Nat):Prop:=Gx K x (top i)
abbrev nB(K:FG)(x:Str):Prop:=W.nsIn K Rc x=QJ QM
structure Sv (P:QX)(w:QY)(K:FG)(T94 T95 T96 T99:QO):Prop where
 g0:ax K "wrapped" 11
 g1:ax K "sign_of" 12
 g2:ax K "quotient" 13
 g3:ax K "remainder" 14
 g4:ax K "once" 15
 g5:ax K "twice" 16
 g6:ax K "neutral" 17
 g7:ax K "arg_places" 22
 g8:ax K "args_of" 23
 g9:ax K "reached_from" 24
 g10:ax K "amount" 28
 g11:ax K "breadth" 29
 g12:ax K "allowed" 30
 g13:ax K "strides_of" 31
 g14:ax K "changed_at" 32
 g15:ax K "added_at" 33
 g16:ax K "dropped_at" 34
 g17:ax K "ask_side" 36
 g18:ax K "turned_sides" 37
 g19:ax K "flipped_sides" 38
 g20:ax K "cut_sides" 39
 g21:ax K "spread_sides" 40
 g22:ax K "laid_sides" 41
 g23:ax K "joined_sides" 42
 g24:ax K "led_sides" 43
 g25:ax K "paired_sides" 44
 g26:ax K "picked_sides" 45
 g27:ax K "fetched_sides" 46
 g28:ax K "folded_sides" 47
 g29:ax K "counted_sides" 48
 g30:ax K "ask_word" 50
 g31:ax K "first_sides" 51
 g32:ax K "moved_sides" 52
 g33:ax K "step_sides" 53
 g34:ax K "step_told" 54
 g35:ax K "program_told" 55
 g36:ax K "checked" 56
 g37:ax K "plain_view" 58
 g38:ax K "turned_view" 59
 g39:ax K "flipped_view" 60
 g40:ax K "cut_view" 61
 g41:ax K "spread_view" 62
 g42:ax K "led_view" 63
 g43:ax K "inner_view" 64
 g44:ax K "moved_view" 65
 g45:ax K "is_free" 67
 g46:ax K "branches_of" 68
 g47:ax K "root_remade" 70
 g48:ax K "remade" 71
 g91:ax K "calls_of" 69
 g92:ax K "live_steps" 73
 g93:ax K "uses_of" 74
 g97:ax K "read_of" 78
 g98:ax K "fetched_tree" 79
 g100:ax K "is_led" 81
 g101:ax K "is_kept" 82
 g102:ax K "spun" 83
 g103:ax K "run_loop" 84
 g104:ax K "join_loops" 85
 g105:ax K "step_loops" 86
 g106:ax K "woven" 87
 g107:ax K "_law_size" 89
 g108:ax K "_law_wide" 90
 g109:ax K "_law_number" 91
 g110:ax K "_law_recent" 92
 g111:ax K "_law_begun" 93
 g112:ax K "_law_led" 94
 g113:ax K "_law_lifted" 95
 g114:ax K "_law_laid" 96
 g115:ax K "_law_moved" 97
 g116:ax K "_law_both" 98
 g117:ax K "_law_met" 99
 g118:ax K "_law_step" 100
 g119:ax K "_law_program" 101
 g120:ax K "_law_args" 102
 g121:ax K "_law_live_by" 103
 g122:ax K "_law_asked_by" 104
 g123:ax K "_law_state_by" 105
 g124:ax K "_law_kept_by" 106
 g125:ax K "_law_plain_calls" 107
 g126:ax K "_law_homes_by" 108
 g127:ax K "_law_loop_calls" 109
 g128:ax K "law" 110
 g94:∃f fd c,WB K "seen_as" (top 75) f fd c T94
 g95:∃f fd c,WB K "led_tree" (top 76) f fd c T95
 g96:∃f fd c,WB K "inner_tree" (top 77) f fd c T96
 g99:∃f fd c,WB K "bare_tree" (top 80) f fd c T99
 nd:[T94,T95,T96,T99].Nodup
 blen:nB K "len"
 btuple:nB K "tuple"
 blist:nB K "list"
 bsum:nB K "sum"
 bmax:nB K "max"
 bmin:nB K "min"
 babs:nB K "abs"
 bint:nB K "int"
 bstr:nB K "str"
 bsorted:nB K "sorted"
 bany:nB K "any"
 ball:nB K "all"
 bisinstance:nB K "isinstance"
 bbool:nB K "bool"
 brange:nB K "range"
 bzip:nB K "zip"
 benumerate:nB K "enumerate"
 breversed:nB K "reversed"
 bset:nB K "set"
 bdict:nB K "dict"
 qLOW:∃t,W.nsIn K Rc "LOW"=QJ (QJ (.int (-9223372036854775808) t))
 qHIGH:∃t,W.nsIn K Rc "HIGH"=QJ (QJ (.int 9223372036854775807 t))
 qMOST_SIDES:∃t,W.nsIn K Rc "MOST_SIDES"=QJ (QJ (.int 6 t))
 qMOST_BREADTH:∃t,W.nsIn K Rc "MOST_BREADTH"=QJ (QJ (.int 512 t))
 qMOST_STEPS:∃t,W.nsIn K Rc "MOST_STEPS"=QJ (QJ (.int 40 t))
 qMOST_OUTS:∃t,W.nsIn K Rc "MOST_OUTS"=QJ (QJ (.int 8 t))
 qPT:∃d,W.nsIn K Rc "PARTS"=QJ (QJ (.ref d))/\yQ P w K d
def tL(T94 T95 T96 T99:QO):List (QO×Pos×Str):=[(T94,(Wg ((aR (top 75)).headD (.Pass ⟨0,0,0,0⟩))).p,"seen_as.<locals>.<lambda>"),(T95,(Wg ((aR (top 76)).getLastD (.Pass ⟨0,0,0,0⟩))).p,"led_tree.<locals>.<lambda>"),(T96,(Wg ((aR (top 77)).getLastD (.Pass ⟨0,0,0,0⟩))).p,"inner_tree.<locals>.<lambda>"),(T99,(Wg (WS 5 (top 80)).2.1).p,"bare_tree.<locals>.<lambda>")]
def QI{K:FG}{L:List (QO×Pos×Str)}{ts:List QO}(e:L.map (·.1)=ts)(F:FnOk P w K mg base VI k f fd ps (tY K (TbJ L))):FnOk P w K mg base VI k f fd ps (rb K ts):=F.imp λ vs H Q E ⟨a,ns,e1,sq,l,hT,q⟩=>⟨a,ns,e1,sq,l,λ x hx=>⟨#[],hT _ (by rw[<- e];exact List.mem_map_of_mem hx),trivial,.inl rfl⟩,q⟩
def all_mk{l:W.OpenLaw}{K:FG}(X:K.In h)(G:h.Ns Rc mg)(hfa:mg "law"=QJ (.ref fa))(S:Sv l.prog w K T94 T95 T96 T99):∃(fd:Rn) (tbs:List (Str×QO×QO)),(∀p∈tbs,W.tabIn K p.1=QJ p.2/\p.1∈(["seen_as","led_tree","inner_tree","bare_tree"]:List Str))/\(∀(s:QP) (v:Value),Tn s fd ⟨[v],[]⟩ [("script",v)])/\∀base:Re,K.In base->base.Ns Rc mg->(∀p∈tbs,Wm base mg p.2.1 p.2.2)->FnOk l.prog w K mg base VI 129 fa fd ["script"] (rb K (tbs.map λ p=>p.2.2)):=by
 have hm:∀ {x:Str}{v:Option Value},W.nsIn K Rc x=QJ v->mg x=v:=λ {x v} z=>by cases v with|none=>exact W.mg_none_of X G z|some u=>exact W.mg_of X G z
 obtain⟨f,fd,gL⟩:=S.g128;have e:=hfa.symm.trans (hm gL.a);cases e;obtain⟨_,_,kVL,dcL,pmL,anL,cdL,ctL,_,eL,_,_⟩:=gL.F.ex;obtain⟨f94,d94,c94,t94⟩:=S.g94;obtain⟨f95,d95,c95,t95⟩:=S.g95;obtain⟨f96,d96,c96,t96⟩:=S.g96;obtain⟨f99,d99,c99,t99⟩:=S.g99;refine⟨fd,[("seen_as",c94,T94),("led_tree",c95,T95),("inner_tree",c96,T96),("bare_tree",c99,T99)],(fx ⟨t94.tb,pv⟩ (fx ⟨t95.tb,pv⟩ (fx ⟨t96.tb,pv⟩ (fx ⟨t99.tb,pv⟩ fx0)))),λ s v=>by rw[eL];exact .of_eq rfl,λ base KB GB tf=>?_⟩;have M:MOk l.prog w K mg (TbJ (tL T94 T95 T96 T99)) GT gs:=⟨TbJ.js,λ g x t h1 h2 nb=>?_,λ g x t h1 h2=>?_,λ x hx=>?_⟩
 .have C:CM l.prog w K mg base (TbJ (tL T94 T95 T96 T99)) GT gs DL 0:=⟨Cals.z,M,hm⟩
  replace C:=C |>.d S.g0 zw0 |>.d S.g1 zw1 |>.d S.g2 zw2 |>.d S.g3 zw3 |>.d S.g4 zw4 |>.d S.g5 zw5 |>.d S.g6 zw6 |>.d S.g7 zw7 |>.d S.g8 zw8 |>.d S.g9 zw9 |>.d S.g10 OT |>.d S.g11 OU |>.d S.g12 OV |>.d S.g13 OW |>.d S.g14 OX |>.d S.g15 OY |>.d S.g16 OZ |>.d S.g17 Pa |>.d S.g18 Pb |>.d S.g19 Pc |>.d S.g20 Pd |>.d S.g21 Pe |>.d S.g22 Pf |>.d S.g23 Pg |>.d S.g24 Ph |>.d S.g25 Pi |>.d S.g26 Pj |>.d S.g27 Pk |>.d S.g28 Pl |>.d S.g29 Pm |>.d S.g30 Pn |>.d S.g31 Po |>.d S.g32 Pp |>.d S.g33 Pq |>.d S.g34 Ps |>.d S.g35 Pt |>.d S.g36 Pu |>.d S.g37 Pv |>.d S.g38 Pw |>.d S.g39 Px
  replace C:=C |>.d S.g40 Py |>.d S.g41 Pz |>.d S.g42 PB |>.d S.g43 PD |>.d S.g44 PF |>.d S.g45 PH |>.d S.g46 PJ
  have H47:=C.fn (kf:=47) S.g47 PL on hc0;replace C:=C.d S.g47 PP;have H48:=C.fr (kf:=47) S.g48 PQ on (hc1 (H47.mono on));replace C:=C.d S.g48 PR;have C0:=C;replace C:=C.pad (i0:=0) (S0:=ZA) (z:=zd) 42 (λ _ _ h=>h) on rfl rfl;replace C:=C.re (d:=42) (m:=42) C0 S.g91 PU;clear C0
  replace C:=C |>.d S.g92 PV |>.d S.g93 PX
  have H94:=C.fh (kf:=46) t94 (tf ("seen_as",c94,T94) pv) bc S.nd PY ((H48 42).mono on) on;replace C:=C.d ⟨_,_,t94.toGl'⟩ PZ;replace C:=C.ml t95 (tf ("led_tree",c95,T95) pv) (bg _ bc) S.nd Qa (H94.mono on) on;replace C:=C.ml t96 (tf ("inner_tree",c96,T96) pv) (bg _ (bg _ bc)) S.nd Qb (H94.mono on) on
  replace C:=C |>.d S.g97 Qc |>.d S.g98 Qd
  replace C:=C.mm t99 (tf ("bare_tree",c99,T99) pv) (bg _ (bg _ (bg _ bc))) S.nd Qe (H94.mono on) on
  replace C:=C |>.d S.g100 Qf |>.d S.g101 Qg |>.d S.g102 Qh |>.d S.g103 Qi |>.d S.g104 Qj |>.d S.g105 Qk |>.d S.g106 Ql |>.d S.g107 Qm |>.d S.g108 Qn |>.d S.g109 Qo |>.d S.g110 Qp |>.d S.g111 Qq |>.d S.g112 Qr |>.d S.g113 Qs |>.d S.g114 Qt |>.d S.g115 Qu |>.d S.g116 Qv |>.d S.g117 Qw |>.d S.g118 Qx |>.d S.g119 Qy |>.d S.g120 Qz |>.d S.g121 QA |>.d S.g122 QB |>.d S.g123 QC |>.d S.g124 QD |>.d S.g125 QE |>.d S.g126 QF |>.d S.g127 QG
  exact QI rfl (C.law gL QH)
 .match g,h1,h2 with
  |0,h1,h2=>cases h1;cases h2;obtain⟨t,q⟩:=S.qLOW;exact⟨.int (-9223372036854775808),_,hm q,⟨t,rfl⟩,λ F H=>rfl⟩
  |1,h1,h2=>cases h1;cases h2;obtain⟨t,q⟩:=S.qHIGH;exact⟨.int 9223372036854775807,_,hm q,⟨t,rfl⟩,λ F H=>rfl⟩
  |2,h1,h2=>cases h1;cases h2;obtain⟨t,q⟩:=S.qMOST_SIDES;exact⟨.int 6,_,hm q,⟨t,rfl⟩,λ F H=>rfl⟩
  |3,h1,h2=>cases h1;cases h2;obtain⟨t,q⟩:=S.qMOST_BREADTH;exact⟨.int 512,_,hm q,⟨t,rfl⟩,λ F H=>rfl⟩
  |4,h1,h2=>cases h1;cases h2;obtain⟨t,q⟩:=S.qMOST_STEPS;exact⟨.int 40,_,hm q,⟨t,rfl⟩,λ F H=>rfl⟩
  |5,h1,h2=>cases h1;cases h2;obtain⟨t,q⟩:=S.qMOST_OUTS;exact⟨.int 8,_,hm q,⟨t,rfl⟩,λ F H=>rfl⟩
  |6,h1,h2=>cases h1;cases h2;cases nb
  |n+7,h1,h2=>cases h1
 .match g,h1,h2 with
  |0,h1,h2=>cases h2
  |1,h1,h2=>cases h2
  |2,h1,h2=>cases h2
  |3,h1,h2=>cases h2
  |4,h1,h2=>cases h2
  |5,h1,h2=>cases h2
  |6,h1,h2=>cases h1;cases h2;obtain⟨d,e,kvs,TK,PA⟩:=S.qPT;exact⟨d,kvs,hm e,TK,CI PA⟩
  |n+7,h1,h2=>cases h1
 .simp only[BN,aH,cn,bZ] at hx
  rcases hx with rfl|rfl|rfl|rfl|rfl|rfl|rfl|rfl|rfl|rfl|rfl|rfl|rfl|rfl|rfl|rfl|rfl|rfl|rfl|rfl
  .exact hm S.blen
  .exact hm S.btuple
  .exact hm S.blist
  .exact hm S.bsum
  .exact hm S.bmax
  .exact hm S.bmin
  .exact hm S.babs
  .exact hm S.bint
  .exact hm S.bstr
  .exact hm S.bsorted
  .exact hm S.bany
  .exact hm S.ball
  .exact hm S.bisinstance
  .exact hm S.bbool
  .exact hm S.brange
  .exact hm S.bzip
  .exact hm S.benumerate
  .exact hm S.breversed
  .exact hm S.bset
  .exact hm S.bdict
open PySem.W in
theorem walk{l:W.OpenLaw}{YP:QY->Re->Prop}{d:DefRec}{K:Params->FG}(hn:l.most=QJ 63)(hdf:d.params.defaults=[])
  (hY:∀(w:QY) (h:Re),YP w h->(K w.params).In h) (hK0:∀w:QY,noTabs (K w.params)=QK) (hrec:∀x∈(["seen_as","led_tree","inner_tree","bare_tree"]:List Str),((recsOf q).find? λ e=>e.name == x).isSome=QK)
  (F:∀(w:QY) (mg:SV) (fa:QO) (h:Re),(K w.params).In h->h.Ns Rc mg->mg d.name=QJ (.ref fa) ->
   ∃(fd:Rn) (tbs:List (Str×QO×QO)),(∀p∈tbs,tabIn (K w.params) p.1=QJ p.2/\p.1∈(["seen_as","led_tree","inner_tree","bare_tree"]:List Str))/\(∀(s:QP) (u:Value),Tn s fd ⟨[u],[]⟩ [("script",u)])/\∀base:Re,(K w.params).In base->base.Ns Rc mg->(∀p∈tbs,Wm base mg p.2.1 p.2.2)->FnOk l.prog w (K w.params) mg base VI 129 fa fd ["script"] (rb (K w.params) (tbs.map λ p=>p.2.2))) :
  W.WalkO q loose XP YP l.row.toRowW d [] (λ f vs=>Uo f vs) :=
 _L.walk_ofT (n:=63) (k:=129) (x := "script") (CX:=λ _=>VI) (sp:=λ w ts=>rb (K w.params) ts) hn on hdf ⟨rfl,on,on⟩ hY hK0 (λ w mg fa h a b c=>by
  obtain⟨fd,tbs,h1,h2⟩:=F w mg fa h a b c
  exact⟨fd,tbs,λ p hp=>⟨(h1 p hp).1,hrec _ (h1 p hp).2⟩,h2⟩) (λ _ _ a ns ts hl hT hS=>⟨a,ns,O,hS,hl,hT,λ _=>rfl⟩) λ _ _ _ _ _ z=>z
end _M
end
end
open PySem PySem.W PyProof.Rows
set_option maxRecDepth 100000 in
set_option maxHeartbeats 0 in
theorem PySem.Challenge.cw_sideloom_k54_whole_no_call_twice_holds : PySem.Challenge.rw_sideloom_k54_whole_no_call_twice.Holds := by
 w_on;o_law;k_head;(case hw=>w_witness2)
 k_fill
 refine _M.walk (l:=PySem.Challenge.rw_sideloom_k54_whole_no_call_twice) rfl rfl (λ w h Y=>W.km_in_of Y) ?K0 ?rec ?F
 case K0=>intro w;kernel_rfl
 case rec=>exact(_M.fx (by kernel_rfl) (_M.fx (by kernel_rfl) (_M.fx (by kernel_rfl) (_M.fx (by kernel_rfl) _M.fx0))))
 case F=>
  intro w mg fa h KX G hmg
  refine' _M.all_mk KX G hmg ?S
  case S=>
   constructor
   iterate 83 (refine' _L.gl_ex ?ya ?yb ?yc ?yd;(case ya=>k_is);(case yb=>k_is);(case yc=>k_is);(case yd=>k_is))
   iterate 4 (refine' _M.glt_ex ?ya ?yb ?yc ?yd ?ye ?yf;(case ya=>k_is);(case yb=>k_is);(case yc=>k_is);(case yd=>k_is);(case ye=>k_is);(case yf=>rfl))
   .decide
   iterate 20 (unfold _M.nB;k_is)
   iterate 6 (refine' _L.gx_int ?ya;(case ya=>k_is))
   .refine' _M.pt_mk ?gPT ?dPT0 ?lPT ?l0 ?l0_0 ?l1 ?l1_0 ?l2 ?l2_0 ?l2_1 ?l3 ?l3_0 ?l3_1 ?l4 ?l4_0 ?l4_1 ?l4_2 ?l5 ?l5_0 ?l5_1 ?l5_2 ?l6 ?l6_0 ?l6_1 ?l7 ?l7_0 ?l7_1 ?l8 ?l8_0 ?l8_1 ?l8_2 ?l8_3 ?l8_4 ?l9 ?l9_0 ?l9_1 ?l9_2 ?l10 ?l10_0 ?l10_1 ?l11 ?l11_0 ?l11_1 ?l11_2 ?l12 ?l12_0 ?l12_1 ?l13 ?l13_0 ?l13_1 ?l13_2 ?l14 ?l14_0 ?l14_1 ?l14_2
    (case gPT=>k_is)
    (case dPT0=>first|decide +kernel|rfl)
    (case lPT=>k_is)
    (case l0=>refine' _M.ktr1 ?ya;(case ya=>k_is))
    (case l1=>refine' _M.ktr1 ?ya;(case ya=>k_is))
    (case l2=>refine' _M.ktr2 ?ya;(case ya=>k_is))
    (case l3=>refine' _M.ktr2 ?ya;(case ya=>k_is))
    (case l4=>refine' _M.ktr3 ?ya;(case ya=>k_is))
    (case l5=>refine' _M.ktr3 ?ya;(case ya=>k_is))
    (case l6=>refine' _M.ktr2 ?ya;(case ya=>k_is))
    (case l7=>refine' _M.ktr2 ?ya;(case ya=>k_is))
    (case l8=>refine' _M.ktr5 ?ya;(case ya=>k_is))
    (case l9=>refine' _M.ktr3 ?ya;(case ya=>k_is))
    (case l10=>refine' _M.ktr2 ?ya;(case ya=>k_is))
    (case l11=>refine' _M.ktr3 ?ya;(case ya=>k_is))
    (case l12=>refine' _M.ktr2 ?ya;(case ya=>k_is))
    (case l13=>refine' _M.ktr3 ?ya;(case ya=>k_is))
    (case l14=>refine' _M.ktr3 ?ya;(case ya=>k_is))
    iterate 37 (refine' _M.kts ?ya;(case ya=>k_is))
