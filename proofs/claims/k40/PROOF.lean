import PyProof.Rows.All
import Wide.All
import OpenK.AllK
import Wide.FinOn
import Lean
import PyProof.EqAt
import PyProof.EqKinds
import PyProof.TupleCall
import PySem.Challenge.RW_sideloom_k40_looks_of_what_is_reckoned
set_option Elab.async false
set_option linter.all false
set_option autoImplicit true
set_option maxRecDepth 100000
def fu{a:α}:a=a:=rfl
def on{p:Prop}(h:p:=by lia):p:=h
def pv{p:Prop}(h:p:=by decide):p:=h
def BT{p:Prop}(h:p:=by simp):p:=h
def Cl:True:=trivial
set_option tactic.hygienic false
abbrev VS:=PySem.Value->PySem.Shared->Prop
abbrev LL:=List (List Int)
abbrev LI:=List Int
abbrev LO:=List (PySem.Addr×PySem.Obj)
abbrev LA:=List (PySem.Str×PySem.Addr)
abbrev SV:=PySem.Str->Option PySem.Value
abbrev LV:=List PySem.Value
abbrev FG:=PySem.W.Frag
abbrev AV:=Array (Option PySem.Value)
abbrev OA:=Option PySem.Addr
open PySem renaming wpAny_bind->ae,wpAny_pure->ah,wpAny_newObj_type->cn,wpAny_holding->bv,builtinLookup_eq_fast->dH,codeAny_builtin->cD,wpAny_call_entry->dc,plainId_quiet->cE,wpAny_callSpecial?_slot->im,typeLookup_type->dG,wpAny_mono->bV,wpAny_setField_rec->fU,wpAny_field->cH,wpAny_setState_of->fX,wpAny_seqItems->eF,wpAny_of_eq->cW,wpAny_specialOf->fN,isSubtype_type->fK,wpAny_typeOf->eo,wpAny_truthy_bool->iT,wpAny_updateSeq->iz,wpAny_isInstance->iX,wpAny_standAt->gA,wpAny_Call_Name_kw->jM,codeAny_mono->gE,mem_of_lookup->lC,wpAny_tryCatch->jb,sizeLine_eq->gD,wpAny_rule->fO,wpAny_pyIter_list->lS,wpAny_loadPart_at->lV,codeAny_extend_loopS->oi,wpAny_forIn_list->lW,wpAny_passesOwn->lj,wpAny_attempt->jV,codeAny_of_tree->lP,wpAny_ite_split->mi,call_meets->iq,wpAny_storeSet_of->oJ,wpAny_setField->lO,wpAny_newTuple->lY,entryFor_of_tree->nX,wpAny_execs_nil->nE,wpAny_pyIter_tuple->rq,wpAny_runValue->og,wpAny_pyIter_slot->qU,arm_evalThenUse_ListComp->wl,wpAny_newList->s0f,wpAny_letGo->s0h,noFill_tuple_add->s0o,wpAny_askSetting->s0q,wpAny_pyNext_range_end->s0u,wpAny_pyIter_rangeiter->s0v,concat_meets->s1b,exec_Assign_Name_used->s1j,wpAny_eqIsQuiet_tuple->s1m,wpAny_load->s1v,wpAny_call->s1w,fitsIndex_both->s2f,entryFor_alias->s2g,isSubtype_stop->s2h,callType_codes->s2j,wpAny_isSubtype_exc->s2t,wpAny_setEntries_of->s2u,wpAny_pyIter_range->s2z,seq_tuple_add->s3b,wpAny_handled->s3g,nums_intItems->s3j,tupleKind_room_in1->s3l,seqIndex_neg->s3y,seqIndex_of->s4g,wpAny_throw->s4h,numAt_eq->s4k
open PySem.Heap renaming get?_push_of_some->ay,get?_push_size->aL,lt_size->az,get?_update_other->df,get?_update_self->eE,size_push->dh
open List renaming getElem?_eq_getElem->aC,length_map->aq,mem_of_getElem?->aK,size_toArray->aM,length_append->aR,getElem?_eq_some_iff->br,getElem?_map->bc,length_range->bd,length_take->aY,getD_eq_getElem?_getD->cw,mem_append_right->bK,mem_singleton->bj,mem_cons->aN,mem_cons_of_mem->bO,mem_cons_self->bJ,mem_map->aW,mem_append->bn,getElem?_append_right->dY,map_append->bQ,map_cons->bw,getElem?_append_left->dZ,map_map->bq,mem_range->bU,length_eraseIdx->dL,getElem?_set->dq,take_length->cX,drop_eq_getElem_cons->gH,take_append_drop->eY,eraseIdx_eq_take_drop_succ->jf,length_drop->db,append_assoc->dF,all_cons->cJ,length_singleton->fJ,getElem?_eq_none->fV,not_mem_nil->dJ,filterMap_cons->fE,mem_append_left->gz,mem_of_mem_drop->gK,length_reverse->gQ,append_nil->eT,eq_nil_of_length_eq_zero->mh,getElem?_range->iD,getElem?_reverse->iY,length_set->fG,all_eq_true->gJ,reverse_cons->ip,replicate_succ->iV,reverse_append->jx,pairwise_iff_getElem->lZ,length_replicate->jN,lookup_cons->iA,getElem?_replicate->lD,mem_range'_1->jc,mem_filter->hZ,length_pos_iff->ka,take_of_length_le->lQ,mem_filterMap->jJ,zip_cons_cons->kj,set_eq_take_append_cons_drop->ut,length_filter_le->nA,getElem?_zip_eq_some->oV,mem_or_eq_of_mem_set->qe,mem_of_mem_take->my,flatten_cons->jP,ext_getElem?->kc,getElem_mem->kg,take_append_of_le_length->uf,pairwise_lt_range->oG,length_pos_of_mem->oO,pairwise_cons->ma,getElem?_toArray->oo,mem_iff_getElem?->oP,take_add_one->mf,perm_append_singleton->sH,mem_take_iff_getElem->rK,zip_eq_zipWith->oU,length_zipWith->ph,map_congr_left->py,getElem?_take_of_lt->qD,mem_of_mem_eraseIdx->uw,nodup_cons->lA,getElem?_take->pO,getElem?_set_self->qt,zipWith_cons_cons->uh,eraseIdxIfInBounds_toArray->vJ,lt_irrefl->mC,getElem_map->oC,cons_append->pN,getElem?_set_ne->qu,any_cons->lH,of_mem_zip->nP,range_succ->oQ,map_singleton->sg,getElem_range->sD,mem_drop_iff_getElem->wD,pairwise_map->rV,pairwise_filterMap->s0i,length_eq_zero_iff->s0n,perm_middle->s0r,drop_length->s0s,map_reverse->s0t,range_succ_eq_map->s1a,foldl_cons->s1e,nil_append->s1f,filterMap_append->s1l,cons_lt_cons_iff->s1n,getElem?_zipWith->s1p,dropLast_eq_take->s1q,take_left'->s1u,getElem_toArray->s1z,getElem?_of_mem->s2c,filterMap_map->s3c,find?_eq_none->s3n,lt_trans->s3q,map_nil->s3x
open Nat renaming le_refl->aj,ne_of_lt->aJ,lt_of_lt_of_le->bZ,zero_le->aX,lt_succ_of_lt->cL,le_trans->bH,lt_irrefl->cG,le_of_lt->cu,le_of_ble_eq_true->gZ,lt_succ_self->eU,lt_or_ge->dz,min_eq_left->gG,ne_of_gt->fF,succ_le_succ->jR,le_of_not_lt->jS,lt_of_le_of_lt->lL,zero_lt_succ->lU,lt_trans->iZ,sub_self->ji,not_lt_zero->lX,le_succ->jQ,le_of_lt_succ->sw,le_add_right->s0p,add_zero->s1k,mod_lt->s1x,add_le_add_right->s2a,add_right_comm->s3m,add_comm->s3z,succ_pos->s4d
open Bool renaming false_ne_true->aV,and_eq_true->bg,false_eq_true->jZ,and_eq_true_iff->mI,or_eq_true->jg,eq_iff_iff->nL,and_false->oY,not_eq_true'->qO,false_and->s2e,false_or->s3t
open Array renaming getElem?_toList->bE,getElem?_eq_getElem->cP,getD_eq_getD_getElem?->fY,getElem?_eq_some_iff->lN,getElem?_setIfInBounds_ne->sG,getElem?_eq_none->oD,toArray_toList->qY,getElem?_setIfInBounds->xy,size_map->oR,toList_push->rZ,size_setIfInBounds->s0a,getElem?_replicate->s0b,toList_filterMap->s0y,size_replicate->s2b,append_assoc->s2x,foldl_toList->s3o,forIn_toList->s3p
open PySem.Around renaming under_plainId->cM
open Option.some renaming inj->cv,injEq->pJ
open Int renaming emod_lt_of_pos->dj,emod_nonneg->cY,mul_le_mul_of_nonneg_left->kO,mul_le_mul_of_nonneg_right->ni,fdiv_eq_ediv_of_nonneg->lx,toNat_of_nonneg->jt,le_trans->fk,mul_assoc->iN,ediv_nonneg->jX,le_refl->iB,mul_comm->jw,ediv_le_self->qd,fmod_eq_emod_of_nonneg->uZ,mul_one->s0d,one_mul->s0m,ediv_one->s1c,zero_mul->s1t,mul_ediv_self_le->s2d,mul_nonneg->s2n,mul_le_mul->s2o,natCast_nonneg->s3a,sub_eq_add_neg->s3u,zero_add->s4e
open PyProof.Rows renaming callWith_type1->gC,slot_tuple_getitem->nR,subscriptTail_builtinR->s0w,entry_list_sort->s1i,slot_list_sort->s2k,args_list_sort->s2l,sortedHeap_old->s2m,entry_tuple_getitem->s2p,args_tuple_getitem->s3d,len_tuple->s3e,boot_reversed->s3h,sortedHeap_at->s3k,listUpdate_at->s3r,plain_sorted->s4a,entry_sorted->s4b,args_sorted1->s4c,kind_sorted->s4i,seqEpoch_at->s4j
open Option renaming map_eq_some_iff->fQ,isNone_iff_eq_none->jh,isSome_iff_exists->vp
open PySem.F renaming plain_max_loop->ja,slot_tuple_iterator_next->oq,plainAttrs_list->pM,excBase_ValueError->tR,args_tuple_add_2->qG,entry_tuple_add->qF,slot_tuple_add->qE,entry_max_loop->rC,plain_list_iadd->oh,plain_tuple_new->oj,slot_dict_get->rn,args_object_init_2->qR,args_tuple_iterator_next_1->wa,plain_extend_loop->qV,entry_tuple_iterator_next->vZ,plain_extend_loop->wT,args_dict_get_2->s0g,plain_list_iadd->s0j,entry_dict_get->s0x,entry_proto_collect->s1g,plain_proto_collect->s1h,slot_list_pop->s1r,type_list_pop->s1s,args_list_append_2->s1y,entry_list_append->s2q,entry_object_init->s2s,slot_list_append->s3f,typeCall_tuple_1->s3i
open PySem.Heap.SameBut renaming update->iw
open Ne renaming symm->bh
open PyProof.Rows.F renaming plain_set_update_loop->kh,entry_set_update_loop->oK
open PySem.Value renaming isInt_shape->hG
open Classical renaming byContradiction->mq
open PySem.Obj renaming data_mapFields->jW,isFreed_of_fields->qS
open PySem.Calls renaming call_function_entry->qX,spliced_cons->nO,callWith_builtin->qJ,spliced_nil->nN,evalArgs_plain->qL,Name_function_global->uM,Constant_str->s2y
open PySem.SetTable renaming toList_insertAt->rJ,insertAt_perm->s0z
open And renaming intro->fT
open PySem.Paired renaming length->kX
open PySem.Code renaming quiet_builtin->rD
open PyProof renaming noPylong_of_log2->vR
open True renaming intro->jY
open List.Pairwise renaming imp->rY
open PySem.W renaming hideAll_get->s0c,kia_one->s1o,callWith_K->s3w
open Prod.mk renaming injEq->s0l
open PySem.SeqAt.EqAt renaming same->s1d,int_str->s2v,str_int->s2w,of_refs->s3s
open PySem.Moved renaming drop_new->s2i
open PySem.ItemsOf renaming nil->s2r
open PySem.Walks renaming list->s3v
open Sum.inr renaming inj->s4f
def ax:=@of_decide_eq_true
def aO:=@decide_eq_false
def bz:=@decide_eq_true
def eZ:=@decide_eq_true_eq
def bu:=@congrArg
def fW:=@beq_self_eq_true
def ij:=@decide_eq_decide
def kW:=@of_decide_eq_false
def eV:=@beq_iff_eq
def eW:=@or_false
def qp:=@beq_eq_false_iff_ne
def ef:=@if_true
def sj:=@bne_self_eq_false
def s0e:=@if_false
def s0k:=@decide_eq_false_iff_not
def s4l:=@dif_pos
section
set_option compiler.extract_closed false
set_option hygiene false

set_option hygiene true
noncomputable section
namespace _L
open PySem PySem.Spec PyProof.Rows
abbrev Key:=Sum Int Str
noncomputable def jF:Key->Value->Bool
 |.inl k,v=>Value.isInt k v
 |.inr x,v=>Value.isStrOf x v
noncomputable def BD(w:World):Key->Int
 |.inl k=>hashInt k
 |.inr x=>hashStr w x
theorem gq:∀ {k:Key}{v:Value},jF k v=true->(∃i t,k=Sum.inl i/\v=Value.int i t)\/(∃x t,k=Sum.inr x/\v=Value.str x t)
 |.inl i,v,h=>by
  obtain⟨t,e⟩:=hG (k:=i) (v:=v) h;exact .inl ⟨i,t,fu,e⟩
 |.inr x,v,h=>by
  obtain⟨t,e⟩:=Value.isStrOf_shape (x:=x) (v:=v) h;exact .inr ⟨x,t,fu,e⟩
def uJ(i:Int)(t:Tok):jF (.inl i) (.int i t)=true:=by simp[jF,Value.isInt]
def nC(x:Str)(t:Tok):jF (.inr x) (.str x t)=true:=by simp[jF,Value.isStrOf]
def BE(a b:Int):decide ((Sum.inl a:Key)=Sum.inl b)=(a == b):=by
 by_cases e:a=b
 ·subst e;simp
 ·have h:¬(Sum.inl a:Key)=Sum.inl b:=λ q=>e (Sum.inl.inj q);rw[aO h];exact(qp.mpr e).symm
def BF(a b:Str):decide ((Sum.inr a:Key)=Sum.inr b)=decide (a=b):=by
 by_cases e:a=b
 ·subst e;simp
 ·have h:¬(Sum.inr a:Key)=Sum.inr b:=λ q=>e (s4f q);rw[aO h,aO e]
def BG(a:Int)(b:Str):decide ((Sum.inl a:Key)=Sum.inr b)=false:=aO (λ q=>nomatch q)
def BH(a:Str)(b:Int):decide ((Sum.inr a:Key)=Sum.inl b)=false:=aO (λ q=>nomatch q)
noncomputable def cF(prog:Program)(w:World):PySem.KeyKind prog w Key where
 is:=jF
 hash:=BD w
 inj:=λ v a b ha hb=>by
  rcases gq ha with ⟨i,t,rfl,rfl⟩|⟨x,t,rfl,rfl⟩
  ·rcases gq hb with ⟨j,u,rfl,e⟩|⟨y,u,rfl,e⟩
   ·injection e with e1 _;rw[e1]
   ·exact nomatch e
  ·rcases gq hb with ⟨j,u,rfl,e⟩|⟨y,u,rfl,e⟩
   ·exact nomatch e
   ·injection e with e1 _;rw[e1]
 byValue:=λ k v h=>by
  rcases gq h with ⟨i,t,rfl,rfl⟩|⟨x,t,rfl,rfl⟩<;>rfl
 pyHash:=λ hv h=>by
  rcases gq hv with ⟨i,t,rfl,rfl⟩|⟨x,t,rfl,rfl⟩
  ·exact wpAny_pyHash_int h
  ·exact wpAny_pyHash_str h
 eqBool:=λ hu hv h=>by
  rcases gq hu with ⟨i,t,rfl,rfl⟩|⟨x,t,rfl,rfl⟩
  ·rcases gq hv with ⟨j,u,rfl,rfl⟩|⟨y,u,rfl,rfl⟩
   ·rw[BE] at h;exact wpAny_eqBool_int h
   ·rw[BG] at h;exact s2v i t y u _ _ _ _ h
  ·rcases gq hv with ⟨j,u,rfl,rfl⟩|⟨y,u,rfl,rfl⟩
   ·rw[BH] at h;exact s2w x t j u _ _ _ _ h
   ·rw[BF] at h;exact wpAny_eqBool_str h
 «strs»:=λ k x t v h=>by
  rcases gq h with ⟨i,u,rfl,e⟩|⟨y,u,rfl,e⟩
  ·exact nomatch e
  ·injection e with e1 _
   subst e1;cases v<;>rfl
def BJ(prog:Program)(w:World)(i:Int)(t:Tok):(cF prog w).is (.inl i) (.int i t)=true:=uJ i t
def BK(prog:Program)(w:World)(x:Str)(t:Tok):(cF prog w).is (.inr x) (.str x t)=true:=nC x t
inductive V where
 |non|bl (b:Bool)|int (i:Int)|str (x:Str)|byt (b:Array UInt8)|flt (b:UInt64)|ref (a:Addr)|ty (n:String)
 deriving DecidableEq
noncomputable def RelV:V->Value->Prop
 |.non,u=>u=Value.none
 |.bl b,u=>u=Value.bool b
 |.int i,u=>∃t,u=Value.int i t
 |.str x,u=>∃t,u=Value.str x t
 |.byt b,u=>∃t,u=Value.bytes b t
 |.flt b,u=>∃t,u=Value.float b t
 |.ref a,u=>u=Value.ref a
 |.ty n,u=>u=Value.type n
abbrev Vals:List V->LV->Prop:=Paired RelV
def Vals.length(r:Vals xs us):xs.length=us.length:=kX r
theorem Vals.get:∀ {xs:List V}{us:LV}{i:Nat}{x:V},Vals xs us->xs[i]?=some x->∃u,us[i]?=some u/\RelV x u
 |_,_,_,_,.nil,e=>by simp at e
 |_,_,0,_,.cons r _,e=>by simp at e;subst e;exact⟨_,rfl,r⟩
 |_,_,i+1,x,.cons _ t,e=>by
  obtain⟨u,h1,h2⟩:=Vals.get (i:=i) (x:=x) t (by simpa using e);exact⟨u,by simpa using h1,h2⟩
theorem Vals.set(r:RelV x u):∀ {xs:List V}{us:LV}(i:Nat),Vals xs us->Vals (xs.set i x) (us.set i u)
 |_,_,_,.nil=>.nil
 |_,_,0,.cons _ t=>.cons r t
 |_,_,i+1,.cons q t=>.cons q (Vals.set r i t)
theorem Vals.append:∀ {xs ys:List V}{us ws:LV},Vals xs us->Vals ys ws->Vals (xs++ys) (us++ws)
 |_,_,_,_,.nil,s=>s
 |_,_,_,_,.cons r t,s=>.cons r (Vals.append t s)
theorem Vals.take:∀ {xs:List V}{us:LV}(n:Nat),Vals xs us->Vals (xs.take n) (us.take n)
 |_,_,0,_=>.nil
 |_,_,_+1,.nil=>.nil
 |_,_,n+1,.cons r t=>.cons r (Vals.take n t)
theorem Vals.drop:∀ {xs:List V}{us:LV}(n:Nat),Vals xs us->Vals (xs.drop n) (us.drop n)
 |_,_,0,r=>r
 |_,_,_+1,.nil=>.nil
 |_,_,n+1,.cons _ t=>Vals.drop n t
noncomputable def RelO:Option V->Option Value->Prop
 |some v,some u=>RelV v u
 |none,none=>True
 |_,_=>False
noncomputable def KV{κ:Type}:List (κ×V)->List (κ×Value)->Prop:=Paired λ(p:κ×V) (q:κ×Value)=>p.1=q.1/\RelV p.2 q.2
def kV:Key->V
 |.inl i=>.int i
 |.inr x=>.str x
inductive HO where
 |lst (xs:List V)
 |tup (xs:List V)
 |dK (kvs:List (Key×V))|dT (kvs:List (List Key×V))
 |set (S:Int->Bool) (n:Nat)
 |ins (C dx:Addr) (fs:List (Str×V))
 |own (x:Addr)
 |xd (fs:List (Str×V))
 |met (f x:Addr)
 |rng (lo hi:Int)
 |frz (o:Obj) (u:HO)
 |tbl (ps:Array Value)
 |ext (φ:Heap->Prop)
abbrev Hp:=Addr->Option HO
noncomputable def upd(H:Hp)(a:Addr)(o:HO):Hp:=λ b=>if b=a then some o else H b
def cT:upd H a o a=some o:=by unfold upd;rw[if_pos rfl]
def aF{a b:Addr}(h:b≠a):upd H a o b=H b:=by unfold upd;rw[if_neg h]
def kY{H:Hp}(h:H a=some o)(h':H b=none):a≠b:=by
 intro e;subst e;rw[h] at h';cases h'
noncomputable def TupO(h:Heap)(a:Addr)(its:Array Value):Prop:=∃o,h.get? a=some o/\(o.cls=.type "tuple" /\ ∃n,o.data=.seq its n)/\o.dict=none
def TupO.new(h:Heap)(its:Array Value):TupO (h.push { cls:=.type "tuple",data:=.seq its }) h.objs.size its:=⟨_,aL _ rfl,⟨rfl,0,rfl⟩,rfl⟩
def TupO.tup(t:TupO h a its):IsTup h a its:=let ⟨o,e,⟨c,n,d⟩,_⟩:=t;⟨o,e,c,n,d⟩
def TupO.lt(t:TupO h a its):a<h.objs.size:=t.tup.lt
section
variable (P:Program)(w:World)
noncomputable def ObjOk(H:Hp)(h:Heap)(a:Addr):HO->Prop
 |.lst xs=>xs.length<=sizeLine/\∃(its:LV) (n:Nat),Vals xs its/\h.get? a=some { cls:=.type "list",data:=.seq its.toArray n }
 |.tup xs=>xs.length<=sizeLine/\∃its:LV,Vals xs its/\TupO h a its.toArray
 |.dK kvs=>kvs.length<=sizeLine/\(a == sysModules)=false/\∃vs,KV kvs vs/\h.DictOf (cF P w) a vs
 |.dT kvs=>kvs.length<=sizeLine/\(a == sysModules)=false/\∃xs:List (List Key×Addr×Value),
   Paired (λ(p:List Key×V) (q:List Key×Addr×Value)=>p.1=q.1/\H q.2.1=some (.tup (p.1.map kV))/\RelV p.2 q.2.2) kvs xs /\
   ∃o es ep,h.get? a=some o/\o.ExactDict/\o.data=.dict es ep/\es.toList=xs.map (entryOfKey (tupleKind (cF P w)))/\(xs.map (·.1)).Nodup
 |.set S n=>h.SetOf (intKind P w) a S n
 |.ins C dx fs=>H dx=some (.own a)/\fs.length<=1000/\dx≠a/\h.get? a=some (W.instObj C dx) /\
   ∃mA,h.Ns1 dx mA/\(∀f,RelO (fs.lookup f) (mA f))/\PySem.Within mA (fs.map (·.1))
 |.own _=>∃o,h.get? a=some o
 |.xd fs=>∃mA,h.Ns1 a mA/\∀f,RelO (fs.lookup f) (mA f)
 |.rng lo hi=>∃t u v,h.get? a=some { cls:=.type "range",data:=.fields #[.int lo t,.int hi u,.int 1 v] }
 |.frz o u=>h.get? a=some o/\ObjOk H h a u
 |.tbl ps=>h.get? a=some { cls:=.none,data:=.fields ps }
 |.met f x=>h.get? a=some (W.methodObj (.ref f) (.ref x))
 |.ext φ=>φ h/\(∃o,h.get? a=some o)/\∀h1 h2:Heap,φ h1->(∀o,h1.get? a=some o->h2.get? a=some o)->φ h2
noncomputable def HOk(H:Hp)(h:Heap):Prop:=∀a o,H a=some o->ObjOk P w H h a o
end
section
variable {P:Program}{w:World}{H H':Hp}{h h':Heap}{a:Addr}{o:HO}
def ObjOk.lt(x:ObjOk P w H h a o):a<h.objs.size:=by
 cases o with
 |lst xs=>obtain⟨_,_,_,_,e⟩:=x;exact az e
 |tup xs=>obtain⟨_,_,_,p⟩:=x;exact p.lt
 |dK kvs=>obtain⟨_,_,_,_,o,_,_,e,_⟩:=x;exact az e
 |dT kvs=>obtain⟨_,_,_,_,o,_,_,e,_⟩:=x;exact az e
 |set S n=>obtain⟨o,_,_,_,e,_⟩:=x;exact az e
 |ins C dx fs=>obtain⟨_,_,_,e,_⟩:=x;exact az e
 |own y=>obtain⟨_,e⟩:=x;exact az e
 |xd fs=>obtain⟨_,⟨_,_,_,e,_⟩,_⟩:=x;exact az e
 |rng lo hi=>obtain⟨_,_,_,e⟩:=x;exact az e
 |frz ob u=>obtain⟨e,_⟩:=x;exact az e
 |tbl ps=>exact az (show h.get? a=some _ from x)
 |met f y=>exact az (show h.get? a=some _ from x)
 |ext φ=>obtain⟨_,⟨_,e⟩,_⟩:=x;exact az e
theorem Paired.mapP{α β:Type}{F G:α->β->Prop}:∀ {l₁:List α}{l₂:List β},Paired F l₁ l₂->(∀a b,F a b->G a b)->Paired G l₁ l₂
 |_,_,.nil,_=>.nil
 |_,_,.cons r t,f=>.cons (f _ _ r) (Paired.mapP t f)
theorem ObjOk.stay(x:ObjOk P w H h a o)(k:∀b u,(b=a\/H b=some (.own a))->h.get? b=some u->h'.get? b=some u)
  (ho:∀b,H b=some (.own a)->H' b=some (.own a)) (ht:∀b xs,H b=some (.tup xs)->H' b=some (.tup xs)):ObjOk P w H' h' a o:=by
 induction o with
 |lst xs=>obtain⟨z,its,n,r,e⟩:=x;exact⟨z,its,n,r,k _ _ (.inl rfl) e⟩
 |tup xs=>obtain⟨z,its,r,ob,e,c⟩:=x;exact⟨z,its,r,ob,k _ _ (.inl rfl) e,c⟩
 |dK kvs=>obtain⟨z,y,vs,r,ob,es,ep,e,c⟩:=x;exact⟨z,y,vs,r,ob,es,ep,k _ _ (.inl rfl) e,c⟩
 |dT kvs=>
  obtain⟨z,y,xs,r,ob,es,ep,e,c⟩:=x;exact⟨z,y,xs,Paired.mapP r λ p q z=>⟨z.1,ht _ _ z.2.1,z.2.2⟩,ob,es,ep,k _ _ (.inl rfl) e,c⟩
 |set S n=>obtain⟨ob,es,ep,t,e,c⟩:=x;exact⟨ob,es,ep,t,k _ _ (.inl rfl) e,c⟩
 |ins C dx fs=>
  obtain⟨d,z,ne,e,mA,⟨od,es,ep,e2,c⟩,r⟩:=x;exact⟨ho _ d,z,ne,k _ _ (.inl rfl) e,mA,⟨od,es,ep,k _ _ (.inr d) e2,c⟩,r⟩
 |own y=>obtain⟨ob,e⟩:=x;exact⟨ob,k _ _ (.inl rfl) e⟩
 |xd fs=>obtain⟨mA,⟨od,es,ep,e,c⟩,r⟩:=x;exact⟨mA,⟨od,es,ep,k _ _ (.inl rfl) e,c⟩,r⟩
 |rng lo hi=>obtain⟨t,u,v,e⟩:=x;exact⟨t,u,v,k _ _ (.inl rfl) e⟩
 |frz ob u ih=>obtain⟨e,q⟩:=x;exact⟨k _ _ (.inl rfl) e,ih q⟩
 |tbl ps=>
  have e:h.get? a=some { cls:=.none,data:=.fields ps }:=x;show h'.get? a=some { cls:=.none,data:=.fields ps };exact k a _ (.inl rfl) e
 |met f y=>
  have e:h.get? a=some (W.methodObj (.ref f) (.ref y)):=x;show h'.get? a=some (W.methodObj (.ref f) (.ref y));exact k a _ (.inl rfl) e
 |ext φ=>obtain⟨p,⟨o,e⟩,st⟩:=x;exact⟨st _ _ p λ o q=>k _ _ (.inl rfl) q,⟨o,k _ _ (.inl rfl) e⟩,st⟩
def HOk.lt(x:HOk P w H h)(e:H a=some o):a<h.objs.size:=(x a o e).lt
def HOk.fresh(x:HOk P w H h)(e:h.objs.size<=a):H a=none:=by
 cases q:H a with
 |none=>rfl
 |some u=>exact absurd (bZ (x.lt q) e) (cG _)
def HOk.kept(x:HOk P w H h)(k:∀b u,h.get? b=some u->h'.get? b=some u):HOk P w H h':=λ a o e=>
 (x a o e).stay (λ b u _ q=>k b u q) (λ _ q=>q) λ _ _ q=>q
def HOk.laid(x:HOk P w H h)(k:∀b u,h.get? b=some u->h'.get? b=some u)(hp:h.objs.size<=a)(new:ObjOk P w (upd H a o) h' a o):HOk P w (upd H a o) h':=λ b u e=>by
 have hn:=x.fresh hp;by_cases hb:b=a
 ·subst hb;rw[cT] at e;cases e;exact new
 ·rw[aF hb] at e;exact(x b u e).stay (λ c v _ q=>k c v q) (λ c q=>by rw[aF (kY q hn)];exact q) λ c xs q=>by rw[aF (kY q hn)];exact q
end
noncomputable def Rd(H:Hp)(a:Addr)(u:HO):Prop:=H a=some u\/∃o,H a=some (.frz o u)
def Rd.ok(r:Rd H a u)(x:HOk P w H h):ObjOk P w H h a u:=by
 rcases r with r|⟨o,r⟩
 ·exact x a u r
 ·obtain⟨_,q⟩:=x a _ r;exact q
noncomputable def Mut:Option HO->Prop
 |some (.lst _)=>True
 |some (.dK _)=>True
 |some (.dT _)=>True
 |some (.set _ _)=>True
 |some (.ins _ _ _)=>True
 |some (.ext _)=>True
 |_=>False
section
variable {P:Program}{w:World}{H:Hp}{h h':Heap}{x e:Addr}{o':HO}
theorem HOk.write(ok:HOk P w H h)(mu:Mut (H x))(he:e=x\/H e=some (.own x))(k:∀b u,b≠e->h.get? b=some u->h'.get? b=some u)(heo:∃u,h'.get? e=some u)
  (new:ObjOk P w (upd H x o') h' x o'):HOk P w (upd H x o') h':=λ b u q=>by
 have nown:∀c y,H c=some (.own y)->c≠x:=λ c y r z=>by subst z;rw[r] at mu;exact mu
 have ntup:∀c xs,H c=some (.tup xs)->c≠x:=λ c xs r z=>by subst z;rw[r] at mu;exact mu
 by_cases hb:b=x
 ·subst hb;rw[cT] at q;cases q;exact new
 ·rw[aF hb] at q;by_cases hbe:b=e
  ·have q':H b=some (.own x):=by
    rcases he with z|z
    ·exact absurd (hbe.trans z) hb
    ·rw[hbe];exact z
   rw[q] at q';cases q';obtain⟨v,hv⟩:=heo;exact⟨v,by rw[hbe];exact hv⟩
  ·refine(ok b u q).stay (λ c v hc r=>k c v ?_ r) (λ c r=>by rw[aF (nown c b r)];exact r) λ c xs r=>by rw[aF (ntup c xs r)];exact r
   rcases hc with rfl|hc
   ·exact hbe
   ·rintro rfl
    rcases he with z|z
    ·exact nown c b hc z
    ·rw[hc] at z;cases z;exact hb rfl
end
structure Un (fs ex:List Addr)(H H':Hp)(h h':Heap):Prop where
 keep:∀b o,h.get? b=some o->H b=none->b ∉ fs->b ∉ ex->h'.get? b=some o
 slot:∀b o,h.get? b=some o->H b=none->b∈fs->b ∉ ex->∃sl,h'.get? b=some { o with slots:=sl }
 free:∀b o,h.get? b=some o->H b=none->b ∉ ex->H' b=none
 there:∀b o,h.get? b=some o->b ∉ ex->∃o',h'.get? b=some o'
 tups:∀b xs,H b=some (.tup xs)->H' b=some (.tup xs)
 frzs:∀b o u,H b=some (.frz o u)->H' b=some (.frz o u)
 tbls:∀b ps,H b=some (.tbl ps)->∃more,H' b=some (.tbl (ps++more))
section
variable {fs fs' ex ex':List Addr}{H H1 H2:Hp}{h h1 h2 h':Heap}{a x e:Addr}{o:HO}
def Un.any(u:Un fs ex H H1 h h1){b:Addr}(q:h.get? b=some ob)(n:H b=none)(hx:b ∉ ex):∃sl,h1.get? b=some { ob with slots:=sl }:=by
 by_cases hb:b∈fs
 ·exact u.slot b ob q n hb hx
 ·exact⟨ob.slots,u.keep b ob q n hb hx⟩
def Un.kept(k:∀b u,h.get? b=some u->h'.get? b=some u):Un fs ex H H h h' :=
 ⟨λ b ob q _ _ _=>k b ob q,λ b ob q _ _ _=>⟨ob.slots,k b ob q⟩,λ _ _ _ n _=>n,λ b ob q _=>⟨ob,k b ob q⟩,λ _ _ q=>q,λ _ _ _ q=>q,λ _ ps q=>⟨#[],by rw[q];simp⟩⟩
def Un.refl:Un fs ex H H h h:=Un.kept λ _ _ q=>q
theorem Un.laid(k:∀b u,h.get? b=some u->h'.get? b=some u)(hp:h.objs.size<=a)(hn:H a=none):Un fs ex H (upd H a o) h h' where
 keep:=λ b u q _ _ _=>k b u q
 slot:=λ b u q _ _ _=>⟨u.slots,k b u q⟩
 free:=λ b u q n _=>by rw[aF (aJ (bZ (az q) hp))];exact n
 there:=λ b u q _=>⟨u,k b u q⟩
 tups:=λ b xs q=>by rw[aF (kY q hn)];exact q
 frzs:=λ b u xs q=>by rw[aF (kY q hn)];exact q
 tbls:=λ b ps q=>⟨#[],by rw[aF (kY q hn),q];simp⟩
def Un.write(mu:Mut (H x))(he:e=x\/H e=some (.own x))(k:∀b u,b≠e->h.get? b=some u->h'.get? b=some u)(heo:∃u,h'.get? e=some u):Un fs ex H (upd H x o) h h':=by
 have hx:∀b,H b=none->b≠x:=λ b n z=>by subst z;rw[n] at mu;exact mu
 have hb:∀b,H b=none->b≠e:=λ b n z=>by
  subst z
  rcases he with r|r
  ·exact hx b n r
  ·rw[n] at r;cases r
 have hm:∀b u,H b=some u->¬Mut (some u)->b≠x:=λ b u q nm z=>by subst z;rw[q] at mu;exact nm mu
 refine⟨λ b u q n _ _=>k b u (hb b n) q,λ b u q n _ _=>⟨u.slots,k b u (hb b n) q⟩,λ b u q n _=>by rw[aF (hx b n)];exact n,λ b u q _=>?_,
  λ b xs q=>by rw[aF (hm b _ q λ z=>z)];exact q,λ b u xs q=>by rw[aF (hm b _ q λ z=>z)];exact q,λ b ps q=>⟨#[],by rw[aF (hm b _ q λ z=>z),q];simp⟩⟩
 by_cases hbe:b=e
 ·subst hbe;exact heo
 ·exact⟨u,k b u hbe q⟩
end
noncomputable def trk(h:Heap)(H:Hp):List Addr:=(List.range h.objs.size).filter λ a=>(H a).isSome
def gu(h:Heap)(H:Hp):Heap:=W.hideAll h (trk h H)
def BL(h:Heap)(H:Hp):(gu h H).objs.size=h.objs.size:=W.hideAll_size _ _
def BM{h:Heap}{H:Hp}{b:Addr}(e:h.get? b=some o)(n:H b=none):(gu h H).get? b=some o :=
 s0c _ e λ hm=>by
  have q:(H b).isSome=true:=(hZ.mp hm).2;rw[n] at q;simp at q
def BO{b:Addr}(e:(gu h H).get? b=some o):h.get? b=some o/\H b=none:=by
 have e':h.get? b=some o:=W.of_hideAll (trk h H) e;refine⟨e',?_⟩
 cases q:H b with
 |none=>rfl
 |some x=>
  have hm:b∈trk h H:=hZ.mpr ⟨bU.mpr (az e'),by simp[q]⟩;have z:(gu h H).get? b=none:=W.hideAll_none (trk h H) hm;rw[z] at e;cases e
noncomputable def BP(g h:Heap)(L:Addr):LO:=(List.range h.objs.size).filterMap λ a=>if a=L\/(g.get? a).isSome=true then none else (h.get? a).map λ o=>(a,o)
noncomputable def rest(g h:Heap)(L d:Addr):LO:=(BP g h L).filter λ p=>decide (p.1≠d)
structure Mod (K:FG)(mg:SV)(base:Heap):Prop where
 kin:K.In base
 glob:base.Ns mainGlobals mg
 blt:∃mb,base.Ns builtinsNs mb/\∀x:Str,x ≠ "__name__" -> mb x=bootBuiltins x
 nolimit:base.NoLimit
structure Cx where
 prog:Program
 w:World
 K:FG
 mg:SV
 base:Heap
 A:Around
 N:List Str
 s₀:Shared
 H₀:Hp
 env:Env
 outer:List Env
 stack:List Env
 ex:List Addr
 fn:Str->Bool
 calm:Bool
 pn:LO
 xe:VS
def frs(l:List Env):List Addr:=l.filterMap (·.frame)
abbrev Cx.fs(X:Cx):List Addr:=frs X.outer
noncomputable def Vis(sc:Scope)(x:Str):Prop:=sc.names.lookup x=some .local\/sc.names.lookup x=some .cell\/sc.names.lookup x=some .free
noncomputable def Loc(sc:Scope)(x:Str):Prop:=sc.names.lookup x=some .local\/sc.names.lookup x=some .cell
noncomputable def BQ(env:Env)(h:Heap)(m:SV)(x:Str)(u:Value):Prop :=
 (env.kindOf x=some .local/\m x=some u)\/((env.kindOf x=some .cell\/env.kindOf x=some .free)/\∃c,env.cells.lookup x=some c/\h.IsCell c (some u))
structure Cx.Ok (X:Cx):Prop where
 mod:Mod X.K X.mg X.base
 kind:X.env.scope.kind=.function
 glob:X.env.globals=mainGlobals
 blt:X.env.builtins=builtinsNs
 above:X.s₀.heap.objs.size<=X.env.locals
 inj:∀x y c,X.env.cells.lookup x=some c->X.env.cells.lookup y=some c->x=y
 has:∀x,(X.env.kindOf x=some .cell\/X.env.kindOf x=some .free)->∃c,X.env.cells.lookup x=some c
 cab:∀x c,X.fn x=true->X.env.cells.lookup x=some c->X.s₀.heap.objs.size<=c
 hd:X.calm=true->X.A.handled=none
 frames:X.A.frames=some X.stack
 stk:X.stack=X.outer\/(X.stack=X.env::X.outer/\X.env.frame=some X.env.locals)
 exf:∀b∈X.ex,b≠X.env.locals/\∀x c,X.env.cells.lookup x=some c->c≠b
 bs:∀b o,X.base.get? b=some o->X.s₀.heap.get? b=some o/\X.H₀ b=none
 bsz:X.base.objs.size<=X.s₀.heap.objs.size
 noex:∀b o,X.base.get? b=some o->b ∉ X.ex
 exfs:∀b∈X.ex,b ∉ X.fs
 funs:X.s₀.heap.FunFrames X.base X.outer
 frf:∀b∈X.fs,X.H₀ b=none
structure Inv (X:Cx)(pins:LO)(σ:List (Option V))(H:Hp)(s:Shared):Prop where
 ok:X.Ok
 os:s.os=X.s₀.os
 bare:AllBare s.gens
 base:Un X.fs X.ex X.H₀ H X.s₀.heap s.heap
 loc:∃m,s.heap.Ns X.env.locals m/\∀(i:Nat) (x:Str) (v:V),X.N[i]?=some x->σ[i]?=some (some v)->Vis X.env.scope x->∃u,RelV v u/\BQ X.env s.heap m x u
 cell:∀x c,X.env.cells.lookup x=some c->∃v,s.heap.IsCell c v
 free:H X.env.locals=none
 freeC:∀x c,X.env.cells.lookup x=some c->H c=none
 pin:∀p∈X.pn++pins,s.heap.get? p.1=some p.2/\H p.1=none/\p.1≠X.env.locals/\p.1 ∉ X.fs/\∀v,p.2.data≠.cell v
 hok:HOk X.prog X.w H s.heap
 len:σ.length=X.N.length
variable {X:Cx}
section
variable {pins:LO}{σ:List (Option V)}{H H':Hp}{s:Shared}{h':Heap}
def Cx.Ok.nofr(ok:X.Ok){b:Addr}(e:X.base.get? b=some o):b ∉ X.fs:=λ hb=>by
 have:=(ok.funs.mem hb).1;rw[e] at this;cases this
def Inv.bs(I:Inv X pins σ H s):∀b o,X.base.get? b=some o->s.heap.get? b=some o/\H b=none:=λ b o e=>
 ⟨I.base.keep b o (I.ok.bs b o e).1 (I.ok.bs b o e).2 (I.ok.nofr e) (I.ok.noex b o e),I.base.free b o (I.ok.bs b o e).1 (I.ok.bs b o e).2 (I.ok.noex b o e)⟩
def Inv.bk(I:Inv X pins σ H s):∀b o,X.base.get? b=some o->s.heap.get? b=some o:=λ b o e=>(I.bs b o e).1
def Inv.mod(I:Inv X pins σ H s):Mod X.K X.mg X.base:=I.ok.mod
def Inv.kIn(I:Inv X pins σ H s):X.K.In s.heap:=I.ok.mod.kin.keeps I.bk
def Inv.lt(I:Inv X pins σ H s):X.env.locals<s.heap.objs.size:=let ⟨_,hn,_⟩:=I.loc;hn.lt
def Inv.sz(I:Inv X pins σ H s):X.s₀.heap.objs.size<=s.heap.objs.size:=bH I.ok.above (cu I.lt)
def Inv.nofs(I:Inv X pins σ H s){a:Addr}(h:s.heap.objs.size<=a):a ∉ X.fs:=λ hb=>by
 obtain⟨_,o,ho,_⟩:=I.ok.funs.mem hb;exact absurd (bZ (az ho) (bH I.sz h)) (cG _)
def Inv.cne(I:Inv X pins σ H s):∀x c,X.env.cells.lookup x=some c->c≠X.env.locals:=λ x c e z=>by
 obtain⟨v,o,ho,hd⟩:=I.cell x c e;obtain⟨m,⟨o',es,ep,ho',hd',_⟩,_⟩:=I.loc;rw[z,ho'] at ho;cases ho;rw[hd'] at hd;cases hd
def Inv.funs(I:Inv X pins σ H s):s.heap.FunFrames X.base X.outer:=by
 have all:∀(l:List Env),(∀b∈frs l,b∈X.fs)->X.s₀.heap.FunFrames X.base l->s.heap.FunFrames X.base l:=by
  intro l
  induction l with
  |nil=>intro _ _;trivial
  |cons env r ih=>
   intro hs hl;obtain⟨hk,⟨L,o,hf,hn,ho,hd⟩,hr⟩:=hl;have hL:L∈X.fs:=hs L (by unfold frs;rw[fE,hf];exact bJ);obtain⟨sl,e⟩:=I.base.slot L o ho (I.ok.frf L hL) hL λ z=>I.ok.exfs L z hL;exact⟨hk,⟨L,_,hf,hn,e,hd⟩,ih (λ b hb=>hs b (by unfold frs;rw[fE,hf];exact bO _ hb)) hr⟩
 exact all X.outer (λ _ hb=>hb) I.ok.funs
def Inv.stack(I:Inv X pins σ H s):s.heap.FunFrames X.base X.stack:=by
 rcases I.ok.stk with e|⟨e,hf⟩
 ·rw[e];exact I.funs
 ·rw[e];obtain⟨m,hn,_⟩:=I.loc;refine .cons (by rw[I.ok.kind];decide) hf hn ?_ I.funs;exact Heap.get?_none_of_le (bH I.ok.bsz I.ok.above)
def Inv.stkSub(I:Inv X pins σ H s):∀b∈frs X.stack,b∈X.env.locals::X.fs:=λ b hb=>by
 rcases I.ok.stk with e|⟨e,hf⟩
 ·rw[e] at hb;exact bO _ hb
 ·rw[e] at hb;unfold frs at hb;rw[fE,hf] at hb;exact hb
def Inv.stkFree(I:Inv X pins σ H s):∀b∈frs X.stack,H b=none:=λ b hb=>by
 rcases aN.mp (I.stkSub b hb) with e|hb
 ·rw[e];exact I.free
 ·obtain⟨_,o,ho,_⟩:=I.ok.funs.mem hb;exact I.base.free b o ho (I.ok.frf b hb) λ z=>I.ok.exfs b z hb
theorem Inv.step{t':Nat}{d':Drawn}{ch:List Addr}(I:Inv X pins σ H s)
  (hch:∀b∈ch,(b∈X.ex\/X.s₀.heap.objs.size<=b)/\b≠X.env.locals/\(∀x c,X.env.cells.lookup x=some c->c≠b)/\∀p∈X.pn++pins,p.1≠b)
  (keep:∀b o,b≠X.env.locals->b ∉ X.fs->b ∉ ch->s.heap.get? b=some o->H b=none->h'.get? b=some o)
  (slot:∀b o,b≠X.env.locals->b∈X.fs->b ∉ ch->s.heap.get? b=some o->H b=none->∃sl,h'.get? b=some { o with slots:=sl }) (free:∀b o,b ∉ ch->s.heap.get? b=some o->H b=none->H' b=none)
  (there:∀b o,b ∉ ch->s.heap.get? b=some o->∃o',h'.get? b=some o')
  (tups:∀b xs,H b=some (.tup xs)->H' b=some (.tup xs)) (frzs:∀b o u,H b=some (.frz o u)->H' b=some (.frz o u)) (tbls:∀b ps,H b=some (.tbl ps)->∃more,H' b=some (.tbl (ps++more)))
  (ns:∀m,s.heap.Ns X.env.locals m->h'.Ns X.env.locals m) (hok:HOk X.prog X.w H' h') (hg:AllBare g') :
  Inv X pins σ H' { s with heap:=h',gens:=g',drawn:=d',toks:=t' }:=by
 have neL:∀b o,X.s₀.heap.get? b=some o->b≠X.env.locals:=λ b o e=>aJ (bZ (az e) I.ok.above)
 have neC:∀b o,X.s₀.heap.get? b=some o->b ∉ X.ex->b ∉ ch:=λ b o e hx hb=>by
  rcases(hch b hb).1 with z|z
  ·exact hx z
  ·exact absurd (bZ (az e) z) (cG _)
 have cellK:∀x c,X.env.cells.lookup x=some c->∀v,s.heap.IsCell c v->h'.IsCell c v:=λ x c e v ⟨o,ho,hd⟩=>by
  have nch:c ∉ ch:=λ z=>(hch c z).2.2.1 x c e rfl;by_cases hc:c∈X.fs
  ·obtain⟨sl,q⟩:=slot c o (I.cne x c e) hc nch ho (I.freeC x c e);exact⟨_,q,hd⟩
  ·exact⟨o,keep c o (I.cne x c e) hc nch ho (I.freeC x c e),hd⟩
 refine⟨I.ok,I.os,hg,⟨λ b o e n hb hx=>?_,λ b o e n hb hx=>?_,λ b o e n hx=>?_,λ b o e hx=>?_,λ b xs e=>tups b xs (I.base.tups b xs e),λ b o xs e=>frzs b o xs (I.base.frzs b o xs e),λ b ps e=>?_⟩,?_,λ x c e=>?_,?_,λ x c e=>?_,λ p hp=>?_,hok,I.len⟩
 ·exact keep b o (neL b o e) hb (neC b o e hx) (I.base.keep b o e n hb hx) (I.base.free b o e n hx)
 ·obtain⟨sl,e1⟩:=I.base.slot b o e n hb hx;obtain⟨sl',e2⟩:=slot b _ (neL b o e) hb (neC b o e hx) e1 (I.base.free b o e n hx);exact⟨sl',e2⟩
 ·obtain⟨o',e1⟩:=I.base.there b o e hx;exact free b o' (neC b o e hx) e1 (I.base.free b o e n hx)
 ·obtain⟨o',e1⟩:=I.base.there b o e hx;exact there b o' (neC b o e hx) e1
 ·obtain⟨m1,e1⟩:=I.base.tbls b ps e;obtain⟨m2,e2⟩:=tbls b _ e1;exact⟨m1++m2,by rw[e2,s2x]⟩
 ·obtain⟨m,hn,hl⟩:=I.loc;refine⟨m,ns m hn,λ i x v e1 e2 e3=>?_⟩;obtain⟨u,r,l⟩:=hl i x v e1 e2 e3;refine⟨u,r,?_⟩
  rcases l with l|⟨k,c,e,z⟩
  ·exact .inl l
  ·exact .inr ⟨k,c,e,cellK x c e _ z⟩
 ·obtain⟨v,z⟩:=I.cell x c e;exact⟨v,cellK x c e v z⟩
 ·obtain⟨m,⟨o,_,_,ho,_⟩,_⟩:=I.loc;exact free _ o (λ z=>(hch _ z).2.1 rfl) ho I.free
 ·obtain⟨v,o,ho,hd⟩:=I.cell x c e;exact free c o (λ z=>(hch c z).2.2.1 x c e rfl) ho (I.freeC x c e)
 ·obtain⟨e,n,ne,nf,d⟩:=I.pin p hp;have nch:p.1 ∉ ch:=λ z=>(hch p.1 z).2.2.2 p hp rfl;exact⟨keep p.1 p.2 ne nf nch e n,free p.1 p.2 nch e n,ne,nf,d⟩
def Inv.un{t':Nat}(I:Inv X pins σ H s)(u:Un X.fs [] H H' s.heap h')(hok:HOk X.prog X.w H' h'):Inv X pins σ H' { s with heap:=h',toks:=t' }:=by
 obtain⟨m,⟨o,es,ep,ho,r⟩,_⟩:=id I.loc;obtain⟨sl,hL⟩:=u.any ho I.free BT
 exact I.step (g':=s.gens) (d':=s.drawn) (ch:=[]) (λ _ z=>nomatch z) (λ b o _ hb _ e n=>u.keep b o e n hb BT) (λ b o _ hb _ e n=>u.slot b o e n hb BT) (λ b o _ e n=>u.free b o e n BT) (λ b o _ e=>u.there b o e BT) u.tups u.frzs u.tbls (λ m' hm=>by
  obtain⟨o',es',ep',ho',r'⟩:=hm;rw[ho] at ho';cases ho'
  exact⟨_,es',ep',hL,r'⟩) hok I.bare
theorem Inv.call{t':Nat}{d':Drawn}(I:Inv X pins σ H s)(u:Un (frs X.stack) ch H H' s.heap h')(hok:HOk X.prog X.w H' h')(hg:AllBare g')
  (hch:∀b∈ch,(b∈X.ex\/X.s₀.heap.objs.size<=b)/\b≠X.env.locals/\(∀x c,X.env.cells.lookup x=some c->c≠b)/\∀p∈X.pn++pins,p.1≠b) :
  Inv X pins σ H' { s with heap:=h',gens:=g',drawn:=d',toks:=t' }:=by
 obtain⟨m,⟨o,es,ep,ho,r⟩,_⟩:=id I.loc;obtain⟨sl,hL⟩:=u.any ho I.free λ z=>(hch _ z).2.1 rfl
 exact I.step (ch:=ch) hch (λ b o hL hb hc e n=>u.keep b o e n (λ z=>(aN.mp (I.stkSub b z)).elim hL hb) hc) (λ b o _ _ hc e n=>u.any e n hc) (λ b o hc e n=>u.free b o e n hc) (λ b o hc e=>u.there b o e hc) u.tups u.frzs u.tbls (λ m' hm=>by
  obtain⟨o',es',ep',ho',r'⟩:=hm;rw[ho] at ho';cases ho'
  exact⟨_,es',ep',hL,r'⟩) hok hg
theorem Inv.turned{t':Nat}{it:Addr}(I:Inv X pins σ H s)(k:∀b o,b≠it->s.heap.get? b=some o->h'.get? b=some o)(hn:H it=none)(hL:it≠X.env.locals)
  (h1:it∈X.ex\/X.s₀.heap.objs.size<=it) (h2:∀x c,X.env.cells.lookup x=some c->c≠it) (h3:∀p∈X.pn++pins,p.1≠it):Inv X pins σ H { s with heap:=h',toks:=t' }:=by
 have nit:∀b u,H b=some u->b≠it:=λ b u e z=>by rw[z,hn] at e;cases e
 refine I.step (g':=s.gens) (d':=s.drawn) (ch:=[it]) (λ b hb=>?_) (λ b o _ _ hc e _=>k b o (λ z=>hc (by simp[z])) e) (λ b o _ _ hc e _=>⟨o.slots,k b o (λ z=>hc (by simp[z])) e⟩) (λ _ _ _ _ n=>n)
  (λ b o hc e=>⟨o,k b o (λ z=>hc (by simp[z])) e⟩) (λ _ _ e=>e) (λ _ _ _ e=>e) (λ b ps e=>⟨#[],by rw[e];simp⟩) (λ m hm=>?_) (λ b u e=>?_) I.bare
 ·have e:b=it:=by simpa using hb
  subst e;exact⟨h1,hL,h2,h3⟩
 ·obtain⟨o,es,ep,ho,r⟩:=hm;exact⟨o,es,ep,k _ o (bh hL) ho,r⟩
 ·refine(I.hok b u e).stay (λ c v hc q=>k c v ?_ q) (λ _ q=>q) λ _ _ q=>q
  rcases hc with z|z
  ·rw[z];exact nit b u e
  ·exact nit c _ z
def Inv.tok(I:Inv X pins σ H s)(t:Nat):Inv X pins σ H { s with toks:=t }:=I.un (h':=s.heap) (t':=t) Un.refl I.hok
def Inv.kept{t':Nat}(I:Inv X pins σ H s)(k:∀b u,s.heap.get? b=some u->h'.get? b=some u):Inv X pins σ H { s with heap:=h',toks:=t' }:=I.un (Un.kept k) (I.hok.kept k)
theorem Inv.laid{a:Addr}{t':Nat}(I:Inv X pins σ H s)(k:∀b u,s.heap.get? b=some u->h'.get? b=some u)(hp:s.heap.objs.size<=a)(new:ObjOk X.prog X.w (upd H a o) h' a o) :
  Inv X pins σ (upd H a o) { s with heap:=h',toks:=t' }:=I.un (Un.laid k hp (I.hok.fresh hp)) (I.hok.laid k hp new)
theorem Inv.write{x e:Addr}{t':Nat}(I:Inv X pins σ H s)(mu:Mut (H x))(he:e=x\/H e=some (.own x))(k:∀b u,b≠e->s.heap.get? b=some u->h'.get? b=some u)(heo:∃u,h'.get? e=some u)
  (new:ObjOk X.prog X.w (upd H x o) h' x o):Inv X pins σ (upd H x o) { s with heap:=h',toks:=t' }:=I.un (Un.write mu he k heo) (I.hok.write mu he k heo new)
def Inv.pins_of{pins':LO}(I:Inv X pins σ H s)(h:∀p∈pins',s.heap.get? p.1=some p.2/\H p.1=none/\p.1≠X.env.locals/\p.1 ∉ X.fs/\∀v,p.2.data≠.cell v):Inv X pins' σ H s :=
 ⟨I.ok,I.os,I.bare,I.base,I.loc,I.cell,I.free,I.freeC,λ p hp=>(bn.mp hp).elim (λ z=>I.pin p (gz _ z)) (h p),I.hok,I.len⟩
def uK{N:List Str}(hN:N.Nodup){i j:Nat}(a:N[i]?=some x)(b:N[j]?=some x):i=j:=by
 obtain⟨h1,e1⟩:=br.mp a;obtain⟨h2,e2⟩:=br.mp b;exact(List.getElem_inj hN).mp (e1.trans e2.symm)
theorem qr{i:Nat}{Q:Unit->Shared->Prop}(I:Inv X pins σ H s)(hN:X.N.Nodup)(hi:X.N[i]?=some x)(hx:Loc X.env.scope x)(r:RelV v u)
  (h:∀s',Inv X pins (σ.set i (some v)) H s'->(∃a,Heap.SameBut a s.heap s'.heap/\(a=X.env.locals\/X.env.cells.lookup x=some a))->Q () s') (hf:X.fn x=true\/X.env.scope.names.lookup x=some .local:=by first|exact .inl rfl|exact .inr rfl|assumption):wpAny M A (storeName X.env x u) Q E s:=by
 obtain⟨m,hn,hl⟩:=id I.loc;have hcls:(X.env.scope.kind == .class || (X.env.scope.kind == .module&&X.env.locals != X.env.globals))=false:=by rw[I.ok.kind];rfl
 have hiσ:i<σ.length:=by rw[I.len];exact(br.mp hi).1
 have cne:=I.cne
 have tracked:∀ {a:Addr}{h':Heap},(∃o,s.heap.get? a=some o/\H a=none)->Heap.SameBut a s.heap h'->HOk X.prog X.w H h':=λ {a h'} ha hs b ob e=>by
  obtain⟨_,_,hfree⟩:=ha;refine(I.hok b ob e).stay (λ c w' hc q=>(hs.2 c ?_).trans q) (λ _ q=>q) λ _ _ q=>q;rintro rfl
  rcases hc with rfl|hc
  ·rw[hfree] at e;cases e
  ·rw[hfree] at hc;cases hc
 rcases hx with hk|hk
 ·refine wpAny_storeName_local hk hn (λ h' hn' hs=>?_) hcls;obtain⟨oL,_,_,hoL,_⟩:=id hn;refine h _ ⟨I.ok,I.os,I.bare,⟨λ b o e n hb hx=>?_,λ b o e n hb hx=>?_,I.base.free,λ b o e hx=>?_,I.base.tups,I.base.frzs,I.base.tbls⟩,⟨_,hn',λ j y v' e1 e2 e3=>?_⟩,λ y c e=>?_,I.free,I.freeC,λ p hp=>?_,tracked ⟨oL,hoL,I.free⟩ hs,by simpa using I.len⟩ ⟨_,hs,.inl rfl⟩
  ·exact(hs.2 b (aJ (bZ (az e) I.ok.above))).trans (I.base.keep b o e n hb hx)
  ·obtain⟨sl,e1⟩:=I.base.slot b o e n hb hx;exact⟨sl,(hs.2 b (aJ (bZ (az e) I.ok.above))).trans e1⟩
  ·obtain⟨o',e1⟩:=I.base.there b o e hx;exact⟨o',(hs.2 b (aJ (bZ (az e) I.ok.above))).trans e1⟩
  ·by_cases hj:j=i
   ·subst hj;rw[hi] at e1;cases e1;rw[qt hiσ] at e2;cases e2;exact⟨u,r,.inl ⟨hk,BT⟩⟩
   ·rw[qu (bh hj)] at e2;obtain⟨u',r',q⟩:=hl j y v' e1 e2 e3;refine⟨u',r',?_⟩
    rcases q with ⟨k,e⟩|⟨k,c,e,z⟩
    ·refine .inl ⟨k,?_⟩;have:y≠x:=λ e=>hj (uK hN e1 (e ▸ hi));simp[this,e]
    ·exact .inr ⟨k,c,e,z.sameBut hs (cne y c e)⟩
  ·obtain⟨w',z⟩:=I.cell y c e;exact⟨w',z.sameBut hs (cne y c e)⟩
  ·obtain⟨e,n,ne,nf,d⟩:=I.pin p hp;exact⟨(hs.2 p.1 ne).trans e,n,ne,nf,d⟩
 ·have hfn:X.fn x=true:=by
   rcases hf with z|z
   ·exact z
   ·rw[z] at hk;cases hk
  obtain⟨c,hc⟩:=I.ok.has x (.inl hk);obtain⟨w',z⟩:=I.cell x c hc;refine wpAny_storeName_cell I.ok.kind hk hc z (λ h' hc' hs=>?_);obtain⟨oc,hoc,hocd⟩:=id z;refine h { s with heap:=h' } ⟨I.ok,I.os,I.bare,⟨λ b o e n hb hx=>?_,λ b o e n hb hx=>?_,I.base.free,λ b o e hx=>?_,I.base.tups,I.base.frzs,I.base.tbls⟩,⟨m,hn.sameBut hs (bh (cne x c hc)),λ j y v' e1 e2 e3=>?_⟩,λ y c' e=>?_,I.free,I.freeC,λ p hp=>?_,tracked ⟨oc,hoc,I.freeC x c hc⟩ hs,by simpa using I.len⟩ ⟨c,hs,.inr hc⟩
  ·exact(hs.2 b (aJ (bZ (az e) (I.ok.cab x c hfn hc)))).trans (I.base.keep b o e n hb hx)
  ·obtain⟨sl,e1⟩:=I.base.slot b o e n hb hx;exact⟨sl,(hs.2 b (aJ (bZ (az e) (I.ok.cab x c hfn hc)))).trans e1⟩
  ·obtain⟨o',e1⟩:=I.base.there b o e hx;exact⟨o',(hs.2 b (aJ (bZ (az e) (I.ok.cab x c hfn hc)))).trans e1⟩
  ·by_cases hj:j=i
   ·subst hj;rw[hi] at e1;cases e1;rw[qt hiσ] at e2;cases e2;exact⟨u,r,.inr ⟨.inl hk,c,hc,hc'⟩⟩
   ·rw[qu (bh hj)] at e2;obtain⟨u',r',q⟩:=hl j y v' e1 e2 e3;refine⟨u',r',?_⟩
    rcases q with q|⟨k,c',e,z'⟩
    ·exact .inl q
    ·refine .inr ⟨k,c',e,z'.sameBut hs ?_⟩;rintro rfl;exact hj (uK hN e1 (I.ok.inj _ _ _ e hc ▸ hi))
  ·by_cases hcc:c'=c
   ·subst hcc;exact⟨_,hc'⟩
   ·obtain⟨w2,z2⟩:=I.cell y c' e;exact⟨w2,z2.sameBut hs hcc⟩
  ·obtain⟨e,n,ne,nf,d⟩:=I.pin p hp;refine⟨(hs.2 p.1 ?_).trans e,n,ne,nf,d⟩;intro q;rw[q,hoc] at e;have q':oc=p.2:=cv e;exact d w' (by rw[<- q'];exact hocd)
theorem uL{i:Nat}{Q:Unit->Shared->Prop}(I:Inv X pins σ H s)(hN:X.N.Nodup)(hi:X.N[i]?=some x)(hx:Loc X.env.scope x)(r:RelV v u)
  (h:∀s',Inv X pins (σ.set i (some v)) H s'->Q () s') (hf:X.fn x=true\/X.env.scope.names.lookup x=some .local:=by first|exact .inl rfl|exact .inr rfl|assumption):wpAny M A (storeName X.env x u) Q E s :=
 qr I hN hi hx r (λ s' I' _=>h s' I') hf
theorem Inv.call'{s':Shared}(I:Inv X pins σ H s)(ho:s'.os=s.os)(u:Un (frs X.stack) ch H H' s.heap s'.heap)(hok:HOk X.prog X.w H' s'.heap)(hg:AllBare s'.gens)
  (hch:∀b∈ch,(b∈X.ex\/X.s₀.heap.objs.size<=b)/\b≠X.env.locals/\(∀x c,X.env.cells.lookup x=some c->c≠b)/\∀p∈X.pn++pins,p.1≠b):Inv X pins σ H' s':=by
 obtain⟨h',g',d',t',o'⟩:=s';have e:o'=s.os:=ho;subst e;exact I.call (g':=g') (t':=t') (d':=d') u hok hg hch
end
abbrev XK:=Value->OA->Hp->Prop
abbrev St:=List (Option V)
abbrev VK:=V->Hp->Prop
abbrev TE:=St->Hp->VK->Prop
abbrev TT:=St->Hp->(Bool->Hp->Prop)->Prop
abbrev TA:=St->Hp->(List V->Hp->Prop)->Prop
structure Ends where
 nx:St->Hp->Prop
 rt:VK
 bk:St->Hp->Prop:=λ _ _=>False
 ct:St->Hp->Prop:=λ _ _=>False
abbrev TS:=Ends->St->Hp->Prop
noncomputable def EP(X:Cx)(pins:LO)(σ:St)(Q:VK)(u:Value)(s':Shared):Prop:=∃v H',Inv X pins σ H' s'/\RelV v u/\Q v H'
noncomputable def TP(X:Cx)(pins:LO)(σ:St)(Q:Bool->Hp->Prop)(b:Bool)(s':Shared):Prop:=∃H',Inv X pins σ H' s'/\Q b H'
noncomputable def AP(X:Cx)(pins:LO)(σ:St)(Q:List V->Hp->Prop)(us:LV)(s':Shared):Prop:=∃vs H',Inv X pins σ H' s'/\Vals vs us/\Q vs H'
noncomputable def SP(X:Cx)(pins:LO)(D:Ends)(f:Flow)(s':Shared):Prop :=
 match f with
 |.next=>∃σ' H',Inv X pins σ' H' s'/\D.nx σ' H'
 |.brk=>∃σ' H',Inv X pins σ' H' s'/\D.bk σ' H'
 |.cont=>∃σ' H',Inv X pins σ' H' s'/\D.ct σ' H'
 |.ret u=>∃v σ' H',Inv X pins σ' H' s'/\RelV v u/\D.rt v H'
noncomputable def PE(X:Cx)(e:Expr)(t:TE):Prop :=
 ∀(pins:LO) (s:Shared) (σ:St) (H:Hp) (Q:VK),Inv X pins σ H s->t σ H Q->wpAny (model X.prog X.w) X.A (eval e X.env) (EP X pins σ Q) X.xe s
noncomputable def PT(X:Cx)(e:Expr)(t:TT):Prop :=
 ∀(pins:LO) (s:Shared) (σ:St) (H:Hp) (Q:Bool->Hp->Prop),Inv X pins σ H s->t σ H Q->wpAny (model X.prog X.w) X.A (isTrue e X.env (eval e X.env)) (TP X pins σ Q) X.xe s
noncomputable def PW(X:Cx)(e:Expr)(t:TT):Prop :=
 ∀(whole:Sem Value) (pins:LO) (s:Shared) (σ:St) (H:Hp) (Q:Bool->Hp->Prop),Inv X pins σ H s->t σ H Q->wpAny (model X.prog X.w) X.A (isTrue e X.env whole) (TP X pins σ Q) X.xe s
def PW.pt(h:PW X e t):PT X e t:=h _
noncomputable def PA(X:Cx)(es:List Expr)(t:TA):Prop :=
 ∀(pos:Pos) (pins:LO) (s:Shared) (σ:St) (H:Hp) (Q:List V->Hp->Prop),Inv X pins σ H s->t σ H Q->wpAny (model X.prog X.w) X.A (spliced (backTo pos (starEach es X.env))) (AP X pins σ Q) X.xe s
noncomputable def PS(X:Cx)(st:Stmt)(t:TS):Prop :=
 ∀(pins:LO) (s:Shared) (σ:St) (H:Hp) (D:Ends),Inv X pins σ H s->t D σ H->wpAny (model X.prog X.w) X.A (exec st X.env) (SP X pins D) X.xe s
noncomputable def PSs(X:Cx)(st:List Stmt)(t:TS):Prop :=
 ∀(pins:LO) (s:Shared) (σ:St) (H:Hp) (D:Ends),Inv X pins σ H s->t D σ H->wpAny (model X.prog X.w) X.A (execs st X.env) (SP X pins D) X.xe s
def thn{α:Type}{t:Sem α}{Q Q':α->Shared->Prop}(h:wpAny M A t Q E s)(hQ:∀a s,Q a s->Q' a s):wpAny M A t Q' E s:=bV h hQ λ _ _ x=>x
section
theorem bin(ha:PE X a ta)(hb:PE X b tb){R:V->V->Hp->Prop}(I:Inv X pins σ H s)(h:ta σ H λ x H1=>tb σ H1 λ y H2=>R x y H2)
  {α:Type}{Q:α->Shared->Prop}{f:Value->Value->Sem α}
  (hf:∀v u s2 x y H2,Inv X pins σ H2 s2->RelV x v->RelV y u->R x y H2->wpAny (model X.prog X.w) X.A (f v u) Q X.xe s2) :
  wpAny (model X.prog X.w) X.A (eval a X.env) (λ v s₁=>wpAny (model X.prog X.w) X.A (eval b X.env) (λ u s₂=>wpAny (model X.prog X.w) X.A (f v u) Q X.xe s₂) X.xe s₁) X.xe s:=by
 refine thn (ha pins s σ H _ I h) λ v s1 ⟨x,H1,I1,r1,q1⟩=>?_;refine thn (hb pins s1 σ H1 _ I1 q1) λ u s2 ⟨y,H2,I2,r2,q2⟩=>?_;exact hf v u s2 x y H2 I2 r1 r2 q2
noncomputable def isB(x:V)(P:Bool->Prop):Prop:=match x with|.bl k=>P k|_=>False
noncomputable def isI(x:V)(P:Int->Prop):Prop:=match x with|.int k=>P k|_=>False
noncomputable def qv(x y:V)(P:Int->Int->Prop):Prop:=match x,y with|.int i,.int j=>P i j|_,_=>False
def nD(h:isB x P):∃k,x=.bl k/\P k:=by cases x<;>first|exact⟨_,rfl,h⟩|exact h.elim
def BR(h:isI x P):∃k,x=.int k/\P k:=by cases x<;>first|exact⟨_,rfl,h⟩|exact h.elim
def qw(h:qv x y P):∃i j,x=.int i/\y=.int j/\P i j:=by cases x<;>cases y<;>first|exact⟨_,_,rfl,rfl,h⟩|exact h.elim
noncomputable def dC(i:Nat):TE:=λ σ H Q=>match σ[i]? with|some (some v)=>Q v H|_=>False
set_option tactic.hygienic true in
def BS(h:dC i σ H Q):∃v,σ[i]?=some (some v)/\Q v H:=by
 unfold dC at h;split at h
 ·rename_i v e;exact⟨v,e,h⟩
 ·exact h.elim
def tC(v:V):TE:=λ _ H Q=>Q v H
def kZ{i:Nat}(hN:X.N[i]?=some x)(hv:Vis X.env.scope x)(hd:(x == ("__debug__" : Str))=false:=by decide)(hcd:(x == ("__classdict__" : Str))=false:=by decide):PE X (.Name x pos) (dC i):=by
 intro pins s σ H Q I h;obtain⟨v,e,h⟩:=BS h;obtain⟨m,hn,hl⟩:=I.loc;obtain⟨u,r,l⟩:=hl i x v hN e hv;have fin:EP X pins σ Q u s:=⟨v,H,I,r,h⟩
 rcases l with ⟨hk,hm⟩|⟨hk,c,hc,hcell⟩
 ·exact wpAny_Name (wpAny_loadName_local I.ok.kind hk hn hm fin) hd
 ·rcases hk with hk|hk
  ·exact wpAny_Name (wpAny_loadName_cell I.ok.kind hk hc hcell fin) hd
  ·exact wpAny_Name (wpAny_loadName_free I.ok.kind hk hc hcell fin hcd) hd
def pe_int{i j pos}:PE X (.Constant (.int i) j pos) (tC (.int i)):=λ _ _ _ H _ I h=>wpAny_Constant_int ⟨.int i,H,I.tok _,⟨_,rfl⟩,h⟩
def pe_bl{b j pos}:PE X (.Constant (.bool b) j pos) (tC (.bl b)):=λ _ _ _ H _ I h=>Constant_bool ⟨.bl b,H,I,rfl,h⟩
def pe_non{j pos}:PE X (.Constant .none j pos) (tC .non):=λ _ _ _ H _ I h=>Constant_none ⟨.non,H,I,rfl,h⟩
def pe_str{x j pos}:PE X (.Constant (.str x) j pos) (tC (.str x)):=λ _ _ _ H _ I h=>s2y ⟨.str x,H,I.tok _,⟨_,rfl⟩,h⟩
noncomputable def Gl(X:Cx)(x:Str):Prop:=X.env.kindOf x=some .globalImplicit
theorem iS{Q:VS}(I:Inv X pins σ H s)(hg:Gl X x)(hm:X.mg x=some u)(h:Q u s)
  (hd:(x == ("__debug__" : Str))=false:=by decide):wpAny (model X.prog X.w) X.A (eval (.Name x pos) X.env) Q E s :=
 uM I.ok.kind hg (Calls.loadGlobal_global (by rw[I.ok.glob];exact I.mod.glob.keeps I.bk) hm h) hd
theorem dD{Q:VS}(I:Inv X pins σ H s)(hg:Gl X x)(hm:X.mg x=none)(hv:bootBuiltins x=some u)(h:Q u s)
  (hn:x ≠ "__name__" := by decide) (hd:(x == ("__debug__" : Str))=false:=by decide):wpAny (model X.prog X.w) X.A (eval (.Name x pos) X.env) Q E s:=by
 obtain⟨mb,h1,h2⟩:=I.mod.blt;exact uM I.ok.kind hg (Calls.loadGlobal_builtin (by rw[I.ok.glob];exact I.mod.glob.keeps I.bk) hm (by rw[I.ok.blt];exact h1.keeps I.bk) ((h2 x hn).trans hv) h) hd
def BU(hg:Gl X x)(hm:X.mg x=some u)(r:RelV v u)(hd:(x == ("__debug__" : Str))=false:=by decide):PE X (.Name x pos) (tC v) :=
 λ _ _ _ H _ I h=>iS I hg hm ⟨v,H,I,r,h⟩ hd
def BV(hg:Gl X x)(hm:X.mg x=none)(hv:bootBuiltins x=some u)(r:RelV v u)(hn:x ≠ "__name__" := by decide)(hd:(x == ("__debug__" : Str))=false:=by decide):PE X (.Name x pos) (tC v) :=
 λ _ _ _ H _ I h=>dD I hg hm hv ⟨v,H,I,r,h⟩ hn hd
variable {a b:Expr}{ta tb:TE}{pos:Pos}
def tB(t:TE):TT:=λ σ H Q=>t σ H λ x H1=>isB x λ c=>Q c H1
def BW(h:PE X e t)(he:∀whole,isTrue e X.env whole=(do let v <- whole;standAt e.pos;holding [v] (truthy v)):=by intro _;rfl):PT X e (tB t):=by
 intro pins s σ H Q I hw;refine isTrue_plain (thn (h pins s σ H _ I hw) λ v s1 ⟨x,H1,I1,r1,q1⟩=>?_) (he _);obtain⟨d,rfl,q⟩:=nD q1;cases r1;exact iT ⟨H1,I1,q⟩
variable {tA tB':TT}{rest:List Expr}
noncomputable def BX(t u:TT):TT:=λ σ H Q=>t σ H λ c H1=>if c=true then u σ H1 Q else Q false H1
noncomputable def tOr(t u:TT):TT:=λ σ H Q=>t σ H λ c H1=>if c=true then Q true H1 else u σ H1 Q
def BY(t:TT):TT:=λ σ H Q=>t σ H λ c H1=>Q (!c) H1
def BZ(ha:PT X a tA):PW X (.BoolOp .And [a] pos) tA:=by
 intro wh pins s σ H Q I h;refine isTrue_and (thn (ha pins s σ H Q I h) λ c s1 e=>?_)
 cases c with
 |true=>exact isTrue_and_nil e
 |false=>exact e
def Ca(ha:PT X a tA):PW X (.BoolOp .Or [a] pos) tA:=by
 intro wh pins s σ H Q I h;refine isTrue_or (thn (ha pins s σ H Q I h) λ c s1 e=>?_)
 cases c with
 |false=>exact isTrue_or_nil e
 |true=>exact e
def Cb(ha:PT X a tA)(hb:PW X (.BoolOp .And (b::rest) pos) tB'):PW X (.BoolOp .And (a::b::rest) pos) (BX tA tB'):=by
 intro wh pins s σ H Q I h;refine isTrue_and (thn (ha pins s σ H _ I h) λ c s1 ⟨H1,I1,q1⟩=>?_)
 cases c with
 |true=>exact hb wh pins s1 σ H1 Q I1 q1
 |false=>exact⟨H1,I1,q1⟩
def Cc(ha:PT X a tA)(hb:PW X (.BoolOp .Or (b::rest) pos) tB'):PW X (.BoolOp .Or (a::b::rest) pos) (tOr tA tB'):=by
 intro wh pins s σ H Q I h;refine isTrue_or (thn (ha pins s σ H _ I h) λ c s1 ⟨H1,I1,q1⟩=>?_)
 cases c with
 |true=>exact⟨H1,I1,q1⟩
 |false=>exact hb wh pins s1 σ H1 Q I1 q1
def Ce(ha:PT X a tA):PT X (.UnaryOp .Not a pos) (BY tA):=by
 intro pins s σ H Q I h;exact isTrue_not (ha pins s σ H (λ c H1=>Q (!c) H1) I h)
noncomputable def Cf(ta tb:TE):TE:=λ σ H Q=>ta σ H λ x H1=>isB x λ c=>if c=true then tb σ H1 Q else Q (.bl false) H1
noncomputable def Cg(ta tb:TE):TE:=λ σ H Q=>ta σ H λ x H1=>isB x λ c=>if c=true then Q (.bl true) H1 else tb σ H1 Q
noncomputable def Ch(ta:TE):TE:=λ σ H Q=>ta σ H λ x H1=>∃c,x=.bl c/\Q (.bl (!c)) H1
def uN{op}(h:PE X a t):PE X (.BoolOp op [a] pos) t:=λ pins s σ H Q I hw=>BoolOp_one (h pins s σ H Q I hw)
def Ci(ha:PE X a ta)(hb:PE X (.BoolOp .And (b::rest) pos) tb):PE X (.BoolOp .And (a::b::rest) pos) (Cf ta tb):=by
 intro pins s σ H Q I h;refine BoolOp_and (thn (ha pins s σ H _ I h) λ v s1 ⟨x,H1,I1,r1,q1⟩=>?_);obtain⟨c,rfl,q1⟩:=nD q1;cases r1;refine iT ?_
 cases c with
 |true=>exact hb pins s1 σ H1 Q I1 q1
 |false=>exact⟨.bl false,H1,I1,rfl,q1⟩
def Cj(ha:PE X a ta)(hb:PE X (.BoolOp .Or (b::rest) pos) tb):PE X (.BoolOp .Or (a::b::rest) pos) (Cg ta tb):=by
 intro pins s σ H Q I h;refine BoolOp_or (thn (ha pins s σ H _ I h) λ v s1 ⟨x,H1,I1,r1,q1⟩=>?_);obtain⟨c,rfl,q1⟩:=nD q1;cases r1;refine iT ?_
 cases c with
 |false=>exact hb pins s1 σ H1 Q I1 q1
 |true=>exact⟨.bl true,H1,I1,rfl,q1⟩
def Ck(ha:PE X a ta):PE X (.UnaryOp .Not a pos) (Ch ta):=by
 intro pins s σ H Q I h;refine UnaryOp_ (thn (ha pins s σ H _ I h) λ v s1 ⟨x,H1,I1,r1,q1⟩=>?_);obtain⟨c,rfl,q1⟩:=q1;cases r1;exact not_of (iT ⟨.bl (!c),H1,I1,fu,q1⟩)
noncomputable def tIf(t:TT)(ta tb:TE):TE:=λ σ H Q=>t σ H λ c H1=>if c=true then ta σ H1 Q else tb σ H1 Q
def Cm(hc:PT X c tA)(ha:PE X a ta)(hb:PE X b tb):PE X (.IfExp c a b pos) (tIf tA ta tb):=by
 intro pins s σ H Q I h;refine wpAny_IfExp (thn (hc pins s σ H _ I h) λ d s1 ⟨H1,I1,q1⟩=>?_)
 cases d with
 |true=>exact ha pins s1 σ H1 Q I1 q1
 |false=>exact hb pins s1 σ H1 Q I1 q1
end
noncomputable def SqL(K:FG)(H:Hp)(a:Addr)(xs:List V):Prop :=
 Rd H a (.lst xs) \/
  ∃(o:Obj) (its:Array Value) (n:Nat),K.lookup a=some o/\o.cls=.type "list" /\ o.dict=none/\o.data=.seq its n/\its.size<=sizeLine/\Vals xs its.toList
noncomputable def SqT(K:FG)(H:Hp)(a:Addr)(xs:List V):Prop :=
 Rd H a (.tup xs) \/
  ∃(o:Obj) (its:Array Value) (n:Nat),K.lookup a=some o/\o.cls=.type "tuple" /\ o.dict=none/\o.data=.seq its n/\its.size<=sizeLine/\Vals xs its.toList
noncomputable def Cn:Value->Option V
 |.none=>some .non
 |.bool b=>some (.bl b)
 |.int i _=>some (.int i)
 |.str x _=>some (.str x)
 |.bytes b _=>some (.byt b)
 |.float b _=>some (.flt b)
 |.ref a=>some (.ref a)
 |.type n=>some (.ty n)
 |_=>none
def RelV.abs(r:RelV x u):Cn u=some x:=by
 cases x with
 |non=>cases r;rfl
 |bl _=>cases r;rfl
 |int _=>obtain⟨t,rfl⟩:=r;rfl
 |str _=>obtain⟨t,rfl⟩:=r;rfl
 |byt _=>obtain⟨t,rfl⟩:=r;rfl
 |flt _=>obtain⟨t,rfl⟩:=r;rfl
 |ref _=>cases r;rfl
 |ty _=>cases r;rfl
def RelV.inj(r:RelV x u)(q:RelV y u):x=y:=cv (r.abs.symm.trans q.abs)
theorem Vals.inj:∀ {xs ys:List V}{us:LV},Vals xs us->Vals ys us->xs=ys
 |_,_,_,.nil,.nil=>rfl
 |_,_,_,.cons r t,.cons r' t'=>by rw[r.inj r',Vals.inj t t']
section
variable {pins:LO}{σ:St}{H:Hp}{s:Shared}{a:Addr}{xs ys:List V}
def SqL.of{K:FG}(h:H a=some (.lst xs)):SqL K H a xs:=.inl (.inl h)
def SqT.of{K:FG}(h:H a=some (.tup xs)):SqT K H a xs:=.inl (.inl h)
def Inv.list(I:Inv X pins σ H s)(h:SqL X.K H a xs):∃its:LV,Vals xs its/\PlainL s.heap a its.toArray/\xs.length<=sizeLine:=by
 rcases h with h|⟨o,its,n,hk,hc,hd,hs,hz,r⟩
 ·obtain⟨z,its,n,r,e⟩:=h.ok I.hok;exact⟨its,r,⟨_,n,e,fu,fu,fu⟩,z⟩
 ·refine⟨its.toList,r,⟨o,n,I.kIn a o hk,hc,hd,by simpa using hs⟩,?_⟩;have e:=r.length;simp only[Array.length_toList] at e;lia
def Inv.tuple(I:Inv X pins σ H s)(h:SqT X.K H a xs):∃its:LV,Vals xs its/\IsTup s.heap a its.toArray/\xs.length<=sizeLine:=by
 rcases h with h|⟨o,its,n,hk,hc,_,hs,hz,r⟩
 ·obtain⟨z,its,r,p⟩:=h.ok I.hok;exact⟨its,r,p.tup,z⟩
 ·refine⟨its.toList,r,⟨o,I.kIn a o hk,hc,n,by simpa using hs⟩,?_⟩;have e:=r.length;simp only[Array.length_toList] at e;lia
def Inv.list_inj(I:Inv X pins σ H s)(h:SqL X.K H a xs)(h':SqL X.K H a ys):xs=ys:=by
 obtain⟨its,r,⟨o,n,e,_,_,d⟩,_⟩:=I.list h;obtain⟨its',r',⟨o',n',e',_,_,d'⟩,_⟩:=I.list h';rw[e] at e';cases e';rw[d] at d'
 injection d' with d1 _
 have:its=its':=by simpa using bu Array.toList d1
 subst this;exact r.inj r'
def Inv.tuple_inj(I:Inv X pins σ H s)(h:SqT X.K H a xs)(h':SqT X.K H a ys):xs=ys:=by
 obtain⟨its,r,⟨o,e,_,n,d⟩,_⟩:=I.tuple h;obtain⟨its',r',⟨o',e',_,n',d'⟩,_⟩:=I.tuple h';rw[e] at e';cases e';rw[d] at d'
 injection d' with d1 _
 have:its=its':=by simpa using bu Array.toList d1
 subst this;exact r.inj r'
end
abbrev Cx.wish(X:Cx)(E:VS):Cx:={ X with xe:=E }
abbrev Cx.nox(X:Cx):Cx:=X.wish λ _ _=>False
def Cx.Ok.wish{X:Cx}(ok:X.Ok)(E:VS):(X.wish E).Ok :=
 ⟨ok.mod,ok.kind,ok.glob,ok.blt,ok.above,ok.inj,ok.has,ok.cab,ok.hd,ok.frames,ok.stk,ok.exf,ok.bs,ok.bsz,ok.noex,ok.exfs,ok.funs,ok.frf⟩
def Cx.Ok.unwish{X:Cx}(ok:(X.wish E).Ok):X.Ok :=
 ⟨ok.mod,ok.kind,ok.glob,ok.blt,ok.above,ok.inj,ok.has,ok.cab,ok.hd,ok.frames,ok.stk,ok.exf,ok.bs,ok.bsz,ok.noex,ok.exfs,ok.funs,ok.frf⟩
section
variable {pins:LO}{σ:St}{H:Hp}{s:Shared}{E:VS}
def Inv.wish(I:Inv X pins σ H s)(E:VS):Inv (X.wish E) pins σ H s:=⟨I.ok.wish E,I.os,I.bare,I.base,I.loc,I.cell,I.free,I.freeC,I.pin,I.hok,I.len⟩
def Inv.unwish(I:Inv (X.wish E) pins σ H s):Inv X pins σ H s:=⟨I.ok.unwish,I.os,I.bare,I.base,I.loc,I.cell,I.free,I.freeC,I.pin,I.hok,I.len⟩
def SP.unwish(h:SP (X.wish E) pins D f s'):SP X pins D f s':=by
 cases f with
 |next=>obtain⟨σ',H',I,q⟩:=h;exact⟨σ',H',I.unwish,q⟩
 |brk=>obtain⟨σ',H',I,q⟩:=h;exact⟨σ',H',I.unwish,q⟩
 |cont=>obtain⟨σ',H',I,q⟩:=h;exact⟨σ',H',I.unwish,q⟩
 |ret u=>obtain⟨v,σ',H',I,r,q⟩:=h;exact⟨v,σ',H',I.unwish,r,q⟩
def PSs.nox{st:List Stmt}(h:PSs X.nox st t):PSs X st t:=λ pins s σ H D I hw=>
 bV (h pins s σ H D (I.wish _) hw) (λ _ _ q=>q.unwish) λ _ _ z=>False.elim z
end
section
variable {st:Stmt}{rest:List Stmt}{t u:TS}{e:Expr}{te:TE}{pos:Pos}
def uO:TS:=λ D σ H=>D.nx σ H
def uP(t u:TS):TS:=λ D σ H=>t { D with nx:=u D } σ H
def pss_nil:PSs X [] uO:=λ _ _ σ H _ I h=>nE ⟨σ,H,I,h⟩
def cg(h1:PS X st t)(h2:PSs X rest u):PSs X (st::rest) (uP t u):=by
 intro pins s σ H D I h;refine wpAny_execs_cons (thn (h1 pins s σ H { D with nx:=u D } I h) λ f s1 q=>?_)
 cases f with
 |next=>
  obtain⟨σ',H',I',q⟩:=q;exact h2 pins s1 σ' H' D I' q
 |ret v=>exact q
 |brk=>exact q
 |cont=>exact q
def uQ(h1:PS X st t):PSs X [st] t:=by
 intro pins s σ H D I h;refine wpAny_execs_cons (thn (h1 pins s σ H D I h) λ f s1 q=>?_)
 cases f with
 |next=>exact nE q
 |ret v=>exact q
 |brk=>exact q
 |cont=>exact q
def Inv.quiet(I:Inv X pins σ H s):interactive X.env=false:=by simp[interactive,I.ok.kind]
def uR{x j pos pos'}:PS X (.Expr (.Constant (.str x) j pos) pos') uO:=λ _ s σ H _ I h=>wpAny_Expr (s2y (show SP X _ _ .next { s with toks:=s.toks+1 } from ⟨σ,H,I.tok _,h⟩)) I.quiet
def Co(te:TE):TS:=λ D σ H=>te σ H λ _ H1=>D.nx σ H1
def nF(he:PE X e te)(hs:swapsWith e none pos.line X.env=pure false:=by rfl):PS X (.Expr e pos) (Co te):=by
 intro pins s σ H D I h;exact wpAny_Expr_any (thn (he pins s σ H _ I h) λ v s1 ⟨x,H1,I1,r1,q1⟩=>⟨σ,H1,I1,q1⟩) I.quiet hs
def Cp(te:TE):TS:=λ D σ H=>te σ H D.rt
def qx(he:PE X e te):PS X (.Return (some e) pos) (Cp te):=by
 intro pins s σ H D I h;exact wpAny_Return_some (thn (he pins s σ H _ I h) λ v s1 ⟨x,H1,I1,r1,q1⟩=>⟨x,σ,H1,I1,r1,q1⟩)
noncomputable def Cu(c:TT)(t u:TS):TS:=λ D σ H=>c σ H λ b H1=>if b=true then t D σ H1 else u D σ H1
def uS(hc:PT X c tc)(ha:PSs X a t)(hb:PSs X b u):PS X (.If c a b pos) (Cu tc t u):=by
 intro pins s σ H D I h;refine wpAny_If (thn (hc pins s σ H _ I h) λ d s1 ⟨H1,I1,q1⟩=>?_)
 cases d with
 |true=>exact ha pins s1 σ H1 D I1 q1
 |false=>exact hb pins s1 σ H1 D I1 q1
def Cv:TS:=λ _ _ _=>False
def pss_never:PSs X sts Cv:=λ _ _ _ _ _ _ h=>h.elim
end
abbrev TG:=V->St->Hp->(St->Hp->Prop)->Prop
abbrev TGs:=List V->St->Hp->(St->Hp->Prop)->Prop
noncomputable def PG(X:Cx)(target:Expr)(t:TG):Prop :=
 ∀(pins:LO) (s:Shared) (σ:St) (H:Hp) (v:V) (u:Value) (Q:St->Hp->Prop),Inv X pins σ H s->RelV v u->t v σ H Q ->
  wpAny (model X.prog X.w) X.A (assign target X.env u) (λ _ s'=>∃σ' H',Inv X pins σ' H' s'/\Q σ' H') X.xe s
noncomputable def PGs(X:Cx)(ts:List Expr)(t:TGs):Prop :=
 ∀(pins:LO) (s:Shared) (σ:St) (H:Hp) (vs:List V) (us:LV) (Q:St->Hp->Prop),Inv X pins σ H s->Vals vs us->t vs σ H Q ->
  wpAny (model X.prog X.w) X.A (assignInOrder ((assignEach ts X.env).map (·.2)) us) (λ _ s'=>∃σ' H',Inv X pins σ' H' s'/\Q σ' H') X.xe s
abbrev uT:=V->V->V->Hp->(Hp->Prop)->Prop
noncomputable def uU(X:Cx)(t:uT):Prop :=
 ∀(pins:LO) (s:Shared) (σ:St) (H:Hp) (o i v:V) (ov iv u:Value) (Q:Hp->Prop),Inv X pins σ H s->RelV o ov->RelV i iv->RelV v u->t o i v H Q ->
  wpAny (model X.prog X.w) X.A (setItem ov iv u) (λ _ s'=>∃H',Inv X pins σ H' s'/\Q H') X.xe s
section
variable {pos:Pos}
def dE(i:Nat):TG:=λ v σ H Q=>Q (σ.set i (some v)) H
def uV{i:Nat}(hN:X.N.Nodup)(hi:X.N[i]?=some x)(hx:Loc X.env.scope x)(hf:X.fn x=true\/X.env.scope.names.lookup x=some .local:=by first|exact .inl rfl|exact .inr rfl|assumption):PG X (.Name x pos) (dE i):=by
 intro pins s σ H v u Q I r h;exact wpAny_assign_Name (uL I hN hi hx r (λ s' I'=>⟨_,H,I',h⟩) hf)
def qy:TGs:=λ vs σ H Q=>vs=[]/\Q σ H
noncomputable def jG(t:TG)(u:TGs):TGs:=λ vs σ H Q=>∃v r,vs=v::r/\t v σ H λ σ' H'=>u r σ' H' Q
def uW:PGs X [] qy:=by
 intro pins s σ H vs us Q I r h;obtain⟨e,h⟩:=h;subst e;cases r;exact assignInOrder_nil ⟨σ,H,I,h⟩
theorem lg(h1:PG X e t)(h2:PGs X es u)
  (hs:(assignEach (e::es) X.env).map (·.2)=assign e X.env::(assignEach es X.env).map (·.2):=by rfl):PGs X (e::es) (jG t u):=by
 intro pins s σ H vs us Q I r h;obtain⟨v,vr,e1,h⟩:=h;subst e1
 cases r with
 |cons r rr=>
  rw[hs];refine assignInOrder_cons (thn (h1 pins s σ H _ _ _ I r h) λ _ s1 ⟨σ1,H1,I1,q1⟩=>?_);exact h2 pins s1 σ1 H1 _ _ Q I1 rr q1
noncomputable def qz(K:FG)(n:Nat)(t:TGs):TG:=λ v σ H Q=>∃a xs,v=.ref a/\SqT K H a xs/\xs.length=n/\t xs σ H Q
theorem uX{n:Nat}(hc:X.calm=true)(h:PGs X es t)
  (hn:(assignEach es X.env).length=n:=by rfl) (hst:(assignEach es X.env).findIdx? (·.1)=none:=by rfl):PG X (.Tuple es k pos) (qz X.K n t):=by
 intro pins s σ H v u Q I r hw;obtain⟨a,xs,e1,hq,hl,hw⟩:=hw;subst e1;cases r;obtain⟨its,rv,ht,hz⟩:=I.tuple hq;refine assign_Tuple_tuple (I.ok.hd hc) ht (by simp[hn,<- hl,rv.length]) hst λ h' hx=>?_;have I1:Inv X pins σ H { s with heap:=h' }:=I.kept (t':=s.toks) λ b o e=>hx b o (aJ (az e)) e;exact h pins _ σ H xs _ Q I1 (by simpa using rv) hw
noncomputable def Cy(to ti:TE)(t:uT):TG:=λ v σ H Q=>to σ H λ o H1=>ti σ H1 λ i H2=>t o i v H2 λ H3=>Q σ H3
theorem Cz(ho:PE X o to)(hi:PE X i ti)(hs:uU X t)
  (ha:∀v,assign (.Subscript o i pos) X.env v=(do
   let ov <- holding [v] (eval o X.env)
   let iv <- holding [v,ov] (eval i X.env)
   standAt pos
   holding [v,ov,iv] (setItem ov iv v)
   release [v,ov,iv] []):=by intro _;rfl):PG X (.Subscript o i pos) (Cy to ti t):=by
 intro pins s σ H v u Q I r h;rw[ha];refine ae (bv (thn (ho pins s σ H _ I h) λ ov s1 ⟨x,H1,I1,r1,q1⟩=>?_));refine ae (bv (thn (hi pins s1 σ H1 _ I1 q1) λ iv s2 ⟨y,H2,I2,r2,q2⟩=>?_));refine ae (gA (ae (bv (thn (hs pins s2 σ H2 x y v ov iv u _ I2 r1 r2 r q2) λ _ s3 ⟨H3,I3,q3⟩=>?_))));exact wpAny_release ⟨σ,H3,I3,q3⟩
noncomputable def jH(te:TE)(g:TG):TS:=λ D σ H=>te σ H λ x H1=>g x σ H1 D.nx
theorem uY(he:PE X e te)(hg:PG X tg g)(hs:swapsWithSole [tg] e pos.line X.env=pure false:=by rfl)(hw:swappedStores [tg] e X.env=pure none:=by rfl)
  (h1:(assignEach [tg] X.env).map (·.2)=[assign tg X.env]:=by rfl):PS X (.Assign [tg] e pos) (jH te g):=by
 intro pins s σ H D I h;refine wpAny_Assign_stores (thn (he pins s σ H _ I h) λ v s1 ⟨x,H1,I1,r1,q1⟩=>?_) hs hw;rw[h1];exact thn (hg pins s1 σ H1 x v _ I1 r1 q1) λ _ s2 q=>q
theorem nG{i:Nat}(hN:X.N.Nodup)(hi:X.N[i]?=some x)(hx:Loc X.env.scope x)(he:PE X e te)(hs:swapsWith e (some (.Name x pos')) pos.line X.env=pure false:=by rfl)(hf:X.fn x=true\/X.env.scope.names.lookup x=some .local:=by first|exact .inl rfl|exact .inr rfl|assumption) :
  PS X (.Assign [.Name x pos'] e pos) (jH te (dE i)):=by
 intro pins s σ H D I h;refine wpAny_Assign_Name (thn (he pins s σ H _ I h) λ v s1 ⟨y,H1,I1,r1,q1⟩=>?_) hs;exact uL I1 hN hi hx r1 (λ s2 I2=>⟨_,H1,I2,q1⟩) hf
end
section
variable {pos:Pos}
end
structure It where
 go:Nat->Hp->Prop
 yld:Nat->Hp->V->Hp->Prop
 stop:Nat->Hp->Prop
noncomputable def ig(X:Cx)(pins:LO)(H:Hp)(b:Addr):Prop :=
 H b=none/\b≠X.env.locals/\b ∉ X.fs/\(b∈X.ex\/X.s₀.heap.objs.size<=b)/\(∀x c,X.env.cells.lookup x=some c->c≠b)/\∀p∈X.pn++pins,p.1≠b
def Inv.fpOk{H H':Hp}{b:Addr}(I:Inv X pins σ H s)(hb:s.heap.objs.size<=b)(hn:H' b=none):ig X pins H' b:=by
 refine⟨hn,fF (bZ I.lt hb),I.nofs hb,.inr (bH I.sz hb),λ x c e z=>?_,λ p hp z=>?_⟩
 ·obtain⟨v,q⟩:=I.cell x c e;exact absurd (bZ q.lt (by rw[z];exact hb)) (cG _)
 ·exact absurd (bZ (az (I.pin p hp).1) (by rw[z];exact hb)) (cG _)
structure Turn (P:Program)(w:World)(K:FG)(tg:Expr)(J:It)(fp:List Addr)(it:Addr)(tn:Nat->Heap->Prop):Prop where
 mem:it∈fp
 obj:∀i h,tn i h->∀b∈fp,∃o,h.get? b=some o/\∀v,o.data≠.cell v
 keep:∀i h h',tn i h->(∀b∈fp,∀o,h.get? b=some o->h'.get? b=some o)->tn i h'
 item:∀(X:Cx),X.prog=P->X.w=w->X.K=K->X.calm=true->∀(i:Nat) (pins:LO) (s:Shared) (σ:St) (H:Hp) (E:VS),Inv X pins σ H s->(∀b∈fp,ig X pins H b)->tn i s.heap->J.go i H ->
  wpAny (model P w) X.A (pyNext (.ref it)) (λ r s1=>∃u,r=some u /\
   wpAny (model P w) X.A (letOwnedTupleGo tg (.ref it) u) (λ _ s2=>∃x H',Inv X pins σ H' s2/\RelV x u/\J.yld i H x H'/\tn (i+1) s2.heap/\∀b∈fp,H' b=none) E s1) E s
 done:∀(X:Cx),X.prog=P->X.w=w->X.K=K->X.calm=true->∀(i:Nat) (pins:LO) (s:Shared) (σ:St) (H:Hp) (E:VS),Inv X pins σ H s->(∀b∈fp,ig X pins H b)->tn i s.heap->J.stop i H ->
  wpAny (model P w) X.A (pyNext (.ref it)) (λ r s1=>r=none/\Inv X pins σ H s1) E s
 self:∀(A:Around) (i:Nat) (s:Shared) (Q:VS) (E:VS),tn i s.heap->Q (.ref it) s->wpAny (model P w) A (pyIter (.ref it)) Q E s
abbrev TI:=St->Hp->(It->Hp->Prop)->Prop
noncomputable def PIE(X:Cx)(pins:LO)(σ:St)(tg:Expr)(R:It->Hp->Prop)(itv:Value)(s2:Shared):Prop :=
 ∃(it:Addr) (fp:List Addr) (tn:Nat->Heap->Prop) (J:It) (H':Hp),itv=.ref it/\Inv X pins σ H' s2/\Turn X.prog X.w X.K tg J fp it tn/\tn 0 s2.heap/\(∀b∈fp,ig X pins H' b)/\R J H'
noncomputable def PI(X:Cx)(tg iter:Expr)(wi:TI):Prop :=
 ∀(pins:LO) (s:Shared) (σ:St) (H:Hp) (R:It->Hp->Prop),Inv X pins σ H s->wi σ H R ->
  wpAny (model X.prog X.w) X.A (eval iter X.env) (λ v s1=>wpAny (model X.prog X.w) X.A (pyIter v) (PIE X pins σ tg R) X.xe s1) X.xe s
theorem lh{s:Shared}{it:Addr}{vs:Array Value}{Q:Unit->Shared->Prop}(ho:s.heap.get? it=some o)(hc:o.cls=.type n)(hd:o.data=.fields vs)
    (hn:["enumerate","zip","dict_itemiterator","dict_reverseitemiterator","odict_iterator","itertools.zip_longest","itertools.pairwise"].contains n=false) (hQ:Q () s):wpAny M A (letOwnedTupleGo tg (.ref it) u) Q E s:=by
  unfold letOwnedTupleGo
  cases tg<;>first
    |exact ah hQ
    | (cases u<;>first
        |exact ah hQ
        | (refine ae (s1v ho ?_)
           rw[hc,hd];show wpAny M A (if (["enumerate","zip","dict_itemiterator","dict_reverseitemiterator","odict_iterator","itertools.zip_longest","itertools.pairwise"].contains n&&vs[0]? == some (rawInt _))=true then _ else _) Q E s;rw[if_neg (by intro h;rw[hn,s2e] at h;cases h)]
           exact ah hQ))
noncomputable def Itl(K:FG)(a:Addr):It :=
 ⟨λ i H=>∃xs x,SqL K H a xs/\xs[i]?=some x,λ i H x H'=>H'=H/\∀xs,SqL K H a xs->xs[i]?=some x,λ i H=>∃xs,SqL K H a xs/\xs.length<=i⟩
noncomputable def Itt(K:FG)(a:Addr):It :=
 ⟨λ i H=>∃xs x,SqT K H a xs/\xs[i]?=some x,λ i H x H'=>H'=H/\∀xs,SqT K H a xs->xs[i]?=some x,λ i H=>∃xs,SqT K H a xs/\xs.length<=i⟩
noncomputable def Itr(lo:Int)(n:Nat):It:=⟨λ i _=>i<n,λ i H x H'=>H'=H/\x=.int (lo+i),λ i _=>n<=i⟩
theorem CC{K:FG}(a it:Addr):Turn P w K tg (Itl K a) [it] it (λ i h=>h.IsListIter it a i) where
 mem:=BT
 obj:=λ i h st b hb=>by
  have e:b=it:=by simpa using hb
  subst e;obtain⟨o,e,c,d⟩:=st;exact⟨o,e,λ v z=>by rw[d] at z;cases z⟩
 keep:=λ i h h' st k=>st.at λ o e=>k it BT o e
 item:=by
  intro X hP hw hK hc i pins s σ H E I hf st hg;subst hP hw hK;obtain⟨xs,x,hq,hx⟩:=hg;obtain⟨its,rv,p,hz⟩:=I.list hq;obtain⟨u,hu,ru⟩:=rv.get hx;obtain⟨f0,f1,f2,f3,f4,f5⟩:=hf it BT;refine wpAny_pyNext_list_item st p.isList (x:=u) (by simpa using hu) λ h' st' sb=>?_;have I1:Inv X pins σ H { s with heap:=h' }:=I.turned (t':=s.toks) (λ b o hb e=>(sb.2 b hb).trans e) f0 f1 f3 f4 f5;obtain⟨o,e,c,d⟩:=id st';exact⟨u,fu,lh (s:={ s with heap:=h' }) e c d pv ⟨x,H,I1,ru,⟨fu,λ ys hy=>by rw[I.list_inj hy hq];exact hx⟩,st',λ b hb=>(hf b hb).1⟩⟩
 done:=by
  intro X hP hw hK hc i pins s σ H E I hf st hg;subst hP hw hK;obtain⟨xs,hq,hx⟩:=hg;obtain⟨its,rv,p,hz⟩:=I.list hq;obtain⟨f0,f1,f2,f3,f4,f5⟩:=hf it BT;have hl:=rv.length;exact wpAny_pyNext_list_end (I.ok.hd hc) st p.isList (by simp;lia) λ h' eb=>⟨fu,I.turned (t':=s.toks) (λ b o hb e=>eb b o hb e) f0 f1 f3 f4 f5⟩
 self:=λ _ _ _ _ _ st h=>wpAny_pyIter_listiter st h
theorem CD{K:FG}(a it:Addr):Turn P w K tg (Itt K a) [it] it (λ i h=>h.IsTupleIter it a i) where
 mem:=BT
 obj:=λ i h st b hb=>by
  have e:b=it:=by simpa using hb
  subst e;obtain⟨o,e,c,d⟩:=st;exact⟨o,e,λ v z=>by rw[d] at z;cases z⟩
 keep:=λ i h h' st k=>st.at λ o e=>k it BT o e
 item:=by
  intro X hP hw hK hc i pins s σ H E I hf st hg;subst hP hw hK;obtain⟨xs,x,hq,hx⟩:=hg;obtain⟨its,rv,p,hz⟩:=I.tuple hq;obtain⟨u,hu,ru⟩:=rv.get hx;obtain⟨f0,f1,f2,f3,f4,f5⟩:=hf it BT;refine wpAny_pyNext_tuple_item st (show s.heap.IsTuple a its.toArray from p) (x:=u) (by simpa using hu) λ h' st' sb=>?_;have I1:Inv X pins σ H { s with heap:=h' }:=I.turned (t':=s.toks) (λ b o hb e=>(sb.2 b hb).trans e) f0 f1 f3 f4 f5;obtain⟨o,e,c,d⟩:=id st';exact⟨u,fu,lh (s:={ s with heap:=h' }) e c d pv ⟨x,H,I1,ru,⟨fu,λ ys hy=>by rw[I.tuple_inj hy hq];exact hx⟩,st',λ b hb=>(hf b hb).1⟩⟩
 done:=by
  intro X hP hw hK hc i pins s σ H E I hf st hg;subst hP hw hK;obtain⟨xs,hq,hx⟩:=hg;obtain⟨its,rv,p,hz⟩:=I.tuple hq;obtain⟨f0,f1,f2,f3,f4,f5⟩:=hf it BT;have hl:=rv.length;exact wpAny_pyNext_tuple_end (I.ok.hd hc) st (show s.heap.IsTuple a its.toArray from p) (by simp;lia) λ h' eb=>⟨fu,I.turned (t':=s.toks) (λ b o hb e=>eb b o hb e) f0 f1 f3 f4 f5⟩
 self:=λ _ _ _ _ _ st h=>wpAny_pyIter_tupleiter st h
theorem CF{K:PySem.W.Frag}(it:Addr)(lo:Int)(n:Nat):Turn P w K tg (Itr lo n) [it] it (λ i h=>IsRangeIter h it (lo+(i:Nat)*1) ((n:Int)-(i:Nat)) 1) where
 mem:=BT
 obj:=λ i h st b hb=>by
  have e:b=it:=by simpa using hb
  subst e
  exact⟨_,st,λ v z=>by
   have z':Data.fields _=Data.cell v:=z
   cases z'⟩
 keep:=λ i h h' st k=>k it BT _ st
 item:=by
  intro X hP hw hK hc i pins s σ H E I hf st hg;subst hP hw hK;obtain⟨f0,f1,f2,f3,f4,f5⟩:=hf it BT;have W:=Walks.range (prog:=X.prog) (w:=X.w) (I.ok.hd hc) it lo 1 n;refine W.item i s _ _ hg st λ v h' tk hv st' kk=>?_;obtain⟨t,rfl⟩:=hv;have I1:Inv X pins σ H { s with heap:=h',toks:=tk }:=I.turned (λ b o hb e=>kk b o (by simpa using hb) e) f0 f1 f3 f4 f5;refine⟨_,fu,lh (s:={ s with heap:=h',toks:=tk }) (n := "range_iterator") st' rfl rfl pv ⟨.int (lo+i),H,I1,⟨t,?_⟩,⟨fu,fu⟩,st',λ b hb=>(hf b hb).1⟩⟩;rw[s0d]
 done:=by
  intro X hP hw hK hc i pins s σ H E I hf st hg;subst hP hw hK;obtain⟨f0,f1,f2,f3,f4,f5⟩:=hf it BT;exact s0u (I.ok.hd hc) st (by have:n<=i:=hg;lia) λ h' eb=>⟨fu,I.turned (t':=s.toks) (λ b o hb e=>eb b o hb e) f0 f1 f3 f4 f5⟩
 self:=λ _ _ _ _ _ st h=>s0v st h
section
variable {tg:Expr}
theorem CG{R:It->Hp->Prop}{lo hi:Int}{tk:Nat}(I:Inv X pins σ H s)(h1:-(2 ^ 62)<=lo)(h2:lo<2 ^ 62)(h3:-(2 ^ 62)<=hi)(h4:hi<2 ^ 62)
  (q:R (Itr lo (hi-lo).toNat) H):wpAny (model X.prog X.w) X.A (pyIter (.ref s.heap.objs.size)) (PIE X pins σ tg R) E { s with heap:=s.heap.push { cls:=.type "range",data:=.fields #[.int lo t,.int hi u,.int 1 v] },toks:=tk }:=by
 refine s2z (IsRange.new ..) (small_one h1 h2 h3 h4) ?_;have I1:Inv X pins σ H { s with heap:=s.heap.push { cls:=.type "range",data:=.fields #[.int lo t,.int hi u,.int 1 v] },toks:=tk }:=I.kept λ b o e=>ay _ e
 refine⟨(s.heap.push { cls:=.type "range",data:=.fields #[.int lo t,.int hi u,.int 1 v] }).objs.size,[(s.heap.push { cls:=.type "range",data:=.fields #[.int lo t,.int hi u,.int 1 v] }).objs.size],_,_,H,fu,
  I1.kept (t':=tk) λ b o e=>ay _ e,CF _ lo (hi-lo).toNat,?_,λ b hb=>?_,q⟩
 ·have e1:lo+((0:Nat):Int)*1=lo:=by simp
  have e2:(((hi-lo).toNat:Nat):Int)-((0:Nat):Int)=Builtin.Range.rangeSize lo hi 1:=by rw[rangeSize_one];split<;>lia
  show IsRangeIter _ _ (lo+((0:Nat):Int)*1) ((((hi-lo).toNat:Nat):Int)-((0:Nat):Int)) 1;rw[e1,e2];exact aL _ rfl
 ·have e:b=(s.heap.push { cls:=.type "range",data:=.fields #[.int lo t,.int hi u,.int 1 v] }).objs.size:=by simpa using hb
  subst e;exact I1.fpOk (aj _) (I1.hok.fresh (aj _))
noncomputable def CH(ta:TA):TI:=λ σ H R=>ta σ H λ vs H1=>∃j:Int,vs=[.int j]/\-(2 ^ 62)<=j/\j<2 ^ 62/\R (Itr 0 j.toNat) H1
def CI{a:Expr}{p pos:Pos}(hg:Gl X "range")(hm:X.mg "range"=none)(ha:PA X [a] ta)(hs:starEach [a] X.env=[(false,eval a X.env)]:=by rfl):PI X tg (.Call (.Name "range" p) [a] [] pos) (CH ta):=by
 intro pins s σ H R I h;refine Call_ (dD I hg hm boot_range (gC (thn (ha pos pins s σ H _ I h) λ us s1 ⟨vs,H1,I1,r1,q1⟩=>?_) hs rfl));obtain⟨j,e,q1,q2,q⟩:=q1;subst e
 cases r1 with
 |cons r rr=>
  cases rr;obtain⟨t,rfl⟩:=r;exact call_range_1 (CG I1 on on q1 q2 (by simpa using q))
noncomputable def CJ(wi:TI)(g:TG)(tb:TS):TS:=λ D σ H=>wi σ H λ J H1=>∃W:Nat->Nat->St->Hp->Prop,(∃m,W 0 m σ H1)/\∀i m σ H,W i m σ H ->
 (J.stop i H/\D.nx σ H)\/(J.go i H/\∃N:St->Hp->Prop,(∀σ' H',N σ' H'->∃m',m'<m/\W (i+1) m' σ' H')/\∀x H',J.yld i H x H'->g x σ H' λ σ2 H2=>tb { D with nx:=N,ct:=N,bk:=D.nx } σ2 H2)
noncomputable def nH(fp:List Addr)(h:Heap):LO:=fp.filterMap λ b=>(h.get? b).map λ o=>(b,o)
def jI{fp:List Addr}{h:Heap}{b:Addr}(hb:b∈fp)(e:h.get? b=some o):(b,o)∈nH fp h:=jJ.mpr ⟨b,hb,by rw[e];rfl⟩
def CK{fp:List Addr}{h:Heap}{p:Addr×Obj}(hp:p∈nH fp h):p.1∈fp/\h.get? p.1=some p.2:=by
 obtain⟨b,hb,e⟩:=jJ.mp hp
 cases q:h.get? b with
 |none=>rw[q] at e;cases e
 |some o=>
  rw[q] at e;have e':(b,o)=p:=cv e;subst e';exact⟨hb,q⟩
def Inv.pinned{fp:List Addr}(I:Inv X pins σ H s)(hf:∀b∈fp,ig X pins H b)(ho:∀b∈fp,∃o,s.heap.get? b=some o/\∀v,o.data≠.cell v):Inv X (pins++nH fp s.heap) σ H s :=
 I.pins_of λ p hp=>(bn.mp hp).elim (λ z=>I.pin p (bK _ z)) λ z=>by
  obtain⟨hb,e⟩:=CK z;obtain⟨f0,f1,f2,_⟩:=hf p.1 hb;obtain⟨o,e',d⟩:=ho p.1 hb;rw[e] at e';cases e';exact⟨e,f0,f1,f2,d⟩
def Inv.unpinned{pins pl:LO}(I:Inv X (pins++pl) σ H s):Inv X pins σ H s:=I.pins_of λ p hp=>I.pin p (bK _ (gz _ hp))
theorem CL{iter:Expr}(hp:PassesOwn (model X.prog X.w) X.A X.env X.xe)(hc:X.calm=true)(hi:PI X tg iter wi)(hg:PG X tg g)(hb:PSs X body tb)
  (hs:∀x,foldedSetIterable iter X.env x=pure x:=by intro _;rfl):PS X (.For tg iter body [] pos) (CJ wi g tb):=by
 intro pins s σ H D I h;refine wpAny_For (thn (hi pins s σ H _ I h) λ v s1 h1=>thn h1 λ itv s2 h2=>?_) hs;obtain⟨it,fp,tn,J,H2,e,I2,T,st2,f2,W,⟨m0,w0⟩,turn⟩:=h2;subst e;have stat:∀ {H':Hp},(∀b∈fp,H' b=none)->∀b∈fp,ig X pins H' b:=λ hn b hb=>⟨hn b hb,(f2 b hb).2⟩;refine codeAny_forLoop_any (λ n s'=>∃i σ' H',Inv X pins σ' H' s'/\tn i s'.heap/\(∀b∈fp,H' b=none)/\W i n σ' H') ?_ m0 ⟨0,σ,H2,I2,st2,λ b hb=>(f2 b hb).1,w0⟩;rintro n s3 ⟨i,σ3,H3,I3,st3,fr3,w3⟩
 rcases turn i n σ3 H3 w3 with ⟨stop,qn⟩|⟨go,N,hN,step⟩
 ·refine lj hp (thn (T.done X rfl rfl rfl hc i pins s3 σ3 H3 X.xe I3 (stat fr3) st3 stop) λ r s4 ⟨hr,I4⟩=>?_);subst hr;exact nE ⟨σ3,H3,I4,qn⟩
 ·refine lj hp (thn (T.item X rfl rfl rfl hc i pins s3 σ3 H3 X.xe I3 (stat fr3) st3 go) λ r s4 ⟨u,hr,h4⟩=>?_);subst hr;refine lj hp (thn h4 λ _ s5 ⟨x,H5,I5,r5,y5,st5,fr5⟩=>?_);have I5':=I5.pinned (stat fr5) (T.obj _ _ st5);refine lj hp (thn (hg _ s5 σ3 H5 x u _ I5' r5 (step x H5 y5)) λ _ s6 ⟨σ6,H6,I6,q6⟩=>?_);refine lj hp (thn (hb _ s6 σ6 H6 _ I6 q6) λ f s7 q7=>?_)
  have again:∀ {σ7:St}{H7:Hp},Inv X (pins++nH fp s5.heap) σ7 H7 s7->N σ7 H7->∃m,m<n/\∃i σ' H',Inv X pins σ' H' s7/\tn i s7.heap/\(∀b∈fp,H' b=none)/\W i m σ' H':=λ {σ7 H7} I7 n7=>by
   obtain⟨m',hm,w7⟩:=hN σ7 H7 n7;refine⟨m',hm,i+1,σ7,H7,I7.unpinned,T.keep _ _ _ st5 λ b hb o e=>(I7.pin (b,o) (bK _ (bK _ (jI hb e)))).1,λ b hb=>?_,w7⟩;obtain⟨o,e,d⟩:=T.obj _ _ st5 b hb;exact(I7.pin (b,o) (bK _ (bK _ (jI hb e)))).2.1
  cases f with
  |next=>obtain⟨σ7,H7,I7,n7⟩:=q7;exact again I7 n7
  |cont=>obtain⟨σ7,H7,I7,n7⟩:=q7;exact again I7 n7
  |brk=>obtain⟨σ7,H7,I7,q7⟩:=q7;exact⟨σ7,H7,I7.unpinned,q7⟩
  |ret v=>obtain⟨x7,σ7,H7,I7,r7,q7⟩:=q7;exact⟨x7,σ7,H7,I7.unpinned,r7,q7⟩
end
abbrev R2:=V->V->Hp->VK->Prop
noncomputable def OpR(X:Cx)(f:Value->Value->Sem Value)(r:R2):Prop :=
 ∀(pins:LO) (s:Shared) (σ:St) (H:Hp) (x y:V) (v u:Value) (Q:VK),Inv X pins σ H s->RelV x v->RelV y u->r x y H Q ->
  wpAny (model X.prog X.w) X.A (f v u) (EP X pins σ Q) X.xe s
noncomputable def UnR(X:Cx)(f:Value->Sem Value)(r:V->Hp->VK->Prop):Prop :=
 ∀(pins:LO) (s:Shared) (σ:St) (H:Hp) (x:V) (v:Value) (Q:VK),Inv X pins σ H s->RelV x v->r x H Q ->
  wpAny (model X.prog X.w) X.A (f v) (EP X pins σ Q) X.xe s
noncomputable def bo(X:Cx)(f:Value)(r:List V->Hp->VK->Prop):Prop :=
 ∀(pins:LO) (s:Shared) (σ:St) (H:Hp) (xs:List V) (us:LV) (Q:VK),Inv X pins σ H s->Vals xs us->r xs H Q ->
  wpAny (model X.prog X.w) X.A (call f us) (EP X pins σ Q) X.xe s
noncomputable def tOp(r:R2)(ta tb:TE):TE:=λ σ H Q=>ta σ H λ x H1=>tb σ H1 λ y H2=>r x y H2 Q
noncomputable def tUn(r:V->Hp->VK->Prop)(ta:TE):TE:=λ σ H Q=>ta σ H λ x H1=>r x H1 Q
noncomputable def rI(C:Int->Int->Prop)(g:Int->Int->V):R2:=λ x y H Q=>qv x y λ i j=>C i j/\Q (g i j) H
noncomputable def rI0(g:Int->Int->V):R2:=λ x y H Q=>qv x y λ i j=>Q (g i j) H
noncomputable def rU(g:Int->V):V->Hp->VK->Prop:=λ x H Q=>isI x λ i=>Q (g i) H
section
variable {a b c:Expr}{ta tb tc:TE}{pos:Pos}
theorem qA(ha:PE X a ta)(hb:PE X b tb){R:V->V->Hp->Prop}(I:Inv X pins σ H s)
  (h:ta σ H λ x H1=>tb σ H1 λ y H2=>R x y H2){f:Value->Value->Sem Value}
  (hf:∀v u s2 x y H2,Inv X pins σ H2 s2->RelV x v->RelV y u->R x y H2->wpAny (model X.prog X.w) X.A (f v u) Q X.xe s2) :
  wpAny (model X.prog X.w) X.A (eval a X.env) (λ v s₁=>wpAny (model X.prog X.w) X.A (eval b X.env) (λ u s₂=>wpAny (model X.prog X.w) X.A (f v u) Q X.xe s₂) X.xe s₁) X.xe s:=by
 refine thn (ha pins s σ H _ I h) λ v s1 ⟨x,H1,I1,r1,q1⟩=>?_;refine thn (hb pins s1 σ H1 _ I1 q1) λ u s2 ⟨y,H2,I2,r2,q2⟩=>?_;exact hf v u s2 x y H2 I2 r1 r2 q2
def CO(ho:OpR X (binaryOp op) r)(ha:PE X a ta)(hb:PE X b tb):PE X (.BinOp a op b pos) (tOp r ta tb):=by
 intro pins s σ H Q I h;exact wpAny_BinOp (qA ha hb I h λ v u s2 x y H2 I2 rx ry q=>ho pins s2 σ H2 x y v u Q I2 rx ry q)
def CP(ho:UnR X (unaryOp op) r)(ha:PE X a ta):PE X (.UnaryOp op a pos) (tUn r ta):=by
 intro pins s σ H Q I h;exact UnaryOp_ (thn (ha pins s σ H _ I h) λ v s1 ⟨x,H1,I1,r1,q1⟩=>ho pins s1 σ H1 x v Q I1 r1 q1)
theorem opI{f:Value->Value->Sem Value}{C:Int->Int->Prop}{g:Int->Int->Int}
  (rule:∀(i j:Int) (t u:Tok) (s:Shared) (Q:VS) (E:VS),C i j->Q (.int (g i j) s.toks) { s with toks:=s.toks+1 }->wpAny (model X.prog X.w) X.A (f (.int i t) (.int j u)) Q E s) :
  OpR X f (rI C λ i j=>.int (g i j)):=by
 intro pins s σ H x y v u Q I rx ry h;obtain⟨i,j,rfl,rfl,hc,q⟩:=qw h;obtain⟨t,rfl⟩:=rx;obtain⟨t',rfl⟩:=ry;exact rule i j t t' s _ _ hc ⟨.int (g i j),H,I.tok _,⟨_,fu⟩,q⟩
theorem lu{f:Value->Value->Sem Value}{g:Int->Int->Int}
  (rule:∀(i j:Int) (t u:Tok) (s:Shared) (Q:VS) (E:VS),Q (.int (g i j) s.toks) { s with toks:=s.toks+1 }->wpAny (model X.prog X.w) X.A (f (.int i t) (.int j u)) Q E s) :
  OpR X f (rI0 λ i j=>.int (g i j)):=by
 intro pins s σ H x y v u Q I rx ry h;obtain⟨i,j,rfl,rfl,q⟩:=qw h;obtain⟨t,rfl⟩:=rx;obtain⟨t',rfl⟩:=ry;exact rule i j t t' s _ _ ⟨.int (g i j),H,I.tok _,⟨_,fu⟩,q⟩
theorem nJ{f:Value->Value->Sem Value}{g:Int->Int->Bool}
  (rule:∀(i j:Int) (t u:Tok) (s:Shared) (Q:VS) (E:VS),Q (.bool (g i j)) s->wpAny (model X.prog X.w) X.A (f (.int i t) (.int j u)) Q E s) :
  OpR X f (rI0 λ i j=>.bl (g i j)):=by
 intro pins s σ H x y v u Q I rx ry h;obtain⟨i,j,rfl,rfl,q⟩:=qw h;obtain⟨t,rfl⟩:=rx;obtain⟨t',rfl⟩:=ry;exact rule i j t t' s _ _ ⟨.bl (g i j),H,I,fu,q⟩
def lw(i j:Int):Prop:=0<=j/\j<=1000000/\i.natAbs<2 ^ 64
noncomputable def CMul(i j:Int):Prop:=(-(2 ^ 64)<i/\i<2 ^ 64)\/(-(2 ^ 64)<j/\j<2 ^ 64)
def CMul.ok(h:CMul i j):IntMulOk i j:=by
 rcases h with ⟨h1,h2⟩|⟨h1,h2⟩
 ·exact .of_left (intBits_le_64 h1 h2)
 ·exact .of_right (intBits_le_64 h1 h2)
def CQ(k:Nat):(0:Int)<=2 ^ k:=by
 rw[two_pow_cast];exact s3a _
def CS:OpR X (binaryOp .Add) (rI0 λ i j=>.int (i+j)):=lu λ _ _ _ _ _ _ _ q=>add_int q
def CT:OpR X (binaryOp .Sub) (rI0 λ i j=>.int (i-j)):=lu λ _ _ _ _ _ _ _ q=>sub_int q
def CU:OpR X (binaryOp .Mod) (rI (λ _ j=>0<j) λ i j=>.int (i%j)):=opI λ i j _ _ _ _ _ hc q=>by
 have h1:(0:Int)<j:=hc;exact mod_int' on (by rw[uZ i on];exact q)
def CV:OpR X (binaryOp .Mod) (rI (λ _ j=>j≠0) λ i j=>.int (i.fmod j)):=opI λ _ _ _ _ _ _ _ hc q=>mod_int' hc q
def CW:OpR X (binaryOp .Pow) (rI lw λ i j=>.int (i ^ j.toNat)):=opI λ _ _ _ _ _ _ _ hc q=>pow_int_small hc.1 hc.2.1 hc.2.2 q
def CY:OpR X (binaryOp .RShift) (rI (λ _ j=>0<=j) λ i j=>.int (i/2 ^ j.toNat)):=opI λ i j _ _ _ _ _ hc q=>
 rshift_int hc (by rw[lx i (CQ _)];exact q)
def CZ:OpR X (binaryOp .BitAnd) (rI0 λ i j=>.int (Builtin.bitAnd i j)):=lu λ _ _ _ _ _ _ _ q=>and_int q
def Da:OpR X (binaryOp .BitOr) (rI0 λ i j=>.int (Builtin.bitOr i j)):=lu λ _ _ _ _ _ _ _ q=>or_int q
def Db:OpR X (binaryOp .BitXor) (rI0 λ i j=>.int (Builtin.bitXor i j)):=lu λ _ _ _ _ _ _ _ q=>xor_int q
theorem unI{f:Value->Sem Value}{g:Int->Int}
  (rule:∀(i:Int) (t:Tok) (s:Shared) (Q:VS) (E:VS),Q (.int (g i) s.toks) { s with toks:=s.toks+1 }->wpAny (model X.prog X.w) X.A (f (.int i t)) Q E s) :
  UnR X f (rU λ i=>.int (g i)):=by
 intro pins s σ H x v Q I rx h;obtain⟨i,rfl,q⟩:=BR h;obtain⟨t,rfl⟩:=rx;exact rule i t s _ _ ⟨.int (g i),H,I.tok _,⟨_,fu⟩,q⟩
def Dc:UnR X (unaryOp .USub) (rU λ i=>.int (-i)):=unI λ _ _ _ _ _ q=>neg_int q
end
noncomputable def bD:V->V->Bool
 |.non,.non=>true|.non,.int _=>true|.int _,.non=>true|.non,.bl _=>true|.bl _,.non=>true|.non,.str _=>true|.str _,.non=>true
 |.int _,.int _=>true|.bl _,.bl _=>true|.str _,.str _=>true|.byt _,.byt _=>true
 |.int _,.str _=>true|.str _,.int _=>true|.bl _,.str _=>true|.str _,.bl _=>true
 |_,_=>false
noncomputable def rEq:R2:=λ x y H Q=>match x,y with
 |.int i,.int j=>Q (.bl (decide (i=j))) H
 |.str i,.str j=>Q (.bl (decide (i=j))) H
 |x,y=>bD x y=true/\Q (.bl (decide (x=y))) H
def dcI(i j:Int):decide (V.int i=V.int j)=decide (i=j):=ij.mpr ⟨λ h=>V.int.inj h,λ h=>h ▸ rfl⟩
def dcS(i j:Str):decide (V.str i=V.str j)=decide (i=j):=ij.mpr ⟨λ h=>V.str.inj h,λ h=>h ▸ rfl⟩
def nK(p:Prop):p=(true=true/\p):=propext ⟨λ h=>⟨rfl,h⟩,λ h=>h.2⟩
def rEq_ex:rEq x y H Q=(bD x y=true/\Q (.bl (decide (x=y))) H):=by
 cases x<;>cases y<;>first|rfl|(rw[dcI];exact nK _)|(rw[dcS];exact nK _)
def Dd(h:rEq x y H Q):bD x y=true/\Q (.bl (decide (x=y))) H:=rEq_ex.mp h
noncomputable def rNe:R2:=λ x y H Q=>match x,y with
 |.int i,.int j=>Q (.bl (!decide (i=j))) H
 |.str i,.str j=>Q (.bl (!decide (i=j))) H
 |x,y=>bD x y=true/\Q (.bl (!decide (x=y))) H
def rNe_ex:rNe x y H Q=(bD x y=true/\Q (.bl (!decide (x=y))) H):=by
 cases x<;>cases y<;>first|rfl|(rw[dcI];exact nK _)|(rw[dcS];exact nK _)
def De(h:rNe x y H Q):bD x y=true/\Q (.bl (!decide (x=y))) H:=rNe_ex.mp h
def va:decide (V.int i=V.int j)=(i == j):=by
 rw[nL];simp
def vc:decide (V.bl i=V.bl j)=(i == j):=by
 rw[nL];simp
def vd:decide (V.str i=V.str j)=(i == j):=by
 rw[nL];simp
def ve:decide (V.byt i=V.byt j)=(i.toList == j.toList):=by
 rw[nL];cases i;cases j;simp
section
variable {a b c:Expr}{ta tb tc:TE}{pos:Pos}
def bf{Q:VK}{k k':Bool}(I:Inv X pins σ H s)(q:Q (.bl k) H)(e:k=k'):EP X pins σ Q (.bool k') s:=by
 subst e;exact⟨.bl k,H,I,fu,q⟩
def dW:OpR X (compareOp .Eq) rEq:=by
 intro pins s σ H x y v u Q I rx ry h;obtain⟨hs,q⟩:=Dd h
 cases x with
 |non=>
  cases rx
  cases y with
  |non=>cases ry;exact PySem.EqNone.eq_none_none (bf I q BT)
  |bl j=>cases ry;exact PySem.EqNone.eq_none_bool (bf I q BT)
  |int j=>obtain⟨t',rfl⟩:=ry;exact PySem.EqNone.eq_none_int (bf I q BT)
  |str j=>obtain⟨t',rfl⟩:=ry;exact PySem.EqNone.eq_none_str (bf I q BT)
  |_=>exact absurd (show false=true from hs) aV
 |bl i=>
  cases rx
  cases y with
  |non=>cases ry;exact PySem.EqNone.eq_bool_none (bf I q BT)
  |bl j=>cases ry;exact eq_bool (bf I q vc)
  |str j=>obtain⟨t',rfl⟩:=ry;exact PySem.EqMixed.eq_bool_str (bf I q BT)
  |_=>exact absurd (show false=true from hs) aV
 |int i=>
  obtain⟨t,rfl⟩:=rx
  cases y with
  |non=>cases ry;exact PySem.EqNone.eq_int_none (bf I q BT)
  |int j=>obtain⟨t',rfl⟩:=ry;exact eq_int (bf I q va)
  |str j=>obtain⟨t',rfl⟩:=ry;exact PySem.EqMixed.eq_int_str (bf I q BT)
  |_=>exact absurd (show false=true from hs) aV
 |str i=>
  obtain⟨t,rfl⟩:=rx
  cases y with
  |non=>cases ry;exact PySem.EqNone.eq_str_none (bf I q BT)
  |bl j=>cases ry;exact PySem.EqMixed.eq_str_bool (bf I q BT)
  |int j=>obtain⟨t',rfl⟩:=ry;exact PySem.EqMixed.eq_str_int (bf I q BT)
  |str j=>obtain⟨t',rfl⟩:=ry;exact eq_str (bf I q vd)
  |_=>exact absurd (show false=true from hs) aV
 |byt i=>
  obtain⟨t,rfl⟩:=rx
  cases y with
  |byt j=>obtain⟨t',rfl⟩:=ry;exact W.eq_bytes (bf I q ve)
  |_=>exact absurd (show false=true from hs) aV
 |_=>cases y<;>exact absurd (show false=true from hs) aV
def dX:OpR X (compareOp .NotEq) rNe:=by
 intro pins s σ H x y v u Q I rx ry h;obtain⟨hs,q⟩:=De h
 cases x with
 |non=>
  cases rx
  cases y with
  |non=>cases ry;exact PySem.EqNone.ne_none_none (bf I q BT)
  |bl j=>cases ry;exact PySem.EqNone.ne_none_bool (bf I q BT)
  |int j=>obtain⟨t',rfl⟩:=ry;exact PySem.EqNone.ne_none_int (bf I q BT)
  |str j=>obtain⟨t',rfl⟩:=ry;exact PySem.EqNone.ne_none_str (bf I q BT)
  |_=>exact absurd (show false=true from hs) aV
 |bl i=>
  cases rx
  cases y with
  |non=>cases ry;exact PySem.EqNone.ne_bool_none (bf I q BT)
  |bl j=>cases ry;exact ne_bool (bf I q (bu not vc))
  |str j=>obtain⟨t',rfl⟩:=ry;exact PySem.EqMixed.ne_bool_str (bf I q BT)
  |_=>exact absurd (show false=true from hs) aV
 |int i=>
  obtain⟨t,rfl⟩:=rx
  cases y with
  |non=>cases ry;exact PySem.EqNone.ne_int_none (bf I q BT)
  |int j=>obtain⟨t',rfl⟩:=ry;exact ne_int (bf I q (bu not va))
  |str j=>obtain⟨t',rfl⟩:=ry;exact PySem.EqMixed.ne_int_str (bf I q BT)
  |_=>exact absurd (show false=true from hs) aV
 |str i=>
  obtain⟨t,rfl⟩:=rx
  cases y with
  |non=>cases ry;exact PySem.EqNone.ne_str_none (bf I q BT)
  |bl j=>cases ry;exact PySem.EqMixed.ne_str_bool (bf I q BT)
  |int j=>obtain⟨t',rfl⟩:=ry;exact PySem.EqMixed.ne_str_int (bf I q BT)
  |str j=>obtain⟨t',rfl⟩:=ry;exact ne_str (bf I q (bu not vd))
  |_=>exact absurd (show false=true from hs) aV
 |byt i=>
  obtain⟨t,rfl⟩:=rx
  cases y with
  |byt j=>obtain⟨t',rfl⟩:=ry;exact W.ne_bytes (bf I q (bu not ve))
  |_=>exact absurd (show false=true from hs) aV
 |_=>cases y<;>exact absurd (show false=true from hs) aV
def Df:OpR X (compareOp .Lt) (rI0 λ i j=>.bl (decide (i<j))):=nJ λ _ _ _ _ _ _ _ q=>lt_int q
def Dg:OpR X (compareOp .LtE) (rI0 λ i j=>.bl (decide (i<=j))):=nJ λ _ _ _ _ _ _ _ q=>le_int q
def Dh:OpR X (compareOp .Gt) (rI0 λ i j=>.bl (decide (j<i))):=nJ λ _ _ _ _ _ _ _ q=>gt_int q
def Di:OpR X (compareOp .GtE) (rI0 λ i j=>.bl (decide (j<=i))):=nJ λ _ _ _ _ _ _ _ q=>ge_int q
def Dj:OpR X (compareOp .Is) (λ x y H Q=>y=.non/\Q (.bl (decide (x=.non))) H):=by
 intro pins s σ H x y v u Q I rx ry h;obtain⟨rfl,q⟩:=h;cases ry;refine is_none_gen (bf I q ?_)
 cases x<;>first
  |(cases rx;rfl)
  |(obtain⟨t,rfl⟩:=rx;rfl)
def Dk:OpR X (compareOp .IsNot) (λ x y H Q=>y=.non/\Q (.bl (!decide (x=.non))) H):=by
 intro pins s σ H x y v u Q I rx ry h;obtain⟨rfl,q⟩:=h;cases ry;refine isnot_none_gen (bf I q ?_)
 cases x<;>first
  |(cases rx;rfl)
  |(obtain⟨t,rfl⟩:=rx;rfl)
def Dl(ho:OpR X (compareOp op) r)(ha:PE X a ta)(hb:PE X b tb)(hm:behindInMarks op b=false):PE X (.Compare a [op] [b] pos) (tOp r ta tb):=by
 intro pins s σ H Q I h;exact wpAny_Compare1 (qA ha hb I h λ v u s2 x y H2 I2 rx ry q=>ho pins s2 σ H2 x y v u Q I2 rx ry q) hm
def Dm(t:TE):TT:=λ σ H Q=>t σ H λ x H'=>isB x λ k=>Q k H'
def Do(ho:OpR X (compareOp op) r)(ha:PE X a ta)(hb:PE X b tb)(hm:behindInMarks op b=false):PT X (.Compare a [op] [b] pos) (Dm (tOp r ta tb)):=by
 intro pins s σ H Q I h
 refine wpAny_isTrue_Compare1 (thn (ha pins s σ H _ I h) λ v s1 ⟨x,H1,I1,r1,q1⟩=>thn (hb pins s1 σ H1 _ I1 q1) λ u s2 ⟨y,H2,I2,r2,q2⟩ =>
  thn (ho pins s2 σ H2 x y v u _ I2 r1 r2 q2) λ c s3 ⟨z,H3,I3,r3,q3⟩=>?_) hm
 obtain⟨k,e,q3⟩:=nD q3;subst e;cases r3;exact iT ⟨H3,I3,q3⟩
def jK:(sizeLine:Nat)<2 ^ 63:=by rw[gD];decide
def bW{x:V}(r:Vals [x] us):∃u,us=[u]/\RelV x u:=by
 cases r with
 |cons r1 r2=>cases r2;exact⟨_,rfl,r1⟩
def jL{x y:V}(r:Vals [x,y] us):∃u w',us=[u,w']/\RelV x u/\RelV y w':=by
 cases r with
 |cons r1 r2=>
  cases r2 with
  |cons r3 r4=>cases r4;exact⟨_,_,rfl,r1,r3⟩
def Dp:bo X (.builtin "abs") (λ xs H Q=>∃i,xs=[.int i]/\Q (.int (if i<0 then -i else i)) H):=by
 intro pins s σ H xs us Q I r h;obtain⟨i,rfl,q⟩:=h;obtain⟨u,rfl,t,rfl⟩:=bW r;exact call_abs_int λ u tk=>⟨.int (if i<0 then -i else i),H,I.tok _,⟨_,fu⟩,q⟩
def Dq(hc:X.calm=true):bo X (.builtin "max") (λ xs H Q=>∃i j,xs=[.int i,.int j]/\Q (.int (if j > i then j else i)) H):=by
 intro pins s σ H xs us Q I r h;obtain⟨i,j,rfl,q⟩:=h;obtain⟨u,w',rfl,⟨t,rfl⟩,⟨t',rfl⟩⟩:=jL r;refine max_two_ints (I.ok.hd hc) λ h' tk k=>⟨_,H,I.kept k,?_,q⟩;by_cases hj:j > i
 ·rw[if_pos hj,if_pos hj];exact⟨_,rfl⟩
 ·rw[if_neg hj,if_neg hj];exact⟨_,rfl⟩
def Dr(hc:X.calm=true):bo X (.builtin "min") (λ xs H Q=>∃i j,xs=[.int i,.int j]/\Q (.int (if j<i then j else i)) H):=by
 intro pins s σ H xs us Q I r h;obtain⟨i,j,rfl,q⟩:=h;obtain⟨u,w',rfl,⟨t,rfl⟩,⟨t',rfl⟩⟩:=jL r;refine min_two_ints (I.ok.hd hc) λ h' tk k=>⟨_,H,I.kept k,?_,q⟩;by_cases hj:j<i
 ·rw[if_pos hj,if_pos hj];exact⟨_,rfl⟩
 ·rw[if_neg hj,if_neg hj];exact⟨_,rfl⟩
def vf:bo X (.type "int") (λ xs H Q=>(∃i,xs=[.int i]/\Q (.int i) H)\/∃k,xs=[.bl k]/\Q (.int (if k then 1 else 0)) H):=by
 intro pins s σ H xs us Q I r h
 rcases h with ⟨i,rfl,q⟩|⟨k,rfl,q⟩
 ·obtain⟨u,rfl,t,rfl⟩:=bW r;exact call_int_int ⟨.int i,H,I,⟨_,fu⟩,q⟩
 ·obtain⟨u,rfl,r1⟩:=bW r;cases r1;exact call_int_bool ⟨.int (if k then 1 else 0),H,I.tok _,⟨_,fu⟩,q⟩
end
structure ObjM (h:Heap)(x dx C:Addr)(mA:SV):Prop where
 obj:h.get? x=some (W.instObj C dx)
 ns:h.Ns1 dx mA
 ne:dx≠x
section
variable {prog:Program}{w:World}{A:Around}{E:VS}{s:Shared}{K:FG}{x dx C f:Addr}{mA:SV}{name:Str}{v:Value}
end
def RelO.some_of(r:RelO (some v) o):∃u,o=some u/\RelV v u:=by
 cases o with
 |none=>exact(show False from r).elim
 |some u=>exact⟨u,rfl,r⟩
section
variable {P:Program}{w:World}{H H':Hp}{h h':Heap}{a C dx:Addr}{fs fs':List (Str×V)}
def vg(hok:HOk P w H h)(e:H a=some (.ins C dx fs)):∃mA,ObjM h a dx C mA/\(∀f,RelO (fs.lookup f) (mA f))/\PySem.Within mA (fs.map (·.1))/\fs.length<=1000/\H dx=some (.own a):=by
 obtain⟨d,z,ne,ob,mA,n,r,q⟩:=(show ObjOk P w H h a (.ins C dx fs) from hok a _ e);exact⟨mA,⟨ob,n,ne⟩,r,q,z,d⟩
end
noncomputable def nM(K:FG)(C:Addr)(f:Str):Prop:=W.findIn K (.ref C) f=some none
section
variable {pins:LO}{σ:St}{H:Hp}{s:Shared}{a C dx:Addr}{fs:List (Str×V)}{f:Str}{v:V}{A:Around}{E:VS}
end
section
variable {o e value:Expr}{f:Str}{pos pos' tpos:Pos}{ta tv:TE}
end
section
variable {pins:LO}{σ:St}{H:Hp}{s:Shared}{A:Around}{E:VS}{Q:VS}{c:Value}{b:Bool}
end
structure Room (k:Nat)(A:Around):Prop where
 hd:A.handled=none
 dp:A.depth+3*k+5<recursionLimit
 un:A.units+16*k+200<cLine
def Room.mono{j k:Nat}(r:Room k A)(h:j<=k):Room j A:=⟨r.hd,by have:=r.dp;lia,by have:=r.un;lia⟩
def Room.deeper{k:Nat}(r:Room (k+1) A)(env:Env):Room k (A.deeper env) :=
 ⟨r.hd,by have:=r.dp;show A.depth+1+3*k+5<_;lia,by have:=r.un;show A.units+3+16*k+200<_;lia⟩
def Ds{A:Around}{us:LV}{kw:List (Str×Value)}:(A.under (.builtin "type.__call__" ⟨.ref C::us,kw⟩)).depth=A.depth+1:=by
 first|rfl|simp[Around.under,Code.weight,Code.isCreation,Code.isGuard,Code.isCaller,Code.frames,Code.isFrame,guardIds]
def Dt{A:Around}{us:LV}{kw:List (Str×Value)}:(A.under (.builtin "type.__call__" ⟨.ref C::us,kw⟩)).units=A.units+1:=by
 first|rfl|simp[Around.under,Code.cUnits,Code.frames,Code.isFrame]
def Room.make{k:Nat}(r:Room (k+1) A)(C:Addr)(us:LV)(kw:List (Str×Value)):Room k (A.under (.builtin "type.__call__" ⟨.ref C::us,kw⟩)) :=
 ⟨r.hd,by have:=r.dp;rw[Ds];lia,by have:=r.un;rw[Dt];lia⟩
def Room.depth(r:Room k A):A.depth<recursionLimit:=by have:=r.dp;lia
def vh:TA:=λ _ H Q=>Q [] H
noncomputable def qB(ta:TE)(tr:TA):TA:=λ σ H Q=>ta σ H λ x H1=>tr σ H1 λ xs H2=>Q (x::xs) H2
section
variable {e:Expr}{es:List Expr}{te:TE}{t:TA}{pos:Pos}
def pa_nil:PA X [] vh:=λ _ _ _ _ H Q I h=>nN ⟨[],H,I,.nil,h⟩
def cj(ha:PE X e te)(hr:PA X es t)(hs:starEach (e::es) X.env=(false,eval e X.env)::starEach es X.env:=by rfl):PA X (e::es) (qB te t):=by
 intro pos pins s σ H Q I h;rw[hs];show wpAny _ _ (spliced ((false,eval e X.env)::backTo pos (starEach es X.env))) _ _ s;refine nO (thn (ha pins s σ H _ I h) λ u s1 ⟨x,H1,I1,r1,q1⟩=>?_);exact thn (hr pos pins s1 σ H1 _ I1 q1) λ us s2 ⟨xs,H2,I2,r2,q2⟩=>⟨x::xs,H2,I2,.cons r1 r2,q2⟩
noncomputable def Du(t:TA):TE:=λ σ H Q=>t σ H λ xs H1=>xs.length<=sizeLine/\∀p,H1 p=none->Q (.ref p) (upd H1 p (.tup xs))
noncomputable def Dv(t:TA):TE:=λ σ H Q=>t σ H λ xs H1=>xs.length<=sizeLine/\∀p,H1 p=none->Q (.ref p) (upd H1 p (.lst xs))
def qC{x1}(h:PA X es t):PE X (.Tuple es x1 pos) (Du t):=by
 intro pins s σ H Q I hq;refine wpAny_Tuple_spliced (thn (h pos pins s σ H _ I hq) λ us s1 ⟨xs,H1,I1,r,z,q⟩=>⟨by rw[<- r.length];exact z,?_⟩);have hf:H1 s1.heap.objs.size=none:=I1.hok.fresh (aj _);refine⟨.ref s1.heap.objs.size,upd H1 s1.heap.objs.size (.tup xs),I1.laid (t':=s1.toks) (λ b u e=>ay _ e) (aj _) ?_,fu,q _ hf⟩;exact⟨z,us,r,⟨_,aL _ rfl,⟨fu,_,fu⟩,fu⟩⟩
def Dw(h:PA X es t):PE X (.List es pos) (Dv t):=by
 intro pins s σ H Q I hq;refine wpAny_List_spliced (thn (h pos pins s σ H _ I hq) λ us s1 ⟨xs,H1,I1,r,z,q⟩=>⟨by rw[<- r.length];exact z,?_⟩);have hf:H1 s1.heap.objs.size=none:=I1.hok.fresh (aj _);refine⟨.ref s1.heap.objs.size,upd H1 s1.heap.objs.size (.lst xs),I1.laid (t':=s1.toks) (λ b u e=>ay _ e) (aj _) ?_,fu,q _ hf⟩;exact⟨z,us,0,r,aL _ rfl⟩
end
abbrev Sp:=List V->Hp->VK->XK->Prop
abbrev CXT:=List Env->Hp->Shared->XK->VS
structure Env0 (P:Program)(w:World)(K:FG)(mg:SV)(base:Heap)(A:Around)(outer:List Env)(s:Shared)(H:Hp):Prop where
 frames:A.frames=some outer
 mod:Mod K mg base
 bs:∀b o,base.get? b=some o->s.heap.get? b=some o/\H b=none
 bsz:base.objs.size<=s.heap.objs.size
 funs:s.heap.FunFrames base outer
 frf:∀b∈frs outer,H b=none
 hok:HOk P w H s.heap
 bare:AllBare s.gens
noncomputable def CE(outer:List Env)(P:Program)(w:World)(H:Hp)(s:Shared)(Q:VK)(u:Value)(s':Shared):Prop :=
 ∃v H',s'.os=s.os/\AllBare s'.gens/\Un (frs outer) [] H H' s.heap s'.heap/\HOk P w H' s'.heap/\RelV v u/\Q v H'
noncomputable def CR(CX:CXT)(outer:List Env)(P:Program)(w:World)(H:Hp)(s:Shared)(Q:VK)(E:XK)(r:Result)(s':Shared):Prop :=
 match r with
 |.ok (.ret u)=>CE outer P w H s Q u s'
 |.ok _=>False
 |.error e=>CX outer H s E e s'
structure FnOk (P:Program)(w:World)(K:FG)(mg:SV)(base:Heap)(CX:CXT)(k:Nat)(f:Addr)(fd:FuncData)(ps:List Str)(sp:Sp):Prop where
 len:∀vs H Q E,sp vs H Q E->vs.length=ps.length
 run:∀(A:Around) (outer:List Env) (s:Shared) (H:Hp) (args:Args) (us:LV) (vs:List V) (Q:VK) (E:XK),Room k A->Env0 P w K mg base A outer s H->BindsTo s fd args (ps.zip us)->Vals vs us->sp vs H Q E ->
  codeAny (model P w) A (.call (.ref f) args) (CR CX outer P w H s Q E) s
theorem FnOk.mono{K:FG}{j k:Nat}(F:FnOk P w K mg base CX j f fd ps sp)(h:j<=k) :
  FnOk P w K mg base CX k f fd ps sp:=⟨F.len,λ A outer s H args us vs Q E hr=>F.run A outer s H args us vs Q E (hr.mono h)⟩
theorem FnOk.imp{K:FG}{sp sp':Sp}(F:FnOk P w K mg base CX k f fd ps sp)
  (h:∀vs H Q E,sp' vs H Q E->sp vs H Q E):FnOk P w K mg base CX k f fd ps sp' :=
 ⟨λ vs H Q E q=>F.len vs H Q E (h _ _ _ _ q),λ A outer s H args us vs Q E hr he hb hv hs=>F.run A outer s H args us vs Q E hr he hb hv (h _ _ _ _ hs)⟩
theorem Env0.make{K:FG}(e:Env0 P w K mg base A outer s H)(C:Addr)(us:LV)(kw:List (Str×Value)) :
  Env0 P w K mg base (A.under (.builtin "type.__call__" ⟨.ref C::us,kw⟩)) outer s H:=⟨by first|exact e.frames|(simpa [Around.under,Code.envs,Code.isFrame,pushEnvs] using e.frames),e.mod,e.bs,e.bsz,e.funs,e.frf,e.hok,e.bare⟩
section
variable {pins:LO}{σ:St}{H:Hp}{s s':Shared}
def Inv.env0(I:Inv X pins σ H s):Env0 X.prog X.w X.K X.mg X.base X.A X.stack s H :=
 ⟨I.ok.frames,I.ok.mod,I.bs,bH I.ok.bsz I.sz,I.stack,I.stkFree,I.hok,I.bare⟩
def Inv.after(I:Inv X pins σ H s)(h:CE X.stack X.prog X.w H s Q u s'):EP X pins σ Q u s':=by
 obtain⟨v,H',os,bare,un,hok,r,q⟩:=h;obtain⟨hh,g,d,t,os'⟩:=s';obtain rfl:os'=s.os:=os;exact⟨v,H',I.call (h':=hh) (g':=g) (d':=d) (t':=t) (ch:=[]) un hok bare (λ b z=>absurd z BT),r,q⟩
end
noncomputable def vi(sp:Sp)(dvs:List V)(E:XK)(t:TA):TE:=λ σ H Q=>t σ H λ vs H1=>sp (vs++dvs) H1 Q E
noncomputable def Binds(K:FG)(fd:FuncData)(ps:List Str)(ds:LV):Prop :=
 ∀(s:Shared) (us:LV),K.In s.heap->(us++ds).length=ps.length->BindsTo s fd ⟨us,[]⟩ (ps.zip (us++ds))
def Binds.all{K:FG}{ps:List Str}(h:∀us:LV,us.length=ps.length->bindArgs fd ⟨us,[]⟩=pure (ps.zip us)):Binds K fd ps []:=λ s us _ hl=>by
 rw[eT] at hl ⊢;exact .of_eq (h us hl)
noncomputable def ly(CX:CXT)(X:Cx)(E:XK):Prop:=∀(pins:LO) (σ:St) (H:Hp) (s:Shared) (e:Value) (s':Shared),Inv X pins σ H s->CX X.stack H s E e s'->X.xe e s'
section
variable {CX:CXT}{k:Nat}{f C:Addr}{fd:FuncData}{ps:List Str}{sp:Sp}{dvs:List V}{ds:LV}{E:XK}{x m:Str}{p pos apos:Pos}{e o:Expr}{es:List Expr}{ta:TE}{t:TA}
theorem Dx{vs:List V}(F:FnOk X.prog X.w X.K X.mg X.base CX k f fd ps sp)(hr:Room k X.A)(hb:Binds X.K fd ps ds)(hd:Vals dvs ds)(hx:ly CX X E)
  (I:Inv X pins σ H s) (r:Vals vs us) (h:sp (vs++dvs) H Q E):wpAny (model X.prog X.w) X.A (call (.ref f) us) (EP X pins σ Q) X.xe s:=by
 have r2:Vals (vs++dvs) (us++ds):=r.append hd;have hl:(us++ds).length=ps.length:=by rw[<- r2.length];exact F.len _ _ _ _ h
 refine s1w (gE (F.run X.A X.stack s H ⟨us,[]⟩ (us++ds) (vs++dvs) Q E hr I.env0 (hb s us I.kIn hl) r2 h) λ r s' hq=>?_)
 cases r with
 |error e=>exact hx pins σ H s e s' I hq
 |ok fl=>
  cases fl with
  |ret u=>exact I.after hq
  |next=>exact False.elim hq
  |brk=>exact False.elim hq
  |cont=>exact False.elim hq
theorem Dy(F:FnOk X.prog X.w X.K X.mg X.base CX k f fd ps sp)(hr:Room k X.A)(hg:Gl X x)(hm:X.mg x=some (.ref f))(hk:W.keepIn X.K (.ref f)=true)(hb:Binds X.K fd ps ds)(hd:Vals dvs ds)(hx:ly CX X E)
  (ha:PA X (e::es) t) (hdb:(x == ("__debug__" : Str))=false:=by decide) (he:starEach (e::es) X.env=(false,eval e X.env)::starEach es X.env:=by rfl) (hpl:(backTo pos (starEach es X.env)).any (·.1)=false:=by rfl) :
  PE X (.Call (.Name x p) (e::es) [] pos) (vi sp dvs E t):=by
 intro pins s σ H Q I h;refine jM (iS I hg hm ?_ hdb);refine s3w (h₀:=X.base) I.ok.mod.kin hk (thn (ha pos pins s σ H _ I h) λ us s1 ⟨vs,H1,I1,r,q⟩=>⟨I1.kIn,?_⟩) he hpl;exact Dx F hr hb hd hx I1 r q
end
section
variable {CX:CXT}{k:Nat}{f C:Addr}{fd:FuncData}{ps ks:List Str}{sp:Sp}{E:XK}{x m:Str}{p pos apos kpos:Pos}{e o:Expr}{es:List Expr}{kws:List Keyword}{te ta:TE}{t tk:TA}{nm:Option Str}
variable {g:LV->LV->LV}{gV:List V->List V->List V}
end
structure FnScope (N P:List Str)(sc:Scope):Prop where
 kind:sc.kind=.function
 co:sc.isCoroutine=false
 gen:sc.isGenerator=false
 nd:N.Nodup
 pre:N.take P.length=P
 par:∀x∈P,sc.names.lookup x=some .local\/sc.names.lookup x=some .cell
 nofree:∀y∈sc.names,y.2≠.free
theorem vj{kindOf:Str->Option NameKind}{x:Str}:∀ {binds:List (Str×Value)}{m:SV},(∀v,(x,v) ∉ binds)->bindL kindOf binds m x=m x
 |[],_,_=>rfl
 |(n,v)::r,m,h=>by
  unfold bindL;rw[vj λ w hw=>h w (bO _ hw)];split
  ·have:x≠n:=by rintro rfl;exact h v bJ
   simp[this]
  ·rfl
theorem vk{kindOf:Str->Option NameKind}{x:Str}:∀ {binds:List (Str×Value)}{m:SV},(∀v,(x,v) ∉ binds)->bindC kindOf binds m x=m x
 |[],_,_=>rfl
 |(n,v)::r,m,h=>by
  unfold bindC;rw[vk λ w hw=>h w (bO _ hw)];split
  ·rfl
  ·have:x≠n:=by rintro rfl;exact h v bJ
   simp[this]
theorem vm{kindOf:Str->Option NameKind}:∀ {P:List Str}{vs:LV}{i:Nat}{m:SV},P.Nodup->P[i]?=some x->vs[i]?=some v->kindOf x=some .local ->
  bindL kindOf (P.zip vs) m x=some v
 |[],_,_,_,_,h,_,_=>by simp at h
 |_::_,[],_,_,_,_,h,_=>by simp at h
 |p::P,w::vs,0,m,nd,h1,h2,hk=>by
  simp at h1 h2;subst h1;subst h2;show bindL kindOf ((p,w)::P.zip vs) m p=_;unfold bindL;rw[vj λ v hv=>(lA.mp nd).1 (nP hv).1,if_pos hk];simp
 |p::P,w::vs,i+1,m,nd,h1,h2,hk=>by
  show bindL kindOf ((p,w)::P.zip vs) m x=_;unfold bindL;exact vm (i:=i) (lA.mp nd).2 (by simpa using h1) (by simpa using h2) hk
theorem vn{kindOf:Str->Option NameKind}:∀ {P:List Str}{vs:LV}{i:Nat}{m:SV},P.Nodup->P[i]?=some x->vs[i]?=some v->kindOf x≠some .local ->
  bindC kindOf (P.zip vs) m x=some v
 |[],_,_,_,_,h,_,_=>by simp at h
 |_::_,[],_,_,_,_,h,_=>by simp at h
 |p::P,w::vs,0,m,nd,h1,h2,hk=>by
  simp at h1 h2;subst h1;subst h2;show bindC kindOf ((p,w)::P.zip vs) m p=_;unfold bindC;rw[vk λ v hv=>(lA.mp nd).1 (nP hv).1,if_neg hk];simp
 |p::P,w::vs,i+1,m,nd,h1,h2,hk=>by
  show bindC kindOf ((p,w)::P.zip vs) m x=_;unfold bindC;exact vn (i:=i) (lA.mp nd).2 (by simpa using h1) (by simpa using h2) hk
noncomputable def start(N:List Str)(vs:List V):St:=vs.map some++List.replicate (N.length-vs.length) none
noncomputable def cU(CX:CXT)(P:Program)(w:World)(K:FG)(mg:SV)(base:Heap)(N:List Str)(qual:Str)(scope:Scope)(f:Addr)(cd:Value)(A:Around)(outer:List Env)(s:Shared)(H:Hp)(E:XK):Cx where
 prog:=P
 w:=w
 K:=K
 mg:=mg
 base:=base
 A:=A.deeper (envOfC qual scope s.heap.objs.size f cd)
 N:=N
 s₀:=s
 H₀:=H
 env:=envOfC qual scope s.heap.objs.size f cd
 outer:=outer
 stack:=envOfC qual scope s.heap.objs.size f cd::outer
 ex:=[]
 calm:=true
 fn:=λ _=>true
 pn:=[]
 xe:=λ e s'=>wpAny (model P w) (A.deeper (envOfC qual scope s.heap.objs.size f cd)) (leaving (envOfC qual scope s.heap.objs.size f cd) e) (λ _ s''=>CX outer H s E e s'') (λ e' s''=>CX outer H s E e' s'') s'
def vo{sc:Scope}(h:sc.names.lookup x=some .cell):∃c,(cellsFrom n sc.names []).lookup x=some c:=by
 have q:=W.cellsFrom_some sc.names n [] (.inl h);exact vp.mp q
theorem Dz{K:FG}{A:Around}{s s1:Shared}{vs:List V}
  (S:FnScope N ps scope) (hd:A.handled=none) (e0:Env0 P w K mg base A outer s H) (hl:vs.length=ps.length) (r:Vals vs us)
  (x:InCallC s s.heap.objs.size (bindL (envOfC qual scope s.heap.objs.size f cd).kindOf (ps.zip us) λ _=>none) (cellsFrom (s.heap.objs.size+1) scope.names []) (bindC (envOfC qual scope s.heap.objs.size f cd).kindOf (ps.zip us) λ _=>none) s1) :
  Inv (cU CX P w K mg base N qual scope f cd A outer s H E) [] (start N vs) H s1:=by
 have hpl:ps.length<=N.length:=by have:=bu List.length S.pre;rw[aY] at this;lia
 obtain⟨h1,tk,rfl,hk⟩:=x.done;have noA:∀b:Addr,b ∉ (cU CX P w K mg base N qual scope f cd A outer s H E).ex:=λ b z=>absurd (show b∈([]:List Addr) from z) BT
 refine⟨⟨e0.mod,S.kind,fu,fu,aj _,λ y z c h1 h2=>?_,λ y hy=>?_,λ y c _ h=>?_,λ _=>hd,Around.frames_deeper e0.frames,.inr ⟨fu,fu⟩,λ b z=>absurd z (noA b),e0.bs,e0.bsz,λ b _ _=>noA b,λ b z=>absurd z (noA b),e0.funs,e0.frf⟩,
  rfl,e0.bare,Un.kept hk,⟨_,x.toInCall.ns,λ i y v h1 h2 h3=>?_⟩,λ y c h=>⟨_,x.cell y c h⟩,e0.hok.fresh (aj _),λ y c h=>?_,λ p hp=>absurd (show p∈([]:LO) from hp) BT,e0.hok.kept hk,?_⟩
 ·exact name_of_addr x.apart (lC h1) (lC h2)
 ·have hy:scope.names.lookup y=some .cell\/scope.names.lookup y=some .free:=hy
  rcases hy with hy|hy
  ·exact vo hy
  ·exact absurd rfl (S.nofree _ (lC hy))
 ·exact cu (x.above y c (lC h))
 ·have hi:i<vs.length:=by
   unfold start at h2;by_cases hi:i<vs.length
   ·exact hi
   ·rw[dY (by simpa using hi)] at h2;rw[lD] at h2;split at h2<;>cases h2
  have ha:vs[i]?=some v:=by
   unfold start at h2;rw[dZ (by simpa using hi),bc] at h2
   cases e:vs[i]? with
   |none=>rw[e] at h2;cases h2
   |some a=>rw[e] at h2;cases h2;rfl
  obtain⟨u,hu,rv⟩:=r.get ha
  have hp:ps[i]?=some y:=by
   rw[<- S.pre,qD on];exact h1
  have ndP:ps.Nodup:=by rw[<- S.pre];exact S.nd.sublist (List.take_sublist _ _)
  refine⟨u,rv,?_⟩
  rcases S.par y (aK hp) with k|k
  ·exact .inl ⟨k,vm ndP hp hu k⟩
  ·obtain⟨c,e⟩:=vo (n:=s.heap.objs.size+1) k;refine .inr ⟨.inl k,c,e,?_⟩;have q:=x.cell y c e;rw[vn ndP hp hu (by show scope.names.lookup y≠_;rw[k];decide)] at q;exact q
 ·exact e0.hok.fresh (cu (x.above y c (lC h)))
 ·unfold start;show _=N.length;rw[aR,aq,jN];lia
theorem vq{K:FG}{dV kV doc pm cdv ct oc:Value}{an od:OA}
  {osl:AV}{sp:Sp}(lk:K.lookup f=some ⟨oc,od,.func (W.fnOf name qual params body scope dV kV doc pm an cdv ct),osl⟩) (hcd:W.codeIn K cdv qual=true) (S:FnScope N ps scope)
  (len:∀vs H Q E,sp vs H Q E->vs.length=ps.length)
  (hbody:∀(A:Around) (outer:List Env) (s:Shared) (H:Hp) (vs:List V) (Q:VK) (E:XK),Room k (A.deeper (envOfC qual scope s.heap.objs.size f cdv))->sp vs H Q E ->
   ∃t,PSs (cU CX P w K mg base N qual scope f cdv A outer s H E) body t/\t { nx:=λ _ H'=>Q .non H',rt:=Q } (start N vs) H) :
  FnOk P w K mg base CX (k+1) f (W.fnOf name qual params body scope dV kV doc pm an cdv ct) ps sp:=by
 refine⟨len,λ A outer s H args us vs Q E hr e0 hb r hsp=>?_⟩;have hl:=len _ _ _ _ hsp;have KX:K.In s.heap:=e0.mod.kin.keeps λ b o e=>(e0.bs b o e).1;have lim:s.heap.NoLimit:=e0.mod.nolimit.keeps λ b o e=>(e0.bs b o e).1
 have hkind:∀y∈ps.zip us,scope.names.lookup y.1=some .local\/(scope.names.lookup y.1=some .cell/\((cellsFrom (s.heap.objs.size+1) scope.names []).lookup y.1).isSome=true):=λ⟨n,v⟩ hy=>by
  rcases S.par n (nP hy).1 with q|q
  ·exact .inl q
  ·exact .inr ⟨q,W.cellsFrom_some _ _ _ (.inl q)⟩
 refine codeAny_call_function hr.depth (KX _ _ lk) rfl S.co S.gen rfl (W.codeRec_of KX hcd) (hb _ _ _ _ ?_);refine wpAny_newFunctionEnv_cells S.kind hkind λ env he s1 x=>?_;subst he;refine⟨lim.keeps x.toInCall.keep,codeAny_func ?_⟩;obtain⟨t,ht,hq⟩:=hbody A outer s H vs Q E (hr.deeper _) hsp;have I:Inv (cU CX P w K mg base N qual scope f cdv A outer s H E) [] (start N vs) H s1:=Dz S hr.hd e0 hl r x;refine bV (ht [] s1 (start N vs) H _ I hq) (λ fl s' hs=>?_) λ e s' hs=>hs
 have fin:∀ {σ':St}{H':Hp}{v:V}{u:Value},Inv (cU CX P w K mg base N qual scope f cdv A outer s H E) [] σ' H' s'->RelV v u->Q v H'->CE outer P w H s Q u s' :=
  λ {σ' H' v u} J rv q=>⟨v,H',J.os,J.bare,J.base,J.hok,rv,q⟩
 cases fl with
 |ret u=>
  obtain⟨v,σ',H',J,rv,q⟩:=hs;exact fin J rv q
 |next=>
  obtain⟨σ',H',J,q⟩:=hs;exact fin (v:=V.non) (u:=Value.none) J rfl q
 |brk=>
  obtain⟨_,_,_,q⟩:=hs;exact False.elim q
 |cont=>
  obtain⟨_,_,_,q⟩:=hs;exact False.elim q
section
variable {x:Str}{p pos:Pos}{e:Expr}{es:List Expr}{t:TA}{id T:String}{r:List V->Hp->VK->Prop}
noncomputable def tCB(r:List V->Hp->VK->Prop)(t:TA):TE:=λ σ H Q=>t σ H λ vs H1=>r vs H1 Q
theorem nQ(hc:bo X (.builtin id) r)(hg:Gl X x)(hm:X.mg x=none)(hv:bootBuiltins x=some (.builtin id))(ha:PA X (e::es) t)(hn:x ≠ "__name__" := by decide)(hdb:(x == ("__debug__" : Str))=false:=by decide)
  (he:starEach (e::es) X.env=(false,eval e X.env)::starEach es X.env:=by rfl) (hpl:(backTo pos (starEach es X.env)).any (·.1)=false:=by rfl):PE X (.Call (.Name x p) (e::es) [] pos) (tCB r t):=by
 intro pins s σ H Q I h;refine jM (dD I hg hm hv ?_ hn hdb);exact PyProof.Rows.callWith_builtin1 (thn (ha pos pins s σ H _ I h) λ us s1 ⟨vs,H1,I1,r1,q1⟩=>hc pins s1 σ H1 vs us Q I1 r1 q1) he hpl
theorem jO(hc:bo X (.type T) r)(hg:Gl X x)(hm:X.mg x=none)(hv:bootBuiltins x=some (.type T))(ha:PA X (e::es) t)(hn:x ≠ "__name__" := by decide)(hdb:(x == ("__debug__" : Str))=false:=by decide)
  (he:starEach (e::es) X.env=(false,eval e X.env)::starEach es X.env:=by rfl) (hpl:(backTo pos (starEach es X.env)).any (·.1)=false:=by rfl):PE X (.Call (.Name x p) (e::es) [] pos) (tCB r t):=by
 intro pins s σ H Q I h;refine jM (dD I hg hm hv ?_ hn hdb);exact gC (thn (ha pos pins s σ H _ I h) λ us s1 ⟨vs,H1,I1,r1,q1⟩=>hc pins s1 σ H1 vs us Q I1 r1 q1) he hpl
end
end _L
namespace _H
open PySem PyProof.Rows
section
open PySem.SeqAt
open PySem.AutoSeq1 (wpAny_loadPart')
open PySem.MeetsSeq PySem.MeetsSeq2 PySem.MeetsSeq3
end
section
variable {prog:Program}{w:World}{A:Around}{E:VS}{s:Shared}
theorem cat_tup{vs ws:LV}{Q:VS}(ht:IsTup s.heap t vs.toArray)(hb:IsTup s.heap b ws.toArray)(hv:vs≠[])
  (h1:ws=[]->Q (.ref t) s) (h2:ws≠[]->Q (.ref s.heap.objs.size) { s with heap:=s.heap.push { cls:=.type "tuple",data:=.seq (vs++ws).toArray } })
  (hsz:vs.length+ws.length<=sizeLine):wpAny (model prog w) A (binaryOp .Add (.ref t) (.ref b)) Q E s:=by
 obtain⟨⟨cls,dd,data,sl⟩,ho,hc,n,hd⟩:=id ht;obtain⟨⟨cls2,dd2,data2,sl2⟩,ho2,hc2,n2,hd2⟩:=id hb;simp only at hc hd hc2 hd2;subst hc hd hc2 hd2;have e:vs.toArray++ws.toArray=(vs++ws).toArray:=BT;by_cases hw:ws=[]
 ·exact s1b ⟨_,ho,fu⟩ ⟨_,ho2,fu⟩ s0o s3b qE qF (qG _ _)
   (tuple_addW1 t b vs.toArray ws.toArray n n2 dd dd2 sl sl2 (by simpa using hv) (by simp[hw])) ⟨ho,ho2,h1 hw⟩
 ·refine s1b ⟨_,ho,fu⟩ ⟨_,ho2,fu⟩ s0o s3b qE qF (qG _ _)
   (tuple_addW2 t b vs.toArray ws.toArray n n2 dd dd2 sl sl2 (by simpa using hv) (by simpa using hw) (by rw[aM,aM];exact hsz)) ⟨ho,ho2,?_⟩
  rw[e];exact h2 hw
noncomputable def sIx(n d:Nat):Option Int->Nat
 |none=>d
 |some v=>if v<0 then (v+(n:Int)).toNat else min v.toNat n
def DA(n d:Nat)(hd:d<=n)(o:Option Int):sIx n d o<=n:=by
 cases o with
 |none=>exact hd
 |some v=>
  show(if v<0 then (v+(n:Int)).toNat else min v.toNat n)<=n;by_cases hv:v<0
  ·rw[if_pos hv];lia
  ·rw[if_neg hv];exact Nat.min_le_right _ _
def vt(v:Int)(n d:Nat):(if v<0 then max (v+(n:Int)) 0 else min v (n:Int))=((sIx n d (some v):Nat):Int):=by
 show(if v<0 then max (v+(n:Int)) 0 else min v (n:Int))=(((if v<0 then (v+(n:Int)).toNat else min v.toNat n):Nat):Int);by_cases hv:v<0
 ·simp only[if_pos hv];lia
 ·simp only[if_neg hv];lia
def DB(lo hi:Option Int)(n:Nat):Builtin.Slice.sliceAdjust lo hi 1 (n:Int)=(((sIx n 0 lo:Nat):Int),((sIx n n hi:Nat):Int)):=by
 have h1:¬((1:Int)<0):=on;unfold Builtin.Slice.sliceAdjust;simp only[h1,s0e];refine Prod.ext ?_ ?_
 ·cases lo with
  |none=>rfl
  |some v=>exact vt v n 0
 ·cases hi with
  |none=>rfl
  |some v=>exact vt v n n
def DC(i j:Nat):Builtin.Slice.slicePlaces (i:Int) (j:Int) 1=j-i:=by
 unfold Builtin.Slice.slicePlaces;have h1:(1:Int) > 0:=on;simp only[h1,ef,s1c];split<;>lia
def vv{Q:Option Int->Shared->Prop}(p:IsPart v o)(h:Q o s):wpAny (model prog w) A (Builtin.Slice.slicePartIndex v) Q E s:=by
 cases p with
 |none=>exact slicePart_none h
 |int i t=>exact slicePart_int h
theorem vx{lo hi:Option Int}{Q:Int×Int×Nat->Shared->Prop}(hs:s.heap.IsSliceOf sl vl vu .none)(pl:IsPart vl lo)(pu:IsPart vu hi)
  (h:Q (((sIx n 0 lo:Nat):Int),1,sIx n n hi-sIx n 0 lo) s):wpAny (model prog w) A (Builtin.Slice.sliceApplied (.ref sl) (pure (n:Int))) Q E s:=by
 obtain⟨os,hos,hcs,hds⟩:=id hs;unfold Builtin.Slice.sliceApplied Builtin.Slice.sliceFields;refine ae (ae (cH hos hds (x:=vl) rfl (ae (cH hos hds (x:=vu) rfl (ae (cH hos hds (x:=.none) rfl (ah ?_)))))));refine ae (slicePart_none ?_);show wpAny _ _ (if ((1:Int) == 0)=true then _ else _) _ _ s;rw[if_neg pv];refine ae (vv pl (ae (vv pu (ae (ah ?_)))));show wpAny _ _ (match Builtin.Slice.sliceAdjust lo hi 1 (n:Int) with|(lo,hi)=>pure (lo,(1:Int),Builtin.Slice.slicePlaces lo hi 1)) _ _ s;rw[DB lo hi n];show wpAny _ _ (pure (((sIx n 0 lo:Nat):Int),(1:Int),Builtin.Slice.slicePlaces ((sIx n 0 lo:Nat):Int) ((sIx n n hi:Nat):Int) 1)) _ _ s;rw[DC];exact ah h
def DD(xs:Array Value)(i k:Nat):((List.range k).filterMap λ(m:Nat)=>xs[((i:Int)+(m:Int)*1).toNat]?).toArray=((xs.toList.drop i).take k).toArray:=by
 have e:(λ(m:Nat)=>xs[((i:Int)+(m:Int)*1).toNat]?)=λ m=>xs[i+m]?:=by
  funext m;have:((i:Int)+(m:Int)*1).toNat=i+m:=on;rw[this]
 rw[e];have:=pick_run xs i k;rw[s3c] at this;have e2:((λ x=>xs[x]?) ∘ λ x=>i+x)=λ m=>xs[i+m]?:=rfl;rw[e2] at this;rw[this]
theorem getItem_tuple_cut{lo hi:Option Int}{Q:VS}(ht:IsTup s.heap t items)(hs:s.heap.IsSliceOf sl vl vu .none)(pl:IsPart vl lo)(pu:IsPart vu hi)
  (hw:¬(sIx items.size 0 lo=0/\sIx items.size items.size hi=items.size))
  (h:Q (.ref s.heap.objs.size) { s with heap:=s.heap.push { cls:=.type "tuple",data:=.seq ((items.toList.drop (sIx items.size 0 lo)).take (sIx items.size items.size hi-sIx items.size 0 lo)).toArray } })
  (hsz:items.size<=sizeLine):wpAny (model prog w) A (getItem (.ref t) (.ref sl)) Q E s:=by
 have htake:sizeOk (.seq ((items.toList.drop (sIx items.size 0 lo)).take (sIx items.size items.size hi-sIx items.size 0 lo)).toArray):=by
  show((items.toList.drop (sIx items.size 0 lo)).take (sIx items.size items.size hi-sIx items.size 0 lo)).toArray.size<=sizeLine;rw[aM,aY,db,Array.length_toList];omega
 have hj:sIx items.size items.size hi<=items.size:=DA _ _ (aj _) hi;obtain⟨os,hos,hcs,hds⟩:=id hs;have hTs:s.TypeIs (.ref sl) "slice" := ⟨os,hos,hcs⟩;unfold getItem;try with_reducible refine bv ?_
 first|refine ae (ah ?_)|skip
 refine ae (wpAny_sequenceKey ht.typeIs pv ?_)
 refine ae (im (name:=Str.ofString "__getitem__") ht.typeIs nR
  (dc nR ht.typeIs s2p ?_ (s3d _ _)))
 show wpAny _ _ (Builtin.Tuple.tupleItemsOf (.ref t) >>= _) _ _ s;refine ae (tupleItemsOf_ ht ?_);refine ae (eo hTs ?_);rw[if_pos pv];refine ae (vx hs pl pu ?_)
 have hno:¬((((sIx items.size 0 lo:Nat):Int) == 0&&(1:Int) == 1&&(sIx items.size items.size hi-sIx items.size 0 lo) == items.size)=true):=by
  intro q;rw[bg,bg] at q;have q1:((sIx items.size 0 lo:Nat):Int)=0:=eq_of_beq q.1.1;have q2:sIx items.size items.size hi-sIx items.size 0 lo=items.size:=eq_of_beq q.2;exact hw ⟨by omega,by omega⟩
 show wpAny _ _ (if (((sIx items.size 0 lo:Nat):Int) == 0&&(1:Int) == 1&&(sIx items.size items.size hi-sIx items.size 0 lo) == items.size)=true then _ else _) _ _ s;rw[if_neg hno,DD]
 first
  |exact ae (m:=Builtin.Tuple.tupleExact _) (cn (ah ⟨_,rfl,ah h⟩) htake)
  |exact ae (m:=Builtin.Tuple.tupleExact _) (cn (ae (ah (ah ⟨_,rfl,ah h⟩))) htake)
  |exact ae (ae (m:=Builtin.Tuple.tupleExact _) (cn (ah (ah ⟨_,rfl,ah h⟩)) htake))
  |exact ae (ae (m:=Builtin.Tuple.tupleExact _) (cn (ah ⟨_,rfl,ah h⟩) htake))
end
end _H
namespace _L
open PySem PySem.Spec PyProof.Rows
abbrev TO:=St->Hp->(Option Int->Hp->Prop)->Prop
noncomputable def PO(X:Cx)(e:Option Expr)(t:TO):Prop :=
 ∀(pins:LO) (s:Shared) (σ:St) (H:Hp) (Q:Option Int->Hp->Prop),Inv X pins σ H s->t σ H Q ->
  wpAny (model X.prog X.w) X.A (evalPart e X.env) (λ u s'=>∃o H',Inv X pins σ H' s'/\IsPart u o/\Q o H') X.xe s
def DE:TO:=λ _ H Q=>Q none H
def iU{ns:LI}:∀ {us:LV},Vals (ns.map V.int) us->IntsAre us ns:=by
 induction ns with
 |nil=>intro us r;rw[s3x] at r;cases r;exact .nil
 |cons n ns ih=>
  intro us r;rw[bw] at r
  cases r with
  |cons r1 r2=>
   obtain⟨t,e⟩:=r1;subst e;exact .cons n t (ih r2)
variable {X:Cx}
section
variable {e:Expr}{te:TE}{lo hi:Option Expr}{tl th:TO}{pos p2:Pos}
def DF:PO X none DE:=by
 intro pins s σ H Q I h;rw[evalPart_none];exact ah ⟨none,H,I,.none,h⟩
noncomputable def SlR(X:Cx)(r:V->Option Int->Option Int->Hp->VK->Prop):Prop :=
 ∀(pins:LO) (s:Shared) (σ:St) (H:Hp) (x:V) (v vl vu:Value) (lo hi:Option Int) (sl:Addr) (Q:VK),Inv X pins σ H s->RelV x v->s.heap.IsSliceOf sl vl vu .none->IsPart vl lo->IsPart vu hi->r x lo hi H Q ->
  ∃T id,typeLookup (.type T) "__getitem__"=pure (some (.builtin id))/\s.TypeIs v T/\wpAny (model X.prog X.w) X.A (getItem v (.ref sl)) (EP X pins σ Q) X.xe s
noncomputable def tSl(r:V->Option Int->Option Int->Hp->VK->Prop)(te:TE)(tl th:TO):TE:=λ σ H Q=>te σ H λ x H1=>tl σ H1 λ l H2=>th σ H2 λ u H3=>r x l u H3 Q
def DG(hr:SlR X r)(he:PE X e te)(hl:PO X lo tl)(hu:PO X hi th):PE X (.Subscript e (.Slice lo hi none p2) pos) (tSl r te tl th):=by
 intro pins s σ H Q I h;refine Subscript_ (thn (he pins s σ H _ I h) λ v s1 ⟨x,H1,I1,r1,q1⟩=>?_);refine wpAny_Slice (thn (hl pins s1 σ H1 _ I1 q1) λ vl s2 ⟨l,H2,I2,pl,q2⟩=>thn (hu pins s2 σ H2 _ I2 q2) λ vu s3 ⟨u,H3,I3,pu,q3⟩=>?_);rw[evalPart_none];refine ah ?_;have I4:Inv X pins σ H3 { s3 with heap:=s3.heap.push { cls:=.type "slice",data:=.fields #[vl,vu,.none] } }:=I3.kept (t':=s3.toks) λ b ob q=>ay _ q;obtain⟨T,id,hT,ht,hg⟩:=hr pins { s3 with heap:=s3.heap.push { cls:=.type "slice",data:=.fields #[vl,vu,.none] } } σ H3 x v vl vu l u s3.heap.objs.size Q I4 r1 (Heap.IsSliceOf.new ..) pl pu q3;show wpAny (model X.prog X.w) X.A (subscriptTail e (.Slice lo hi none p2) v (.ref s3.heap.objs.size)) (EP X pins σ Q) X.xe { s3 with heap:=s3.heap.push { cls:=.type "slice",data:=.fields #[vl,vu,.none] } };exact tail_any (ops:=[.ref s3.heap.objs.size,v]) ht hT hg (by with_unfolding_all rfl)
noncomputable def gF(xs:List V)(lo hi:Option Int):List V:=(xs.drop (_H.sIx xs.length 0 lo)).take (_H.sIx xs.length xs.length hi-_H.sIx xs.length 0 lo)
def vy(xs:List V)(lo hi:Option Int):(gF xs lo hi).length<=xs.length:=by
 unfold gF;rw[aY,db];lia
noncomputable def DH(K:FG):V->Option Int->Option Int->Hp->VK->Prop:=λ x lo hi H Q=>∃a xs,x=.ref a/\SqT K H a xs /\
 ¬(_H.sIx xs.length 0 lo=0/\_H.sIx xs.length xs.length hi=xs.length)/\∀p,H p=none->Q (.ref p) (upd H p (.tup (gF xs lo hi)))
def DI:SlR X (DH X.K):=by
 intro pins s σ H x v vl vu lo hi sl Q I rx hs pl pu h;obtain⟨a,xs,rfl,hx,hw,q⟩:=h;cases rx;obtain⟨its,r,ht,hz⟩:=I.tuple hx;have hlen:its.toArray.size=xs.length:=by rw[aM];exact r.length.symm
 refine⟨"tuple",_,PyProof.Rows.slot_tuple_getitem.lookup,ht.typeIs,?_⟩;refine _H.getItem_tuple_cut ht hs pl pu (by rw[hlen];exact hw) ?_ (by rw[hlen];exact hz);rw[hlen];refine⟨.ref s.heap.objs.size,_,I.laid (t':=s.toks) (o:=.tup (gF xs lo hi)) (λ b ob q=>ay _ q) (aj _) ?_,fu,q _ (I.hok.fresh (aj _))⟩;exact⟨bH (vy xs lo hi) hz,_,(r.drop (_H.sIx xs.length 0 lo)).take (_H.sIx xs.length xs.length hi-_H.sIx xs.length 0 lo),TupO.new _ _⟩
noncomputable def DJ(K:FG):R2:=λ x y H Q=>∃a b xs ys,x=.ref a/\y=.ref b/\SqT K H a xs/\SqT K H b ys/\xs≠[]/\xs.length+ys.length<=sizeLine /\
 (ys=[]->Q (.ref a) H)/\(ys≠[]->∀p,H p=none->Q (.ref p) (upd H p (.tup (xs++ys))))
def Vals.nil_iff(r:Vals xs us):us=[] ↔ xs=[]:=by
 cases r with
 |nil=>simp
 |cons _ _=>simp
def DK:OpR X (binaryOp .Add) (DJ X.K):=by
 intro pins s σ H x y v u Q I rx ry h;obtain⟨a,b,xs,ys,rfl,rfl,ha,hb,hx,hz,q1,q2⟩:=h;cases rx;cases ry;obtain⟨its,r1,p1,_⟩:=I.tuple ha;obtain⟨its2,r2,p2,_⟩:=I.tuple hb;refine _H.cat_tup p1 p2 (λ z=>hx (r1.nil_iff.mp z)) (λ z=>⟨.ref a,H,I,fu,q1 (r2.nil_iff.mp z)⟩) (λ z=>?_) (by rw[<- r1.length,<- r2.length];exact hz);refine⟨.ref s.heap.objs.size,_,I.laid (t':=s.toks) (o:=.tup (xs++ys)) (λ b ob q=>ay _ q) (aj _) ?_,fu,q2 (λ w=>z (r2.nil_iff.mpr w)) _ (I.hok.fresh (aj _))⟩;exact⟨by rw[aR];exact hz,_,r1.append r2,TupO.new _ _⟩
end
noncomputable def ixN(n:Nat)(i:Int):Option Nat:=if 0<=i then (if i<n then some i.toNat else none) else if -(n:Int)<=i then some (i+n).toNat else none
noncomputable def atI{α:Type}(xs:List α)(i:Int):Option α:=(ixN xs.length i).bind λ j=>xs[j]?
def vz(h:ixN n i=some j):seqIndex? i n=some j/\j<n/\-(n:Int)<=i/\i<n:=by
 unfold ixN at h;by_cases h0:0<=i
 ·rw[if_pos h0] at h;by_cases h1:i<n
  ·rw[if_pos h1] at h;have e:i.toNat=j:=cv h;exact⟨by rw[s4g h0 h1,e],on,on,h1⟩
  ·rw[if_neg h1] at h;cases h
 ·rw[if_neg h0] at h;by_cases h1:-(n:Int)<=i
  ·rw[if_pos h1] at h;have e:(i+n).toNat=j:=cv h;exact⟨by rw[s3y on h1,e],on,h1,on⟩
  ·rw[if_neg h1] at h;cases h
def qH{α:Type}{xs:List α}{v:α}(h:atI xs i=some v):∃j,seqIndex? i xs.length=some j/\xs[j]?=some v/\j<xs.length/\-(xs.length:Int)<=i/\i<xs.length:=by
 unfold atI at h
 cases e:ixN xs.length i with
 |none=>rw[e] at h;cases h
 |some j=>
  rw[e] at h;obtain⟨h1,h2,h3,h4⟩:=vz e;exact⟨j,h1,h,h2,h3,h4⟩
def lE{α:Type}{xs:List α}{j:Nat}{v:α}(h:xs[j]?=some v):atI xs (j:Int)=some v:=by
 have hj:j<xs.length:=(br.mp h).1
 have e:ixN xs.length (j:Int)=some j:=by
  unfold ixN;rw[if_pos on,if_pos on];simp
 unfold atI;rw[e];exact h
noncomputable def vA(b:Expr):Prop:=∀o i,subscripted b false o i=operate [o,i] (getItem o i)
noncomputable def IxR(X:Cx)(r:R2):Prop :=
 ∀(value slice:Expr) (pins:LO) (s:Shared) (σ:St) (H:Hp) (x y:V) (v u:Value) (Q:VK),Inv X pins σ H s->RelV x v->RelV y u->r x y H Q ->
  subscripted slice false v u=operate [v,u] (getItem v u)->wpAny (model X.prog X.w) X.A (subscriptTail value slice v u) (EP X pins σ Q) X.xe s
noncomputable def MtR(X:Cx)(id:String)(r:V->List V->Hp->VK->Prop):Prop :=
 ∀(pins:LO) (s:Shared) (σ:St) (H:Hp) (x:V) (xs:List V) (v:Value) (us:LV) (Q:VK),Inv X pins σ H s->RelV x v->Vals xs us->r x xs H Q ->
  wpAny (model X.prog X.w) X.A (call (.builtin id) (v::us)) (EP X pins σ Q) X.xe s
section
variable {a b:Expr}{ta tb:TE}{pos:Pos}
def IxR.or(h:IxR X r)(h':IxR X r'):IxR X (λ x y H Q=>r x y H Q\/r' x y H Q):=by
 intro value slice pins s σ H x y v u Q I rx ry q hs
 rcases q with q|q
 ·exact h value slice pins s σ H x y v u Q I rx ry q hs
 ·exact h' value slice pins s σ H x y v u Q I rx ry q hs
def DM(hr:IxR X r)(ha:PE X a ta)(hb:PE X b tb)(hs:vA b):PE X (.Subscript a b pos) (tOp r ta tb):=by
 intro pins s σ H Q I h;exact Subscript_ (qA ha hb I h λ v u s2 x y H2 I2 rx ry q=>hr a b pins s2 σ H2 x y v u Q I2 rx ry q (hs _ _))
noncomputable def vB(K:FG):R2:=λ x y H Q=>∃p xs i v,x=.ref p/\y=.int i/\SqL K H p xs/\atI xs i=some v/\Q v H
noncomputable def vC(K:FG):R2:=λ x y H Q=>∃p xs i v,x=.ref p/\y=.int i/\SqT K H p xs/\atI xs i=some v/\Q v H
noncomputable def vD:R2:=λ x y H Q=>∃z i c,x=.str z/\y=.int i/\z.length<=sizeLine/\atI z.cps.toList i=some c/\Q (.str ⟨#[c]⟩) H
def ix_list:IxR X (vB X.K):=by
 intro value slice pins s σ H x y v u Q I rx ry h hs;obtain⟨p,xs,i,z,rfl,rfl,hq,he,q⟩:=h;cases rx;obtain⟨t,rfl⟩:=ry;obtain⟨its,r,pl,hz⟩:=I.list hq;obtain⟨j,h1,h2,h3,h4,h5⟩:=qH he;obtain⟨w,ew,rw'⟩:=r.get h2;have hl:=r.length;have hn:=jK;have fin:EP X pins σ Q w s:=⟨z,H,I,rw',q⟩;by_cases h0:0<=i
 ·have hj:i.toNat=j:=by
   rw[s4g h0 h5] at h1;exact cv h1
  exact item_listR pl.isList h0 on (by rw[hj];simpa using ew) fin hs
 ·have hj:(i+(its.toArray.size:Int)).toNat=j:=by
   rw[s3y on h4] at h1;rw[aM,<- hl];exact cv h1
  exact s0w (x:=w) pl.isList.typeIs slot_list_getitem.lookup
   (wpAny_getItem_list_neg (Q:=λ r s'=>r=w/\EP X pins σ Q r s') pl.isList on (by rw[aM]<;>lia) on (by rw[hj];simpa using ew) ⟨rfl,fin⟩) hs
def ix_tup:IxR X (vC X.K):=by
 intro value slice pins s σ H x y v u Q I rx ry h hs;obtain⟨p,xs,i,z,rfl,rfl,hq,he,q⟩:=h;cases rx;obtain⟨t,rfl⟩:=ry;obtain⟨its,r,pl,hz⟩:=I.tuple hq;obtain⟨j,h1,h2,h3,h4,h5⟩:=qH he;obtain⟨w,ew,rw'⟩:=r.get h2;have hl:=r.length;have hn:=jK;have fin:EP X pins σ Q w s:=⟨z,H,I,rw',q⟩
 exact s0w (x:=w) pl.typeIs slot_tuple_getitem.lookup
  (getItem_tuple (j:=j) (Q:=λ r s'=>r=w/\EP X pins σ Q r s') pl on on (by rw[aM,<- hl];exact h1) (by simpa using ew) ⟨rfl,fin⟩) hs
def DN:IxR X vD:=by
 intro value slice pins s σ H x y v u Q I rx ry h hs;obtain⟨z,i,c,rfl,rfl,hz,he,q⟩:=h;obtain⟨t,rfl⟩:=rx;obtain⟨t',rfl⟩:=ry;obtain⟨j,h1,h2,h3,h4,h5⟩:=qH he;have hl:z.cps.toList.length=z.length:=by simp[Str.length]
 rw[hl] at h1 h4 h5;have hn:=jK
 exact tail_any (typeIs_str s z t) slot_str_getitem.lookup (getItem_str (c:=c) (by
  have e1:decide (i < -(2 ^ 63:Int))=false:=aO on;have e2:decide (i ≥ 2 ^ 63)=false:=aO on
  rw[e1,e2,Bool.or_false]) (by rw[h1];simpa using h2) ⟨.str ⟨#[c]⟩,H,I.tok _,⟨_,rfl⟩,q⟩) hs
noncomputable def rIx(K:FG):R2:=λ x y H Q=>vB K x y H Q\/vC K x y H Q\/vD x y H Q
def qI:IxR X (rIx X.K):=ix_list.or (ix_tup.or DN)
def DO(its:LV)(n j:Nat)(u:Value):Obj.mapSeq (·.setIfInBounds j u) { cls:=.type "list",data:=.seq its.toArray n }={ cls:=.type "list",data:=.seq (its.set j u).toArray n }:=by
 simp[Obj.mapSeq]
theorem Inv.lst(I:Inv X pins σ H s)(h:H p=some (.lst xs)) :
  ∃(its:LV) (n:Nat),Vals xs its/\s.heap.get? p=some { cls:=.type "list",data:=.seq its.toArray n }/\xs.length<=sizeLine:=by
 obtain⟨z,its,n,r,e⟩:=I.hok p _ h;exact⟨its,n,r,e,z⟩
theorem Inv.lstUpd{its its':LV}{f:Obj->Obj}(I:Inv X pins σ H s)(h:H p=some (.lst xs))
  (ho:s.heap.get? p=some { cls:=.type "list",data:=.seq its.toArray n }) (hf:f { cls:=.type "list",data:=.seq its.toArray n }={ cls:=.type "list",data:=.seq its'.toArray n' }) (r:Vals ys its') (hz:ys.length<=sizeLine) (t:Nat) :
  Inv X pins σ (upd H p (.lst ys)) { s with heap:=s.heap.update p f,toks:=t }:=by
 have e:(s.heap.update p f).get? p=some { cls:=.type "list",data:=.seq its'.toArray n' }:=by
  rw[eE f ho (by rw[hf]<;>rfl),hf]
 refine I.write (x:=p) (e:=p) (by rw[h];trivial) (.inl rfl) (λ b u hb q=>(df _ _ (bh hb)).trans q) ⟨_,e⟩ ?_;exact⟨hz,its',n',r,e⟩
noncomputable def DP:V->V->V->Hp->(Hp->Prop)->Prop:=λ o i v H Q=>∃p xs k j,o=.ref p/\i=.int k/\H p=some (.lst xs)/\ixN xs.length k=some j/\Q (upd H p (.lst (xs.set j v)))
def DQ:uU X DP:=by
 intro pins s σ H o i v ov iv u Q I ro ri rv h;obtain⟨p,xs,k,j,rfl,rfl,hp,hj,q⟩:=h;cases ro;obtain⟨t,rfl⟩:=ri;obtain⟨its,n,r,ho,hz⟩:=I.lst hp;obtain⟨h1,h2,h3,h4⟩:=vz hj;have hl:=r.length;have hn:=jK
 have I':Inv X pins σ (upd H p (.lst (xs.set j v))) { s with heap:=s.heap.update p (Obj.mapSeq (·.setIfInBounds j u)) } :=
  I.lstUpd hp ho (DO its n j u) (r.set rv j) (by rw[fG];exact hz) s.toks
 by_cases h0:0<=k
 ·have hk:k.toNat=j:=by
   rw[s4g h0 h4] at h1;exact cv h1
  exact W.ki_setAt ho h0 on (by rw[aM,<- hl];exact h4) (by rw[hk];exact⟨_,I',q⟩)
 ·have hk:(k+(its.toArray.size:Int)).toNat=j:=by
   rw[s3y on h3] at h1;rw[aM,<- hl];exact cv h1
  exact W.ki_setBack ho on (by rw[aM,<- hl];exact h3) on (by rw[hk];exact⟨_,I',q⟩)
def DS(lo hi:Option Int)(n:Nat):(sliceBounds lo hi none n).1=((_H.sIx n 0 lo:Nat):Int)/\(sliceBounds lo hi none n).2.1=((_H.sIx n n hi:Nat):Int)/\(sliceBounds lo hi none n).2.2=1:=by
 refine⟨?_,?_,fu⟩
 ·cases lo with
  |none=>simp[sliceBounds,_H.sIx]
  |some i=>
   simp only[sliceBounds,_H.sIx,Option.getD_none,show(1:Int) > 0 by decide,ef];by_cases h:i<0
   ·simp only[h,ef]<;>lia
   ·simp only[h,s0e]<;>lia
 ·cases hi with
  |none=>simp[sliceBounds,_H.sIx]
  |some i=>
   simp only[sliceBounds,_H.sIx,Option.getD_none,show(1:Int) > 0 by decide,ef];by_cases h:i<0
   ·simp only[h,ef]<;>lia
   ·simp only[h,s0e]<;>lia
def DT(its:LV)(lo hi:Option Int):slicePick its.toArray lo hi none=((its.drop (_H.sIx its.length 0 lo)).take (_H.sIx its.length its.length hi-_H.sIx its.length 0 lo)).toArray:=by
 obtain⟨h1,h2,h3⟩:=DS lo hi its.toArray.size;unfold slicePick;rw[h1,h2,h3];simp only[sliceRange_one,pick_run,aM]<;>rfl
noncomputable def DU(K:FG):V->Option Int->Option Int->Hp->VK->Prop:=λ x lo hi H Q=>∃a xs,x=.ref a/\SqL K H a xs/\∀p,H p=none->Q (.ref p) (upd H p (.lst (gF xs lo hi)))
def DV:SlR X (DU X.K):=by
 intro pins s σ H x v vl vu lo hi sl Q I rx hs pl pu h;obtain⟨a,xs,rfl,hx,q⟩:=h;cases rx;obtain⟨its,r,ht,hz⟩:=I.list hx;have hlen:=r.length;refine⟨"list",_,slot_list_getitem.lookup,ht.isList.typeIs,?_⟩;refine wpAny_getItem_list_slice ht.isList hs pl pu .none BT ?_ (by rw[aM]<;>lia);rw[DT,<- hlen];refine⟨.ref s.heap.objs.size,_,I.laid (t':=s.toks) (o:=.lst (gF xs lo hi)) (λ b ob q=>ay _ q) (aj _) ?_,fu,q _ (I.hok.fresh (aj _))⟩;exact⟨bH (vy xs lo hi) hz,_,0,(r.drop (_H.sIx xs.length 0 lo)).take (_H.sIx xs.length xs.length hi-_H.sIx xs.length 0 lo),aL _ rfl⟩
noncomputable def fH:V->Bool
 |.non=>true
 |.bl _=>true
 |.int _=>true
 |.str _=>true
 |_=>false
noncomputable def eqV:V->V->Bool
 |.non,.non=>true
 |.bl a,.bl b=>a == b
 |.bl a,.int b=>(if a then 1 else 0) == b
 |.int a,.bl b=>a == (if b then 1 else 0)
 |.int a,.int b=>a == b
 |.str a,.str b=>a == b
 |_,_=>false
def lF(ry:RelV y u)(rx:RelV x v)(fy:fH y=true)(fx:fH x=true):SeqAt.EqAt A s u v (eqV y x):=by
 cases y with
 |non=>
  cases ry
  cases x with
  |non=>cases rx;exact s1d _
  |bl b=>cases rx;exact SeqAt.EqAt.none_bool b
  |int b=>obtain⟨t,rfl⟩:=rx;exact SeqAt.EqAt.none_int b t
  |str b=>obtain⟨t,rfl⟩:=rx;exact SeqAt.EqAt.none_str b t
  |_=>exact absurd (show false=true from fx) aV
 |bl a=>
  cases ry
  cases x with
  |non=>cases rx;exact SeqAt.EqAt.bool_none a
  |bl b=>cases rx;exact SeqAt.EqAt.bool_bool a b
  |int b=>obtain⟨t,rfl⟩:=rx;exact SeqAt.EqAt.bool_int a b t
  |str b=>obtain⟨t,rfl⟩:=rx;exact SeqAt.EqAt.bool_str a b t
  |_=>exact absurd (show false=true from fx) aV
 |int a=>
  obtain⟨t',rfl⟩:=ry
  cases x with
  |non=>cases rx;exact SeqAt.EqAt.int_none a t'
  |bl b=>cases rx;exact SeqAt.EqAt.int_bool a t' b
  |int b=>obtain⟨t,rfl⟩:=rx;exact SeqAt.EqAt.int_int a t' b t
  |str b=>obtain⟨t,rfl⟩:=rx;exact s2v a t' b t
  |_=>exact absurd (show false=true from fx) aV
 |str a=>
  obtain⟨t',rfl⟩:=ry
  cases x with
  |non=>cases rx;exact SeqAt.EqAt.str_none a t'
  |bl b=>cases rx;exact SeqAt.EqAt.str_bool a t' b
  |int b=>obtain⟨t,rfl⟩:=rx;exact s2w a t' b t
  |str b=>obtain⟨t,rfl⟩:=rx;exact SeqAt.EqAt.str_str a t' b t
  |_=>exact absurd (show false=true from fx) aV
 |_=>exact absurd (show false=true from fy) aV
noncomputable def eqU(x:V)(u:Value):Bool:=match u with
 |.none=>eqV .non x
 |.bool b=>eqV (.bl b) x
 |.int i _=>eqV (.int i) x
 |.str z _=>eqV (.str z) x
 |_=>false
def vE(r:RelV y u)(f:fH y=true):eqU x u=eqV y x:=by
 cases y with
 |non=>cases r;rfl
 |bl b=>cases r;rfl
 |int i=>obtain⟨t,rfl⟩:=r;rfl
 |str z=>obtain⟨t,rfl⟩:=r;rfl
 |_=>exact absurd (show false=true from f) aV
theorem lG:∀ {xs:List V}{us:LV},Vals xs us->xs.all fH=true->us.any (eqU x)=xs.any λ y=>eqV y x
 |_,_,.nil,_=>rfl
 |y::xs,u::us,.cons r t,f=>by
  rw[cJ,bg] at f;rw[lH,lH,vE r f.1,lG t f.2]
theorem lJ(rx:RelV x v)(fx:fH x=true):∀ {xs:List V}{us:LV},Vals xs us->xs.all fH=true->∀u∈us,SeqAt.EqAt A s u v (eqU x u)
 |_,_,.nil,_=>λ u hu=>by cases hu
 |y::xs,u::us,.cons r t,f=>λ u' hu=>by
  rw[cJ,bg] at f
  rcases aN.mp hu with rfl|hu
  ·rw[vE r f.1];exact lF r rx f.1 fx
  ·exact lJ rx fx t f.2 u' hu
def inV(x:V)(xs:List V):Bool:=xs.any λ y=>eqV y x
noncomputable def rIn(K:FG)(neg:Bool):R2:=λ x y H Q=>∃p xs,y=.ref p/\(SqL K H p xs\/SqT K H p xs)/\fH x=true/\xs.all fH=true/\Q (.bl (if neg then !inV x xs else inV x xs)) H
def DW:OpR X (compareOp .In) (rIn X.K false):=by
 intro pins s σ H x y v u Q I rx ry h;obtain⟨p,xs,rfl,hq,fx,fs,q⟩:=h;cases ry
 rcases hq with hq|hq
 ·obtain⟨its,r,pl,hz⟩:=I.list hq;refine SeqAt.in_listAt (eqU x) pl.isList (λ w hw=>lJ rx fx r fs w (by simpa using hw)) ⟨.bl _,H,I,fu,?_⟩;rw[show its.toArray.any (eqU x)=its.any (eqU x) by simp,lG r fs];exact q
 ·obtain⟨its,r,pl,hz⟩:=I.tuple hq;refine SeqAt.in_tupleAt (eqU x) pl (λ w hw=>lJ rx fx r fs w (by simpa using hw)) ⟨.bl _,H,I,fu,?_⟩;rw[show its.toArray.any (eqU x)=its.any (eqU x) by simp,lG r fs];exact q
def DX:OpR X (compareOp .NotIn) (rIn X.K true):=by
 intro pins s σ H x y v u Q I rx ry h;obtain⟨p,xs,rfl,hq,fx,fs,q⟩:=h;cases ry
 rcases hq with hq|hq
 ·obtain⟨its,r,pl,hz⟩:=I.list hq;refine SeqAt.notIn_listAt (eqU x) pl.isList (λ w hw=>lJ rx fx r fs w (by simpa using hw)) ⟨.bl _,H,I,fu,?_⟩;rw[show its.toArray.any (eqU x)=its.any (eqU x) by simp,lG r fs];exact q
 ·obtain⟨its,r,pl,hz⟩:=I.tuple hq;refine SeqAt.notIn_tupleAt (eqU x) pl (λ w hw=>lJ rx fx r fs w (by simpa using hw)) ⟨.bl _,H,I,fu,?_⟩;rw[show its.toArray.any (eqU x)=its.any (eqU x) by simp,lG r fs];exact q
def DY:bo X (.builtin "len") (λ xs H Q=>∃p ys,xs=[.ref p]/\(SqL X.K H p ys\/SqT X.K H p ys)/\Q (.int ys.length) H):=by
 intro pins s σ H xs us Q I r h;obtain⟨p,ys,rfl,hq,q⟩:=h;obtain⟨u,rfl,rx⟩:=bW r;cases rx;have hn:=jK
 rcases hq with hq|hq
 ·obtain⟨its,r',pl,hz⟩:=I.list hq;have hlen:=r'.length;exact Calls.call_len_list pl.isList (by simp only[aM]<;>lia) ⟨.int ys.length,H,I.tok _,⟨s.toks+1,by rw[aM,hlen]⟩,q⟩
 ·obtain⟨its,r',pl,hz⟩:=I.tuple hq;have hlen:=r'.length;exact s3e pl (by simp only[aM]<;>lia) ⟨.int ys.length,H,I.tok _,⟨s.toks+1,by rw[aM,hlen]⟩,q⟩
def DZ:bo X (.builtin "len") (λ xs H Q=>∃z,xs=[.str z]/\z.length<=sizeLine/\Q (.int z.length) H):=by
 intro pins s σ H xs us Q I r h;obtain⟨z,rfl,hz,q⟩:=h;obtain⟨u,rfl,t,rfl⟩:=bW r;have hn:=jK;exact len_str on ⟨.int z.length,H,I.tok _,⟨_,fu⟩,q⟩
def Ea:bo X (.type "list") (λ xs H Q=>∃p ys,xs=[.ref p]/\(SqL X.K H p ys\/SqT X.K H p ys)/\∀l,H l=none->Q (.ref l) (upd H l (.lst ys))):=by
 intro pins s σ H xs us Q I r h;obtain⟨p,ys,rfl,hq,q⟩:=h;obtain⟨u,rfl,rx⟩:=bW r;cases rx
 have fin:∀(its:LV),Vals ys its->ys.length<=sizeLine->∀(h':Heap) (c':Nat),(∀b o',s.heap.get? b=some o'->h'.get? b=some o') ->
   h'.get? s.heap.objs.size=some { cls:=.type "list",dict:=none,data:=.seq its.toArray c',slots:=#[] }->EP X pins σ Q (.ref s.heap.objs.size) { s with heap:=h' }:=λ its r' hz h' c' kp e=>
  ⟨.ref s.heap.objs.size,_,I.laid (t':=s.toks) kp (aj _) (show ObjOk X.prog X.w _ h' _ (.lst ys) from ⟨hz,its,c',r',e⟩),rfl,q _ (I.hok.fresh (aj _))⟩
 rcases hq with hq|hq
 ·obtain⟨its,r',pl,hz⟩:=I.list hq;have hlen:=r'.length;obtain⟨o,ho,hc,n,hd⟩:=pl.isList;exact call_list_seq p (.inl rfl) ho hc hd (λ h' c' kp e=>fin its r' hz h' c' kp e) (by simp only[aM]<;>lia)
 ·obtain⟨its,r',pl,hz⟩:=I.tuple hq;have hlen:=r'.length;obtain⟨o,ho,hc,n,hd⟩:=pl;exact call_list_seq p (.inr rfl) ho hc hd (λ h' c' kp e=>fin its r' hz h' c' kp e) (by simp only[aM]<;>lia)
def Eb:bo X (.type "tuple") (λ xs H Q=>∃p ys,xs=[.ref p]/\((SqL X.K H p ys/\∀l,H l=none->Q (.ref l) (upd H l (.tup ys)))\/(SqT X.K H p ys/\Q (.ref p) H))):=by
 intro pins s σ H xs us Q I r h;obtain⟨p,ys,rfl,h⟩:=h;obtain⟨u,rfl,rx⟩:=bW r;cases rx
 rcases h with ⟨hq,q⟩|⟨hq,q⟩
 ·obtain⟨its,r',pl,hz⟩:=I.list hq;have hlen:=r'.length;refine call_tuple_list pl.isList (λ h' kp=>?_) (by simp only[aM]<;>lia);have I1:Inv X pins σ H { s with heap:=h' }:=I.kept (t':=s.toks) kp
  have I2:Inv X pins σ (upd H h'.objs.size (.tup ys)) { s with heap:=h'.push { cls:=.type "tuple",data:=.seq its.toArray } } :=
   I1.laid (t':=s.toks) (λ b o e=>ay _ e) (aj _) (show ObjOk X.prog X.w _ _ _ (.tup ys) from ⟨hz,its,r',TupO.new _ _⟩)
  exact⟨.ref h'.objs.size,_,I2,fu,q _ (I1.hok.fresh (aj _))⟩
 ·obtain⟨its,r',pl,hz⟩:=I.tuple hq;exact call_tuple_same pl ⟨.ref p,H,I,fu,q⟩
noncomputable def tyV(K:FG)(T:String)(x:V)(H:Hp):Prop:=match x with
 |.str _=>T="str"
 |.int _=>T="int"
 |.ref p=>(T="list" /\ ∃xs,SqL K H p xs)\/(T="tuple" /\ ∃o,K.lookup p=some o/\o.cls=.type "tuple" /\ o.dict=none) \/
   (T="dict" /\ ((∃kvs,H p=some (.dK kvs))\/∃kvs,H p=some (.dT kvs)))\/(T="set" /\ ∃S n,H p=some (.set S n))
 |_=>False
theorem vF(I:Inv X pins σ H s)(r:RelV x v)(ty:tyV X.K T x H) :
  s.TypeIs v T/\∀a,v=.ref a->∃ob,s.heap.get? a=some ob/\ob.dict=none:=by
 cases x with
 |str z=>
  obtain⟨t,rfl⟩:=r;cases (show T="str" from ty);exact⟨typeIs_str s z t,λ _ e=>nomatch e⟩
 |int i=>
  obtain⟨t,rfl⟩:=r;cases (show T="int" from ty);exact⟨typeIs_int s i t,λ _ e=>nomatch e⟩
 |ref p=>
  cases r
  rcases ty with ⟨rfl,xs,hq⟩|⟨rfl,o,hk,hc,hd⟩|⟨rfl,hk⟩|⟨rfl,S,n,hk⟩
  ·obtain⟨its,_,pl,_⟩:=I.list hq;refine⟨pl.isList.typeIs,λ a e=>?_⟩;cases e;obtain⟨o,n,e,c,hd,_⟩:=pl;exact⟨o,e,hd⟩
  ·refine⟨⟨o,I.kIn p o hk,hc⟩,λ a e=>?_⟩;cases e;exact⟨o,I.kIn _ o hk,hd⟩
  ·have z:∃o,s.heap.get? p=some o/\o.ExactDict:=by
    rcases hk with ⟨kvs,hk⟩|⟨kvs,hk⟩
    ·obtain⟨_,_,_,_,o,_,_,e,ex,_⟩:=I.hok p _ hk;exact⟨o,e,ex⟩
    ·obtain⟨_,_,_,_,o,_,_,e,ex,_⟩:=I.hok p _ hk;exact⟨o,e,ex⟩
   obtain⟨o,e,ex⟩:=z;refine⟨⟨o,e,ex.1⟩,λ a e2=>?_⟩;cases e2;exact⟨o,e,ex.2.1⟩
  ·obtain⟨o,_,_,_,e,ex,_⟩:=I.hok p _ hk;refine⟨⟨o,e,ex.1⟩,λ a e2=>?_⟩;cases e2;exact⟨o,e,ex.2.1⟩
 |_=>exact False.elim ty
noncomputable def Ec(K:FG)(T:String)(r:V->List V->Hp->VK->Prop)(to:TE):TE:=λ σ H Q=>to σ H λ x H1=>tyV K T x H1/\r x [] H1 Q
noncomputable def tBM(K:FG)(T:String)(r:V->List V->Hp->VK->Prop)(to:TE)(t:TA):TE:=λ σ H Q=>to σ H λ x H1=>tyV K T x H1/\t σ H1 λ xs H2=>r x xs H2 Q
variable {o e:Expr}{es:List Expr}{to:TE}{t:TA}{name:Str}{apos cpos:Pos}{T id:String}{r:V->List V->Hp->VK->Prop}
theorem Ed(pa:PlainAttrs T)(slot:Slot T name id)(hty:typeOf (.builtin id)=pure (.type "method_descriptor"))(hm:MtR X id r)(ho:PE X o to)
  (hbase:attributeBase o name X.env (eval o X.env)=eval o X.env:=by rfl) (hline:(apos.endLine == cpos.line)=true:=by rfl):PE X (.Call (.Attribute o name apos) [] [] cpos) (Ec X.K T r to):=by
 intro pins s σ H Q I h;refine wpAny_Call_method0_late hbase hline (thn (ho pins s σ H _ I h) λ v s1 ⟨x,H1,I1,r1,ty,q1⟩=>?_);obtain⟨h1,h2⟩:=vF I1 r1 ty;exact⟨T,id,pa,slot,hty,h1,h2,qJ rfl (PySem.evalArgs_none (hm pins s1 σ H1 x [] v [] Q I1 r1 .nil q1))⟩
theorem qK(pa:PlainAttrs T)(slot:Slot T name id)(hty:typeOf (.builtin id)=pure (.type "method_descriptor"))(hm:MtR X id r)(ho:PE X o to)(ha:PA X (e::es) t)
  (hbase:attributeBase o name X.env (eval o X.env)=eval o X.env:=by rfl)
  (hfew:((backTo cpos (starEach (e::es) X.env)).all (λ x=>!x.1) && (backToKw cpos (keywordEach [] X.env)).all (λ x=>x.1.isSome)
   && decide ((e::es).length+([]:List Keyword).length+(if ([]:List Keyword).isEmpty then 0 else 1)<30))=true:=by rfl)
  (hline:(apos.endLine == cpos.line)=true:=by rfl) (hs:starEach (e::es) X.env=(false,eval e X.env)::starEach es X.env:=by rfl) (hplain:(backTo cpos (starEach es X.env)).any (·.1)=false:=by rfl) :
  PE X (.Call (.Attribute o name apos) (e::es) [] cpos) (tBM X.K T r to t):=by
 intro pins s σ H Q I h;refine wpAny_Call_method_late hbase hfew hline rfl (thn (ho pins s σ H _ I h) λ v s1 ⟨x,H1,I1,r1,ty,q1⟩=>?_);obtain⟨h1,h2⟩:=vF I1 r1 ty;refine⟨T,id,pa,slot,hty,h1,h2,?_⟩;have hA:=ha cpos pins s1 σ H1 _ I1 q1;rw[hs] at hA ⊢;refine qJ (by show(false || (backTo cpos (starEach es X.env)).any (·.1))=false;rw[hplain]<;>rfl) (qL ?_);exact thn hA λ us s2 ⟨vs,H2,I2,r2,q2⟩=>hm pins s2 σ H2 x vs v us Q I2 r1 r2 q2
end
noncomputable def MtM(X:Cx)(id:String)(r:V->List V->Hp->VK->Prop):Prop :=
 ∀(pins:LO) (s:Shared) (σ:St) (H:Hp) (x:V) (xs:List V) (v:Value) (us:LV) (Q:VK),Inv X pins σ H s->RelV x v->Vals xs us->r x xs H Q ->
  wpAny (model X.prog X.w) X.A (call (.builtin id) (v::us)) (EP X pins σ Q) X.xe s
theorem Vals.one:∀ {x:V}{us:LV},Vals [x] us->∃u,us=[u]/\RelV x u
 |_,_,.cons r .nil=>⟨_,rfl,r⟩
theorem Vals.zero:∀ {us:LV},Vals [] us->us=[]
 |_,.nil=>rfl
def Vals.dropLast(h:Vals xs us):Vals xs.dropLast us.dropLast:=by
 induction h with
 |nil=>exact .nil
 |cons r t ih=>
  cases t with
  |nil=>exact .nil
  |cons q t'=>exact .cons r ih
theorem Vals.eraseIdx:∀ {xs:List V}{us:LV}(i:Nat),Vals xs us->Vals (xs.eraseIdx i) (us.eraseIdx i)
 |_,_,_,.nil=>.nil
 |_,_,0,.cons _ t=>t
 |_,_,i+1,.cons r t=>.cons r (Vals.eraseIdx i t)
def Vals.reverse(h:Vals xs us):Vals xs.reverse us.reverse:=by
 induction h with
 |nil=>exact .nil
 |cons r t ih=>rw[ip,ip];exact Vals.append ih (.cons r .nil)
theorem Vals.rep(h:Vals xs us):∀k:Nat,Vals (List.replicate k xs).flatten (List.replicate k us).flatten
 |0=>.nil
 |k+1=>by
  rw[iV,iV,jP,jP];exact Vals.append h (Vals.rep h k)
def Ee{α:Type}(l:List α):l.eraseIdx (l.length-1)=l.dropLast:=by
 induction l with
 |nil=>rfl
 |cons a r ih=>
  cases r with
  |nil=>rfl
  |cons b r=>
   have e:(a::b::r).length-1=((b::r).length-1)+1:=by
    have h1:(a::b::r).length=r.length+2:=rfl;have h2:(b::r).length=r.length+1:=rfl;lia
   rw[e,List.eraseIdx_cons_succ,ih];all_goals rfl
theorem vG{α:Type}:∀(l:List α) (i:Nat),(l.eraseIdx i).length<=l.length
 |[],_=>aj _
 |_::_,0=>jQ _
 |_::r,i+1=>jR (vG r i)
theorem vH(its:LV):∀(k:Nat) (acc:LV),
  List.foldl (λ x1 x2=>x1++x2) acc.toArray (List.replicate k its.toArray)=(acc++(List.replicate k its).flatten).toArray
 |0,acc=>by simp
 |k+1,acc=>by
  have e:acc.toArray++its.toArray=(acc++its).toArray:=BT
  have e2:(acc++its)++(List.replicate k its).flatten=acc++(List.replicate (k+1) its).flatten:=by
   rw[iV,jP,dF]
  rw[<- e2,<- vH its k (acc++its),<- e,iV,s1e]
section
variable {pins:LO}{σ:St}{H:Hp}{s:Shared}{l b:Addr}{xs ys zs:List V}
theorem Inv.lset{its its':LV}{f:Array Value->Array Value}{t':Nat}(I:Inv X pins σ H s)(hH:H l=some (.lst xs))
  (e:s.heap.get? l=some { cls:=.type "list",data:=.seq its.toArray n }) (hf:f its.toArray=its'.toArray) (hv:Vals ys its') (hz:ys.length<=sizeLine) :
  Inv X pins σ (upd H l (.lst ys)) { s with heap:=s.heap.update l (Obj.mapSeq f),toks:=t' }:=by
 have q:=PySem.IsL.update e f;rw[hf] at q;refine I.write (x:=l) (e:=l) (by rw[hH];exact trivial) (.inl rfl) (λ b' u hb hu=>(df s.heap (Obj.mapSeq f) (bh hb)).trans hu) ⟨_,q⟩ ?_;exact⟨hz,its',_,hv,q⟩
theorem Inv.lnew{t':Nat}(I:Inv X pins σ H s)(hv:Vals ys its)(hz:ys.length<=sizeLine) :
  Inv X pins σ (upd H s.heap.objs.size (.lst ys)) { s with heap:=s.heap.push { cls:=.type "list",data:=.seq its.toArray },toks:=t' } :=
 I.laid (λ _ _ q=>ay _ q) (aj _) ⟨hz,its,0,hv,aL _ rfl⟩
def Inv.fresh(I:Inv X pins σ H s):H s.heap.objs.size=none:=I.hok.fresh (aj _)
def Inv.lstM(I:Inv X pins σ H s)(hH:H l=some (.lst xs)):xs.length<=sizeLine/\∃(its:LV) (n:Nat),Vals xs its/\xs.length=its.length/\s.heap.get? l=some { cls:=.type "list",data:=.seq its.toArray n }:=by
 obtain⟨z,its,n,r,e⟩:=I.hok l _ hH;exact⟨z,its,n,r,r.length,e⟩
def Ef{n:Nat}(h:n<=sizeLine):Builtin.List.listTooLong n=false:=by
 unfold Builtin.List.listTooLong;exact aO on
end
noncomputable def nS:V->List V->Hp->VK->Prop:=λ x vs H Q=>∃l xs y,x=.ref l/\vs=[y]/\H l=some (.lst xs)/\xs.length<sizeLine/\Q .non (upd H l (.lst (xs++[y])))
def Eg:MtM X "list.append" nS:=by
 intro pins s σ H x vs v us Q I rx rv h;obtain⟨l,xs,y,rfl,rfl,hH,hz,q⟩:=h;cases rx;obtain⟨u,rfl,ru⟩:=rv.one;obtain⟨z,its,n,r,hl,e⟩:=I.lstM hH;refine iq s3f ⟨_,e,fu⟩ s2q (s1y _ _) (PySem.list_append l its.toArray n u (by rw[aM];lia)) ⟨e,?_⟩;refine⟨.non,_,I.lset (its':=its++[u]) hH e BT (r.append (.cons ru .nil)) ?_,fu,q⟩;rw[aR,fJ];lia
noncomputable def nU:V->List V->Hp->VK->Prop:=λ x vs H Q=>∃l xs y,x=.ref l/\vs=[]/\H l=some (.lst xs)/\xs[xs.length-1]?=some y/\Q y (upd H l (.lst xs.dropLast))
def Eh:MtM X "list.pop" nU:=by
 intro pins s σ H x vs v us Q I rx rv h;obtain⟨l,xs,y,rfl,rfl,hH,hy,q⟩:=h;cases rx;have hus:=rv.zero;subst hus;obtain⟨z,its,n,r,hl,e⟩:=I.lstM hH;obtain⟨u,hu,ru⟩:=r.get hy
 have hy':its.toArray[its.toArray.size-1]?=some u:=by
  show its.toArray[its.length-1]?=some u;rw[<- bE,<- hl];exact hu
 refine iq F.slot_list_pop ⟨_,e,fu⟩ F.entry_list_pop (F.args_list_pop_1 _) (MeetsSeq.list_pop_last l its.toArray n u hy' (by rw[aM];lia)) ⟨e,?_⟩;refine⟨y,_,I.lset (its':=its.dropLast) hH e ?_ r.dropLast ?_,ru,q⟩
 ·show its.toArray.eraseIdxIfInBounds (its.toArray.size-1)=its.dropLast.toArray;rw[aM,vJ,Ee]
 ·rw[List.length_dropLast];lia
noncomputable def lK:V->List V->Hp->VK->Prop:=λ x vs H Q=>∃l xs i k y,x=.ref l/\vs=[.int i]/\H l=some (.lst xs)/\-(2 ^ 63)<=i/\i<2 ^ 63/\seqIndex? i xs.length=some k/\xs[k]?=some y/\Q y (upd H l (.lst (xs.eraseIdx k)))
def Ei:MtM X "list.pop" lK:=by
 intro pins s σ H x vs v us Q I rx rv h;obtain⟨l,xs,i,k,y,rfl,rfl,hH,h1,h2,hk,hy,q⟩:=h;cases rx;obtain⟨u,rfl,ru⟩:=rv.one;obtain⟨t,rfl⟩:=ru;obtain⟨z,its,n,r,hl,e⟩:=I.lstM hH;obtain⟨w,hw,rw'⟩:=r.get hy
 refine iq F.slot_list_pop ⟨_,e,fu⟩ F.entry_list_pop (F.args_list_pop_2 _ _)
  (MeetsSeq.list_pop_at l its.toArray n i t k w (s2f h1 h2) (by rw[aM,<- hl];exact hk) (by rw[<- bE];exact hw) (by rw[aM];lia)) ⟨e,?_⟩
 refine⟨y,_,I.lset (its':=its.eraseIdx k) hH e ?_ (r.eraseIdx k) ?_,rw',q⟩
 ·show its.toArray.eraseIdxIfInBounds k=(its.eraseIdx k).toArray;rw[vJ]
 ·have:=vG xs k;lia
noncomputable def Ej:R2:=λ x y H Q=>∃l k xs,x=.ref l/\y=.int k/\H l=some (.lst xs)/\-(2 ^ 63)<=k/\k<2 ^ 63/\xs.length*k.toNat<=sizeLine /\
 ∀p,H p=none->Q (.ref p) (upd H p (.lst (List.replicate k.toNat xs).flatten))
def Ek{α:Type}(xs:List α)(k:Nat):(List.replicate k xs).flatten.length=k*xs.length:=by
 induction k with
 |zero=>simp
 |succ k ih=>rw[iV,jP,aR,ih,Nat.succ_mul,s3z]
def El:OpR X (binaryOp .Mult) Ej:=by
 intro pins s σ H x y v u Q I rx ry h;obtain⟨l,k,xs,rfl,rfl,hH,h1,h2,hz,q⟩:=h;cases rx;obtain⟨t,rfl⟩:=ry;obtain⟨z,its,n,r,hl,e⟩:=I.lstM hH;have hlen:its.toArray.size*k.toNat<=sizeLine:=by rw[aM,<- hl];exact hz
 have hcap:¬its.toArray.size*k.toNat > (2 ^ 63-1)/8:=by
  have:(sizeLine:Nat)<=(2 ^ 63-1)/8:=pv;lia
 have hfit:¬(!Builtin.List.listFitsIndex k)=true:=by
  rw[s2f h1 h2];exact aV
 have hlong:¬Builtin.List.listTooLong (its.toArray.size*k.toNat)=true:=by
  rw[Ef hlen];exact aV
 have hnew:List.foldl (λ x1 x2=>x1++x2) #[] (List.replicate (if its.toArray.isEmpty=true then 0 else k.toNat) its.toArray)=(List.replicate k.toNat its).flatten.toArray:=by
  have f0:∀m:Nat,List.foldl (λ x1 x2=>x1++x2) #[] (List.replicate m its.toArray)=(List.replicate m its).flatten.toArray:=λ m=>by
   have:=vH its m [];rw[s1f] at this;exact this
  rw[f0]
  cases its with
  |nil=>simp
  |cons a r'=>rw[if_neg BT]
 refine wpAny_binaryOp_repeat_ref (T := "list") (U := "int") pv ⟨_,e,fu⟩ (λ s'=>typeIs_int s' k t) noFill_list_mul F.fills_int_mul F.slot_int_rmul repeat_list F.slot_int_index.lookup
  (iq F.slot_int_rmul (typeIs_int s k t) F.entry_int_rmul (F.args_int_rmul_2 _ _) (int___rmul___int_list k t l its.toArray n)
   ⟨e,rfl,⟨_,e,rfl⟩,iq F.slot_list_mul ⟨_,e,rfl⟩ F.entry_list_mul (F.args_list_mul_2 _ _) (AutoListH.list___mul___list_int_3 l its.toArray n k t hfit hcap hlong) ⟨e,?_⟩⟩)
 rw[hnew];exact⟨.ref _,_,I.lnew (t':=s.toks) (r.rep k.toNat) (by rw[Ek,Nat.mul_comm];exact hz),fu,q _ I.fresh⟩
section
variable {prog:Program}{w:World}{A:Around}{E:VS}{s:Shared}
end
end _L
namespace Att
open PySem PySem.W PySem.Calls PyProof.Rows
def Em:∀(ns:LI) (vs:LV),WellAll P h vs (ns.map WData.int)->IntsAre vs ns:=by
 intro ns
 induction ns with
 |nil=>
  intro vs w;rw[s3x] at w;cases w;exact .nil
 |cons n ns ih=>
  intro vs w;rw[bw] at w
  cases w with
  |cons a b=>
   cases a;exact .cons _ _ (ih _ b)
theorem Eo{l:OpenLaw}(hn:l.most=some n)
  (hpre:l.row.toRowW.claim.pre args=true) (hwl:WellAll P h vals args) :
  ∃a vs ns,vals=[Value.ref a]/\args=[WData.list (ns.map WData.int)]/\h.get? a=some { cls:=.type "list",data:=.seq vs.toArray }/\IntsAre vs ns/\ns.length<=n:=by
 have hsh:WShape.hasAll [] args [.list .int]=true:=(pre_splitW hpre).1;have hc:l.pre.holds [] { args:=args }=true:=(pre_splitW hpre).2;obtain⟨d,r,rfl,h1,h2⟩:=hasAllW_cons hsh;obtain rfl:=hasAllW_nil h2;obtain⟨xs,rfl,h3⟩:=hasW_list h1;obtain⟨ns,rfl⟩:=items_int h3
 have hlen:ns.length<=n:=by
  unfold OpenLaw.pre at hc
  have h4:(WTm.not (.lt (.lit (.int (n:Int))) (.len (.arg 0)))).holds [] { args:=[.list (ns.map .int)] }=true:=by
   have h4:=(holds_andW hc).1;rw[hn] at h4;exact h4
  have h5:=condW_of h4 (w_not (w_lt w_lit (w_len_list (w_arg rfl))));rw[aq] at h5;refine jS λ q=>?_;have q':(n:Int)<((ns.length:Nat):Int):=on
  first
   |(rw[bz q'] at h5;exact absurd h5 pv)
   |(simp at h5;lia)
 cases hwl with
 |cons w1 w2=>
  cases w2
  cases w1 with
  |list ho hall=>exact⟨_,_,ns,rfl,rfl,ho,Em ns _ hall,hlen⟩
def Ep(l:OpenLaw)(args:List WData):l.row.toRowW.claim.post args (.bool true) args=true :=
 postW_of (r:=l.row.toRowW) (X:=(true == true))
  (show WShape.has [] (.bool true) .bool=true by first|rfl|decide|simp[WShape.has,WShape.arms,WShape.armsAll])
  (show(WTm.eq .res (.lit (.bool true))).value [] { args:=args,res:=some (.bool true),after:=args }=some (.bool (true == true)) from w_eq_bool (w_res rfl) w_lit) rfl
theorem attach_call{l:OpenLaw}{YP:World->Heap->Prop}{d:DefRec}
  (hn:l.most=some n) (hdf:d.params.defaults=[])
  (call:∀(w:World) (s₀ s₁:Shared) (mg mb:SV) (fa:Addr) (o:Obj) (pm cd doc:Value) (a:Addr) (vs:LV) (ns:LI),
   Ground q loose [] XP w s₀ mg mb s₁.heap->YP w s₁.heap ->
   s₁.heap.get? fa=some o->o.data=.func (docDef d.name d.params d.body d.scope pm cd doc)->s₁.heap.CodeRec cd d.name->mg d.name=some (.ref fa) ->
   s₁.heap.get? a=some { cls:=.type "list",data:=.seq vs.toArray }->IntsAre vs ns->ns.length<=n->s₁.gens=#[] ->
   codeAny (model l.prog w) callerA (.call (.ref fa) ⟨[.ref a],[]⟩) (λ r s'=>r=.ok (.ret (.bool true))/\OldK s₁.heap s'.heap/\s'.os=s₁.os/\AllBare s'.gens) s₁) :
  WalkO q loose XP YP l.row.toRowW d [] (λ f vs=>PySem.call f vs):=by
 intro w s₀ s₁ mg mb G Y fa o pm cd doc dV kV ho hd hcd hD hmg hg args vals as hpre hlay hrd hwl hlo;obtain rfl:dV=.none:=Dflts.none hD hdf;obtain rfl:kV=.none:=Dflts.noKw hD;obtain⟨a,vs,ns,rfl,rfl,hobj,hints,hlen⟩:=Eo hn hpre hwl;refine enter_call (gE (call w s₀ s₁ mg mb fa o pm cd doc a vs ns G Y ho (fd_plain hd) hcd hmg hobj hints hlen hg) λ r s' hq=>?_);obtain⟨rfl,h2,h3,h4⟩:=hq;exact⟨.inl ⟨.bool true,.bool true,[],fu,λ _=>rfl,.bool true,Ep l _,λ _=>⟨List.Pairwise.nil,λ _ hm=>(nomatch hm)⟩⟩,h2,h3,h4⟩
section
variable {prog:Program}{w:World}{A:Around}{E:VS}{s:Shared}{K:Frag}
end
end Att
namespace _L
open PySem PySem.Spec PyProof.Rows
theorem nV:∀ {vs:LV}{ns:LI},IntsAre vs ns->Vals (ns.map V.int) vs
 |_,_,.nil=>.nil
 |_,_,.cons n t h=>.cons ⟨t,rfl⟩ (nV h)
noncomputable def qM(H:Hp):Prop:=∀b,H b=none\/∃o xs,H b=some (.frz o (.lst xs))
theorem Er{K:FG}{fa a:Addr}{x:Str}{s₁:Shared}{vs:LV}
  (KX:K.In s₁.heap) (hns:s₁.heap.Ns mainGlobals mg) (hb:s₁.heap.Ns builtinsNs mb) (hbb:∀x:Str,x ≠ "__name__" -> mb x=bootBuiltins x) (hlim:s₁.heap.NoLimit) (hg:s₁.gens=#[])
  (ha:s₁.heap.get? a=some { cls:=.type "list",data:=.seq vs.toArray }) (hi:IntsAre vs ns) (hl:ns.length<=sizeLine) (hr:Room k callerA)
  (F:∀base:Heap,K.In base->base.Ns mainGlobals mg->FnOk P w K mg base CX k fa fd [x] sp) (hbind:∀(s:Shared) (u:Value),BindsTo s fd ⟨[u],[]⟩ [(x,u)])
  (hsp:∀H:Hp,qM H->SqL K H a (ns.map V.int)->sp [.ref a] H (λ v _=>v=.bl true) λ _ _ _=>False)
  (hCX:∀H e s',CX [] H s₁ (λ _ _ _=>False) e s'->False) :
  codeAny (model P w) callerA (.call (.ref fa) ⟨[.ref a],[]⟩) (λ r s'=>r=.ok (.ret (.bool true))/\OldK s₁.heap s'.heap/\s'.os=s₁.os/\AllBare s'.gens) s₁:=by
 have rv:=nV hi;have lenV:=hi.length
 have core:∀H:Hp,qM H->SqL K H a (ns.map V.int)->HOk P w H s₁.heap->(∀b,H b≠none->b=a)->(H a≠none->K.lookup a=none) ->
   codeAny (model P w) callerA (.call (.ref fa) ⟨[.ref a],[]⟩) (λ r s'=>r=.ok (.ret (.bool true))/\OldK s₁.heap s'.heap/\s'.os=s₁.os/\AllBare s'.gens) s₁:=by
  intro H hO hS hok hA hK;have base_of:∀ {b:Addr}{o:Obj},s₁.heap.get? b=some o->H b=none->(gu s₁.heap H).get? b=some o:=λ e n=>BM e n
  have noA:∀ {b:Addr}{o:Obj}{es:Array DictEntry}{ep:Nat},s₁.heap.get? b=some o->o.data=.dict es ep->H b=none:=λ {b o es ep} e d=>by
   cases q:H b with
   |none=>rfl
   |some u=>
    have e':b=a:=hA b (by rw[q];simp);subst e';rw[ha] at e;cases e;have d':Data.seq vs.toArray _=Data.dict es ep:=d;cases d'
  have nsK:∀ {b:Addr}{m:SV},s₁.heap.Ns b m->(gu s₁.heap H).Ns b m:=λ {b m} ⟨o,es,ep,e,d,r⟩=>⟨o,es,ep,base_of e (noA e d),d,r⟩
  have hKb:K.In (gu s₁.heap H):=λ b o e=>base_of (KX b o e) (by
   cases q:H b with
   |none=>rfl
   |some u=>
    have e':b=a:=hA b (by rw[q];simp);subst e'
    rw[hK (by rw[q];simp)] at e;cases e)
  have hM:Mod K mg (gu s₁.heap H):=⟨hKb,nsK hns,⟨mb,nsK hb,hbb⟩,let ⟨mc,h1,h2⟩:=hlim;⟨mc,nsK h1,h2⟩⟩;have e0:Env0 P w K mg (gu s₁.heap H) callerA [] s₁ H:=⟨rfl,hM,λ b o e=>BO e,Nat.le_of_eq (BL _ _),trivial,λ b hb=>absurd (show b∈([]:List Addr) from hb) BT,hok,.of_eq hg⟩;refine gE ((F _ hKb (nsK hns)).run callerA [] s₁ H ⟨[.ref a],[]⟩ [.ref a] [.ref a] _ _ hr e0 (hbind s₁ (.ref a)) (.cons rfl .nil) (hsp H hO hS)) λ r s' h=>?_
  cases r with
  |error e=>exact(hCX H e s' h).elim
  |ok fl=>
   cases fl with
   |next=>exact False.elim h
   |brk=>exact False.elim h
   |cont=>exact False.elim h
   |ret u=>
    obtain⟨v,H',os,bare,un,hok',r',q⟩:=h;have q':v=.bl true:=q;subst q';obtain rfl:u=Value.bool true:=r';refine⟨fu,OldK.of_keep λ b o e=>?_,os,bare⟩
    cases q:H b with
    |none=>exact un.keep b o e q (by intro z;exact absurd (show b∈([]:List Addr) from z) BT) BT
    |some u=>
     rcases hO b with z|⟨ob,xs,z⟩
     ·rw[q] at z;cases z
     ·have z2:=un.frzs b ob _ z;obtain⟨e1,_⟩:=hok b _ z;obtain⟨e2,_⟩:=hok' b _ z2;rw[e] at e1;cases e1;exact e2
 cases hk:K.lookup a with
 |some o=>
  have e:=KX a o hk;rw[ha] at e;cases e;refine core (λ _=>none) (λ _=>.inl rfl) (.inr ⟨_,vs.toArray,_,hk,fu,fu,fu,by rw[aM,lenV];exact hl,by simpa using rv⟩) (λ b u z=>by have z':(none:Option HO)=some u:=z;cases z') (λ b z=>absurd rfl z) λ z=>absurd rfl z
 |none=>
  refine core (λ b=>if b=a then some (.frz { cls:=.type "list",data:=.seq vs.toArray } (.lst (ns.map V.int))) else none) (λ b=>?_) (.inl (.inr ⟨{ cls:=.type "list",data:=.seq vs.toArray },if_pos rfl⟩)) (λ b u z=>?_) (λ b z=>?_) λ _=>hk
  ·by_cases hb:b=a
   ·exact .inr ⟨_,_,if_pos hb⟩
   ·exact .inl (if_neg hb)
  ·by_cases hb:b=a
   ·have z':=(if_pos hb).symm.trans z;cases z';subst hb;exact⟨ha,by rw[aq];exact hl,vs,_,rv,ha⟩
   ·have z':=(if_neg hb).symm.trans z;cases z'
  ·by_cases hb:b=a
   ·exact hb
   ·exact absurd (if_neg hb) z
theorem walk_of{l:W.OpenLaw}{YP:World->Heap->Prop}{d:DefRec}{K:Params->FG}{CX:World->CXT}{sp:World->Sp}{x:Str}
  (hn:l.most=some n) (hn2:n<=sizeLine) (hdf:d.params.defaults=[]) (hr:Room k callerA)
  (hY:∀(w:World) (h:Heap),YP w h->(K w.params).In h)
  (F:∀(w:World) (mg:SV) (fa:Addr) (h:Heap),(K w.params).In h->h.Ns mainGlobals mg->mg d.name=some (.ref fa) ->
   ∃fd:FuncData,(∀(s:Shared) (u:Value),BindsTo s fd ⟨[u],[]⟩ [(x,u)]) /\
    ∀base:Heap,(K w.params).In base->base.Ns mainGlobals mg->FnOk l.prog w (K w.params) mg base (CX w) k fa fd [x] (sp w))
  (hsp:∀(w:World) (H:Hp) (a:Addr) (ns:LI),ns.length<=n->qM H->SqL (K w.params) H a (ns.map V.int)->sp w [.ref a] H (λ v _=>v=.bl true) λ _ _ _=>False)
  (hCX:∀(w:World) (H:Hp) (s:Shared) (e:Value) (s':Shared),CX w [] H s (λ _ _ _=>False) e s'->False) :
  W.WalkO q loose XP YP l.row.toRowW d [] (λ f vs=>PySem.call f vs):=by
 refine Att.attach_call hn hdf λ w s₀ s₁ mg mb fa o pm cd doc a vs ns G Y ho hd hcd hmg hobj hints hlen hg=>?_;have KX:=hY w _ Y;obtain⟨fd,hb,hF⟩:=F w mg fa _ KX G.T.g hmg;exact Er KX G.T.g G.T.b G.T.builtins G.T.nolimit hg hobj hints (bH hlen hn2) hr hF hb (λ H hO hS=>hsp w H a ns hlen hO hS) λ H e s'=>hCX w H s₁ e s'
noncomputable def jT(s:Stmt):Arguments:=match s with
 |.FunctionDef _ a _ _ _ _ _ _ _ _=>a
 |_=>{ posonlyargs:=[],args:=[],vararg:=none,kwonlyargs:=[],kw_defaults:=[],kwarg:=none,defaults:=[] }
noncomputable def cK(s:Stmt):List Stmt:=match s with
 |.FunctionDef _ _ b _ _ _ _ _ _ _=>b
 |_=>[]
noncomputable def be(s:Stmt):Scope:=match s with
 |.FunctionDef _ _ _ _ _ _ sc _ _ _=>sc
 |_=>{ kind:=.function,names:=[],isGenerator:=false,isCoroutine:=false }
abbrev CX0:CXT:=λ _ _ _ _ _ _=>False
abbrev E0:XK:=λ _ _ _=>False
def vK:ly CX0 X E0:=λ _ _ _ _ _ _ _ h=>h.elim
structure Fun (K:FG)(x qual:Str)(st:Stmt)(f:Addr)(fd:FuncData):Prop where
 ex:∃(oc:Value) (od:OA) (kV doc pm:Value) (an:OA) (cdv ct:Value) (osl:AV),
  fd=W.fnOf x qual (jT st) (cK st) (be st) .none kV doc pm an cdv ct/\K.lookup f=some ⟨oc,od,.func fd,osl⟩/\W.codeIn K cdv qual=true
 kp:W.keepIn K (.ref f)=true
section
variable {P:Program}{w:World}{K:FG}{mg:SV}{base:Heap}
theorem Fun.ok{st:Stmt}{sp:Sp}(F:Fun K x qual st f fd)(S:FnScope N ps (be st))(len:∀vs H Q E,sp vs H Q E->vs.length=ps.length)
  (hbody:∀(cdv:Value) (A:Around) (outer:List Env) (s:Shared) (H:Hp) (vs:List V) (Q:VK) (E:XK),Room k (A.deeper (envOfC qual (be st) s.heap.objs.size f cdv))->sp vs H Q E ->
   ∃t,PSs (cU CX0 P w K mg base N qual (be st) f cdv A outer s H E).nox (cK st) t/\t { nx:=λ _ H'=>Q .non H',rt:=Q } (start N vs) H):FnOk P w K mg base CX0 (k+1) f fd ps sp:=by
 obtain⟨oc,od,kV,doc,pm,an,cdv,ct,osl,rfl,lk,hcd⟩:=F.ex;refine vq lk hcd S len λ A outer s H vs Q E hr hsp=>?_;obtain⟨t,h,q⟩:=hbody cdv A outer s H vs Q E hr hsp;exact⟨t,h.nox,q⟩
theorem Fun.binds{st:Stmt}{ps:List Str}(F:Fun K x qual st f fd)
  (h:∀(kV doc pm:Value) (an:OA) (cdv ct:Value) (us:LV),us.length=ps.length->bindArgs (W.fnOf x qual (jT st) (cK st) (be st) .none kV doc pm an cdv ct) ⟨us,[]⟩=pure (ps.zip us)):Binds K fd ps []:=by
 obtain⟨oc,od,kV,doc,pm,an,cdv,ct,osl,rfl,lk,hcd⟩:=F.ex;exact .all (h kV doc pm an cdv ct)
theorem Es{st:Stmt}{oc:Value}{od an:OA}{osl:AV}{kV doc pm cdv ct:Value}(l:K.lookup f=some ⟨oc,od,.func (W.fnOf x qual (jT st) (cK st) (be st) .none kV doc pm an cdv ct),osl⟩)
  (c:W.codeIn K cdv qual=true) (k:W.keepIn K (.ref f)=true):Fun K x qual st f (W.fnOf x qual (jT st) (cK st) (be st) .none kV doc pm an cdv ct):=⟨⟨oc,od,kV,doc,pm,an,cdv,ct,osl,rfl,l,c⟩,k⟩
end
def aP{n:Nat}(h:n<=1000):n<sizeLine:=lL h pv
variable {X:Cx}
end _L
set_option maxHeartbeats 4000000
namespace _L
open PySem PySem.Spec PyProof.Rows
section
variable {prog:Program}{w:World}{A:Around}{R:Result->Shared->Prop}{s:Shared}
theorem Et{elt target iter:Expr}{it acc:Value}(I:Nat->Shared->Prop)
  (turn:∀n s,I n s->wpAny (model prog w) A (pyNext it) (λ r s₁=>match r with
   |none=>R (.ok .next) s₁
   | some v=>wpAny (model prog w) A (letOwnedTupleGo target it v) (λ _ s₀=>wpAny (model prog w) A (assign target env v) (λ _ s₂=>wpAny (model prog w) A (eval elt env) (λ x s₃ =>
     wpAny (model prog w) A (call (.builtin "list.append") [acc,x]) (λ _ s₄=>∃m,m<n/\I m s₄) (λ _ _=>False) s₃)
     (λ _ _=>False) s₂) (λ _ _=>False) s₀) (λ _ _=>False) s₁) (λ _ _=>False) s)
  (n:Nat) (h:I n s) :
  codeAny (model prog w) A (.compLoop (.ListComp elt [⟨target,iter,[],0⟩] scope pos) 0 it acc env) R s:=by
 refine codeAny_loop rfl I (λ n s hI=>?_) n h;show wpAny _ _ ((compTurn (.ListComp elt [⟨target,iter,[],0⟩] scope pos) 0 it acc env).onRaise (λ x=>do noteFrame x env;theTreesLotGoes x)) _ _ s;refine wpAny_noted ?_;rw[compTurn_list1];refine ae (gA (ae (bV (turn n s hI) (λ r s₁ h₁=>?_) λ _ _ h'=>h'.elim)))
 cases r with
 |none=>exact ah h₁
 |some v=>
  refine ae (bV h₁ (λ _ s₀ h₀=>?_) λ _ _ h'=>h'.elim)
  exact ae (bV h₀ (λ _ s₂ h₂=>ae (ae (bV h₂ (λ x s₃ h₃=>ae (bV h₃
   (λ _ s₄ h₄=>ah (ah ⟨rfl,h₄⟩)) λ _ _ h'=>h'.elim)) λ _ _ h'=>h'.elim))) λ _ _ h'=>h'.elim)
end
noncomputable def bp(X:Cx)(N:List Str)(scope:Scope)(cl:LA)(C:Addr)(ex:List Addr)(s:Shared)(H:Hp):Cx where
 prog:=X.prog
 w:=X.w
 K:=X.K
 mg:=X.mg
 base:=X.base
 A:=X.A
 N:=N
 s₀:=s
 H₀:=H
 env:=compEnvC scope cl C X.env
 outer:=X.stack
 stack:=X.stack
 ex:=ex
 fn:=λ _=>false
 calm:=X.calm
 pn:=X.pn
 xe:=λ _ _=>False
noncomputable def cV(k:Nat)(js:List Nat)(σ:St):St:=List.replicate k none++js.map λ j=>(σ[j]?).join
noncomputable def jU(wi:TI)(k:Nat)(js:List Nat)(g:TG)(te:TE):TE:=λ σ H Q=>wi σ H λ J H1=>
 ∃W:Nat->Nat->List V->St->Hp->Prop,(∃m,W 0 m [] (cV k js σ) H1)/\∀i m ys σ' H',W i m ys σ' H' ->
  (J.stop i H'/\∀p,H' p=none->Q (.ref p) (upd H' p (.lst ys))) \/
  (J.go i H'/\ys.length < sizeLine/\∃N:List V->St->Hp->Prop,(∀zs σ2 H2,N zs σ2 H2->∃m',m' < m/\W (i+1) m' zs σ2 H2) /\
   ∀x H2,J.yld i H' x H2->g x σ' H2 λ σ3 H3=>te σ3 H3 λ v H4=>N (ys++[v]) σ3 H4)
structure Cap (X:Cx)(scope:Scope)(cl:LA)(x:Str)(j:Nat):Prop where
 at_:X.N[j]?=some x
 out:X.env.scope.names.lookup x=some .cell\/X.env.scope.names.lookup x=some .free
 inn:(relabel scope X.env).names.lookup x=some .cell\/(relabel scope X.env).names.lookup x=some .free
def Eu{σ:St}{j:Nat}(h:(σ[j]?).join=some v):σ[j]?=some (some v):=by
 cases e:σ[j]? with
 |none=>rw[e] at h;cases h
 |some o=>
  rw[e] at h
  cases o with
  |none=>cases h
  |some u=>cases h;rfl
noncomputable def iW(wi:TI)(k:Nat)(js:List Nat)(g:TG)(tc:TT)(te:TE):TE:=λ σ H Q=>wi σ H λ J H1=>
 ∃W:Nat->Nat->List V->St->Hp->Prop,(∃m,W 0 m [] (cV k js σ) H1)/\∀i m ys σ' H',W i m ys σ' H' ->
  (J.stop i H'/\∀p,H' p=none->Q (.ref p) (upd H' p (.lst ys))) \/
  (J.go i H'/\ys.length < sizeLine/\∃N:List V->St->Hp->Prop,(∀zs σ2 H2,N zs σ2 H2->∃m',m' < m/\W (i+1) m' zs σ2 H2) /\
   ∀x H2,J.yld i H' x H2->g x σ' H2 λ σ3 H3=>tc σ3 H3 λ b H4=>if b=true then te σ3 H4 λ v H5=>N (ys++[v]) σ3 H5 else N ys σ3 H4)
noncomputable abbrev nW:=Program->World->Around->Env->(Bool->Shared->Prop)->Shared->Prop
noncomputable def qN(ifs:List Expr)(T:nW):Prop:=(∀ {prog:Program}{w:World}{A:Around}{R:Result->Shared->Prop}{s:Shared}{elt target iter:Expr}{scope:Scope}{pos:Pos}{it acc:Value}{env:Env}(I:Nat->Shared->Prop),
  (∀n s,I n s->wpAny (model prog w) A (pyNext it) (λ r s₁=>match r with
   |none=>R (.ok .next) s₁
   | some v=>wpAny (model prog w) A (letOwnedTupleGo target it v) (λ _ s₀=>wpAny (model prog w) A (assign target env v) (λ _ s₂=>T prog w A env (λ b s₃ =>
     if b=true then wpAny (model prog w) A (eval elt env) (λ x s₄ =>
      wpAny (model prog w) A (call (.builtin "list.append") [acc,x]) (λ _ s₅=>∃m,m<n/\I m s₅) (λ _ _=>False) s₄) (λ _ _=>False) s₃
     else ∃m,m<n/\I m s₃) s₂) (λ _ _=>False) s₀) (λ _ _=>False) s₁) (λ _ _=>False) s)->∀n,I n s ->
  codeAny (model prog w) A (.compLoop (.ListComp elt [⟨target,iter,ifs,0⟩] scope pos) 0 it acc env) R s) /\
 ∀ {p w A e k k' s},T p w A e k s->(∀b s,k b s->k' b s)->T p w A e k' s
def vL:nW:=λ _ _ _ _ k s=>k true s
def Ev:qN [] vL:=⟨λ I t n h=>Et I t n h,λ h m=>m _ _ h⟩
noncomputable def PM(X:Cx)(T:nW)(tc:TT):Prop:=∀(pins:LO) (s:Shared) (σ:St) (H:Hp) (K:Bool->Hp->Prop),Inv X pins σ H s->tc σ H K->T X.prog X.w X.A X.env (λ b s'=>∃H',Inv X pins σ H' s'/\K b H') s
theorem vM{X:Cx}{elt tg iter:Expr}{cl:LA}{own fv:List Str}{js:List Nat}
    (hc:X.calm=true) (hi:PI X tg iter wi) (hclos:closureFor scope X.env=pure cl) (hcell:∀y∈scope.names,y.2≠.cell) (hkind:scope.kind=.function)
    (hnames:∀y∈scope.names,y.2=.local->scope.names.lookup y.1=some .local)
    (hcl:∀x c,cl.lookup x=some c->X.env.cells.lookup x=some c)
    (hhas:∀x,((relabel scope X.env).names.lookup x=some .cell\/(relabel scope X.env).names.lookup x=some .free)->∃c,cl.lookup x=some c)
    (hlen:js.length=fv.length) (hcap:∀(i:Nat) x j,fv[i]?=some x->js[i]?=some j->Cap X scope cl x j)
    (hg:∀(C:Addr) (ex:List Addr) (s:Shared) (H:Hp),PG (bp X (own++fv) scope cl C ex s H) tg g)
    (he:∀(C:Addr) (ex:List Addr) (s:Shared) (H:Hp),PE (bp X (own++fv) scope cl C ex s H) elt te)
    (ht:∀(C:Addr) (ex:List Addr) (s:Shared) (H:Hp),PM (bp X (own++fv) scope cl C ex s H) T0 tc) (lp:qN ifs T0)
    (hs:∀x,foldedSetIterable iter X.env x=pure x)(I:Inv X pins σ H s) (h:iW wi own.length js g tc te σ H Q)
    (fin:∀(a C:Addr) (s5:Shared) (H5:Hp) (fl:Flow),Inv X pins σ H5 s5->H5 C=none->C≠X.env.locals->X.s₀.heap.objs.size<=C->(∀x c,X.env.cells.lookup x=some c->c≠C)->(∀p∈X.pn++pins,p.1≠C)->(∃m,s5.heap.Ns C m)->Q (.ref a) H5->compPost (model X.prog X.w) X.A X.xe use QQ (.ref a) C (.ok fl) s5) :
    wpAny (model X.prog X.w) X.A (comprehension (.ListComp elt [⟨tg,iter,ifs,0⟩] scope pos) scope X.env fpos (newList []) false (firstIter [⟨tg,iter,ifs,0⟩] X.env) use) QQ X.xe s:=by
  refine wpAny_comprehension_free (use:=use) rfl hs hclos hkind hnames (thn (hi pins s σ H _ I h) λ v s1 h1=>thn h1 λ itv s2 h2=>?_);obtain⟨it,fp,tn,J,H2,e,I2,T,st2,f2,W,⟨m0,w0⟩,turn⟩:=h2;subst e;refine cn (wpAny_newFunctionEnv hcell (by intro y hy;simp at hy) (λ h₁ hns₁ hsb₁=>?_) hkind);dsimp only at hns₁ hsb₁ ⊢;generalize hHp:s2.heap.push { cls:=.type "list",dict:=none,data:=.seq ([]:LV).toArray }=hL at hns₁ hsb₁ ⊢;have hC:hL.objs.size=s2.heap.objs.size+1:=by rw[<- hHp,dh]
  have hDC:s2.heap.objs.size≠hL.objs.size:=by rw[hC];exact aJ (eU _)
  have ltC:∀b,b<s2.heap.objs.size->b≠hL.objs.size:=λ b hb=>by rw[hC];exact aJ (cL hb)
  have old:∀b o,s2.heap.get? b=some o->h₁.get? b=some o:=λ b o e=>hsb₁.extBut b o (ltC b (az e)) (ay _ (hHp ▸ ay _ e));have hacc:h₁.get? s2.heap.objs.size=some { cls:=.type "list",data:=.seq ([]:LV).toArray 0 }:=hsb₁.extBut _ _ hDC (ay _ (hHp ▸ aL _ rfl));have hfresh:∀a,s2.heap.objs.size<=a->H2 a=none:=λ a ha=>I2.hok.fresh ha
  have fpL:∀b∈fp,b<s2.heap.objs.size:=λ b hb=>by
    obtain⟨o,e,_⟩:=T.obj _ _ st2 b hb;exact az e
  have cellL:∀x c,cl.lookup x=some c->c<s2.heap.objs.size:=λ x c e=>by
    obtain⟨v,q⟩:=I2.cell x c (hcl x c e);exact q.lt
  have pinL:∀p∈X.pn++pins,p.1<s2.heap.objs.size:=λ p hp=>az (I2.pin p hp).1;generalize hX:bp X (own++fv) scope cl hL.objs.size fp s2 H2=Y
  have ok:Y.Ok:=by
    subst hX
    refine⟨I2.ok.mod,hkind,I2.ok.glob,I2.ok.blt,by show s2.heap.objs.size≤hL.objs.size;lia,λ x y c h1 h2=>I2.ok.inj x y c (hcl x c h1) (hcl y c h2),λ x hx=>hhas x hx,
      λ x c hf=>absurd hf (by show ¬(false=true);decide),I2.ok.hd,I2.ok.frames,.inl rfl,λ b hb=>⟨ltC b (fpL b hb),λ x c e=>(f2 b hb).2.2.2.2.1 x c (hcl x c e)⟩,I2.bs,bH I2.ok.bsz I2.sz,λ b o e hb=>?_,λ b hb hz=>?_,I2.stack,I2.stkFree⟩
    · rcases(f2 b hb).2.2.2.1 with z|z
      · exact I2.ok.noex b o e z
      · exact absurd (bZ (az e) (bH I2.ok.bsz z)) (cG _)
    · rcases aN.mp (I2.stkSub b hz) with z|z
      · exact(f2 b hb).2.1 z
      · exact(f2 b hb).2.2.1 z
  have hYl:Y.env.locals=hL.objs.size:=by subst hX;rfl
  have hYs:Y.s₀=s2:=by subst hX;rfl
  have hYH:Y.H₀=H2:=by subst hX;rfl
  have hYx:Y.ex=fp:=by subst hX;rfl
  have hYf:Y.fs=frs X.stack:=by subst hX;rfl
  have hYc:Y.env.cells=cl:=by subst hX;rfl
  have hYp:Y.pn=X.pn:=by subst hX;rfl
  have pinOk:∀p∈X.pn++pins,s2.heap.get? p.1=some p.2/\H2 p.1=none/\p.1≠hL.objs.size/\p.1 ∉ frs X.stack/\∀v,p.2.data≠.cell v:=λ p hp=>by
    obtain⟨e,n,ne,nf,d⟩:=I2.pin p hp;refine⟨e,n,ltC _ (az e),λ z=>?_,d⟩
    rcases aN.mp (I2.stkSub _ z) with q|q
    · exact ne q
    · exact nf q
  have stkL:∀b∈frs X.stack,b<s2.heap.objs.size:=λ b hb=>by
    obtain⟨_,o,ho,_⟩:=I2.stack.mem hb;exact az ho
  have I3:Inv Y (pins++[(s2.heap.objs.size,{ cls:=.type "list",data:=.seq ([]:LV).toArray 0 })]) (cV own.length js σ) H2 { s2 with heap:=h₁,toks:=s2.toks+([]:List (Str×Value)).length }:=by
    refine⟨ok,by subst hX;rfl,I2.bare,by rw[hYH,hYs];exact Un.kept old,⟨_,by rw[hYl];exact hns₁,λ i x v e1 e2 e3=>?_⟩,λ x c e=>?_,by rw[hYl];exact hfresh _ on,λ x c e=>?_,λ p hp=>?_,by subst hX;exact I2.hok.kept old,?_⟩
    · subst hX;have e1:(own++fv)[i]?=some x:=e1;unfold cV at e2;by_cases hi:i<own.length
      · rw[dZ (by simpa using hi),lD] at e2;split at e2<;>cases e2
      · rw[dY (by simpa using hi),jN,bc] at e2;rw[dY on] at e1
        cases ej:js[i-own.length]? with
        |none=>rw[ej] at e2;cases e2
        |some j=>
          rw[ej] at e2;have cp:=hcap _ x j e1 ej;have e2':σ[j]?=some (some v):=Eu (cv e2);obtain⟨m,hn,hl⟩:=I2.loc;obtain⟨u,r,l⟩:=hl j x v cp.at_ e2' (cp.out.elim (λ z=>.inr (.inl z)) λ z=>.inr (.inr z));refine⟨u,r,.inr ⟨cp.inn,?_⟩⟩;obtain⟨c,ec⟩:=hhas x cp.inn
          rcases l with ⟨k,_⟩|⟨_,c',ec',z⟩
          · have k:X.env.scope.names.lookup x=some .local:=k
            rcases cp.out with q|q<;>rw[q] at k<;>cases k
          · rw[hcl x c ec] at ec';cases ec';obtain⟨o,ho,hd⟩:=z;exact⟨c,ec,o,old _ _ ho,hd⟩
    · rw[hYc] at e;obtain⟨v,o,ho,hd⟩:=I2.cell x c (hcl x c e);exact⟨v,o,old _ _ ho,hd⟩
    · rw[hYc] at e;exact I2.freeC x c (hcl x c e)
    · rw[hYp] at hp;rw[hYl,hYf]
      rcases bn.mp hp with z|z
      · obtain⟨a,b,c,d,f⟩:=pinOk p (gz _ z);exact⟨old _ _ a,b,c,d,f⟩
      · rcases bn.mp z with z|z
        · obtain⟨a,b,c,d,f⟩:=pinOk p (bK _ z);exact⟨old _ _ a,b,c,d,f⟩
        · have e:p=_:=bj.mp z;subst e;exact⟨hacc,hfresh _ (aj _),hDC,λ z=>absurd (stkL _ z) (cG _),λ v z=>by cases z⟩
    · subst hX;unfold cV;show _=(own++fv).length;simp[hlen]
  have hYprog:Y.prog=X.prog:=by subst hX;rfl
  have hYw:Y.w=X.w:=by subst hX;rfl
  have hYK:Y.K=X.K:=by subst hX;rfl
  have hYA:Y.A=X.A:=by subst hX;rfl
  have hYcalm:Y.calm=true:=by subst hX;exact hc
  have hYxe:Y.xe=λ _ _=>False:=by subst hX;rfl
  have hYenv:Y.env=compEnvC scope cl hL.objs.size X.env:=by subst hX;rfl
  have hg':=hg hL.objs.size fp s2 H2;have he':=he hL.objs.size fp s2 H2;have ht':=ht hL.objs.size fp s2 H2;rw[hX] at hg' he' ht'
  have fpOk:∀ {H':Hp}{pn:LO},(∀b∈fp,H' b=none)->(∀p∈pn,p.1=s2.heap.objs.size\/p∈pins)->∀b∈fp,ig Y pn H' b:=λ hn hp b hb=>by
    refine⟨hn b hb,by rw[hYl];exact ltC b (fpL b hb),?_,.inl (by rw[hYx];exact hb),λ x c e=>?_,λ p hq=>?_⟩
    · rw[hYf];intro hz
      rcases aN.mp (I2.stkSub b hz) with z|z
      · exact(f2 b hb).2.1 z
      · exact(f2 b hb).2.2.1 z
    · rw[hYc] at e;exact(f2 b hb).2.2.2.2.1 x c (hcl x c e)
    · rw[hYp] at hq
      rcases bn.mp hq with z|z
      · exact(f2 b hb).2.2.2.2.2 p (gz _ z)
      · rcases hp p z with q|q
        · rw[q];exact bh (aJ (fpL b hb))
        · exact(f2 b hb).2.2.2.2.2 p (bK _ q)
  have loop:∀s₃:Shared,s₃={ s2 with heap:=h₁,toks:=s2.toks+([]:List (Str×Value)).length } ->
      codeAny (model X.prog X.w) X.A (.compLoop (.ListComp elt [⟨tg,iter,ifs,0⟩] scope pos) 0 (.ref it) (.ref s2.heap.objs.size) (compEnvC scope cl hL.objs.size X.env))
        (compPost (model X.prog X.w) X.A X.xe use QQ (.ref s2.heap.objs.size) hL.objs.size) s₃:=by
    rintro s₃ rfl
    refine lp.1 (λ n s'=>∃i ys its k σ' H',Inv Y (pins++[(s2.heap.objs.size,{ cls:=.type "list",data:=.seq (its:LV).toArray k })]) σ' H' s'/\tn i s'.heap/\(∀b∈fp,H' b=none)/\Vals ys its/\ys.length<=sizeLine/\W i n ys σ' H') ?_ m0
      ⟨0,[],[],0,_,H2,I3,T.keep _ _ _ st2 λ b _ o e=>old b o e,λ b hb=>(f2 b hb).1,.nil,aX _,w0⟩
    rintro n s4 ⟨i,ys,its,k,σ4,H4,I4,st4,fr4,rv,hz,w4⟩
    have pinD:∀p∈(pins++[(s2.heap.objs.size,({ cls:=.type "list",data:=.seq (its:LV).toArray k }:Obj))]),p.1=s2.heap.objs.size\/p∈pins:=λ p hp=>by
      rcases bn.mp hp with z|z
      · exact .inr z
      · rw[bj.mp z];exact .inl rfl
    have F4:=fpOk (pn:=pins++[(s2.heap.objs.size,{ cls:=.type "list",data:=.seq (its:LV).toArray k })]) fr4 pinD
    rcases turn i n ys σ4 H4 w4 with ⟨stop,qn⟩|⟨go,hlt,N,hN,step⟩
    · have d:=T.done Y hYprog hYw hYK hYcalm i _ s4 σ4 H4 (λ _ _=>False) I4 F4 st4 stop;rw[hYA] at d;refine thn d λ r s5 ⟨hr,I5⟩=>?_;subst hr;obtain⟨m,hn,_⟩:=id I5.loc;rw[hYl] at hn;have hD:=I5.pin (s2.heap.objs.size,{ cls:=.type "list",data:=.seq (its:LV).toArray k }) (bK _ (bK _ (bj.mpr rfl)));have hDn:H4 s2.heap.objs.size=none:=hD.2.1;have kp:∀b o,b≠hL.objs.size->s5.heap.get? b=some o->s5.heap.get? b=some o:=λ b o _ e=>e;have B:=I5.base;rw[hYH,hYs,hYx,hYf] at B;have s2C:∀b o,s2.heap.get? b=some o->b≠hL.objs.size:=λ b o e=>ltC b (az e);have trk:∀b u,H4 b=some u->b≠s2.heap.objs.size:=λ b u e z=>by rw[z,hDn] at e;cases e
      have trC:∀b u,H4 b=some u->b≠hL.objs.size:=λ b u e z=>by
        have:=I5.free;rw[hYl,<- z,e] at this;cases this
      have hH2:∀b u,H2 b=some u->b≠s2.heap.objs.size:=λ b u e z=>by rw[z,hfresh _ (aj _)] at e;cases e
      have IX:Inv X pins σ (upd H4 s2.heap.objs.size (.lst ys)) s5:=by
       refine I2.call' (ch:=fp) (by show s5.os=s2.os;rw[I5.os,hYs]) ⟨λ b o e n hb hx=>kp b o (s2C b o e) (B.keep b o e n hb hx),λ b o e n hb hx=>?_,λ b o e n hx=>?_,λ b o e hx=>?_,λ b xs e=>?_,λ b o u e=>?_,λ b ps e=>?_⟩ ?_ I5.bare (λ b hb=>⟨(f2 b hb).2.2.2.1,(f2 b hb).2.1,(f2 b hb).2.2.2.2.1,(f2 b hb).2.2.2.2.2⟩)
       · obtain⟨sl,q⟩:=B.slot b o e n hb hx;exact⟨sl,kp b _ (s2C b o e) q⟩
       · rw[aF (aJ (az e))];exact B.free b o e n hx
       · obtain⟨o',q⟩:=B.there b o e hx;exact⟨o',kp b o' (s2C b o e) q⟩
       · rw[aF (hH2 b _ e)];exact B.tups b xs e
       · rw[aF (hH2 b _ e)];exact B.frzs b o u e
       · obtain⟨more,q⟩:=B.tbls b ps e;exact⟨more,by rw[aF (hH2 b _ e)];exact q⟩
       · intro b u e;by_cases hb:b=s2.heap.objs.size
         · subst hb;rw[cT] at e;cases e;exact⟨hz,its,k,rv,kp _ _ hDC hD.1⟩
         · rw[aF hb] at e;have okb:=I5.hok b u e;rw[hYprog,hYw] at okb;refine okb.stay (λ c v hc q=>kp c v ?_ q) (λ c q=>by rw[aF (trk c _ q)];exact q) λ c xs q=>by rw[aF (trk c _ q)];exact q
           rcases hc with z|z
           · rw[z];exact trC b u e
           · exact trC c _ z
      have zC:upd H4 s2.heap.objs.size (.lst ys) hL.objs.size=none:=by
        rw[aF (bh hDC)];have:=I5.free
        rwa [hYl] at this
      exact fin s2.heap.objs.size hL.objs.size s5 _ _ IX zC (bh (ltC _ I2.lt)) (by have:=I2.sz;lia) (λ x c e=>ltC c (by obtain⟨v,q⟩:=I2.cell x c e;exact q.lt)) (λ p hp=>ltC _ (pinL p hp)) ⟨m,hn⟩ (qn _ hDn)
    · have d:=T.item Y hYprog hYw hYK hYcalm i _ s4 σ4 H4 (λ _ _=>False) I4 F4 st4 go;rw[hYA] at d;refine thn d λ r s5 ⟨u,hr,h5⟩=>?_;subst hr;refine thn h5 λ _ s6 ⟨x,H6,I6,r6,y6,st6,fr6⟩=>?_;have I6':=I6.pinned (fpOk (pn:=pins++[(s2.heap.objs.size,{ cls:=.type "list",data:=.seq (its:LV).toArray k })]) fr6 pinD) (T.obj _ _ st6);have d7:=hg' _ s6 σ4 H6 x u _ I6' r6 (step x H6 y6);rw[hYprog,hYw,hYA,hYxe,hYenv] at d7;refine thn d7 λ _ s7 ⟨σ7,H7,I7,q7⟩=>?_;have dt:=ht' _ s7 σ7 H7 _ I7 q7;rw[hYprog,hYw,hYA,hYenv] at dt;refine lp.2 dt λ bb s7 ⟨H7,I7,q7⟩=>?_
      cases bb with
      |false=>
        obtain⟨m',hm,w8⟩:=hN _ _ _ q7;have tn8:tn (i+1) s7.heap:=T.keep _ _ _ st6 λ b hb o e=>(I7.pin (b,o) (bK _ (bK _ (jI hb e)))).1
        have fr8:∀b∈fp,H7 b=none:=λ b hb=>by
          obtain⟨o,e,d⟩:=T.obj _ _ st6 b hb;exact(I7.pin (b,o) (bK _ (bK _ (jI hb e)))).2.1
        exact⟨m',hm,i+1,ys,its,k,σ7,H7,I7.unpinned,tn8,fr8,rv,hz,w8⟩
      |true=>
        have q7:te σ7 H7 _:=q7;show wpAny _ _ (eval elt _) _ _ s7;have d8:=he' _ s7 σ7 H7 _ I7 q7;rw[hYprog,hYw,hYA,hYxe,hYenv] at d8;refine thn d8 λ u8 s8 ⟨v8,H8,I8,r8,n8⟩=>?_;obtain⟨m',hm,w8⟩:=hN _ _ _ n8;have pD:=I8.pin (s2.heap.objs.size,{ cls:=.type "list",data:=.seq (its:LV).toArray k }) (bK _ (gz _ (bK _ (bj.mpr rfl))));have tn8:tn (i+1) s8.heap:=T.keep _ _ _ st6 λ b hb o e=>(I8.pin (b,o) (bK _ (bK _ (jI hb e)))).1
        have fr8:∀b∈fp,H8 b=none:=λ b hb=>by
          obtain⟨o,e,d⟩:=T.obj _ _ st6 b hb;exact(I8.pin (b,o) (bK _ (bK _ (jI hb e)))).2.1
        have J8:Inv Y pins σ7 H8 s8:=I8.unpinned.unpinned;have eD:s8.heap.get? s2.heap.objs.size=some { cls:=.type "list",data:=.seq its.toArray k }:=pD.1;refine iq s3f ⟨_,eD,fu⟩ s2q (s1y _ _) (PySem.list_append _ its.toArray k u8 (by rw[aM,<- rv.length];lia)) ⟨eD,?_⟩;have other:∀b o,b≠s2.heap.objs.size->s8.heap.get? b=some o->(s8.heap.update s2.heap.objs.size (Obj.mapSeq λ xs=>xs.push u8)).get? b=some o:=λ b o nb e=>(df s8.heap _ (bh nb)).trans e
        have J9:=J8.turned (t':=s8.toks) (it:=s2.heap.objs.size) (h':=s8.heap.update s2.heap.objs.size (Obj.mapSeq λ xs=>xs.push u8)) other pD.2.1 (by rw[hYl];exact hDC) (.inr (by rw[hYs];exact aj _))
          (λ x c e=>by rw[hYc] at e;exact aJ (cellL x c e)) (λ p hp=>by rw[hYp] at hp;exact aJ (pinL p hp))
        have ep:(its.toArray.push u8)=(its++[u8]).toArray:=BT
        obtain⟨kk,upD⟩:∃kk,(s8.heap.update s2.heap.objs.size (Obj.mapSeq λ xs=>xs.push u8)).get? s2.heap.objs.size=some { cls:=.type "list",data:=.seq (its++[u8]).toArray kk }:=by
          have z:=PySem.IsL.update eD (λ xs=>xs.push u8);rw[ep] at z;exact⟨_,z⟩
        refine⟨m',hm,i+1,ys++[v8],its++[u8],kk,σ7,H8,J9.pins_of λ p hp=>?_,T.keep _ _ _ tn8 λ b hb o e=>other b o (aJ (fpL b hb)) e,fr8,rv.append (.cons r8 .nil),?_,w8⟩
        · rcases bn.mp hp with z|z
          · exact J9.pin p (bK _ z)
          · rw[bj.mp z];exact⟨upD,pD.2.1,by rw[hYl];exact hDC,by rw[hYf];exact λ z=>absurd (stkL _ z) (cG _),λ v z=>by cases z⟩
        · rw[aR,fJ];lia
  exact codeAny_compStart_list (loop _ rfl) (T.self _ 0 _ _ _ (T.keep _ _ _ st2 λ b _ o e=>old b o e) (loop _ rfl))
def Ew:iW wi k js g (λ σ H K=>K true H) te=jU wi k js g te:=by
 unfold iW jU;simp only[ef]
def pm0:PM X vL (λ σ H K=>K true H):=λ _ _ _ H _ I k=>⟨H,I,k⟩
theorem vN{X:Cx}{elt tg iter:Expr}{cl:LA}{own fv:List Str}{js:List Nat}
  (hc:X.calm=true) (hi:PI X tg iter wi) (hclos:closureFor scope X.env=pure cl) (hcell:∀y∈scope.names,y.2≠.cell) (hkind:scope.kind=.function)
  (hnames:∀y∈scope.names,y.2=.local->scope.names.lookup y.1=some .local)
  (hcl:∀x c,cl.lookup x=some c->X.env.cells.lookup x=some c)
  (hhas:∀x,((relabel scope X.env).names.lookup x=some .cell\/(relabel scope X.env).names.lookup x=some .free)->∃c,cl.lookup x=some c)
  (hlen:js.length=fv.length) (hcap:∀(i:Nat) x j,fv[i]?=some x->js[i]?=some j->Cap X scope cl x j)
  (hg:∀(C:Addr) (ex:List Addr) (s:Shared) (H:Hp),PG (bp X (own++fv) scope cl C ex s H) tg g)
  (he:∀(C:Addr) (ex:List Addr) (s:Shared) (H:Hp),PE (bp X (own++fv) scope cl C ex s H) elt te)
  (hs:∀x,foldedSetIterable iter X.env x=pure x)(I:Inv X pins σ H s) (h:jU wi own.length js g te σ H Q)
  (fin:∀(a C:Addr) (s5:Shared) (H5:Hp) (fl:Flow),Inv X pins σ H5 s5->H5 C=none->C≠X.env.locals->X.s₀.heap.objs.size<=C->(∀x c,X.env.cells.lookup x=some c->c≠C)->(∀p∈X.pn++pins,p.1≠C)->(∃m,s5.heap.Ns C m)->Q (.ref a) H5->compPost (model X.prog X.w) X.A X.xe use QQ (.ref a) C (.ok fl) s5) :
  wpAny (model X.prog X.w) X.A (comprehension (.ListComp elt [⟨tg,iter,[],0⟩] scope pos) scope X.env fpos (newList []) false (firstIter [⟨tg,iter,[],0⟩] X.env) use) QQ X.xe s :=
 vM hc hi hclos hcell hkind hnames hcl hhas hlen hcap hg he (λ _ _ _ _=>pm0) Ev hs I (by rw[Ew];exact h) fin
theorem Ey{X:Cx}{elt tg iter:Expr}{cl:LA}{own fv:List Str}{js:List Nat}
  (hc:X.calm=true) (hi:PI X tg iter wi) (hclos:closureFor scope X.env=pure cl) (hcell:∀y∈scope.names,y.2≠.cell) (hkind:scope.kind=.function)
  (hnames:∀y∈scope.names,y.2=.local->scope.names.lookup y.1=some .local)
  (hcl:∀x c,cl.lookup x=some c->X.env.cells.lookup x=some c)
  (hhas:∀x,((relabel scope X.env).names.lookup x=some .cell\/(relabel scope X.env).names.lookup x=some .free)->∃c,cl.lookup x=some c)
  (hlen:js.length=fv.length) (hcap:∀(i:Nat) x j,fv[i]?=some x->js[i]?=some j->Cap X scope cl x j)
  (hg:∀(C:Addr) (ex:List Addr) (s:Shared) (H:Hp),PG (bp X (own++fv) scope cl C ex s H) tg g)
  (he:∀(C:Addr) (ex:List Addr) (s:Shared) (H:Hp),PE (bp X (own++fv) scope cl C ex s H) elt te)
  (hs:∀x,foldedSetIterable iter X.env x=pure x:=by intro _;rfl) :
  PE X (.ListComp elt [⟨tg,iter,[],0⟩] scope pos) (jU wi own.length js g te):=by
 intro pins s σ H Q I h;rw[eval_ListComp];refine vN (use:=none) (QQ:=EP X pins σ Q) hc hi hclos hcell hkind hnames hcl hhas hlen hcap hg he hs I h λ a C s5 H5 fl I5 zC zL zS zc zp ⟨m,hn⟩ q=>⟨m,hn,λ h' sc=>?_⟩;exact⟨.ref a,H5,I5.turned (t':=s5.toks) (it:=C) (λ d o nd e=>sc.extBut d o nd e) zC zL (.inr zS) zc zp,fu,q⟩
set_option tactic.hygienic true in
theorem Ez{K:FG}(KI:K.In h)(GN:h.Ns mainGlobals gm)
  (hn:W.nsIn K mainGlobals nmX=some (some (.ref Cx'))) (hq:W.excIn K Cx' bmX nid=true):OwnCls nmX Cx' bmX nid gm h:=by
 constructor
 ·exact W.mg_of KI GN hn
 ·unfold W.excIn at hq;split at hq
  ·rename_i ddx cdx slx hlk;split at hq
   ·rename_i C2 bm2 f0 f1 f2 f3 nn f5 hmro hsl0;simp only[bg,eV,qO] at hq;obtain⟨⟨⟨⟨⟨eC,eN⟩,hdl⟩,htl⟩,hnsok⟩,hinit⟩:=hq;subst eC eN;obtain⟨c1,c2,c3,c4,c5,c6,c7,c8,c9,c10,c11⟩:=cdx;dsimp only at hmro hdl hnsok hinit;subst hmro hdl
    have hsl1:slx=#[f0,f1,f2,f3,some (.builtin nn),f5]:=by
     obtain⟨lst⟩:=slx;simp only at hsl0;rw[hsl0]
    subst hsl1;refine⟨bm2,c4,c1,c5,c2,c6,c7,c8,c9,c10,ddx,f0,f1,f2,f3,f5,h.nsMap c4,KI _ _ hlk,?_,?_,?_⟩
    ·exact .of_isNs (W.isNs_of_in KI hnsok)
    ·exact W.nsMap_none_of_in KI hnsok hinit
    ·exact W.tail_of_in KI htl
   ·cases hq
  ·cases hq
noncomputable def CX1(P:Program)(w:World):CXT:=λ outer H s E e s'=>
 ∃(a C:Addr) (a0:Value) (H':Hp) (B:Heap),e=.ref a/\s'.os=s.os/\AllBare s'.gens/\Heap.FlyingW B outer a (.ref C) a0 s'.heap /\
  (∀b o,s.heap.get? b=some o->H b=none->b ∉ frs outer->B.get? b=some o)/\(∀b o,s.heap.get? b=some o->b ∉ frs outer->∃o',B.get? b=some o') /\
  Un (frs outer) [] H H' s.heap s'.heap/\HOk P w H' B/\E (.ref C) none H'
section
variable {P:Program}{w:World}{K:FG}{mg:SV}{base:Heap}{N:List Str}{qual:Str}{scope:Scope}{f:Addr}{cd:Value}{A:Around}{outer:List Env}{s:Shared}{H:Hp}{E:XK}
def EA{l:List Addr}(ok:HOk P w H h)(hl:∀b∈l,H b=none):HOk P w H (W.hideAll h l):=λ b u e=>by
 have nb:∀c v,H c=some v->c ∉ l:=λ c v q z=>by rw[hl c z] at q;cases q
 refine(ok b u e).stay (λ c v hc q=>s0c _ q ?_) (λ _ q=>q) λ _ _ q=>q
 rcases hc with z|z
 ·rw[z];exact nb b u e
 ·exact nb c _ z
def EB{l:List Env}:∀env∈l,∀b,env.frame=some b->b∈frs l:=λ env he b hb=>jJ.mpr ⟨env,he,hb⟩
def EC:ly (CX1 P w) (cU (CX1 P w) P w K mg base N qual scope f cd A outer s H E) E:=by
 intro pins σ H1 s1 e s' I hx;obtain⟨a,C,a0,H',B,rfl,os,bare,fl,inB,thB,un,okB,hE⟩:=hx;have hfr:(cU (CX1 P w) P w K mg base N qual scope f cd A outer s H E).A.frames=some (envOfC qual scope s.heap.objs.size f cd::outer):=I.ok.frames;refine wpAny_leaves_onW hfr rfl fl λ h'' fl'' up''=>?_;have Bs:∀b o,B.get? b=some o->h''.get? b=some o:=fl''.1;have ub:Un (frs outer) [] H H1 s.heap s1.heap:=I.base
 have stk:∀b,b ∉ frs outer->b<s.heap.objs.size->b ∉ frs (envOfC qual scope s.heap.objs.size f cd::outer):=λ b hb hlt z=>by
  rcases aN.mp (I.stkSub b z) with q|q
  ·have q:b=s.heap.objs.size:=q;exact cG _ (q ▸ hlt)
  ·exact hb q
 have inB':∀b o,s.heap.get? b=some o->H b=none->b ∉ frs outer->B.get? b=some o:=λ b o e n hb=>
  inB b o (ub.keep b o e n hb BT) (ub.free b o e n BT) (stk b hb (az e))
 have thB':∀b o,s.heap.get? b=some o->b ∉ frs outer->∃o',B.get? b=some o':=λ b o e hb=>by
  obtain⟨o1,e1⟩:=ub.there b o e BT;exact thB b o1 e1 (stk b hb (az e))
 have sub:∀b,b∈frs outer->b∈frs (envOfC qual scope s.heap.objs.size f cd::outer):=λ b hb=>bO _ hb
 have slot:∀b o,s.heap.get? b=some o->H b=none->b∈frs outer->∃sl,h''.get? b=some { o with slots:=sl }:=λ b o e n hb=>by
  obtain⟨sl1,e1⟩:=ub.slot b o e n hb BT;obtain⟨sl2,e2⟩:=un.slot b _ e1 (ub.free b o e n BT) (sub b hb) BT;obtain⟨_,o3,e3,nf⟩:=I.ok.funs.mem hb;have e3:s.heap.get? b=some o3:=e3;rw[e] at e3;cases e3;obtain⟨sl3,e4⟩:=up'' b _ e2 nf;exact⟨sl3,e4⟩
 have frf:∀b∈frs outer,H b=none:=I.ok.frf
 refine⟨a,C,a0,H',B,fu,os.trans I.os,bare,fl'',inB',thB',⟨λ b o e n hb _=>Bs _ _ (inB' b o e n hb),λ b o e n hb _=>slot b o e n hb,λ b o e n _=>?_,λ b o e _=>?_,
  λ b xs e=>un.tups b xs (ub.tups b xs e),λ b o u e=>un.frzs b o u (ub.frzs b o u e),λ b ps e=>?_⟩,okB,hE⟩
 ·obtain⟨o1,e1⟩:=ub.there b o e BT;exact un.free b o1 e1 (ub.free b o e n BT) BT
 ·by_cases hb:b∈frs outer
  ·obtain⟨sl,q⟩:=slot b o e (frf b hb) hb;exact⟨_,q⟩
  ·obtain⟨o',q⟩:=thB' b o e hb;exact⟨o',Bs _ _ q⟩
 ·obtain⟨m1,q1⟩:=ub.tbls b ps e;obtain⟨m2,q2⟩:=un.tbls b _ q1;exact⟨m1++m2,by rw[q2,s2x]⟩
noncomputable def qP(X:Cx)(Ex:Value->Hp->Prop):Prop:=∀(pins:LO) (σ:St) (H:Hp) (s:Shared) (h':Heap) (e C:Addr) (vs:LV),Inv X pins σ H s->Heap.MadeExcOf s.heap h' e (.ref C) vs->Ex (.ref C) H->X.xe (.ref e) { s with heap:=h' }
def ED:qP (cU (CX1 P w) P w K mg base N qual scope f cd A outer s H E) (λ c H'=>E c none H'):=by
 intro pins σ H1 s1 h' e C vs I hm hE;have hfr:(cU (CX1 P w) P w K mg base N qual scope f cd A outer s H E).A.frames=some (envOfC qual scope s.heap.objs.size f cd::outer):=I.ok.frames;have st:s1.heap.FunFrames base (envOfC qual scope s.heap.objs.size f cd::outer):=I.stack;refine wpAny_leaves_madeW (base:=W.hideAll s1.heap (frs (envOfC qual scope s.heap.objs.size f cd::outer))) hfr rfl (λ b o q=>W.of_hideAll _ q) (W.funFrames_hide st EB) hm λ h'' t fl'' tp nt up''=>?_;have ub:Un (frs outer) [] H H1 s.heap s1.heap:=I.base;have Bs:=fl''.1
 have stk:∀b,b ∉ frs outer->b<s.heap.objs.size->b ∉ frs (envOfC qual scope s.heap.objs.size f cd::outer):=λ b hb hlt z=>by
  rcases aN.mp (I.stkSub b z) with q|q
  ·have q:b=s.heap.objs.size:=q;exact cG _ (q ▸ hlt)
  ·exact hb q
 have inB':∀b o,s.heap.get? b=some o->H b=none->b ∉ frs outer->(W.hideAll s1.heap (frs (envOfC qual scope s.heap.objs.size f cd::outer))).get? b=some o:=λ b o e n hb=>
  s0c _ (ub.keep b o e n hb BT) (stk b hb (az e))
 have thB':∀b o,s.heap.get? b=some o->b ∉ frs outer->∃o',(W.hideAll s1.heap (frs (envOfC qual scope s.heap.objs.size f cd::outer))).get? b=some o':=λ b o e hb=>by
  obtain⟨o1,e1⟩:=ub.there b o e BT;exact⟨o1,s0c _ e1 (stk b hb (az e))⟩
 have slot:∀b o,s.heap.get? b=some o->H b=none->b∈frs outer->∃sl,h''.get? b=some { o with slots:=sl }:=λ b o e n hb=>by
  obtain⟨sl1,e1⟩:=ub.slot b o e n hb BT;obtain⟨_,o3,e3,nf⟩:=I.ok.funs.mem hb;have e3:s.heap.get? b=some o3:=e3;rw[e] at e3;cases e3;obtain⟨sl3,e4⟩:=up'' b _ (hm.keeps _ _ e1) nf;exact⟨sl3,e4⟩
 have frf:∀b∈frs outer,H b=none:=I.ok.frf
 refine⟨e,C,.ref t,H1,_,fu,I.os,I.bare,fl'',inB',thB',⟨λ b o e n hb _=>Bs _ _ (inB' b o e n hb),λ b o e n hb _=>slot b o e n hb,λ b o e n _=>ub.free b o e n BT,λ b o e _=>?_,
  ub.tups,ub.frzs,ub.tbls⟩,EA I.hok I.stkFree,hE⟩
 by_cases hb:b∈frs outer
 ·obtain⟨sl,q⟩:=slot b o e (frf b hb) hb;exact⟨_,q⟩
 ·obtain⟨o',q⟩:=thB' b o e hb;exact⟨o',Bs _ _ q⟩
end
noncomputable def EG(C:Addr)(Ex:Value->Hp->Prop)(t:TA):TS:=λ _ σ H=>t σ H λ vs H1=>vs.length<=sizeLine/\Ex (.ref C) H1
theorem vO{X:Cx}{e₀:Expr}{es:List Expr}
  (FB:ExcBaseFacts B newId initId bm) (hc:X.calm=true) (hg:Gl X x) (hn:W.nsIn X.K mainGlobals x=some (some (.ref C))) (hq:W.excIn X.K C bm newId=true) (hx:qP X Ex) (ha:PA X (e₀::es) t)
  (hs:starEach (e₀::es) X.env=(false,eval e₀ X.env)::starEach es X.env:=by rfl) (hpl:(backTo cpos (starEach es X.env)).any (·.1)=false:=by rfl) (hd:(x == ("__debug__" : Str))=false:=by decide) :
  PS X (.Raise (some (.Call (.Name x np) (e₀::es) [] cpos)) none pos) (EG C Ex t):=by
 intro pins s σ H D I h;have O:=Ez I.ok.mod.kin I.ok.mod.glob hn hq;obtain⟨tl,Nn,n1,q1,b1,d1,m1,u1,a1,l1,dd1,j0,j1,j2,j3,j5,mN,hC,hN,hni,T⟩:=O.obj
 refine wpAny_Raise_call_subT (C:=C) (nm:=n1) (q:=q1) (N:=Nn) (bs:=b1) (bm:=tl) (hdct:=d1) (sn:=m1) (sub:=u1) (ab:=a1) (col:=l1) (dd:=dd1) (k0:=j0) (k1:=j1) (k2:=j2) (k3:=j3) (k5:=j5) (mN:=mN)
  FB (T.hasType FB.hasBase) (I.ok.hd hc) (by rw[hs];show(false || (backTo cpos (starEach es X.env)).any (·.1))=false;rw[hpl];rfl) hni (iS I hg O.bound ⟨rfl,?_⟩ hd)
 have hA:=ha cpos pins s σ H _ I h;rw[hs] at hA ⊢;refine qL (thn hA λ us s2 ⟨vs,H2,I2,r2,hz,hE⟩=>⟨fu,?_,I2.bk _ _ hC,hN.keeps I2.bk,T.keeps I2.bk,λ h' e hm=>hx pins σ H2 s2 h' e C us I2 hm hE⟩);show us.length<=sizeLine;rw[<- r2.length];exact hz
section
variable {P:Program}{w:World}{K:FG}{mg:SV}{base:Heap}
theorem Fun.okX{st:Stmt}{sp:Sp}(F:Fun K x qual st f fd)(S:FnScope N ps (be st))(len:∀vs H Q E,sp vs H Q E->vs.length=ps.length)
  (hbody:∀(cdv:Value) (A:Around) (outer:List Env) (s:Shared) (H:Hp) (vs:List V) (Q:VK) (E:XK),Room k (A.deeper (envOfC qual (be st) s.heap.objs.size f cdv))->sp vs H Q E ->
   ∃t,PSs (cU (CX1 P w) P w K mg base N qual (be st) f cdv A outer s H E) (cK st) t/\t { nx:=λ _ H'=>Q .non H',rt:=Q } (start N vs) H):FnOk P w K mg base (CX1 P w) (k+1) f fd ps sp:=by
 obtain⟨oc,od,kV,doc,pm,an,cdv,ct,osl,rfl,lk,hcd⟩:=F.ex;exact vq lk hcd S len λ A outer s H vs Q E hr hsp=>hbody cdv A outer s H vs Q E hr hsp
end
variable {X:Cx}
section
variable {pins:LO}{σ:St}{H:Hp}{s:Shared}
theorem Inv.track(I:Inv X pins σ H s)(hn:H a=none)(new:ObjOk X.prog X.w (upd H a o) s.heap a o)(h1:a≠X.env.locals)(h2:∀x c,X.env.cells.lookup x=some c->c≠a)(h3:∀p∈X.pn++pins,p.1≠a)
  (h4:X.s₀.heap.get? a=none):Inv X pins σ (upd H a o) s:=by
 have ne:∀b u,H b=some u->b≠a:=λ b u e z=>by rw[z,hn] at e;cases e
 have n0:∀b u,X.s₀.heap.get? b=some u->b≠a:=λ b u e z=>by rw[z,h4] at e;cases e
 refine⟨I.ok,I.os,I.bare,⟨I.base.keep,I.base.slot,λ b u e n hx=>?_,I.base.there,λ b xs e=>?_,λ b u v e=>?_,λ b ps e=>?_⟩,I.loc,I.cell,?_,λ x c e=>?_,λ p hp=>?_,λ b u e=>?_,I.len⟩
 ·rw[aF (n0 b u e)];exact I.base.free b u e n hx
 ·have q:=I.base.tups b xs e;rw[aF (ne b _ q)];exact q
 ·have q:=I.base.frzs b u v e;rw[aF (ne b _ q)];exact q
 ·obtain⟨more,q⟩:=I.base.tbls b ps e;exact⟨more,by rw[aF (ne b _ q)];exact q⟩
 ·rw[aF (bh h1)];exact I.free
 ·rw[aF (h2 x c e)];exact I.freeC x c e
 ·obtain⟨e,n,ne,nf,d⟩:=I.pin p hp;exact⟨e,by rw[aF (h3 p hp)];exact n,ne,nf,d⟩
 ·by_cases hb:b=a
  ·subst hb;rw[cT] at e;cases e;exact new
  ·rw[aF hb] at e;exact(I.hok b u e).stay (λ c v _ q=>q) (λ c q=>by rw[aF (ne c _ q)];exact q) λ c xs q=>by rw[aF (ne c _ q)];exact q
end
noncomputable abbrev Cx.more(X:Cx)(xe:VS)(pn:LO):Cx:={ X with xe:=xe,pn:=pn }
noncomputable abbrev Cx.suite(X:Cx)(a:Addr)(pn:LO):Cx:={ X with A:=X.A.mark (some (.ref a)),calm:=false,xe:=λ _ _=>False,pn:=pn }
def Cx.Ok.more{X:Cx}(ok:X.Ok)(xe:VS)(pn:LO):(X.more xe pn).Ok :=
 ⟨ok.mod,ok.kind,ok.glob,ok.blt,ok.above,ok.inj,ok.has,ok.cab,ok.hd,ok.frames,ok.stk,ok.exf,ok.bs,ok.bsz,ok.noex,ok.exfs,ok.funs,ok.frf⟩
def Cx.Ok.suite{X:Cx}(ok:X.Ok)(a:Addr)(pn:LO):(X.suite a pn).Ok :=
 ⟨ok.mod,ok.kind,ok.glob,ok.blt,ok.above,ok.inj,ok.has,ok.cab,λ z=>absurd z (by show ¬(false=true);decide),ok.frames,ok.stk,ok.exf,ok.bs,ok.bsz,ok.noex,ok.exfs,ok.funs,ok.frf⟩
noncomputable def lM(CX:CXT)(X:Cx)(E:XK)(σ:St):Prop:=∀(pins:LO) (H:Hp) (s:Shared) (e:Value) (s':Shared),Inv X pins σ H s->CX X.stack H s E e s'->X.xe e s'
section
variable {CX:CXT}{k:Nat}{f:Addr}{fd:FuncData}{ps:List Str}{sp:Sp}{dvs:List V}{ds:LV}{EE:St->XK}{x:Str}{p pos:Pos}{e:Expr}{es:List Expr}{t:TA}
noncomputable def vP(sp:Sp)(dvs:List V)(EE:St->XK)(t:TA):TE:=λ σ H Q=>t σ H λ vs H1=>sp (vs++dvs) H1 Q (EE σ)
theorem EH(F:FnOk X.prog X.w X.K X.mg X.base CX k f fd ps sp)(hr:Room k X.A)(hg:Gl X x)(hm:X.mg x=some (.ref f))(hk:W.keepIn X.K (.ref f)=true)(hb:Binds X.K fd ps ds)(hd:Vals dvs ds)(hx:∀σ,lM CX X (EE σ) σ)
  (ha:PA X (e::es) t) (hdb:(x == ("__debug__" : Str))=false:=by decide) (he:starEach (e::es) X.env=(false,eval e X.env)::starEach es X.env:=by rfl) (hpl:(backTo pos (starEach es X.env)).any (·.1)=false:=by rfl) :
  PE X (.Call (.Name x p) (e::es) [] pos) (vP sp dvs EE t):=by
 intro pins s σ H Q I h;refine jM (iS I hg hm ?_ hdb);refine s3w (h₀:=X.base) I.ok.mod.kin hk (thn (ha pos pins s σ H _ I h) λ us s1 ⟨vs,H1,I1,r,q⟩=>⟨I1.kIn,?_⟩) he hpl;have r2:Vals (vs++dvs) (us++ds):=r.append hd;have hl:(us++ds).length=ps.length:=by rw[<- r2.length];exact F.len _ _ _ _ q
 refine s1w (gE (F.run X.A X.stack s1 H1 ⟨us,[]⟩ (us++ds) (vs++dvs) Q (EE σ) hr I1.env0 (hb s1 us I1.kIn hl) r2 q) λ r s' hq=>?_)
 cases r with
 |error e=>exact hx σ pins H1 s1 e s' I1 hq
 |ok fl=>
  cases fl with
  |ret u=>exact I1.after hq
  |next=>exact False.elim hq
  |brk=>exact False.elim hq
  |cont=>exact False.elim hq
end
structure Callee (P:Program)(w:World)(K:FG)(mg:SV)(base:Heap)(CX:CXT)(k:Nat)(x:Str)(ps:List Str)(sp:Sp):Prop where
 has:∃(f:Addr) (fd:FuncData),FnOk P w K mg base CX k f fd ps sp/\mg x=some (.ref f)/\W.keepIn K (.ref f)=true/\Binds K fd ps []
theorem Callee.mk'{K:FG}{mg:SV}{st:Stmt}(F:Fun K x qual st f fd)(m:mg x=some (.ref f))(b:Binds K fd ps [])
  (ok:FnOk P w K mg base CX k f fd ps sp):Callee P w K mg base CX k x ps sp:=⟨⟨f,fd,ok,m,F.kp,b⟩⟩
def Callee.mono{K:FG}{j k:Nat}(c:Callee P w K mg base CX j x ps sp)(h:j<=k):Callee P w K mg base CX k x ps sp :=
 let ⟨f,fd,ok,m,kp,b⟩:=c.has;⟨⟨f,fd,ok.mono h,m,kp,b⟩⟩
section
variable {CX:CXT}{k:Nat}{ps:List Str}{sp:Sp}{E:XK}{x:Str}{p pos:Pos}{e:Expr}{es:List Expr}{t:TA}
theorem vQ(c:Callee X.prog X.w X.K X.mg X.base CX k x ps sp)(hr:Room k X.A)(hg:Gl X x)(hx:ly CX X E)(ha:PA X (e::es) t)(hdb:(x == ("__debug__" : Str))=false:=by decide)
  (he:starEach (e::es) X.env=(false,eval e X.env)::starEach es X.env:=by rfl) (hpl:(backTo pos (starEach es X.env)).any (·.1)=false:=by rfl):PE X (.Call (.Name x p) (e::es) [] pos) (vi sp [] E t):=by
 obtain⟨f,fd,ok,m,kp,b⟩:=c.has;exact Dy ok hr hg m kp b .nil hx ha hdb he hpl
theorem EI{EE:St->XK}(c:Callee X.prog X.w X.K X.mg X.base CX k x ps sp)(hr:Room k X.A)(hg:Gl X x)(hx:∀σ,lM CX X (EE σ) σ)(ha:PA X (e::es) t)(hdb:(x == ("__debug__" : Str))=false:=by decide)
  (he:starEach (e::es) X.env=(false,eval e X.env)::starEach es X.env:=by rfl) (hpl:(backTo pos (starEach es X.env)).any (·.1)=false:=by rfl):PE X (.Call (.Name x p) (e::es) [] pos) (vP sp [] EE t):=by
 obtain⟨f,fd,ok,m,kp,b⟩:=c.has;exact EH ok hr hg m kp b .nil hx ha hdb he hpl
end
noncomputable def EJ(i j:Int):Prop:=j≠0/\-18446744073709551616<j/\j<18446744073709551616
def EK{y:Int}(h0:-18446744073709551616<y)(h1:y<18446744073709551616):y.natAbs.log2<9000:=by
 by_cases z:y.natAbs=0
 ·rw[z];decide
 ·exact bZ ((Nat.log2_lt z).mpr (show y.natAbs<2 ^ 64 by lia)) pv
def EL:OpR X (binaryOp .FloorDiv) (rI EJ λ i j=>.int (i.fdiv j)):=opI λ _ _ _ _ _ _ _ hc q=>floordiv_int hc.1 q (.inl (vR (EK hc.2.1 hc.2.2)))
section
variable {K:FG}
end
noncomputable def qQ(t n:String):Bool:=t == n || (t == "bool" && n == "int")
def EM{K:FG}(e:(if (Value.type t == Value.type n)=true then some true else if W.kitMeta n=true then (fastBuiltinMro t).map (·.contains (.type n)) else none)=some b):W.kitOne K (.type t) (.type n)=some b:=by
 unfold W.kitOne;split at e
 ·rename_i h;rw[if_pos h];exact e
 ·rename_i h;rw[if_neg h];exact e
def small{n:Nat}(h:n<=1000):n<=sizeLine:=cu (aP h)
end _L
namespace _L
open PySem PySem.Spec PyProof.Rows PySem.W PySem.Calls
section
variable {prog:Program}{w:World}{A:Around}{E:VS}{K:FG}{h:Heap}{g:Array GenState}{d:Drawn}{t:Nat}{os:OsState}{a C:Addr}{ox:Obj}
end
variable {X:Cx}
noncomputable def iu(t:Addr)(i:Int):Obj:={ cls:=.type "reversed",data:=.fields #[.ref t,rawInt i] }
noncomputable def IsRv(h:Heap)(a t:Addr)(i:Int):Prop:=∃o,h.get? a=some o/\o.cls=.type "reversed" /\ o.data=.fields #[.ref t,rawInt i]
def IsRv.typeIs{s:Shared}(x:IsRv s.heap a t i):s.TypeIs (.ref a) "reversed" := let ⟨o,ho,hc,_⟩:=x;⟨o,ho,hc⟩
def EN:typeLookup (.type "tuple") "__reversed__"=pure none:=by rw[dG,dH];kernel_rfl
def vS:typeLookup (.type "tuple") "__getitem__"=pure (some (.builtin "tuple.__getitem__")):=by rw[dG,dH];kernel_rfl
def EO:isSubtype (.type "tuple") (.type "dict")=pure false:=by rw[fK];kernel_rfl
def EQ:Slot "reversed" "__init__" "object.__init__" :=
 .of (owner := "object") (n := "__init__") (by rw[dG,dH];kernel_rfl) (by decide +kernel) (by decide +kernel) (by decide +kernel) (.inl (by decide +kernel)) (by rw[fK];kernel_rfl)
def rv_next:Slot "reversed" "__next__" "reversed.__next__" :=
 .of (owner := "reversed") (n := "__next__") (by rw[dG,dH];kernel_rfl) (by decide +kernel) (by decide +kernel) (by decide +kernel) (.inl (by decide +kernel)) (by rw[fK];kernel_rfl)
def vT:Slot "reversed" "__iter__" "reversed.__iter__" :=
 .of (owner := "reversed") (n := "__iter__") (by rw[dG,dH];kernel_rfl) (by decide +kernel) (by decide +kernel) (by decide +kernel) (.inl (by decide +kernel)) (by rw[fK];kernel_rfl)
def vU:entryFor table "reversed.__next__"=some Builtin.«reversed.__next__»:=nX (by kernel_rfl)
def ES:entryFor table "reversed.__iter__"=some Builtin.«dict_keyiterator.__iter__» :=
 s2g (id' := "dict_keyiterator.__iter__") (by kernel_rfl) (by first|rfl|decide +kernel) (by decide +kernel) (by kernel_rfl)
def vV(a:Value):argsOk "reversed.__next__" ⟨[a],[]⟩:=by unfold argsOk;kernel_rfl
def ET(a:Value):argsOk "reversed.__iter__" ⟨[a],[]⟩:=by unfold argsOk;kernel_rfl
def EU:TypeCalled "reversed" "reversed.__new__" "object.__init__" :=
 ⟨by decide +kernel,PySem.F.create_reversed,⟨_,_,PySem.F.mro_reversed⟩,PySem.F.made_reversed,PySem.F.plain_reversed_new,PySem.F.sub_reversed_self,EQ⟩
theorem EW(t:Addr)(items:Array Value)(hz:(items.size:Int)<2 ^ 63):Meets (Builtin.«reversed.__new__» ⟨[.type "reversed",.ref t],[]⟩)
  (λ _ R s=>IsTup s.heap t items/\∀tk,R (.ok (.ret (.ref s.heap.objs.size))) { s with heap:=s.heap.push (iu t ((items.size:Int)-1)),toks:=tk }) :=
 .of_wp λ prog w A R s h=>by
  obtain⟨ht,h⟩:=h;have hT:s.TypeIs (.ref t) "tuple" := ht.typeIs;unfold Builtin.«reversed.__new__»;refine ae (cW (PySem.newClass_reversed _) ?_);try dsimp only
  refine ae (cW (a:=()) (by first|rfl|kernel_rfl) ?_);refine ae (cW (a:=()) (by first|rfl|kernel_rfl) ?_);try dsimp only
  refine ae (fN hT EN ?_);try dsimp only
  refine ae ?_
  k_delta "hasItemSlot"
  refine ae (iX (T := "tuple") (b:=false) hT EO ?_);rw[if_neg aV];refine ae (fN hT vS ?_);dsimp only;rw[if_pos (by decide +kernel)];refine ah ?_;rw[if_neg pv];refine ae (s3e ht hz ?_);refine ae (cW (a:=some (items.size:Int)) rfl ?_);dsimp only;refine ae ?_;unfold Builtin.SmallTypes.newRecord;refine cn (ah ⟨_,fu,h _⟩)
section
variable {prog:Program}{w:World}{A:Around}{E:VS}{s:Shared}
theorem vW{Q:VS}(ht:IsTup s.heap t items)(hz:(items.size:Int)<2 ^ 63)
  (h:∀tk,Q (.ref s.heap.objs.size) { s with heap:=s.heap.push (iu t ((items.size:Int)-1)),toks:=tk }):wpAny (model prog w) A (call (.type "reversed") [.ref t]) Q E s :=
 callType_new EU pv (PySem.F.typeCall_reversed_1 _) (PySem.F.newCall_reversed_1 _) (λ obj=>qR obj _) PySem.F.entry_reversed_new (EW t items hz)
  ⟨ht,λ tk=>⟨⟨_,aL _ rfl,rfl⟩,h tk⟩⟩
theorem vX{i:Nat}{Q:Option Value->Shared->Prop}(hit:IsRv s.heap it t (i:Int))(ht:IsTup s.heap t items)(hx:items[i]?=some x)(hz:(items.size:Int)<2 ^ 63)
  (hQ:∀h' tk,IsRv h' it t ((i:Int)-1)->Heap.SameBut it s.heap h'->Q (some x) { s with heap:=h',toks:=tk }):wpAny (model prog w) A (pyNext (.ref it)) Q E s:=by
 obtain⟨o,ho,hc,hd⟩:=id hit;have hT:s.TypeIs (.ref t) "tuple" := ht.typeIs;have hi:i<items.size:=(lN.mp hx).1;unfold pyNext;refine ae (jV (im (name:=Str.ofString "__next__") hit.typeIs rv_next (dc rv_next hit.typeIs vU ?_ (vV _))));unfold Builtin.«reversed.__next__»;refine ae (cW (a:=(Value.ref it,[])) rfl ?_);try dsimp only
 refine ae (cH ho hd (x:=.ref t) rfl ?_);refine ae (cH ho hd (x:=rawInt (i:Int)) rfl ?_);show wpAny _ _ (if (i:Int)<0 then _ else _) _ _ s;rw[if_neg on];refine ae (fN hT vS ?_);rw[if_neg pv];refine ae (wpAny_mkInt ?_);refine ae (jV (getItem_tuple (k:=(i:Int)) (j:=i) ht on on (by simp[seqIndex?];lia) hx ?_));dsimp only;refine ae (cH ho hd (x:=rawInt (i:Int)) rfl ?_);show wpAny _ _ (setField (.ref it) 1 (rawInt ((i:Int)-1)) >>= _) _ _ _;refine ae (lO ho hd BT ?_);refine ah ⟨x,fu,ah (hQ _ _ ?_ (iw ..))⟩;exact⟨_,eE _ ho (qS (jW hd _)),(Obj.cls_mapFields ..).trans hc,by rw[jW hd];simp⟩
def vY{Q:Option Value->Shared->Prop}(hh:A.handled=none)(hit:IsRv s.heap it t (-1))(hQ:∀h' tk,Heap.ExtBut it s.heap h'->Q none { s with heap:=h',toks:=tk }):wpAny (model prog w) A (pyNext (.ref it)) Q E s:=by
 obtain⟨o,ho,hc,hd⟩:=id hit;unfold pyNext;refine ae (jV (im (name:=Str.ofString "__next__") hit.typeIs rv_next (dc rv_next hit.typeIs vU ?_ (vV _))));unfold Builtin.«reversed.__next__»;refine ae (cW (a:=(Value.ref it,[])) rfl ?_);try dsimp only
 refine ae (cH ho hd (x:=.ref t) rfl ?_);refine ae (cH ho hd (x:=rawInt (-1)) rfl ?_);show wpAny _ _ (if (-1:Int)<0 then _ else _) _ _ s;rw[if_pos pv];refine ae (fO ?_);refine ae ?_
 k_delta "reversedEnd"
 refine ae (lO ho hd BT ?_);refine lO (eE _ ho (qS (jW hd _))) (jW hd _) BT ?_;refine ae ?_
 have other:∀b u,b≠it->s.heap.get? b=some u->((s.heap.update it (Obj.mapFields λ x=>x.setIfInBounds 1 (rawInt (-1)))).update it (Obj.mapFields λ x=>x.setIfInBounds 0 Value.none)).get? b=some u:=λ b u nb e=>by
  rw[df _ _ (bh nb),df _ _ (bh nb)];exact e
 generalize ((s.heap.update it (Obj.mapFields λ x=>x.setIfInBounds 1 (rawInt (-1)))).update it (Obj.mapFields λ x=>x.setIfInBounds 0 Value.none))=hU at *;show wpAny _ _ (newExc (.type "StopIteration") [] >>= _) _ _ _;refine ae ?_;simp only[newExc,newTuple];refine ae (cn ?_ (by size_fits));refine ae (m:=firstArgMember _ _) (cW (a:=Value.none) (by first|rfl|(simp only[firstArgMember];rfl)) ?_);refine cn ?_ (by size_fits);simp only[raiseNew];refine ae (s3g ?_);rw[show A.in1.handled=none from hh];refine ae (ah (s4h ?_));refine ae (iX (T := "StopIteration") (b:=true) ⟨_,aL _ rfl,fu⟩ s2h ?_);exact ah (hQ _ _ λ b u nb e=>ay _ (ay _ (other b u nb e)))
def qT{Q:VS}(hit:IsRv s.heap it t i)(h:Q (.ref it) s):wpAny (model prog w) A (pyIter (.ref it)) Q E s:=by
 refine qU hit.typeIs vT (dc vT hit.typeIs ES ?_ (ET _));show wpAny _ _ (ret (.ref it)) _ _ s;exact ah ⟨_,fu,"reversed",_,hit.typeIs,rv_next.lookup,h⟩
end
noncomputable def nY(K:FG)(a:Addr)(n:Nat):It:=⟨λ i H=>∃xs,SqT K H a xs/\xs.length=n/\i<n,λ i H x H'=>H'=H/\∀xs,SqT K H a xs->xs[n-1-i]?=some x,λ i H=>∃xs,SqT K H a xs/\xs.length=n/\i=n⟩
def nZ:(sizeLine:Int)<2 ^ 63:=by rw[gD];decide
theorem EY{K:FG}(a it:Addr)(n:Nat):Turn P w K tg (nY K a n) [it] it (λ i h=>IsRv h it a ((n:Int)-1-(i:Int))) where
 mem:=BT
 obj:=λ i h x b hb=>by
  have e:b=it:=by simpa using hb
  subst e;obtain⟨o,ho,_,hd⟩:=x;exact⟨o,ho,λ v q=>by rw[hd] at q;cases q⟩
 keep:=λ i h h' x k=>let ⟨o,ho,r⟩:=x;⟨o,k it BT o ho,r⟩
 item:=by
  intro X hP hw hK hc i pins s σ H E I hf st hg;subst hP hw hK;obtain⟨xs,hq,hn,hi⟩:=hg;obtain⟨its,rv,p,hz⟩:=I.tuple hq;have hx:xs[n-1-i]?=some (xs[n-1-i]' on):=aC on;obtain⟨u,hu,ru⟩:=rv.get hx;obtain⟨f0,f1,f2,f3,f4,f5⟩:=hf it BT;have e:(n:Int)-1-(i:Int)=((n-1-i:Nat):Int):=on;rw[e] at st;have hl:=rv.length;have z63:=nZ;refine vX st p (x:=u) (by simpa using hu) (by simp;lia) λ h' tk st' sb=>?_;have I1:Inv X pins σ H { s with heap:=h',toks:=tk }:=I.turned (t':=tk) (λ b o hb e=>(sb.2 b hb).trans e) f0 f1 f3 f4 f5;obtain⟨o,e,c,d⟩:=id st';have e2:((n-1-i:Nat):Int)-1=(n:Int)-1-((i+1:Nat):Int):=on;rw[e2] at st';exact⟨u,fu,lh (s:={ s with heap:=h',toks:=tk }) e c d pv ⟨_,H,I1,ru,⟨fu,λ ys hy=>by rw[I.tuple_inj hy hq];exact hx⟩,st',λ b hb=>(hf b hb).1⟩⟩
 done:=by
  intro X hP hw hK hc i pins s σ H E I hf st hg;subst hP hw hK;obtain⟨xs,hq,hn,hi⟩:=hg;obtain⟨f0,f1,f2,f3,f4,f5⟩:=hf it BT;have e:(n:Int)-1-(i:Int)=-1:=on;rw[e] at st;exact vY (I.ok.hd hc) st λ h' tk eb=>⟨fu,I.turned (t':=tk) (λ b o hb e=>eb b o hb e) f0 f1 f3 f4 f5⟩
 self:=λ _ _ _ _ _ st h=>qT st h
section
variable {tg:Expr}
noncomputable def EZ(K:FG)(te:TE):TI:=λ σ H R=>te σ H λ x H1=>∃a xs,x=.ref a/\SqT K H1 a xs/\R (nY K a xs.length) H1
theorem Fa{p pos:Pos}(hg:Gl X "reversed")(hm:X.mg "reversed"=none)(he:PE X e te)(hs:starEach [e] X.env=[(false,eval e X.env)]:=by rfl) :
  PI X tg (.Call (.Name "reversed" p) [e] [] pos) (EZ X.K te):=by
 intro pins s σ H R I h;have hA:=(cj he (pa_nil (X:=X)) hs) pos pins s σ H (λ vs H1=>match vs with|[x]=>∃a xs,x=.ref a/\SqT X.K H1 a xs/\R (nY X.K a xs.length) H1|_=>False) I h;refine Call_ (dD I hg hm s3h (gC (thn hA λ us s1 ⟨vs,H1,I1,r1,q1⟩=>?_) hs rfl))
 match vs,q1 with
 |[x],⟨a,xs,e,hq,q⟩=>
  subst e;obtain⟨u,rfl,ru⟩:=bW r1;cases (show u=Value.ref a from ru);obtain⟨its,rv,p,hz⟩:=I1.tuple hq;have hl:=rv.length;have z63:=nZ;refine vW p (by simp;omega) λ tk=>?_;have I2:Inv X pins σ H1 { s1 with heap:=s1.heap.push (iu a ((its.toArray.size:Int)-1)),toks:=tk }:=I1.kept (t':=tk) λ b o e=>ay _ e
  have ir:IsRv (s1.heap.push (iu a ((its.toArray.size:Int)-1))) s1.heap.objs.size a ((xs.length:Int)-1-((0:Nat):Int)):=by
   refine⟨_,aL _ rfl,fu,?_⟩;show Data.fields #[.ref a,rawInt ((its.toArray.size:Int)-1)]=_;have e:((its.toArray.size:Nat):Int)-1=(xs.length:Int)-1-((0:Nat):Int):=by simp;omega
   rw[e]
  refine qT ir ⟨s1.heap.objs.size,[s1.heap.objs.size],_,_,H1,fu,I2,EY a _ xs.length,ir,λ b hb=>?_,q⟩;have e:b=s1.heap.objs.size:=by simpa using hb
  subst e;exact I1.fpOk (aj _) (I1.hok.fresh (aj _))
end
def Fb:typeLookup (.type "list_reverseiterator") "__len__"=pure none:=by rw[dG,dH];kernel_rfl
def Fc:typeLookup (.type "list_reverseiterator") "__length_hint__"=pure (some (.builtin "list_reverseiterator.__length_hint__")):=by rw[dG,dH];kernel_rfl
section
variable {pg:Program}{wd:World}{B:Around}{X0:VS}{s0:Shared}{J:Addr}{fs ws:List Addr}{Gg:Array GenState->Array GenState->Prop}{m:Nat}{Pr:Nat->Value->Prop}{Sx:Nat->Shared->Prop}
theorem Fd{R:LV->Shared->Prop}(wk:WalksS pg wd B.in1 J fs ws Gg m Pr Sx)(ty:∀j z,Sx j z->z.TypeIs (.ref J) "list_reverseiterator")(z0:Sx 0 s0)(lt:∀b∈fs,b<s0.heap.objs.size)(mJ:J∈fs)(sm:m<=sizeLine)
  (fin:∀z' ac,Moved ws Gg s0 z'->ItemsOf Pr ac m->R ac.toList z'):wpAny (model pg wd) B (collect (.ref J)) R X0 s0:=by
 have out:s0.heap.objs.size ∉ fs:=λ q=>absurd (lt _ q) (cG _);have neJ:s0.heap.objs.size≠J:=by rintro rfl;exact out mJ
 let nu:Obj:={ cls:=.type "list",data:=.seq ([]:LV).toArray }
 unfold collect;refine ae (og (cD s1g ?_));rw[cM s1h _];show wpAny _ B.in1 (newList [] >>= λ q=>again (.builtin "list.__iadd__" ⟨[q,.ref J],[]⟩)) _ _ s0;refine ae (cn ?_);refine ah ⟨cE oh _,cD F.entry_list_iadd ?_⟩;rw[cM oh _];have z1:=wk.frame 0 s0 (s0.heap.push nu) s0.toks z0 (aj _) λ b _ o e=>ay _ e;have at1:(s0.heap.push nu).get? s0.heap.objs.size=some nu:=aL _ rfl;have dif:Builtin.List.listSameRef (.ref s0.heap.objs.size) (.ref J)=false:=by simp[Builtin.List.listSameRef,neJ]
 show wpAny _ B.in1 (Builtin.List.listExtendWith (.ref s0.heap.objs.size) (.ref J) (.ref s0.heap.objs.size)) _ _ _;unfold Builtin.List.listExtendWith;refine ae (eo (ty 0 _ z1) ?_);rw[if_neg (by rw[dif];decide)];refine ae (wk.self 0 _ _ _ z1 ?_);refine ae (bv ?_);unfold Builtin.List.listLengthHint;refine ae (fN (ty 0 _ z1) Fb ?_);show wpAny _ B.in1 (specialOf (Value.ref J) (Str.ofString "__length_hint__") >>= _) _ _ _;refine ae (fN (ty 0 _ z1) Fc ?_)
 (generalize hid:("list_reverseiterator.__length_hint__" : String)=id0;wp_delta;rw[show splitId id0=some ("list_reverseiterator","__length_hint__") from by subst hid;decide +kernel];subst hid)
 refine ae (iX (b:=true) (ty 0 _ z1) (by rw[fK];kernel_rfl) ?_);refine ah ?_;rw[if_neg pv];refine ah ⟨cE qV _,oi wk sm _ out _ m 0 _ _ _ rfl (aX _) z1 at1 (s2r Pr) λ z' ac cc mv at2 its=>?_⟩;show wpAny _ B (load s0.heap.objs.size >>= _) _ _ z';exact ae (s1v at2 (ah (fin z' ac (s2i (o:=nu) (tk:=s0.toks) mv (aj _)) its)))
theorem Fe{R:VS}(wk:WalksS pg wd B.in1.in1 J fs ws Gg m Pr Sx)(ty:∀j z,Sx j z->z.TypeIs (.ref J) "list_reverseiterator")(z0:Sx 0 s0)(lt:∀b∈fs,b<s0.heap.objs.size)(mJ:J∈fs)(sm:m<=sizeLine)
  (fin:∀z' ac,Moved ws Gg s0 z'->ItemsOf Pr ac m->R (.ref z'.heap.objs.size) { z' with heap:=z'.heap.push { cls:=.type "tuple",data:=.seq ac } }) :
  codeAny (model pg wd) B (.call (.builtin "tuple.__new__") ⟨[.type "tuple",.ref J],[]⟩) (wants R X0) s0:=by
 refine lP ?_;show wpAny _ B.in1 (do checkBuiltinCall "tuple.__new__" ⟨[.type "tuple",.ref J],[]⟩;again (.builtin "tuple.__new__" ⟨[.type "tuple",.ref J],[]⟩)) _ _ s0;refine ae (cW (F.newCall_tuple_1 _) (ah ⟨cE oj _,cD F.entry_tuple_new ?_⟩));rw[cM oj _];have q1:=sub_tuple_self;have q2:=init_tuple_lookup;have q3:=madeHere_tuple;have q4:=ty 0 s0 z0;wp_walk using eo q4,Fd (sm:=sm) wk ty z0 lt mJ;intro z' ac mv its;show wpAny _ _ (Builtin.Tuple.tupleExact ac.toList.toArray >>= λ q=>ret q) _ _ _;have e:ac.toList.toArray=ac:=BT;rw[e];unfold Builtin.Tuple.tupleExact;exact ae (cn (ah (fin z' ac mv its)) (by show ac.size<=sizeLine;rw[its.1];exact sm))
theorem Ff{R:VS}(wk:WalksS pg wd B.in1.in1.in1 J fs ws Gg m Pr Sx)(ty:∀j z,Sx j z->z.TypeIs (.ref J) "list_reverseiterator")(z0:Sx 0 s0)(lt:∀b∈fs,b<s0.heap.objs.size)(mJ:J∈fs)(sm:m<=sizeLine)
  (fin:∀z' ac,Moved ws Gg s0 z'->ItemsOf Pr ac m->R (.ref z'.heap.objs.size) { z' with heap:=z'.heap.push { cls:=.type "tuple",data:=.seq ac } }) :
  wpAny (model pg wd) B (call (.type "tuple") [.ref J]) R X0 s0 :=
 s2j (Q₁:=λ ob z=>z.TypeIs ob "tuple" /\ R ob z) F.called_tuple (s3i _) s2s
  (Fe (sm:=sm) wk ty z0 lt mJ λ z' ac mv its=>⟨⟨_,aL _ rfl,rfl⟩,fin z' ac mv its⟩)
  λ ob z q=>⟨q.1,qR ob _,object_init_meets F.called_tuple.init.lookup F.called_tuple.made pv pg wd B.in1 _ z ⟨q.1,rfl,q.2⟩⟩
end
noncomputable def Fg(K:FG)(te:TE):TE:=λ σ H Q=>te σ H λ x H1=>∃a xs,x=.ref a/\SqL K H1 a xs/\∀p,H1 p=none->Q (.ref p) (upd H1 p (.tup xs.reverse))
theorem Fh{p1 p2 pos pos':Pos}(hc:X.calm=true)(ht:Gl X "tuple")(hr:Gl X "reversed")(mt:X.mg "tuple"=none)(mr:X.mg "reversed"=none)(he:PE X e te)(hs:starEach [e] X.env=[(false,eval e X.env)]:=by rfl) :
  PE X (.Call (.Name "tuple" p1) [.Call (.Name "reversed" p2) [e] [] pos'] [] pos) (Fg X.K te):=by
 intro pins s σ H Q I h;refine Call_ (dD I ht mt boot_tuple (gC ?_ rfl rfl));refine nO ?_;have hA:=(cj he (pa_nil (X:=X)) hs) pos' pins s σ H (λ vs H1=>match vs with|[x]=>∃a xs,x=.ref a/\SqL X.K H1 a xs/\∀p,H1 p=none->Q (.ref p) (upd H1 p (.tup xs.reverse))|_=>False) I h;refine Call_ (dD I hr mr s3h (gC (thn hA λ us s1 ⟨vs,H1,I1,r1,q1⟩=>?_) hs rfl))
 match vs,q1 with
 |[x],⟨a,xs,e,hq,q⟩=>
  subst e;obtain⟨u,rfl,ru⟩:=bW r1;cases (show u=Value.ref a from ru);obtain⟨its,rv,pl,hz⟩:=I1.list hq;have hl:=rv.length;refine call_reversed_list pl.isList ?_;refine nN ?_;have I2:Inv X pins σ H1 { s1 with heap:=s1.heap.push (revObj a ((its.toArray.size:Int)-1)) }:=I1.kept (t':=s1.toks) λ b o e=>ay _ e;have al:a<s1.heap.objs.size:=by obtain⟨o,ho,_⟩:=pl.isList;exact az ho
  have hne:a≠s1.heap.objs.size:=aJ al
  have ir:(s1.heap.push (revObj a ((its.toArray.size:Int)-1))).IsRevIter s1.heap.objs.size a ((its.toArray.size:Int)-1-((0:Nat):Int)):=by
   refine⟨_,aL _ rfl,fu,?_⟩;have e:(its.toArray.size:Int)-1-((0:Nat):Int)=(its.toArray.size:Int)-1:=on;rw[e];rfl
  have sz:(s1.heap.push (revObj a ((its.toArray.size:Int)-1))).objs.size=s1.heap.objs.size+1:=by simp[Heap.push]
  have ff:=I1.fpOk (aj s1.heap.objs.size) (I1.hok.fresh (aj _))
  refine Ff (Walks.listRev (A:=X.A.in1.in1.in1) (I.ok.hd hc) s1.heap.objs.size a hne its.toArray).toS (λ j z q=>let ⟨o,ho,hk,_⟩:=q.2.1;⟨o,ho,hk⟩)
   ⟨aX _,ir,pl.isList.at λ o e=>ay _ e⟩ (λ b hb=>?_) (bJ ..) (by simp only[aM];lia) λ z' ac mv io=>?_
  ·show b<(s1.heap.push (revObj a ((its.toArray.size:Int)-1))).objs.size;rw[sz];simp only[aN,dJ,eW] at hb
   rcases hb with rfl|rfl
   ·exact eU _
   ·exact cL al
  have I3:Inv X pins σ H1 z':=by
   obtain⟨zh,zg,zd,zt,zo⟩:=z';have e1:zg=s1.gens:=mv.gens;have e2:zd=s1.drawn:=mv.drawn;have e3:zo=s1.os:=mv.os;subst e1 e2 e3;obtain⟨f0,f1,f2,f3,f4,f5⟩:=ff;exact I1.turned (t':=zt) (λ b o hb e=>mv.heap b o (by simpa using hb) (ay _ e)) f0 f1 f3 f4 f5
  have er:ac=its.reverse.toArray:=by
   have sz2:ac.size=its.length:=by simpa using io.1
   apply Array.ext
   ·simp[sz2]
   ·intro j h1 h2;have q:=io.2 j _ (cP h1);simp only[aM,oo] at q;have q2:its.reverse[j]?=some ac[j]:=by rw[iY on];exact q
    rw[s1z];exact(cv ((aC (by simpa using h2)).symm.trans q2)).symm
  subst er
  have I4:Inv X pins σ (upd H1 z'.heap.objs.size (.tup xs.reverse)) { z' with heap:=z'.heap.push { cls:=.type "tuple",data:=.seq its.reverse.toArray } } :=
   I3.laid (t':=z'.toks) (λ b o e=>ay _ e) (aj _) (show ObjOk X.prog X.w _ _ _ (.tup xs.reverse) from ⟨by simpa using hz,its.reverse,rv.reverse,TupO.new _ _⟩)
  exact⟨.ref z'.heap.objs.size,_,I4,fu,q _ (I3.hok.fresh (aj _))⟩
noncomputable def Fj(K:FG):R2:=λ x y H Q=>∃a b xs ys,x=.ref a/\y=.ref b/\SqT K H a xs/\SqT K H b ys/\xs.length+ys.length<=sizeLine /\
 (xs=[]->Q (.ref b) H)/\(xs≠[]->ys=[]->Q (.ref a) H)/\(xs≠[]->ys≠[]->∀p,H p=none->Q (.ref p) (upd H p (.tup (xs++ys))))
def Fk:OpR X (binaryOp .Add) (Fj X.K):=by
 intro pins s σ H x y v u Q I rx ry h;obtain⟨a,b,xs,ys,rfl,rfl,ha,hb,hz,q0,q1,q2⟩:=h;by_cases hx:xs=[]
 ·cases rx;cases ry;obtain⟨its,r1,p1,_⟩:=I.tuple ha;obtain⟨its2,r2,p2,_⟩:=I.tuple hb;have e1:its=[]:=r1.nil_iff.mpr hx;obtain⟨⟨c1,d1,z1,l1⟩,g1,hc1,n1,hd1⟩:=id p1;obtain⟨⟨c2,d2,z2,l2⟩,g2,hc2,n2,hd2⟩:=id p2;simp only at hc1 hd1 hc2 hd2;subst hc1 hd1 hc2 hd2
  exact s1b ⟨_,g1,fu⟩ ⟨_,g2,fu⟩ s0o s3b qE qF (qG _ _)
   (tuple_addW0 a b its.toArray its2.toArray n1 n2 d1 d2 l1 l2 (by simp[e1])) ⟨g1,g2,.ref b,H,I,rfl,q0 hx⟩
 ·exact DK pins s σ H _ _ v u Q I rx ry ⟨a,b,xs,ys,fu,fu,ha,hb,hx,hz,q1 hx,q2 hx⟩
section
variable {pg:Program}{wd:World}{B:Around}{X0:VS}{s0:Shared}
theorem Fl{R:VS}(p:s0.heap.IsTupleIter j t k)(q:s0.heap.IsTuple t its)(e:its[k]?=some x)
  (f:∀h',h'.IsTupleIter j t (k+1)->Heap.SameBut j s0.heap h'->R x { s0 with heap:=h' }):wpAny (model pg wd) B (Builtin.SmallTypes.nextOf (.ref j)) R X0 s0:=by
 obtain⟨o,g,c,d⟩:=id p;obtain⟨ot,gt,_,nt,dt⟩:=q;unfold Builtin.SmallTypes.nextOf;refine ae (im (name:=Str.ofString "__next__") p.typeIs oq (dc oq p.typeIs vZ ?_ (wa _)));show wpAny _ _ (field (.ref j) 0 >>= _) _ _ s0;refine ae (cH g d (x:=.ref t) rfl ?_);show wpAny _ _ (if (Value.ref t == Value.none)=true then _ else _) _ _ s0;rw[if_neg (show ¬((Value.ref t == Value.none)=true) from aV)];show wpAny _ _ (field (.ref j) 1 >>= _) _ _ s0;refine ae (cH g d (x:=.int k 0) rfl ?_);show wpAny _ _ (seqItems? (.ref t) >>= _) _ _ s0;refine ae (eF gt dt ?_);simp only[Int.toNat_natCast,e];refine ae (lO g d BT (ah ⟨x,fu,ah (f _ ?_ (iw ..))⟩));exact⟨_,eE _ g (qS (jW d _)),(Obj.cls_mapFields ..).trans c,by rw[jW d];simp[rawInt]⟩
theorem Fm(hh:B.handled=none)(p:s0.heap.IsTupleIter j t k)(q:s0.heap.IsTuple t its)(e:its[k]?=none)
  (f:∀h' z,Heap.ExtBut j s0.heap h'->(∃o,h'.get? z=some o/\o.cls=.type "StopIteration")->X0 (.ref z) { s0 with heap:=h' }):wpAny (model pg wd) B (Builtin.SmallTypes.nextOf (.ref j)) R X0 s0:=by
 obtain⟨o,g,c,d⟩:=id p;obtain⟨ot,gt,_,nt,dt⟩:=q;unfold Builtin.SmallTypes.nextOf;refine ae (im (name:=Str.ofString "__next__") p.typeIs oq (dc oq p.typeIs vZ ?_ (wa _)));show wpAny _ _ (field (.ref j) 0 >>= _) _ _ s0;refine ae (cH g d (x:=.ref t) rfl ?_);show wpAny _ _ (if (Value.ref t == Value.none)=true then _ else _) _ _ s0;rw[if_neg (show ¬((Value.ref t == Value.none)=true) from aV)];show wpAny _ _ (field (.ref j) 1 >>= _) _ _ s0;refine ae (cH g d (x:=.int k 0) rfl ?_);show wpAny _ _ (seqItems? (.ref t) >>= _) _ _ s0;refine ae (eF gt dt ?_);simp only[Int.toNat_natCast,e];refine ae (fO (ae (lO g d BT ?_)));show wpAny _ _ (newExc (.type "StopIteration") [] >>= _) _ _ _;refine ae ?_;simp only[newExc,newTuple];refine ae (cn ?_ (by size_fits));refine ae (m:=firstArgMember _ _) (cW (a:=Value.none) (by first|rfl|(simp only[firstArgMember];rfl)) ?_);refine cn ?_ (by size_fits);simp only[raiseNew];refine ae (s3g ?_);first|rw[show B.in1.handled=none from hh]|rw[hh]
 refine ae (ah (s4h ?_));exact f _ _ (((iw ..).extBut.push _).push _) ⟨_,aL _ rfl,fu⟩
def wb{h h':Heap}(p:h.IsTuple t its)(f:∀o,h.get? t=some o->h'.get? t=some o):h'.IsTuple t its:=let ⟨o,g,r⟩:=p;⟨o,f o g,r⟩
end
def Inv.turnedL{h':Heap}{t':Nat}{fl:List Addr}(I:Inv X pins σ H s)(kk:∀b o,b ∉ fl->s.heap.get? b=some o->h'.get? b=some o)(fo:∀b∈fl,ig X pins H b):Inv X pins σ H { s with heap:=h',toks:=t' }:=by
 have out:∀b u,H b=some u->b ∉ fl:=λ b u e z=>by rw[(fo b z).1] at e;cases e
 refine I.step (g':=s.gens) (d':=s.drawn) (ch:=fl) (λ b hb=>?_) (λ b o _ _ hc e _=>kk b o hc e) (λ b o _ _ hc e _=>⟨o.slots,kk b o hc e⟩) (λ _ _ _ _ q=>q)
  (λ b o hc e=>⟨o,kk b o hc e⟩) (λ _ _ e=>e) (λ _ _ _ e=>e) (λ b ps e=>⟨#[],by rw[e];simp⟩) (λ m hm=>?_) (λ b u e=>?_) I.bare
 ·obtain⟨_,f1,_,f3,f4,f5⟩:=fo b hb;exact⟨f3,f1,f4,f5⟩
 ·obtain⟨o,es,ep,ho,r⟩:=hm;exact⟨o,es,ep,kk _ o (λ z=>(fo _ z).2.1 rfl) ho,r⟩
 ·refine(I.hok b u e).stay (λ c v hc q=>kk c v ?_ q) (λ _ q=>q) λ _ _ q=>q
  rcases hc with z|z
  ·rw[z];exact out b u e
  ·exact out c _ z
section
variable {es:List Expr}{x1:Nat}{pp:Pos}
end
def Fn(hc:X.calm=true):bo X (.builtin "sum") (λ xs H Q=>∃(a:Addr) (ns:LI),xs=[.ref a]/\SqL X.K H a (ns.map V.int)/\Q (.int ns.sum) H):=by
 intro pins s σ H xs us Q I r h;obtain⟨a,ns,rfl,hq,q⟩:=h;obtain⟨u,rfl,ru⟩:=bW r;cases (show u=Value.ref a from ru);obtain⟨its,rv,pl,hz⟩:=I.list hq;have hi:=iU rv;have hn:=hi.numsOf;obtain⟨ps,e⟩:=hi.allInts.items;have hl:s.heap.IsList a (intItems ps):=e ▸ pl.isList;refine sum_intListG (I.ok.hd hc) hl λ h' tk t' kk=>?_
 have e2:preSum (numAt ps) ps.size=ns.sum:=by
  rw[preSum_eq,lQ BT,<- s3j,<- e];exact bu List.sum hn
 rw[e2];exact⟨.int ns.sum,H,I.kept kk,⟨t',fu⟩,q⟩
noncomputable def Its(lo st:Int)(n:Nat):It:=⟨λ i _=>i<n,λ i H x H'=>H'=H/\x=.int (lo+i*st),λ i _=>n<=i⟩
theorem Fo{K:PySem.W.Frag}(it:Addr)(lo st:Int)(n:Nat):Turn P w K tg (Its lo st n) [it] it (λ i h=>IsRangeIter h it (lo+(i:Nat)*st) ((n:Int)-(i:Nat)) st) where
 mem:=BT
 obj:=λ i h q b hb=>by
  have e:b=it:=by simpa using hb
  subst e
  exact⟨_,q,λ v z=>by
   have z':Data.fields _=Data.cell v:=z
   cases z'⟩
 keep:=λ i h h' q k=>k it BT _ q
 item:=by
  intro X hP hw hK hc i pins s σ H E I hf q hg;subst hP hw hK;obtain⟨f0,f1,f2,f3,f4,f5⟩:=hf it BT;have W:=Walks.range (prog:=X.prog) (w:=X.w) (I.ok.hd hc) it lo st n;refine W.item i s _ _ hg q λ v h' tk hv q' kk=>?_;obtain⟨t,rfl⟩:=hv;have I1:Inv X pins σ H { s with heap:=h',toks:=tk }:=I.turned (λ b o hb e=>kk b o (by simpa using hb) e) f0 f1 f3 f4 f5;exact⟨_,fu,lh (s:={ s with heap:=h',toks:=tk }) (n := "range_iterator") q' rfl rfl pv ⟨.int (lo+i*st),H,I1,⟨t,fu⟩,⟨fu,fu⟩,q',λ b hb=>(hf b hb).1⟩⟩
 done:=by
  intro X hP hw hK hc i pins s σ H E I hf q hg;subst hP hw hK;obtain⟨f0,f1,f2,f3,f4,f5⟩:=hf it BT;exact s0u (I.ok.hd hc) q (by have:n<=i:=hg;lia) λ h' eb=>⟨fu,I.turned (t':=s.toks) (λ b o hb e=>eb b o hb e) f0 f1 f3 f4 f5⟩
 self:=λ _ _ _ _ _ q h=>s0v q h
noncomputable def Fp(ta:TA):TI:=λ σ H R=>ta σ H λ vs H1=>∃i j c:Int,vs=[.int i,.int j,.int c]/\(c≠0/\c.natAbs<1073741824/\Builtin.Range.small i j c=true)/\R (Its i c (Builtin.Range.rangeSize i j c).toNat) H1
def Fq(i j c:Int)(hc:c≠0):0<=Builtin.Range.rangeSize i j c:=by
 unfold Builtin.Range.rangeSize;split
 ·split
  ·have:=jX (show 0<=j-i-1 by lia) (show 0<=c by lia);lia
  ·lia
 ·split
  ·have:=jX (show 0<=i-j-1 by lia) (show 0<=-c by lia);lia
  ·lia
theorem Fs{tg a b c:Expr}{p pos:Pos}(hg:Gl X "range")(hm:X.mg "range"=none)(ha:PA X [a,b,c] ta)(hs:starEach [a,b,c] X.env=[(false,eval a X.env),(false,eval b X.env),(false,eval c X.env)]:=by rfl)
  (hs2:starEach [b,c] X.env=[(false,eval b X.env),(false,eval c X.env)]:=by rfl):PI X tg (.Call (.Name "range" p) [a,b,c] [] pos) (Fp ta):=by
 intro pins s σ H R I h;refine Call_ (dD I hg hm boot_range (gC (thn (ha pos pins s σ H _ I h) λ us s1 ⟨vs,H1,I1,r1,q1⟩=>?_) (by rw[hs,hs2]) (by rw[hs2];rfl)));obtain⟨i,j,k,e,⟨c0,c1,c2⟩,q⟩:=q1;subst e
 cases r1 with
 |cons r rr=>
  cases rr with
  |cons r' rr=>
   cases rr with
   |cons r'' rr=>
    cases rr;obtain⟨t,rfl⟩:=r;obtain⟨t',rfl⟩:=r';obtain⟨t'',rfl⟩:=r'';refine call_range_3 c0 ?_ (.inl (PyProof.noPylong_small c1));refine s2z (IsRange.new ..) c2 ?_;have I2:Inv X pins σ H1 { s1 with heap:=s1.heap.push { cls:=.type "range",data:=.fields #[.int i t,.int j t',.int k t''] },toks:=s1.toks }:=I1.kept λ b o e=>ay _ e;generalize s1.heap.push { cls:=.type "range",data:=.fields #[.int i t,.int j t',.int k t''] }=hr at I2 ⊢;refine⟨hr.objs.size,[hr.objs.size],_,_,H1,fu,I2.kept (t':=s1.toks) λ b o e=>ay _ e,Fo _ i k (Builtin.Range.rangeSize i j k).toNat,?_,λ b hb=>?_,q⟩
    ·have e1:i+((0:Nat):Int)*k=i:=by simp
     have e2:(((Builtin.Range.rangeSize i j k).toNat:Nat):Int)-((0:Nat):Int)=Builtin.Range.rangeSize i j k:=by have:=Fq i j k c0;lia
     show IsRangeIter _ _ (i+((0:Nat):Int)*k) ((((Builtin.Range.rangeSize i j k).toNat:Nat):Int)-((0:Nat):Int)) k;rw[e1,e2];exact aL _ rfl
    ·have e:b=hr.objs.size:=by simpa using hb
     subst e;exact I2.fpOk (aj _) (I2.hok.fresh (aj _))
open AutoSeq1 (wpAny_loadPart')
section
variable {prog:Program}{w:World}{A:Around}{R:Result->Shared->Prop}{s:Shared}
theorem Ft{elt target iter cnd:Expr}{it acc:Value}(I:Nat->Shared->Prop)
  (turn:∀n s,I n s->wpAny (model prog w) A (pyNext it) (λ r s₁=>match r with
   |none=>R (.ok .next) s₁
   | some v=>wpAny (model prog w) A (letOwnedTupleGo target it v) (λ _ s₀=>wpAny (model prog w) A (assign target env v) (λ _ s₂=>wpAny (model prog w) A (isTrue cnd env (eval cnd env)) (λ b s₃ =>
     if b=true then wpAny (model prog w) A (eval elt env) (λ x s₄ =>
      wpAny (model prog w) A (call (.builtin "list.append") [acc,x]) (λ _ s₅=>∃m,m<n/\I m s₅) (λ _ _=>False) s₄) (λ _ _=>False) s₃
     else ∃m,m<n/\I m s₃)
     (λ _ _=>False) s₂) (λ _ _=>False) s₀) (λ _ _=>False) s₁) (λ _ _=>False) s)
  (n:Nat) (h:I n s) :
  codeAny (model prog w) A (.compLoop (.ListComp elt [⟨target,iter,[cnd],0⟩] scope pos) 0 it acc env) R s:=by
 refine codeAny_loop rfl I (λ n s hI=>?_) n h;show wpAny _ _ ((compTurn (.ListComp elt [⟨target,iter,[cnd],0⟩] scope pos) 0 it acc env).onRaise (λ x=>do noteFrame x env;theTreesLotGoes x)) _ _ s;refine wpAny_noted ?_;rw[compTurn_list];refine ae (gA (ae (bV (turn n s hI) (λ r s₁ h₁=>?_) λ _ _ h'=>h'.elim)))
 cases r with
 |none=>exact ah h₁
 |some v=>
  refine ae (bV h₁ (λ _ s₀ h₀=>?_) λ _ _ h'=>h'.elim);refine ae (bV h₀ (λ _ s₂ h₂=>?_) λ _ _ h'=>h'.elim);refine ae (bV (wpAny_tests_one h₂) (λ ok s₃ h₃=>?_) λ _ _ h'=>h'.elim)
  cases ok with
  |false=>exact ah ⟨rfl,h₃⟩
  |true=>exact ae (ae (bV h₃ (λ x s₄ h₄=>ae (bV h₄ (λ _ s₅ h₅=>ah (ah ⟨rfl,h₅⟩)) λ _ _ z=>z.elim)) λ _ _ z=>z.elim))
end
noncomputable def wc(cnd:Expr):nW:=λ p w A env k s=>wpAny (model p w) A (isTrue cnd env (eval cnd env)) k (λ _ _=>False) s
def Fu{cnd:Expr}:qN [cnd] (wc cnd):=⟨λ I t n h=>Ft I t n h,λ h m=>bV h m λ _ _ z=>z⟩
def pmI{X:Cx}(hx:X.xe=λ _ _=>False)(h:PT X cnd tc):PM X (wc cnd) tc:=λ pins s σ H K I k=>by
 have z:=h pins s σ H K I k;rw[hx] at z;exact z
theorem we{X:Cx}{elt tg iter cnd:Expr}{cl:LA}{own fv:List Str}{js:List Nat}
  (hc:X.calm=true) (hi:PI X tg iter wi) (hclos:closureFor scope X.env=pure cl) (hcell:∀y∈scope.names,y.2≠.cell) (hkind:scope.kind=.function)
  (hnames:∀y∈scope.names,y.2=.local->scope.names.lookup y.1=some .local)
  (hcl:∀x c,cl.lookup x=some c->X.env.cells.lookup x=some c)
  (hhas:∀x,((relabel scope X.env).names.lookup x=some .cell\/(relabel scope X.env).names.lookup x=some .free)->∃c,cl.lookup x=some c)
  (hlen:js.length=fv.length) (hcap:∀(i:Nat) x j,fv[i]?=some x->js[i]?=some j->Cap X scope cl x j)
  (hg:∀(C:Addr) (ex:List Addr) (s:Shared) (H:Hp),PG (bp X (own++fv) scope cl C ex s H) tg g)
  (he:∀(C:Addr) (ex:List Addr) (s:Shared) (H:Hp),PE (bp X (own++fv) scope cl C ex s H) elt te)
  (ht:∀(C:Addr) (ex:List Addr) (s:Shared) (H:Hp),PT (bp X (own++fv) scope cl C ex s H) cnd tc)
  (hs:∀x,foldedSetIterable iter X.env x=pure x)(I:Inv X pins σ H s) (h:iW wi own.length js g tc te σ H Q)
  (fin:∀(a C:Addr) (s5:Shared) (H5:Hp) (fl:Flow),Inv X pins σ H5 s5->H5 C=none->C≠X.env.locals->X.s₀.heap.objs.size<=C->(∀x c,X.env.cells.lookup x=some c->c≠C)->(∀p∈X.pn++pins,p.1≠C)->(∃m,s5.heap.Ns C m)->Q (.ref a) H5->compPost (model X.prog X.w) X.A X.xe use QQ (.ref a) C (.ok fl) s5) :
  wpAny (model X.prog X.w) X.A (comprehension (.ListComp elt [⟨tg,iter,[cnd],0⟩] scope pos) scope X.env fpos (newList []) false (firstIter [⟨tg,iter,[cnd],0⟩] X.env) use) QQ X.xe s :=
 vM hc hi hclos hcell hkind hnames hcl hhas hlen hcap hg he (λ C ex s H=>pmI rfl (ht C ex s H)) Fu hs I h fin
theorem Fv{X:Cx}{elt tg iter cnd:Expr}{cl:LA}{own fv:List Str}{js:List Nat}
  (hc:X.calm=true) (hi:PI X tg iter wi) (hclos:closureFor scope X.env=pure cl) (hcell:∀y∈scope.names,y.2≠.cell) (hkind:scope.kind=.function)
  (hnames:∀y∈scope.names,y.2=.local->scope.names.lookup y.1=some .local)
  (hcl:∀x c,cl.lookup x=some c->X.env.cells.lookup x=some c)
  (hhas:∀x,((relabel scope X.env).names.lookup x=some .cell\/(relabel scope X.env).names.lookup x=some .free)->∃c,cl.lookup x=some c)
  (hlen:js.length=fv.length) (hcap:∀(i:Nat) x j,fv[i]?=some x->js[i]?=some j->Cap X scope cl x j)
  (hg:∀(C:Addr) (ex:List Addr) (s:Shared) (H:Hp),PG (bp X (own++fv) scope cl C ex s H) tg g)
  (he:∀(C:Addr) (ex:List Addr) (s:Shared) (H:Hp),PE (bp X (own++fv) scope cl C ex s H) elt te)
  (ht:∀(C:Addr) (ex:List Addr) (s:Shared) (H:Hp),PT (bp X (own++fv) scope cl C ex s H) cnd tc)
  (hs:∀x,foldedSetIterable iter X.env x=pure x:=by intro _;rfl) :
  PE X (.ListComp elt [⟨tg,iter,[cnd],0⟩] scope pos) (iW wi own.length js g tc te):=by
 intro pins s σ H Q I h;rw[eval_ListComp];refine we (use:=none) (QQ:=EP X pins σ Q) hc hi hclos hcell hkind hnames hcl hhas hlen hcap hg he ht hs I h λ a C s5 H5 fl I5 zC zL zS zc zp ⟨m,hn⟩ q=>⟨m,hn,λ h' sc=>?_⟩;exact⟨.ref a,H5,I5.turned (t':=s5.toks) (it:=C) (λ d o nd e=>sc.extBut d o nd e) zC zL (.inr zS) zc zp,fu,q⟩
section
variable {pg:Program}{wd:World}{B:Around}{X0:VS}{s0:Shared}
end
section
variable {es:List Expr}{x1:Nat}{pp:Pos}
end
noncomputable def lR(K:FG):List (Addr×TS)->Value->(TS->Prop)->Prop
 |[],_,_=>False
 |(C,ts)::r,c,k=>(W.exmOne K c (.ref C)=some true/\k ts)\/(W.exmOne K c (.ref C)=some false/\lR K r c k)
noncomputable def wf(K:FG)(cs:List (Addr×TS))(D:Ends):St->XK:=λ σ1 c _ H1=>lR K cs c λ ts=>ts D σ1 H1
noncomputable def Fw(K:FG)(cs:List (Addr×TS))(tb:(St->XK)->TS):TS:=λ D σ H=>tb (wf K cs D) D σ H
inductive Clauses (X:Cx):List ExceptHandler->List (Addr×TS)->Prop
 |nil:Clauses X [] []
 |cons {x:Str}{C:Addr}{b₀:Stmt}{suite:List Stmt}{np hpos:Pos}{ts:TS}{r:List ExceptHandler}{tr:List (Addr×TS)}(hg:Gl X x) (hn:W.nsIn X.K mainGlobals x=some (some (.ref C)))
   (hs:∀(a:Addr) (pn:LO),PSs (X.suite a pn) (b₀::suite) ts) (hr:Clauses X r tr) (hd:(x == ("__debug__" : Str))=false):Clauses X (.ExceptHandler (some (.Name x np)) none (b₀::suite) hpos::r) ((C,ts)::tr)
theorem Fx{X:Cx}{h₀:ExceptHandler}{hl:List ExceptHandler}{tb:(St->XK)->TS}(hstk:X.stack=X.env::X.outer/\X.env.frame=some X.env.locals)
  (hb:∀(xe:VS) (pn:LO) (EE:St->XK),(∀σ,lM (CX1 X.prog X.w) (X.more xe pn) (EE σ) σ)->PSs (X.more xe pn) body (tb EE)) (hc:Clauses X (h₀::hl) cs) :
  PS X (.Try body (h₀::hl) [] [] pos) (Fw X.K cs tb):=by
 intro pins s σ H D I h;refine wpAny_Try_except ?_;generalize hXE:(λ e s₁=>wpAny (model X.prog X.w) X.A (noteFrame e X.env) (λ _ s₂=>wpAny (model X.prog X.w) X.A (setFlight e none) (λ _ s₃=>wpAny (model X.prog X.w) X.A (handleBy e X.env (h₀::hl)) (SP X pins D) X.xe s₃) X.xe s₂) X.xe s₁:VS)=XE;have toY:∀ {σ':St}{H':Hp}{s':Shared},Inv X pins σ' H' s'->Inv (X.more XE (X.pn++pins)) [] σ' H' s':=λ J=>⟨J.ok.more _ _,J.os,J.bare,J.base,J.loc,J.cell,J.free,J.freeC,λ p hp=>J.pin p (by simpa using hp),J.hok,J.len⟩;have ofY:∀ {σ':St}{H':Hp}{s':Shared}{pp:LO},Inv (X.more XE (X.pn++pins)) pp σ' H' s'->Inv X pins σ' H' s':=λ J=>⟨I.ok,J.os,J.bare,J.base,J.loc,J.cell,J.free,J.freeC,λ p hp=>J.pin p (gz _ hp),J.hok,J.len⟩;have body_ok:=hb XE (X.pn++pins) (wf X.K cs D) ?_ [] s σ H D (toY I) h
 ·refine thn body_ok λ fl s' q=>?_
  cases fl with
  |next=>obtain⟨σ',H',J,z⟩:=q;exact nE ⟨σ',H',ofY J,z⟩
  |brk=>obtain⟨σ',H',J,z⟩:=q;exact⟨σ',H',ofY J,z⟩
  |cont=>obtain⟨σ',H',J,z⟩:=q;exact⟨σ',H',ofY J,z⟩
  |ret u=>obtain⟨v,σ',H',J,r,z⟩:=q;exact⟨v,σ',H',ofY J,r,z⟩
 intro σ1 pins1 H1 s1 e s' I1 hx;obtain⟨a,C',a0,H',B,rfl,os,bare,fl,inB,thB,un,okB,hcatch⟩:=hx;have hcatch:lR X.K cs (.ref C') λ ts=>ts D σ1 H':=hcatch;subst hXE
 have fl:Heap.FlyingW B (X.env::X.outer) a (.ref C') a0 s'.heap:=by
  have z:Heap.FlyingW B X.stack a (.ref C') a0 s'.heap:=fl;rw[hstk.1] at z;exact z
 have hfr:X.A.frames=some (X.env::X.outer):=by rw[I.ok.frames,hstk.1]
 have at_:∀h2:Heap,Heap.FlyingW B (X.env::X.outer) a (.ref C') a0 h2->s'.heap.UpToSlots h2->∀t2:Nat,Inv X pins σ1 H' { s' with heap:=h2,toks:=t2 }:=λ h2 f2 u2 t2=>by
  have J1:Inv X pins σ1 H1 s1:=ofY I1
  have slot:∀b o,s1.heap.get? b=some o->H1 b=none->b∈frs X.stack->∃sl,h2.get? b=some { o with slots:=sl }:=λ b o e nn hb=>by
   obtain⟨sl2,e2⟩:=un.slot b o e nn hb BT;obtain⟨_,o3,e3,nf⟩:=J1.stack.mem hb;rw[e] at e3;cases e3;obtain⟨sl3,e4⟩:=u2 b _ e2 nf;exact⟨sl3,e4⟩
  refine J1.call' (s':={ s' with heap:=h2,toks:=t2 }) (ch:=[]) os ⟨λ b o e nn hb _=>f2.1 _ _ (inB b o e nn hb),λ b o e nn hb _=>slot b o e nn hb,un.free,λ b o e _=>?_,un.tups,un.frzs,un.tbls⟩ (okB.kept f2.1) bare (λ b z=>nomatch z);by_cases hb:b∈frs X.stack
  ·obtain⟨sl,q⟩:=slot b o e (J1.stkFree b hb) hb;exact⟨_,q⟩
  ·obtain⟨o',q⟩:=thB b o e hb;exact⟨o',f2.1 _ _ q⟩
 refine wpAny_looks_onW hfr hstk.2 fl λ h4 held4 up4=>?_;refine wpAny_landsW held4 λ h5 fl5 up5=>?_;have J5:=at_ h5 fl5 (up4.trans up5) s'.toks;obtain⟨oe5,ve5,he5,hc5,hd5,_⟩:=fl5.first
 have toZ:∀ {σ':St}{H':Hp}{s':Shared},Inv X pins σ' H' s'->Inv (X.suite a (X.pn++pins)) [] σ' H' s':=λ J=>⟨J.ok.suite _ _,J.os,J.bare,J.base,J.loc,J.cell,J.free,J.freeC,λ p hp=>J.pin p (by simpa using hp),J.hok,J.len⟩;have ofZ:∀ {σ':St}{H':Hp}{s':Shared},Inv (X.suite a (X.pn++pins)) [] σ' H' s'->Inv X pins σ' H' s':=λ J=>⟨I.ok,J.os,J.bare,J.base,J.loc,J.cell,J.free,J.freeC,λ p hp=>J.pin p (gz _ hp),J.hok,J.len⟩;have LT:Looks (model X.prog X.w) h5 (typeOf (.ref a)) (.ref C'):=hc5 ▸ (Looks.ld he5).andThen .now
 have all:∀(hs':List ExceptHandler) (cs':List (Addr×TS)),Clauses X hs' cs'->(lR X.K cs' (.ref C') λ ts=>ts D σ1 H')->wpAny (model X.prog X.w) X.A (handleBy (.ref a) X.env hs') (SP X pins D) X.xe { s' with heap:=h5 }:=by
  intro hs' cs' hcl
  induction hcl with
  |nil=>intro z;exact z.elim
  |cons hg hn hs hr hd ih=>
   intro z;have bnd:=W.mg_of J5.ok.mod.kin J5.ok.mod.glob hn;refine wpAny_handleBy_cons (codeAny_handlers_test ?_) (by intro q;cases q);refine iS (X:=X.suite a (X.pn++pins)) (toZ J5) hg bnd ?_ hd
   rcases z with ⟨z1,z2⟩|⟨z1,z2⟩
   ·refine(W.exm_one (M:=model X.prog X.w) J5.kIn LT z1).here ?_;refine codeAny_handlers_suite ?_;refine lands_againW fl5 λ h6 fl6 up6=>?_;have J6:=at_ h6 fl6 ((up4.trans up5).trans up6) s'.toks;refine bV (hs a (X.pn++pins) [] _ _ _ D (toZ J6) z2) (λ fl s9 q=>?_) λ _ _ z=>z.elim
    cases fl with
    |next=>obtain⟨σ9,H9,J9,z⟩:=q;exact⟨_,H9,ofZ J9,z⟩
    |brk=>obtain⟨σ9,H9,J9,z⟩:=q;exact⟨_,H9,ofZ J9,z⟩
    |cont=>obtain⟨σ9,H9,J9,z⟩:=q;exact⟨_,H9,ofZ J9,z⟩
    |ret u=>obtain⟨v,σ9,H9,J9,r,z⟩:=q;exact⟨v,_,H9,ofZ J9,r,z⟩
   ·refine(W.exm_one (M:=model X.prog X.w) J5.kIn LT z1).here ?_;exact ih z2
 exact all _ _ hc hcatch
noncomputable def Fy(i j:Int):Prop:=0<j/\j<1606938044258990275541962092341162602522202993782792835301376
def FC{y:Int}(h0:0<y)(h1:y<1606938044258990275541962092341162602522202993782792835301376):y.natAbs.log2<9000:=by
 have z:y.natAbs≠0:=by omega
 exact bZ ((Nat.log2_lt z).mpr (show y.natAbs<2 ^ 200 by omega)) pv
def FD:OpR X (binaryOp .FloorDiv) (rI Fy λ i j=>.int (i/j)):=opI λ i j _ _ _ _ _ hc q=>floordiv_int (by have:=hc.1;lia) (by rw[lx i (by have:=hc.1;lia)];exact q) (.inl (vR (FC hc.1 hc.2)))
end _L
namespace _H
open PySem PySem.Spec PyProof.Rows _L
theorem whole_tup{s:Shared}{lo hi:Option Int}{R:VS}(ht:IsTup s.heap t its)(hs:s.heap.IsSliceOf sl vl vu .none)(pl:IsPart vl lo)(pu:IsPart vu hi)
  (h0:sIx its.size 0 lo=0) (h1:sIx its.size its.size hi=its.size) (h:R (.ref t) s):wpAny (model prog w) A (getItem (.ref t) (.ref sl)) R E s:=by
 obtain⟨os,hos,hcs,hds⟩:=id hs;have hTs:s.TypeIs (.ref sl) "slice" := ⟨os,hos,hcs⟩;unfold getItem;try with_reducible refine bv ?_
 first|refine ae (ah ?_)|skip
 refine ae (wpAny_sequenceKey ht.typeIs pv ?_);refine ae (im (name:=Str.ofString "__getitem__") ht.typeIs nR (dc nR ht.typeIs s2p ?_ (s3d _ _)));show wpAny _ _ (Builtin.Tuple.tupleItemsOf (.ref t) >>= _) _ _ s;refine ae (tupleItemsOf_ ht ?_);refine ae (eo hTs ?_);rw[if_pos pv];refine ae (vx hs pl pu ?_);show wpAny _ _ (if (((sIx its.size 0 lo:Nat):Int) == 0&&(1:Int) == 1&&(sIx its.size its.size hi-sIx its.size 0 lo) == its.size)=true then _ else _) _ _ s;rw[if_pos (by rw[h0,h1];simp)];unfold Builtin.Tuple.tupleIsExact;exact ae (ae (eo ht.typeIs (ah (ae (fO (ah ⟨_,fu,ah h⟩))))))
end _H
namespace _L
open PySem PySem.Spec PyProof.Rows
variable {X:Cx}
def FE:typeLookup (.type "reversed") "__len__"=pure none:=by rw[dG,dH];kernel_rfl
def FF:typeLookup (.type "reversed") "__length_hint__"=pure (some (.builtin "reversed.__length_hint__")):=by rw[dG,dH];kernel_rfl
theorem FH{B:Around}(hh:B.handled=none)(I t:Addr)(hne:t≠I)(its:Array Value)(hz:(its.size:Int)<2 ^ 63) :
  Walks pg wd B I [I,t] [I] its.size (λ i v=>its[its.size-1-i]?=some v) (λ i h=>i<=its.size/\IsRv h I t ((its.size:Int)-1-(i:Int))/\IsTup h t its) where
 sub:=λ b hb=>by simp at hb;simp[hb]
 frame:=λ _ _ _ st k=>⟨st.1,let ⟨o,g,r⟩:=st.2.1;⟨o,k I BT o g,r⟩,let ⟨o,g,r⟩:=st.2.2;⟨o,k t BT o g,r⟩⟩
 item:=λ i s R X0 hi st f=>by
  obtain⟨_,q1,q2⟩:=st;have e:(its.size:Int)-1-(i:Int)=((its.size-1-i:Nat):Int):=on;rw[e] at q1;have hx:its[its.size-1-i]?=some (its[its.size-1-i]' on):=cP on;refine vX q1 q2 hx hz λ m tk q sb=>f _ m tk hx ⟨hi,?_,?_⟩ λ b o nb g=>sb.extBut b o (by simpa using nb) g
  ·have e2:((its.size-1-i:Nat):Int)-1=(its.size:Int)-1-((i+1:Nat):Int):=by lia
   rw[e2] at q;exact q
  ·obtain⟨o,g,r⟩:=q2;exact⟨o,sb.extBut _ _ hne g,r⟩
 done:=λ s R X0 st f=>by
  obtain⟨_,q1,q2⟩:=st;have e:(its.size:Int)-1-(its.size:Int)=-1:=on;rw[e] at q1;exact vY hh q1 λ m tk eb=>f m tk λ b o nb g=>eb b o (by simpa using nb) g
 self:=λ _ _ _ _ st h=>qT st.2.1 h
def FJ(v:Value):bindSpecial (.builtin "reversed.__length_hint__") v=pure (.builtin "reversed.__length_hint__",[v]):=by
 unfold bindSpecial;rw[show typeOf (.builtin "reversed.__length_hint__")=pure (.type "method_descriptor") by show builtinType _=_;rw[builtinType_eq_fast];kernel_rfl];rfl
def FK:Slot "reversed" "__length_hint__" "reversed.__length_hint__" := .of (owner := "reversed") (n := "__length_hint__") (by rw[dG,dH];kernel_rfl) (by decide +kernel) (by decide +kernel) (by decide +kernel) (.inr (by decide +kernel)) (by rw[fK];kernel_rfl)
def FL:entryFor table "reversed.__length_hint__"=some Builtin.«reversed.__length_hint__»:=nX (by kernel_rfl)
def FM(a:Value):argsOk "reversed.__length_hint__" ⟨[a],[]⟩:=by unfold argsOk;kernel_rfl
theorem FN{R:VS}{z:Shared}{its:Array Value}(q1:IsRv z.heap J t ((its.size:Int)-1))(q2:IsTup z.heap t its)(hz:(its.size:Int)<2 ^ 63)
  (f:∀u tk,z.toks<=tk->R (.int its.size u) { z with toks:=tk }):wpAny (model pg wd) B (call (.builtin "reversed.__length_hint__") [.ref J]) R X0 z:=by
 obtain⟨o,ho,hc,hd⟩:=id q1;refine dc FK q1.typeIs FL ?_ (FM _);show wpAny _ _ (field (.ref J) 0 >>= _) _ _ z;refine ae (cH ho hd (x:=.ref t) rfl ?_);show wpAny _ _ (if (Value.ref t == Value.none)=true then _ else _) _ _ z;rw[if_neg (show ¬((Value.ref t == Value.none)=true) from aV)];show wpAny _ _ (call (.builtin "len") [.ref t] >>= _) _ _ z;refine ae (s3e q2 hz ?_);refine ae (m:=asInt? _) (ah ?_);show wpAny _ _ (field (.ref J) 1 >>= _) _ _ _;refine ae (cH ho hd (x:=rawInt ((its.size:Int)-1)) rfl ?_);show wpAny _ _ (if (its.size:Int)<(its.size:Int)-1+1 then _ else retInt ((its.size:Int)-1+1)) _ _ _;rw[if_neg on,show(its.size:Int)-1+1=its.size by lia];exact ae (wpAny_mkInt (ah ⟨_,fu,f _ _ (by show z.toks<=z.toks+1+1+1;lia)⟩))
section
variable {pg:Program}{wd:World}{B:Around}{X0:VS}{s0:Shared}{J:Addr}{fs ws:List Addr}{Gg:Array GenState->Array GenState->Prop}{m:Nat}{Pr:Nat->Value->Prop}{Sx:Nat->Shared->Prop}
theorem FO{R:LV->Shared->Prop}(hint:∀(z:Shared) (R':VS) (E':VS),Sx 0 z->(∀u tk,z.toks<=tk->R' (.int m u) { z with toks:=tk })->wpAny (model pg wd) B.in1 (call (.builtin "reversed.__length_hint__") [.ref J]) R' E' z)(wk:WalksS pg wd B.in1 J fs ws Gg m Pr Sx)(ty:∀j z,Sx j z->z.TypeIs (.ref J) "reversed")(z0:Sx 0 s0)(lt:∀b∈fs,b<s0.heap.objs.size)(mJ:J∈fs)(sm:m<=sizeLine)
  (fin:∀z' ac,Moved ws Gg s0 z'->ItemsOf Pr ac m->R ac.toList z'):wpAny (model pg wd) B (collect (.ref J)) R X0 s0:=by
 have out:s0.heap.objs.size ∉ fs:=λ q=>absurd (lt _ q) (cG _);have neJ:s0.heap.objs.size≠J:=by rintro rfl;exact out mJ
 let nu:Obj:={ cls:=.type "list",data:=.seq ([]:LV).toArray }
 unfold collect;refine ae (og (cD s1g ?_));rw[cM s1h _];show wpAny _ B.in1 (newList [] >>= λ q=>again (.builtin "list.__iadd__" ⟨[q,.ref J],[]⟩)) _ _ s0;refine ae (cn ?_);refine ah ⟨cE oh _,cD F.entry_list_iadd ?_⟩;rw[cM oh _];have z1:=wk.frame 0 s0 (s0.heap.push nu) s0.toks z0 (aj _) λ b _ o e=>ay _ e;have at1:(s0.heap.push nu).get? s0.heap.objs.size=some nu:=aL _ rfl;have dif:Builtin.List.listSameRef (.ref s0.heap.objs.size) (.ref J)=false:=by simp[Builtin.List.listSameRef,neJ]
 show wpAny _ B.in1 (Builtin.List.listExtendWith (.ref s0.heap.objs.size) (.ref J) (.ref s0.heap.objs.size)) _ _ _;unfold Builtin.List.listExtendWith;refine ae (eo (ty 0 _ z1) ?_);rw[if_neg (by rw[dif];decide)];refine ae (wk.self 0 _ _ _ z1 ?_);refine ae (bv ?_);unfold Builtin.List.listLengthHint;refine ae (fN (ty 0 _ z1) FE ?_);show wpAny _ B.in1 (specialOf (Value.ref J) (Str.ofString "__length_hint__") >>= _) _ _ _;refine ae (fN (ty 0 _ z1) FF ?_)
 (generalize hid:("reversed.__length_hint__" : String)=id0;wp_delta;rw[show splitId id0=some ("reversed","__length_hint__") from by subst hid;decide +kernel];subst hid)
 refine ae (iX (b:=true) (ty 0 _ z1) (by rw[fK];kernel_rfl) ?_);rw[if_neg pv];dsimp only;rw[if_neg (by decide +kernel)];refine ae (fO ?_);refine ae (cW (FJ _) ?_);dsimp only;refine ae (jV (hint _ _ _ z1 λ u tk htk=>?_));have z2:=wk.frame 0 _ _ tk z1 htk λ b _ o e=>e;have l63:=nZ;have fi:Builtin.List.listFitsIndex (m:Int)=true:=by simp[Builtin.List.listFitsIndex];lia
 have tl:Builtin.List.listTooLong (m:Int).toNat=false:=by simp[Builtin.List.listTooLong];lia
 generalize hk:(m:Int)=kk at fi tl ⊢;show wpAny _ B.in1 (asInt? (.int kk u) >>= _) _ _ _;refine ae (m:=asInt? (.int kk u)) (ah ?_);dsimp only;rw[if_neg (by rw[fi];decide)];try dsimp only
 rw[if_neg on];try dsimp only
 rw[if_neg (by rw[tl];decide)];refine ah ?_;by_cases m0:m=0
 ·rw[if_neg (by subst m0;subst hk;decide +kernel)];refine ah ⟨cE qV _,oi wk sm _ out _ m 0 _ _ _ rfl (aX _) z2 at1 (s2r Pr) λ z' ac cc mv at2 its=>?_⟩;show wpAny _ B (load s0.heap.objs.size >>= _) _ _ z';exact ae (s1v at2 (ah (fin z' ac (s2i (o:=nu) (tk:=tk) mv htk) its)))
 ·rw[if_pos (by simp;left;lia)];refine ae (fO ?_);refine ae ?_;show wpAny _ B.in1 (updateSeq s0.heap.objs.size (·.push .none) >>= λ _=>updateSeq s0.heap.objs.size (·.pop)) _ _ _;refine ae (iz at1 rfl ?_);have a2:=eE (Obj.mapSeq (·.push Value.none)) at1 rfl;refine iz a2 rfl ?_;have a3:=eE (Obj.mapSeq (·.pop)) a2 rfl
  have oth:∀b o,b≠s0.heap.objs.size->(s0.heap.push nu).get? b=some o->(((s0.heap.push nu).update s0.heap.objs.size (Obj.mapSeq (·.push Value.none))).update s0.heap.objs.size (Obj.mapSeq (·.pop))).get? b=some o :=
   λ b o hb e=>(df _ _ (bh hb)).trans ((df _ _ (bh hb)).trans e)
  refine ah ⟨cE qV _,oi wk sm _ out _ m 0 _ _ _ rfl (aX _)
   (wk.frame 0 ({ s0 with heap:=s0.heap.push nu,toks:=tk }:Shared) _ tk z2 (aj _) λ b hb o e=>oth b o (λ q=>out (q ▸ hb)) e) a3 (s2r Pr) λ z' ac cc mv at2 its=>?_⟩
  show wpAny _ B (load s0.heap.objs.size >>= _) _ _ z';refine ae (s1v at2 ?_);refine ah (fin z' ac (s2i (o:=nu) (tk:=tk) (Moved.trans wk.gtrans ((Moved.refl wk.grefl).then_heap (aj _) λ b o hb e=>?_) mv) htk) its);exact oth b o (λ q=>hb (q ▸ bJ)) e
theorem FP{R:VS}(hint:∀(z:Shared) (R':VS) (E':VS),Sx 0 z->(∀u tk,z.toks<=tk->R' (.int m u) { z with toks:=tk })->wpAny (model pg wd) B.in1.in1 (call (.builtin "reversed.__length_hint__") [.ref J]) R' E' z)(wk:WalksS pg wd B.in1.in1 J fs ws Gg m Pr Sx)(ty:∀j z,Sx j z->z.TypeIs (.ref J) "reversed")(z0:Sx 0 s0)(lt:∀b∈fs,b<s0.heap.objs.size)(mJ:J∈fs)(sm:m<=sizeLine)
  (fin:∀z' ac,Moved ws Gg s0 z'->ItemsOf Pr ac m->R (.ref z'.heap.objs.size) { z' with heap:=z'.heap.push { cls:=.type "tuple",data:=.seq ac } }) :
  codeAny (model pg wd) B (.call (.builtin "tuple.__new__") ⟨[.type "tuple",.ref J],[]⟩) (wants R X0) s0:=by
 refine lP ?_;show wpAny _ B.in1 (do checkBuiltinCall "tuple.__new__" ⟨[.type "tuple",.ref J],[]⟩;again (.builtin "tuple.__new__" ⟨[.type "tuple",.ref J],[]⟩)) _ _ s0;refine ae (cW (F.newCall_tuple_1 _) (ah ⟨cE oj _,cD F.entry_tuple_new ?_⟩));rw[cM oj _];have q1:=sub_tuple_self;have q2:=init_tuple_lookup;have q3:=madeHere_tuple;have q4:=ty 0 s0 z0;wp_walk using eo q4,FO (sm:=sm) hint wk ty z0 lt mJ;intro z' ac mv its;show wpAny _ _ (Builtin.Tuple.tupleExact ac.toList.toArray >>= λ q=>ret q) _ _ _;have e:ac.toList.toArray=ac:=BT;rw[e];unfold Builtin.Tuple.tupleExact;exact ae (cn (ah (fin z' ac mv its)) (by show ac.size<=sizeLine;rw[its.1];exact sm))
theorem FQ{R:VS}(hint:∀(z:Shared) (R':VS) (E':VS),Sx 0 z->(∀u tk,z.toks<=tk->R' (.int m u) { z with toks:=tk })->wpAny (model pg wd) B.in1.in1.in1 (call (.builtin "reversed.__length_hint__") [.ref J]) R' E' z)(wk:WalksS pg wd B.in1.in1.in1 J fs ws Gg m Pr Sx)(ty:∀j z,Sx j z->z.TypeIs (.ref J) "reversed")(z0:Sx 0 s0)(lt:∀b∈fs,b<s0.heap.objs.size)(mJ:J∈fs)(sm:m<=sizeLine)
  (fin:∀z' ac,Moved ws Gg s0 z'->ItemsOf Pr ac m->R (.ref z'.heap.objs.size) { z' with heap:=z'.heap.push { cls:=.type "tuple",data:=.seq ac } }) :
  wpAny (model pg wd) B (call (.type "tuple") [.ref J]) R X0 s0 :=
 s2j (Q₁:=λ ob z=>z.TypeIs ob "tuple" /\ R ob z) F.called_tuple (s3i _) s2s
  (FP (sm:=sm) hint wk ty z0 lt mJ λ z' ac mv its=>⟨⟨_,aL _ rfl,rfl⟩,fin z' ac mv its⟩)
  λ ob z q=>⟨q.1,qR ob _,object_init_meets F.called_tuple.init.lookup F.called_tuple.made pv pg wd B.in1 _ z ⟨q.1,rfl,q.2⟩⟩
end
noncomputable def FR(K:FG)(te:TE):TE:=λ σ H Q=>te σ H λ x H1=>∃a xs,x=.ref a/\SqT K H1 a xs/\∀p,H1 p=none->Q (.ref p) (upd H1 p (.tup xs.reverse))
theorem FS{p1 p2 pos pos':Pos}(hc:X.calm=true)(ht:Gl X "tuple")(hr:Gl X "reversed")(mt:X.mg "tuple"=none)(mr:X.mg "reversed"=none)(he:PE X e te)(hs:starEach [e] X.env=[(false,eval e X.env)]:=by rfl) :
  PE X (.Call (.Name "tuple" p1) [.Call (.Name "reversed" p2) [e] [] pos'] [] pos) (FR X.K te):=by
 intro pins s σ H Q I h;refine Call_ (dD I ht mt boot_tuple (gC ?_ rfl rfl));refine nO ?_;have hA:=(cj he (pa_nil (X:=X)) hs) pos' pins s σ H (λ vs H1=>match vs with|[x]=>∃a xs,x=.ref a/\SqT X.K H1 a xs/\∀p,H1 p=none->Q (.ref p) (upd H1 p (.tup xs.reverse))|_=>False) I h;refine Call_ (dD I hr mr s3h (gC (thn hA λ us s1 ⟨vs,H1,I1,r1,q1⟩=>?_) hs rfl))
 match vs,q1 with
 |[x],⟨a,xs,e,hq,q⟩=>
  subst e;obtain⟨u,rfl,ru⟩:=bW r1;cases (show u=Value.ref a from ru);obtain⟨its,rv,pl,hz⟩:=I1.tuple hq;have hl:=rv.length;have z63:=nZ;refine vW pl (by simp;lia) λ tk=>?_;refine nN ?_;have I2:Inv X pins σ H1 { s1 with heap:=s1.heap.push (iu a ((its.toArray.size:Int)-1)),toks:=tk }:=I1.kept (t':=tk) λ b o e=>ay _ e;have al:a<s1.heap.objs.size:=by obtain⟨o,ho,_⟩:=pl;exact az ho
  have hne:a≠s1.heap.objs.size:=aJ al
  have ir:IsRv (s1.heap.push (iu a ((its.toArray.size:Int)-1))) s1.heap.objs.size a ((its.toArray.size:Int)-1-((0:Nat):Int)):=by
   refine⟨_,aL _ rfl,fu,?_⟩;have e:(its.toArray.size:Int)-1-((0:Nat):Int)=(its.toArray.size:Int)-1:=on;rw[e];rfl
  have sz:(s1.heap.push (iu a ((its.toArray.size:Int)-1))).objs.size=s1.heap.objs.size+1:=by simp[Heap.push]
  have ff:=I1.fpOk (aj s1.heap.objs.size) (I1.hok.fresh (aj _))
  refine FQ (m:=its.toArray.size) (Sx:=_) (λ z R' E' q f=>FN (its:=its.toArray) (by have:=q.2.1;rw[show(its.toArray.size:Int)-1-((0:Nat):Int)=(its.toArray.size:Int)-1 by lia] at this;exact this) q.2.2 (by simp;lia) f) (FH (B:=X.A.in1.in1.in1) (I.ok.hd hc) s1.heap.objs.size a hne its.toArray (by simp;lia)).toS (λ j z q=>let ⟨o,ho,hk,_⟩:=q.2.1;⟨o,ho,hk⟩)
   ⟨aX _,ir,let ⟨o,g,r⟩:=pl;⟨o,ay _ g,r⟩⟩ (λ b hb=>?_) (bJ ..) (by simp only[aM];lia) λ z' ac mv io=>?_
  ·show b<(s1.heap.push (iu a ((its.toArray.size:Int)-1))).objs.size;rw[sz];simp only[aN,dJ,eW] at hb
   rcases hb with rfl|rfl
   ·exact eU _
   ·exact cL al
  have I3:Inv X pins σ H1 z':=by
   obtain⟨zh,zg,zd,zt,zo⟩:=z';have e1:zg=s1.gens:=mv.gens;have e2:zd=s1.drawn:=mv.drawn;have e3:zo=s1.os:=mv.os;subst e1 e2 e3;obtain⟨f0,f1,f2,f3,f4,f5⟩:=ff;exact I1.turned (t':=zt) (λ b o hb e=>mv.heap b o (by simpa using hb) (ay _ e)) f0 f1 f3 f4 f5
  have er:ac=its.reverse.toArray:=by
   have sz2:ac.size=its.length:=by simpa using io.1
   apply Array.ext
   ·simp[sz2]
   ·intro j h1 h2;have q:=io.2 j _ (cP h1);simp only[aM,oo] at q;have q2:its.reverse[j]?=some ac[j]:=by rw[iY on];exact q
    rw[s1z];exact(cv ((aC (by simpa using h2)).symm.trans q2)).symm
  subst er
  have I4:Inv X pins σ (upd H1 z'.heap.objs.size (.tup xs.reverse)) { z' with heap:=z'.heap.push { cls:=.type "tuple",data:=.seq its.reverse.toArray } } :=
   I3.laid (t':=z'.toks) (λ b o e=>ay _ e) (aj _) (show ObjOk X.prog X.w _ _ _ (.tup xs.reverse) from ⟨by simpa using hz,its.reverse,rv.reverse,TupO.new _ _⟩)
  exact⟨.ref z'.heap.objs.size,_,I4,fu,q _ (I3.hok.fresh (aj _))⟩
noncomputable def okS(k:Nat)(x:Str):Prop:=x.length<=k/\∀c∈x.cps.toList,c<1000
def okS.repr(h:okS k x):(reprText x).length<=10*k+2:=by
 have:=StrLaws.reprText_len x λ c hc=>bZ (h.2 c hc) pv;have:=h.1;lia
noncomputable def tFR(t1 t2:TE):TE:=λ σ H Q=>t1 σ H λ x H1=>∃a,x=.str a/\okS 1000 a/\t2 σ H1 λ y H2=>∃b,y=.str b/\okS 1000 b/\∀z,Q (.str z) H2
def FU{t1 t2:TE}(h1:PE X e1 t1)(h2:PE X e2 t2):PE X (.JoinedStr [e1,.FormattedValue e2 114 none p2] pos) (tFR t1 t2):=by
 intro pins s σ H Q I h;refine wpAny_JoinedStr (thn (h1 pins s σ H _ I h) λ v s1 ⟨x,H1,I1,r1,q1⟩=>?_);obtain⟨a,rfl,oa,q2⟩:=q1;obtain⟨ta,rfl⟩:=r1;have s20:20000<=sizeLine:=by rw[gD];decide
 have e0:∀z:Str,Str.empty++z=z:=λ z=>by show(⟨#[]++z.cps⟩:Str)=z;simp
 refine⟨a,ta,fu,?_,wpAny_FormattedValue_repr (thn (h2 pins s1 σ H1 _ I1 q2) λ v s2 ⟨y,H2,I2,r2,q3⟩=>?_)⟩
 ·rw[e0];have:=oa.1;lia
 obtain⟨b,rfl,ob,q⟩:=q3;obtain⟨tb,rfl⟩:=r2;have rb:=ob.repr;refine wpAny_pyReprObj_str (formatField_str (λ t' tk=>⟨_,t',fu,?_,?_,?_⟩) on) on
 ·rw[e0,strLen_append];have:=oa.1;lia
 ·rw[e0,strLen_append];have:=oa.1;lia
 ·exact⟨.str _,H2,(I2.tok _).tok _,⟨_,fu⟩,q _⟩
section
variable {es:List Expr}{x1:Nat}{pp:Pos}
end
instance (k:Nat)(x:Str):Decidable (okS k x):=by unfold okS;infer_instance
section
variable {tg:Expr}
end
noncomputable def FV(K:FG):R2:=λ x y H Q=>∃l b xs zs,x=.ref l/\y=.ref b/\SqL K H l xs/\SqL K H b zs/\xs.length+zs.length<=sizeLine/\∀p,H p=none->Q (.ref p) (upd H p (.lst (xs++zs)))
def qW:OpR X (binaryOp .Add) (FV X.K):=by
 intro pins s σ H x y v u Q I rx ry h;obtain⟨l,b,xs,zs,rfl,rfl,hH,hB,hz,q⟩:=h;cases rx;cases ry;obtain⟨its,r,⟨⟨c1,d1,z1,l1⟩,n,e,hc,hd,hs⟩,_⟩:=I.list hH;obtain⟨its2,r2,⟨⟨c2,d2,z2,l2⟩,n2,e2,hc2,hd2,hs2⟩,_⟩:=I.list hB;simp only at hc hd hs hc2 hd2 hs2;subst hc hd hs hc2 hd2 hs2;have a1:=r.length;have a2:=r2.length;have ea:its.toArray++its2.toArray=(its++its2).toArray:=BT;refine s1b ⟨_,e,fu⟩ ⟨_,e2,fu⟩ noFill_list_add seq_list_add F.slot_list_add F.entry_list_add (F.args_list_add_2 _ _) (list_addW l b its.toArray its2.toArray n n2 _ _ _ _ (by rw[aM,aM];lia)) ⟨e,e2,?_⟩;rw[ea];exact⟨.ref _,_,I.lnew (t':=s.toks) (r.append r2) (by rw[aR];lia),fu,q _ I.fresh⟩
section
variable {pg:Program}{wd:World}{B:Around}{X0:VS}{s0:Shared}
end
section
variable {es:List Expr}{x1:Nat}{pp:Pos}
end
end _L
namespace _L
open PySem PySem.Spec PyProof.Rows PySem.W PySem.Calls
def FW(i j:Int):Prop:=IntMulOk i j
def FY:OpR X (binaryOp .Mult) (rI FW λ i j=>.int (i*j)):=opI λ _ _ _ _ _ _ _ hc q=>mul_int q hc
section
variable {prog:Program}{w:World}{A:Around}{E:VS}{s:Shared}
theorem wg{l:Addr}{T:String}{vs:LV}{Q:VS}(hT:T="list" \/ T="tuple")(ho:s.heap.get? l=some o)(hc:o.cls=.type T)(hd:o.data=.seq vs.toArray n)(hI:IntsAre vs ns)(h64:vs.length<64)
  (h:∀(h1 h2:Heap) (vs':LV) (ns':LI) (e:Nat),(∀b u,s.heap.get? b=some u->h1.get? b=some u)->(∀b u,h1.get? b=some u->h2.get? b=some u)->h2.get? h1.objs.size=some (seqObj "list" vs'.toArray e)->IntsAre vs' ns'->ns'.Perm ns->ns'.Pairwise (·<=·)->Q (.ref h1.objs.size) { s with heap:=h2 }) :
  wpAny (model prog w) A (call (.builtin "sorted") [.ref l]) Q E s:=by
 refine qX s4i s4a s4b (s4c _) ?_;unfold Builtin.«sorted»;refine ae (m:=checkCount "sorted" 1 1 _) (ah ?_);refine ae (wpAny_collect_seq l hT ho hc hd (λ h1 k1=>?_) (by simp only[aM];exact cu (aP on)));rw[show vs.toArray.toList=vs by simp];refine ae (s0f ?_);have hoL:(h1.push (seqObj "list" vs.toArray 0)).get? h1.objs.size=some (seqObj "list" vs.toArray 0):=aL _ rfl;refine ae (bv (dc s2k ⟨_,hoL,fu⟩ s1i (list_sort_tree hoL hI h64 λ out ns' a1 a2 a3=>⟨_,fu,?_⟩) (s2l _)));refine ah ⟨_,fu,?_⟩;obtain⟨e,he⟩:=s3k (vs:=vs) (out:=out) hoL;refine h h1 _ out.toList ns' e k1 (λ b u q=>?_) (by rw[qY];exact he) a1 a2 a3;have hlt:=az q;rw[s2m (aJ hlt) (by rw[size_push'];exact cL hlt)];exact ay _ q
end
theorem wj:∀ {xs:List V}{us:LV},xs.length=us.length->(∀(i:Nat) u,us[i]?=some u->∃x,xs[i]?=some x/\RelV x u)->Vals xs us
 |[],[],_,_=>.nil
 |[],_::_,h,_=>by simp at h
 |_::_,[],h,_=>by simp at h
 |x::xs,u::us,h,f=>by
  obtain⟨y,e,r⟩:=f 0 u rfl;cases (cv e);exact .cons r (wj (by simpa using h) λ i v e=>f (i+1) v e)
variable {X:Cx}
def FZ:bo X (.builtin "sorted") (λ xs H Q=>∃p ns,xs=[.ref p]/\(SqL X.K H p (List.map V.int ns)\/SqT X.K H p (List.map V.int ns))/\ns.length<64/\∀ns':LI,ns'.Perm ns->ns'.Pairwise (·<=·)->∀l,H l=none->Q (.ref l) (upd H l (.lst (ns'.map V.int)))):=by
 intro pins s σ H xs us Q I r h;obtain⟨p,ns,rfl,hq,h64,q⟩:=h;obtain⟨u,rfl,rx⟩:=bW r;cases rx
 have fin:∀(h1 h2:Heap) (vs':LV) (ns':LI) (e:Nat),(∀b u,s.heap.get? b=some u->h1.get? b=some u)->(∀b u,h1.get? b=some u->h2.get? b=some u)->h2.get? h1.objs.size=some (seqObj "list" vs'.toArray e)->IntsAre vs' ns'->ns'.Perm ns->ns'.Pairwise (·<=·)->EP X pins σ Q (.ref h1.objs.size) { s with heap:=h2 }:=by
  intro h1 h2 vs' ns' e k1 k2 g a1 a2 a3;have I1:Inv X pins σ H { s with heap:=h1 }:=I.kept (t':=s.toks) k1;have hz:(ns'.map V.int).length<=sizeLine:=by rw[aq,a2.length_eq];exact cu (aP on)
  have I2:Inv X pins σ (upd H h1.objs.size (.lst (ns'.map V.int))) { s with heap:=h2 }:=I1.laid (t':=s.toks) k2 (aj _) (show ObjOk X.prog X.w _ _ _ (.lst (ns'.map V.int)) from ⟨hz,vs',e,nV a1,g⟩);exact⟨.ref h1.objs.size,_,I2,fu,q ns' a2 a3 _ (I1.hok.fresh (aj _))⟩
 rcases hq with hq|hq
 ·obtain⟨its,r',pl,hz⟩:=I.list hq;have hi:=iU r';obtain⟨o,ho,hc,n,hd⟩:=pl.isList;exact wg (.inl rfl) ho hc hd hi (by rw[hi.length];exact h64) fin
 ·obtain⟨its,r',pl,hz⟩:=I.tuple hq;have hi:=iU r';obtain⟨o,ho,hc,n,hd⟩:=pl;exact wg (.inr rfl) ho hc hd hi (by rw[hi.length];exact h64) fin
def Ga:bo X (.type "range") (λ xs H Q=>∃j:Int,xs=[.int j]/\∀r,H r=none->Q (.ref r) (upd H r (.rng 0 j))):=by
 intro pins s σ H xs us Q I r h;obtain⟨j,rfl,q⟩:=h;obtain⟨u,rfl,t,rfl⟩:=bW r;refine call_range_1 ⟨.ref s.heap.objs.size,_,I.laid (λ b o e=>ay _ e) (aj _) ?_,fu,q _ (I.hok.fresh (aj _))⟩;exact⟨_,_,_,aL _ rfl⟩
def upL(n:Nat):LI:=(List.range n).map λ(i:Nat)=>(i:Int)
def Gb(hc:X.calm=true):bo X (.type "list") (λ xs H Q=>∃p n,xs=[.ref p]/\H p=some (.rng 0 (Int.ofNat n))/\n<=1000/\∀l,H l=none->Q (.ref l) (upd H l (.lst ((upL n).map V.int)))):=by
 intro pins s σ H xs us Q I r h;obtain⟨p,n,rfl,hp,hn,q⟩:=h;obtain⟨u,rfl,rx⟩:=bW r;cases rx;obtain⟨t,u,v,e⟩:=I.hok p _ hp
 have hs:Builtin.Range.small 0 (Int.ofNat n) 1=true:=by
  have z:∀m:Fin 1001,Builtin.Range.small 0 (Int.ofNat m.val) 1=true:=by decide +kernel
  exact z ⟨n,on⟩
 have hsz:Builtin.Range.rangeSize 0 (Int.ofNat n) 1=n:=by
  unfold Builtin.Range.rangeSize;rw[if_pos pv];split
  ·show(Int.ofNat n-0-1)/1+1=_;simp; 
  ·simp at *;lia
 refine call_list_range (I.ok.hd hc) e hs hsz on λ h' tk acc' c' k g it=>?_
 have rv:Vals ((upL n).map V.int) acc'.toList:=by
  refine wj (by simp[upL,it.1]) λ i v e=>?_;rw[bE] at e;obtain⟨tt,rfl⟩:=it.2 i v e;have hi:i<n:=by rw[<- it.1];exact(lN.mp e).1
  exact⟨.int i,by simp[upL,hi],tt,BT⟩
 exact⟨.ref s.heap.objs.size,_,I.laid k (aj _) (show ObjOk X.prog X.w _ _ _ (.lst _) from ⟨by simp[upL];exact cu (aP hn),acc'.toList,c',rv,by rw[qY];exact g⟩),fu,q _ (I.hok.fresh (aj _))⟩
def Gc:MtR X "list.pop" lK:=Ei
theorem Gd{X:Cx}{i:Nat}{elt tg iter:Expr}{cl:LA}{pos pos' lpos:Pos}{own fv:List Str}{js:List Nat}
  (hN:X.N.Nodup) (hx1:X.N[i]?=some x) (hx:Loc X.env.scope x) (hf:X.fn x=true\/X.env.scope.names.lookup x=some .local)
  (hc:X.calm=true) (hi:PI X tg iter wi) (hclos:closureFor scope X.env=pure cl) (hcell:∀y∈scope.names,y.2≠.cell) (hkind:scope.kind=.function)
  (hnames:∀y∈scope.names,y.2=.local->scope.names.lookup y.1=some .local)
  (hcl:∀x c,cl.lookup x=some c->X.env.cells.lookup x=some c)
  (hhas:∀x,((relabel scope X.env).names.lookup x=some .cell\/(relabel scope X.env).names.lookup x=some .free)->∃c,cl.lookup x=some c)
  (hlen:js.length=fv.length) (hcap:∀(i:Nat) x j,fv[i]?=some x->js[i]?=some j->Cap X scope cl x j)
  (hg:∀(C:Addr) (ex:List Addr) (s:Shared) (H:Hp),PG (bp X (own++fv) scope cl C ex s H) tg g)
  (he:∀(C:Addr) (ex:List Addr) (s:Shared) (H:Hp),PE (bp X (own++fv) scope cl C ex s H) elt te)
  (hsw:swapsWith (.ListComp elt [⟨tg,iter,[],0⟩] scope lpos) (some (.Name x pos')) pos.line X.env=pure true:=by rfl)
  (hs:∀x,foldedSetIterable iter X.env x=pure x:=by intro _;rfl) :
  PS X (.Assign [.Name x pos'] (.ListComp elt [⟨tg,iter,[],0⟩] scope lpos) pos) (jH (jU wi own.length js g te) (dE i)):=by
 intro pins s σ H D I h;rw[s1j _ _ _ _ hsw];refine ae (gA ?_);rw[wl];have core:=vN (use:=some (assign (.Name x pos') X.env)) (QQ:=λ _ s'=>SP X pins D .next s') (fpos:=firstIterPos [⟨tg,iter,[],0⟩] lpos) (pos:=lpos) hc hi hclos hcell hkind hnames hcl hhas hlen hcap hg he hs I h (λ a C s5 H5 fl I5 zC zL zS zc zp ⟨m,hn⟩ q=>?_)
 ·refine ae (ae (thn core λ _ s' hq=>?_));exact ah (ah hq)
 ·show wpAny (model X.prog X.w) X.A (assign (.Name x pos') X.env (.ref a)) _ X.xe s5;show wpAny (model X.prog X.w) X.A (do standAt pos';bindName X.env x (.ref a)) _ X.xe s5;refine ae (gA ?_);refine bindName_ ?_;refine qr I5 hN hx1 hx (show RelV (.ref a) (.ref a) from rfl) (λ s6 I6 ⟨b,sb,hb⟩=>?_) hf
  have cb:C≠b:=by
   rcases hb with rfl|hb
   ·exact zL
   ·exact λ z=>zc x b hb z.symm
  obtain⟨o,es,ep,e,r⟩:=hn;refine⟨m,⟨o,es,ep,(sb.2 C cb).trans e,r⟩,λ h' sc=>?_⟩;exact⟨_,H5,I6.turned (t':=s6.toks) (it:=C) (λ d o nd e=>sc.extBut d o nd e) zC zL (.inr zS) zc zp,q⟩
noncomputable def Ge:V->Option Int->Option Int->Hp->VK->Prop:=λ x lo hi H Q=>∃z,x=.str z/\z.length<=4000000/\Q (.str (Txt.slice z lo hi)) H
def Gf:SlR X Ge:=by
 intro pins s σ H x v vl vu lo hi sl Q I rx hs pl pu h;obtain⟨z,rfl,hz,q⟩:=h;obtain⟨t,rfl⟩:=rx;have s20:4000000<=sizeLine:=by rw[gD];decide
 have part:∀ {u:Value}{o:Option Int},IsPart u o->∃l,u=partValue l/\o=l.map λ p:Int×Tok=>p.1:=λ p=>by
  cases p with
  |none=>exact⟨none,rfl,rfl⟩
  |int i t=>exact⟨some (i,t),rfl,rfl⟩
 obtain⟨l,rfl,rfl⟩:=part pl;obtain⟨u,rfl,rfl⟩:=part pu;obtain⟨o,ho,hc,hd⟩:=hs;refine⟨"str",_,F.slot_str_getitem.lookup,typeIs_str _ _ _,wpAny_getItem_str_slice (l:=l) (u:=u) (st:=none) ⟨o,ho,hc,hd⟩ rfl ?_⟩;have le:=Txt.slice_le z (l.map λ p:Int×Tok=>p.1) (u.map λ p:Int×Tok=>p.1);exact post_val_or_str ⟨bH le on,λ t' k=>⟨.str _,H,I.tok k,⟨t',fu⟩,q⟩⟩
theorem wn:∀ {bs:List Bool}{us:LV},Vals (bs.map V.bl) us->us=bs.map Value.bool
 |[],_,.nil=>rfl
 |b::bs,_,.cons r t=>by
  cases (show _=Value.bool b from r);rw[wn t];rfl
def Gh(hc:X.calm=true):bo X (.builtin "any") (λ xs H Q=>∃(a:Addr) (bs:List Bool),xs=[.ref a]/\SqL X.K H a (bs.map V.bl)/\Q (.bl (bs.any id)) H):=by
 intro pins s σ H xs us Q I r h;obtain⟨a,bs,rfl,hq,q⟩:=h;obtain⟨u,rfl,ru⟩:=bW r;cases (show u=Value.ref a from ru);obtain⟨its,rv,pl,hz⟩:=I.list hq;have hl:=pl.isList;have hlt:a<s.heap.objs.size:=by obtain⟨_,e,_⟩:=hl;exact az e
 have hb:=wn rv;subst hb;refine call_any_walk (lS hl ?_)
 refine⟨s.heap.objs.size,[s.heap.objs.size,a],[s.heap.objs.size],(bs.map Value.bool).toArray.size,_,_,λ i=>(bs[i]?).getD false,fu,s3v (A:=X.A.in1) (I.ok.hd hc) _ a (aJ hlt) (bs.map Value.bool).toArray,
  ⟨⟨_,aL _ rfl,rfl,rfl⟩,hl.push _⟩,λ i v s' Q' E' hP hQ=>?_,λ h' tk hk=>?_⟩
 ·have hP:(bs.map Value.bool)[i]?=some v:=by simpa using hP
  rw[bc] at hP
  cases e:bs[i]? with
  |none=>rw[e] at hP;cases hP
  |some b=>
   rw[e] at hP;cases hP;simp only[e,Option.getD_some] at hQ;exact iT hQ
 ·have e:((List.range (bs.map Value.bool).toArray.size).any λ i=>(bs[i]?).getD false)=bs.any id:=by
   rw[aM,aq];exact LSm.range_any bs
  rw[e];exact⟨.bl _,H,I.kept (t':=tk) (LSm.kept_iter hk),fu,q⟩
section
variable {κ:Type} [DecidableEq κ]
noncomputable def fP(kvs:List (κ×V))(k:κ):Option V:=(kvs.find? λ kv=>decide (kv.1=k)).map (·.2)
def qZ{p:κ×V}{r:List (κ×V)}{k:κ}(e:p.1=k):fP (p::r) k=some p.2:=by simp[fP,List.find?_cons,e]
def rc{p:κ×V}{r:List (κ×V)}{k:κ}(e:¬p.1=k):fP (p::r) k=fP r k:=by simp[fP,List.find?_cons,e]
def RelO.getD(r:RelO o u)(rd:RelV d d'):RelV (o.getD d) (u.getD d'):=by
 cases o with
 |none=>cases u with
  |none=>exact rd
  |some _=>exact(show False from r).elim
 |some _=>cases u with
  |none=>exact(show False from r).elim
  |some _=>exact r
def KV.val{vs:List (κ×Value)}(r:KV kvs vs)(k:κ):RelO (fP kvs k) (valueAt vs k):=by
 unfold KV at r
 induction r with
 |nil=>exact jY
 |@cons p q ps qs h t ih=>
  obtain⟨h1,h2⟩:=h;by_cases e:p.1=k
  ·have e':q.1=k:=h1.symm.trans e;have b:valueAt (q::qs) k=some q.2:=by simp[valueAt,List.find?_cons,e']
   rw[qZ e,b];exact h2
  ·have e':¬q.1=k:=λ z=>e (h1.trans z);have b:valueAt (q::qs) k=valueAt qs k:=by simp[valueAt,List.find?_cons,e']
   rw[rc e,b];exact ih
end
def re(r:RelV (kV k) u):(cF P w).is k u=true:=by
 cases k with
 |inl i=>obtain⟨t,e⟩:=(show ∃t,u=Value.int i t from r);subst e;exact BJ P w i t
 |inr x=>obtain⟨t,e⟩:=(show ∃t,u=Value.str x t from r);subst e;exact BK P w x t
theorem wo:∀ {ks:List Key}{us:LV},Vals (ks.map kV) us->ItemsAre (cF P w) ks us
 |[],_,r=>by rw[s3x] at r;cases r;exact .nil
 |k::ks,_,r=>by
  rw[bw] at r
  cases r with
  |cons h t=>exact .cons (re h) (wo t)
noncomputable abbrev KT(H:Hp):List (List Key×V)->List (List Key×Addr×Value)->Prop:=Paired λ p q=>p.1=q.1/\H q.2.1=some (.tup (p.1.map kV))/\RelV p.2 q.2.2
def KT.val(r:KT H kvs xs)(k:List Key):RelO (fP kvs k) ((atKey xs k).map (·.2)):=by
 induction r with
 |nil=>exact jY
 |@cons p q ps qs h t ih=>
  obtain⟨h1,_,h2⟩:=h;by_cases e:p.1=k
  ·have e':q.1=k:=h1.symm.trans e;have b:atKey (q::qs) k=some q.2:=by simp[atKey,List.find?_cons,e']
   rw[qZ e,b];exact h2
  ·have e':¬q.1=k:=λ z=>e (h1.trans z);have b:atKey (q::qs) k=atKey qs k:=by simp[atKey,List.find?_cons,e']
   rw[rc e,b];exact ih
section
variable {P:Program}{w:World}{H:Hp}{h:Heap}{a:Addr}
def wp(ok:HOk P w H h)(e:Rd H a u):ObjOk P w H h a u:=e.ok ok
def ou(ok:HOk P w H h)(e:Rd H a (.dK kvs)):kvs.length<=sizeLine/\(a == sysModules)=false/\∃vs,KV kvs vs/\h.DictOf (cF P w) a vs :=
 show ObjOk P w H h a (.dK kvs) from wp ok e
def rh{ks:List Key}(ok:HOk P w H h)(e:H a=some (.tup (ks.map kV))):(tupleKind (cF P w)).is h ks a:=by
 obtain⟨_,its,r,o,h1,⟨h2,n,h3⟩,_⟩:=(show ObjOk P w H h a (.tup (ks.map kV)) from ok a _ e);exact⟨o,its.toArray,n,h1,h2,h3,by simpa using wo r⟩
theorem ow(ok:HOk P w H h)(e:Rd H a (.dT kvs)):kvs.length<=sizeLine/\(a == sysModules)=false /\
  ∃xs,KT H kvs xs/\h.DictOfH (tupleKind (cF P w)) a xs:=by
 obtain⟨z,y,xs,r,o,es,ep,h1,h2,h3,h4,h5⟩:=(show ObjOk P w H h a (.dT kvs) from wp ok e);refine⟨z,y,xs,r,o,es,ep,h1,h2,h3,h4,λ x hx=>?_,h5⟩
 have all:∀ {l:List (List Key×V)}{m:List (List Key×Addr×Value)},KT H l m->∀x∈m,(tupleKind (cF P w)).is h x.1 x.2.1:=by
  intro l m q
  induction q with
  |nil=>intro x hx;exact nomatch hx
  |@cons p q ps qs hq t ih=>
   intro x hx
   rcases aN.mp hx with e|hx
   ·subst e;exact rh ok (by rw[<- hq.1];exact hq.2.1)
   ·exact ih x hx
 exact all r x hx
end
noncomputable def lT(H:Hp)(a:Addr)(y:V)(r:Option V):Prop :=
 (∃kvs k,Rd H a (.dK kvs)/\y=kV k/\r=fP kvs k)\/∃kvs k b,Rd H a (.dT kvs)/\y=.ref b/\H b=some (.tup (k.map kV))/\r=fP kvs k
section
variable {pins:LO}{σ:St}{H:Hp}{s:Shared}{a:Addr}{y v:V}{u r:Value}{o:Option V}{A:Around}{E:VS}
def Inv.big(I:Inv X pins σ H s):sysModules<s.heap.objs.size:=by
 have h:mainGlobals<s.heap.objs.size:=(I.mod.glob.keeps I.bk).lt;exact iZ pv h
theorem Gi{Q:VS}(hu:A.units+1<cLine)(I:Inv X pins σ H s)(g:lT H a y (some v))(ry:RelV y u)(h:∀w' s',Inv X pins σ H s'->RelV v w'->Q w' s') :
  wpAny (model X.prog X.w) A (getItem (.ref a) u) Q E s:=by
 rcases g with ⟨kvs,k,e,ey,l⟩|⟨kvs,k,b,e,ey,eb,l⟩
 ·subst ey;obtain⟨z,hd,vs,rel,dd⟩:=ou I.hok e;obtain⟨w',hw,rw'⟩:=RelO.some_of (v:=v) (o:=valueAt vs k) (by rw[l];exact rel.val k);exact wpAny_getItem_of (re ry) dd.mapOf hw (h w' _ (I.tok _) rw')
 ·subst ey;cases (show u=Value.ref b from ry);obtain⟨z,hd,xs,rel,dd⟩:=ow I.hok e;obtain⟨w',hw,rw'⟩:=RelO.some_of (v:=v) (o:=(atKey xs k).map (·.2)) (by rw[l];exact rel.val k);obtain⟨p,hp,hp2⟩:=fQ.mp hw;refine wpAny_getItem_heap (s3l hu) (rh I.hok eb) dd hp ?_;rw[hp2];exact h w' _ (I.tok _) rw'
theorem Gj{h':Heap}{kvs:List (Key×V)}{vs:List (Key×Value)}(z:kvs.length<=sizeLine)(hd:(a == sysModules)=false)(rel:KV kvs vs)(dd:h'.DictOf (cF P w) a vs) :
  ObjOk P w H' h' a (.dK kvs):=⟨z,hd,vs,rel,dd⟩
end
section
variable {pins:LO}{σ:St}{H:Hp}{s:Shared}{a:Addr}{kvs:List (Key×V)}{k:Key}{u:Value}{A:Around}{E:VS}
end
noncomputable def rj(i:Expr):Prop:=∀ov iv,subscripted i false ov iv=operate [ov,iv] (getItem ov iv)
theorem wq{T id:String}
  (hl:typeLookup (.type T) "__getitem__"=pure (some (.builtin id))) (hs:rj slice)
  (h:wpAny (model prog w) A (eval value env) (λ o s₁=>wpAny (model prog w) A (eval slice env) (λ i s₂=>s₂.TypeIs o T/\wpAny (model prog w) A (getItem o i) Q E s₂) E s₁) E s) :
  wpAny (model prog w) A (eval (.Subscript value slice pos) env) Q E s:=by
 refine Subscript_ (bV h (λ o s₁ h₁=>bV h₁ (λ i s₂ h₂=>?_) λ _ _ x=>x) λ _ _ x=>x);obtain⟨hT,h₂⟩:=h₂;unfold subscriptTail;refine ae ?_;rw[getitemInPython_of_ne hT.not_modules];refine ae (fN hT hl ?_)
 have fin:wpAny (model prog w) A (subscripted slice false o i) (λ r s₃=>wpAny (model prog w) A (letTemporaryGo value o r >>= λ _=>pure r) Q E s₃) E s₂:=by
  rw[hs o i];exact wpAny_operating (bV h₂ (λ r s₃ h₃=>ae (wpAny_letTemporaryGo (ah h₃))) λ _ _ x=>x)
 first
  |exact ah (ae fin)
  |exact ae (ah (ae fin))
  |exact ae fin
def Gk(I:Inv X pins σ H s)(g:lT H a y o):s.TypeIs (.ref a) "dict" := by
 rcases g with ⟨kvs,k,e,_,_⟩|⟨kvs,k,b,e,_,_,_⟩
 ·obtain⟨_,_,vs,_,dd⟩:=ou I.hok e;exact dd.typeIs
 ·obtain⟨_,_,xs,_,dd⟩:=ow I.hok e;exact dd.typeIs
noncomputable def Gm(td ty:TE):TE:=λ σ H Q=>td σ H λ x H1=>ty σ H1 λ y H2=>∃a v,x=.ref a/\lT H2 a y (some v)/\Q v H2
section
variable {o i e value:Expr}{pos pos' tpos:Pos}{td ty tv:TE}
def Gn(hu:X.A.units+1<cLine)(ho:PE X o td)(hi:PE X i ty)(hs:rj i):PE X (.Subscript o i pos) (Gm td ty):=by
 intro pins s σ H Q I h;refine wq PySem.F.slot_dict_getitem.lookup hs (thn (ho pins s σ H _ I h) λ u s1 ⟨x,H1,I1,rx,q1⟩=>thn (hi pins s1 σ H1 _ I1 q1) λ iv s2 ⟨y,H2,I2,ry,a,v,ex,g,q2⟩=>?_);subst ex;obtain rfl:u=Value.ref a:=rx;exact⟨Gk I2 g,Gi hu I2 g ry λ w' s3 I3 rw'=>⟨v,H2,I3,rw',q2⟩⟩
end
section
variable {pos:Pos}
end
structure M1 (X:Cx)(o:Expr)(m:Str)(apos:Pos)(e:Expr)(cpos:Pos):Prop where
 base:attributeBase o m X.env (eval o X.env)=eval o X.env
 few:((backTo cpos (starEach [e] X.env)).all (λ x=>!x.1) && (backToKw cpos (keywordEach [] X.env)).all (λ x=>x.1.isSome)
  && decide (([e]:List Expr).length+([]:List Keyword).length+(if ([]:List Keyword).isEmpty then 0 else 1)<30))=true
 line:(apos.endLine == cpos.line)=true
 trees:backTo cpos (starEach [e] X.env)=[(false,eval e X.env)]
noncomputable def IsD(H:Hp)(a:Addr):Prop:=(∃kvs,Rd H a (.dK kvs))\/∃kvs,Rd H a (.dT kvs)
theorem Go(I:Inv X pins σ H s)(d:IsD H a) :
  s.TypeIs (.ref a) "dict" /\ (∀b,Value.ref a=.ref b->∃ob,s.heap.get? b=some ob/\ob.dict=none)/\(a == sysModules)=false:=by
 rcases d with ⟨kvs,e⟩|⟨kvs,e⟩
 ·obtain⟨_,hd,vs,_,dd⟩:=ou I.hok e;refine⟨dd.typeIs,λ b q=>?_,hd⟩;cases q;obtain⟨ob,_,_,h1,h2,_⟩:=dd;exact⟨ob,h1,h2.2.1⟩
 ·obtain⟨_,hd,xs,_,dd⟩:=ow I.hok e;refine⟨dd.typeIs,λ b q=>?_,hd⟩;cases q;obtain⟨ob,_,_,h1,h2,_⟩:=dd;exact⟨ob,h1,h2.2.1⟩
section
variable {pins:LO}{σ:St}{H:Hp}{s:Shared}{a:Addr}{y d:V}{u r:Value}{o:Option V}{A:Around}{E:VS}
theorem Gp{Q:VS}(hu:A.units+1<cLine)(I:Inv X pins σ H s)(g:lT H a y o)(ry:RelV y u)(h:∀w' s',Inv X pins σ H s'->RelV (o.getD .non) w'->Q w' s') :
  wpAny (model X.prog X.w) A (call (.builtin "dict.get") [.ref a,u]) Q E s:=by
 rcases g with ⟨kvs,k,e,ey,l⟩|⟨kvs,k,b,e,ey,eb,l⟩
 ·subst ey;obtain⟨z,hd,vs,rel,dd⟩:=ou I.hok e;refine call_meetsIn rn dd.typeIs s0x (s0g _ _) (meets_dict_get (cF X.prog X.w) a (re ry) hd) ⟨_,dd.mapOf,h _ _ (I.tok _) ?_⟩;rw[l];exact(rel.val k).getD rfl
 ·subst ey;cases (show u=Value.ref b from ry);obtain⟨z,hd,xs,rel,dd⟩:=ow I.hok e;refine call_meetsIn rn dd.typeIs s0x (s0g _ _) (meetsH_dict_get (tupleKind (cF X.prog X.w)) a b hd) ⟨s3l hu,k,xs,rh I.hok eb,dd,h _ _ (I.tok _) ?_⟩;rw[l];exact(rel.val k).getD rfl
end
noncomputable def Gq(td ty:TE):TE:=λ σ H Q=>td σ H λ x H1=>∃a,x=.ref a/\IsD H1 a/\ty σ H1 λ y H2=>∃o,lT H2 a y o/\Q (o.getD .non) H2
section
variable {o e f:Expr}{apos cpos:Pos}{td ty tx:TE}
def Gr(hu:X.A.units+1<cLine)(ho:PE X o td)(he:PE X e ty)(m:M1 X o "get" apos e cpos):PE X (.Call (.Attribute o "get" apos) [e] [] cpos) (Gq td ty):=by
 intro pins s σ H Q I h;refine wpAny_Call_method m.base m.few m.line PySem.F.plainAttrs_dict rn PySem.F.type_dict_get (thn (ho pins s σ H _ I h) λ u s1 ⟨x,H1,I1,rx,a,ex,d,q1⟩=>?_);subst ex;obtain rfl:u=Value.ref a:=rx;obtain⟨t1,t2,_⟩:=Go I1 d;refine⟨t1,t2,?_⟩;rw[m.trees];refine qJ rfl (qL (nO (thn (he pins s1 σ H1 _ I1 q1) λ iv s2 ⟨y,H2,I2,ry,ov,g,q2⟩=>nN ?_)));exact Gp hu I2 g ry λ w' s3 I3 rw'=>⟨_,H2,I3,rw',q2⟩
end
section
variable {pins:LO}{σ:St}{H:Hp}{s:Shared}{a:Addr}{kvs:List (Key×V)}{A:Around}{E:VS}
end
section
variable {pins:LO}{σ:St}{H:Hp}{s:Shared}{a:Addr}{y:V}{u:Value}{A:Around}{E:VS}
end
section
variable {κ:Type} [DecidableEq κ]
end
noncomputable def KTab(P:Program)(w:World)(K:FG)(d:Addr)(kvs:LA):Prop:=(d == sysModules)=false/\∀h:Heap,K.In h->h.DictOf (cF P w) d (kvs.map λ p=>((Sum.inr p.1:Key),Value.ref p.2))
noncomputable def Gs(pm:Params)(l:List (Str×Tok×Addr)):List DictEntry:=l.map λ p=>⟨PyData.keyHash pm p.1,.str p.1 p.2.1,.ref p.2.2⟩
theorem KTab.mk{w:World}{K:FG}{d:Addr}(hd:(d == sysModules)=false)(hl:K.lookup d=some { cls:=.type "dict",data:=.dict es n })(he:es.toList=Gs w.params l)(nd:(l.map (·.1)).Nodup) :
  KTab P w K d (l.map λ p=>(p.1,p.2.2)):=by
 refine⟨hd,λ h KI=>⟨_,es,n,KI d _ hl,⟨fu,fu,fu⟩,fu,?_,?_,?_⟩⟩
 ·intro e hm;have hm:e∈es.toList:=Array.mem_toList_iff.mpr hm;rw[he] at hm;obtain⟨p,_,rfl⟩:=aW.mp hm;exact⟨Sum.inr p.1,nC p.1 p.2.1,fu⟩
 ·rw[he];clear he nd hl
  induction l with
  |nil=>exact .nil
  |cons p r ih=>exact .cons (nC p.1 p.2.1) rfl ih
 ·rw[bq,bq];have e:((λ x:Key×Value=>x.1) ∘ (λ p:Str×Addr=>((Sum.inr p.1:Key),Value.ref p.2))) ∘ (λ p:Str×Tok×Addr=>(p.1,p.2.2))=(λ x:Str=>(Sum.inr x:Key)) ∘ λ p=>p.1:=rfl;rw[<- bq] at *
  have z:(l.map λ p=>(Sum.inr p.1:Key)).Nodup:=by
   have:(l.map λ p=>(Sum.inr p.1:Key))=(l.map (·.1)).map (λ x:Str=>(Sum.inr x:Key)):=by rw[bq];rfl
   rw[this];exact List.Pairwise.map _ (λ a b (h:a≠b) z=>h (s4f z)) nd
  simpa [bq,Function.comp_def] using z
def Gu{kvs:LA}:valueAt (kvs.map λ p=>((Sum.inr p.1:Key),Value.ref p.2)) (Sum.inr x)=(kvs.lookup x).map Value.ref:=by
 induction kvs with
 |nil=>rfl
 |cons p r ih=>
  obtain⟨k,a⟩:=p;unfold valueAt at *;rw[bw,List.find?_cons,iA];by_cases e:x=k
  ·subst e;simp
  ·have h1:decide ((Sum.inr k:Key)=Sum.inr x)=false:=aO λ z=>e (s4f z).symm;have h2:(x == k)=false:=qp.mpr e;rw[h2];simp only[h1];exact ih
noncomputable def Gv(kvs:LA):V->Hp->VK->Prop:=λ y H Q=>∃x a,y=.str x/\kvs.lookup x=some a/\Q (.ref a) H
noncomputable def Gw(kvs:LA)(te:TE):TE:=λ σ H Q=>te σ H λ y H1=>Gv kvs y H1 Q
theorem Gy(hg:Gl X n)(hm:X.mg n=some (.ref d))(T:KTab X.prog X.w X.K d kvs)(hi:PE X i te)(hs:rj i)(hdb:(n == ("__debug__" : Str))=false:=by decide) :
  PE X (.Subscript (.Name n np) i pos) (Gw kvs te):=by
 intro pins s σ H Q I h;refine wq PySem.F.slot_dict_getitem.lookup hs (iS I hg hm (thn (hi pins s σ H _ I h) λ iv s2 ⟨y,H2,I2,ry,x,a,ey,l,q⟩=>?_) hdb);subst ey;obtain⟨t,rfl⟩:=ry;have dd:=T.2 s2.heap I2.kIn;refine⟨dd.typeIs,wpAny_getItem_of (nC x t) dd.mapOf (v:=.ref a) (by rw[Gu,l];rfl) ⟨.ref a,H2,I2.tok _,fu,q⟩⟩
noncomputable def KTup(K:FG)(a:Addr)(xs:List V):Prop:=∃(o:Obj) (its:Array Value) (n:Nat),K.lookup a=some o/\o.cls=.type "tuple" /\ o.dict=none/\o.data=.seq its n/\its.size<=sizeLine/\Vals xs its.toList
def KTup.sq{K:FG}(h:KTup K a xs):SqT K H a xs:=.inr h
section
variable {pg:Program}{wd:World}{B:Around}{X0:VS}{s0:Shared}
end
section
variable {es:List Expr}{x1:Nat}{pp:Pos}
end
section
variable {P:Program}{w:World}{K:FG}{mg:SV}{base:Heap}
end
section
variable {CX:CXT}{k:Nat}{ps:List Str}{dvs:List V}{sp:Sp}{E:XK}{x:Str}{p pos:Pos}{e:Expr}{es:List Expr}{t:TA}
end
section
open PySem.Builtin PySem.Builtin.Str
end
section
variable {pg:Program}{wd:World}{B:Around}{X0:VS}{s0:Shared}{J d:Addr}{m:Nat}{Pr:Nat->Value->Prop}{OK:Heap->Prop}
end
section
variable {pg:Program}{wd:World}{B:Around}{X0:VS}{z0:Shared}
end
def Gz(r:Vals xs us){j:Nat}(h:j<us.toArray.size):∃z,xs[j]?=some z/\RelV z us.toArray[j]:=by
 have l:=r.length;have k:j<xs.length:=by rw[l];simpa using h
 obtain⟨u,hu,ru⟩:=r.get (aC k)
 have e:us.toArray[j]=u:=by
  have z:us[j]?=some (us[j]'(by simpa using h)):=aC _;rw[z] at hu;simpa using hu
 exact⟨_,aC k,by rw[e];exact ru⟩
section
variable {pins:LO}{σ:St}{H:Hp}{s:Shared}
end
noncomputable def GA(K:FG)(tl:TE):TI:=λ σ H R=>tl σ H λ x H1=>(∃a,x=.ref a/\(∃xs,SqL K H1 a xs)/\R (Itl K a) H1)\/(∃a,x=.ref a/\(∃xs,SqT K H1 a xs)/\R (Itt K a) H1)
def GC(hl:PE X l tl):PI X tg l (GA X.K tl):=by
 intro pins s σ H R I h;refine thn (hl pins s σ H _ I h) λ v s1 ⟨x,H1,I1,r1,q1⟩=>?_
 rcases q1 with ⟨a,e,⟨xs,hq⟩,q⟩|⟨a,e,⟨xs,hq⟩,q⟩
 ·subst e;cases r1;obtain⟨its,rv,p,hz⟩:=I1.list hq;refine lS p.isList ?_;refine⟨s1.heap.objs.size,[s1.heap.objs.size],_,_,H1,fu,I1.kept (t':=s1.toks) λ b o e=>ay _ e,CC a _,⟨_,aL _ rfl,fu,fu⟩,λ b hb=>?_,q⟩;have e:b=s1.heap.objs.size:=by simpa using hb
  subst e;exact I1.fpOk (aj _) (I1.hok.fresh (aj _))
 ·subst e;cases r1;obtain⟨its,rv,p,hz⟩:=I1.tuple hq;refine rq (show s1.heap.IsTuple a its.toArray from p) ?_;refine⟨s1.heap.objs.size,[s1.heap.objs.size],_,_,H1,fu,I1.kept (t':=s1.toks) λ b o e=>ay _ e,CD a _,⟨_,aL _ rfl,fu,fu⟩,λ b hb=>?_,q⟩;have e:b=s1.heap.objs.size:=by simpa using hb
  subst e;exact I1.fpOk (aj _) (I1.hok.fresh (aj _))
section
variable {tg:Expr}
end
section
variable {M:Model}{A:Around}{E:VS}{s₀ s:Shared}{m cm:SV}{env:Env}{cs:LA}
end
section
variable {M:Model}{A:Around}{E:VS}{s:Shared}
end
section
variable {k:Nat}{x:Str}{p pos:Pos}{e:Expr}{es:List Expr}{t:TA}
end
section
variable {params:Arguments}{body:Expr}{scope:Scope}{pos:Pos}{fv:List Str}{c T:Addr}{cl:LA}
end
section
variable {k:Nat}{x:Str}{ps:List Str}{sp:Sp}{p pos:Pos}{e:Expr}{es:List Expr}{t:TA}{fv:List Str}{js:List Nat}{cl:LA}
end
section
variable {params:Arguments}{scope:Scope}{pos:Pos}{fv:List Str}{c T:Addr}{cl:LA}
end
section
variable {prog:Program}{w:World}{A:Around}{R:Result->Shared->Prop}{I:Addr}{fp wr:List Addr}{n:Nat}{P:Nat->Value->Prop}{St:Nat->Heap->Prop}
end
def GD(hc:X.calm=true):bo X (.builtin "min") (λ xs H Q=>∃a ns,xs=[.ref a]/\SqL X.K H a (List.map V.int ns)/\0<ns.length/\∀M:Int,M∈ns->(∀z∈ns,M<=z)->Q (.int M) H):=by
 intro pins s σ H xs us Q I r h;obtain⟨a,ns,rfl,hq,hne,q⟩:=h;obtain⟨u,rfl,ru⟩:=bW r;cases (show u=Value.ref a from ru);obtain⟨its,rv,pl,hz⟩:=I.list hq;have hi:=iU rv;obtain⟨xs,e⟩:=hi.allInts.items;have hns:ns=xs.toList.map (·.1):=by rw[<- hi.numsOf,<- s3j,<- e]
 have hl:=pl.isList;rw[e] at hl;have hsz:0<xs.size:=by rw[hns,aq,Array.length_toList] at hne;exact hne
 refine min_intList (I.ok.hd hc) hl hsz λ v h' tk hv kk=>?_;obtain⟨t,rfl⟩:=intItems_at hv;obtain⟨h1,h2⟩:=argBest_lt (numAt xs) (xs.size-1);refine⟨.int _,H,I.kept kk,⟨t,fu⟩,q _ ?_ λ z hz=>?_⟩
 ·rw[hns,s4k];exact getD_mem (by rw[aq,Array.length_toList];lia)
 ·rw[hns] at hz;obtain⟨j,hj,rfl⟩:=mem_getD hz;rw[aq,Array.length_toList] at hj;rw[<- s4k];exact h2 j on
def GE(hc:X.calm=true):bo X (.builtin "max") (λ xs H Q=>∃a ns,xs=[.ref a]/\SqL X.K H a (List.map V.int ns)/\0<ns.length/\∀M:Int,M∈ns->(∀z∈ns,z<=M)->Q (.int M) H):=by
 intro pins s σ H xs us Q I r h;obtain⟨a,ns,rfl,hq,hne,q⟩:=h;obtain⟨u,rfl,ru⟩:=bW r;cases (show u=Value.ref a from ru);obtain⟨its,rv,pl,hz⟩:=I.list hq;have hi:=iU rv;obtain⟨xs,e⟩:=hi.allInts.items;have hns:ns=xs.toList.map (·.1):=by rw[<- hi.numsOf,<- s3j,<- e]
 have hl:=pl.isList;rw[e] at hl;have hsz:0<xs.size:=by rw[hns,aq,Array.length_toList] at hne;exact hne
 refine max_intList (I.ok.hd hc) hl hsz λ v h' tk hv kk=>?_;obtain⟨t,rfl⟩:=intItems_at hv;obtain⟨h1,h2⟩:=argBest_gt (numAt xs) (xs.size-1);refine⟨.int _,H,I.kept kk,⟨t,fu⟩,q _ ?_ λ z hz=>?_⟩
 ·rw[hns,s4k];exact getD_mem (by rw[aq,Array.length_toList];lia)
 ·rw[hns] at hz;obtain⟨j,hj,rfl⟩:=mem_getD hz;rw[aq,Array.length_toList] at hj;rw[<- s4k];exact h2 j on
section
variable {pg:Program}{wd:World}{B:Around}{X0:VS}{s0:Shared}
end
section
variable {es:List Expr}{x1:Nat}{pp:Pos}
end
noncomputable def oz:V->List V->Hp->VK->Prop:=λ x vs H Q=>∃l xs i y,x=.ref l/\vs=[.int i,y]/\H l=some (.lst xs)/\0<=i/\i<=xs.length/\xs.length<sizeLine/\Q .non (upd H l (.lst (xs.take i.toNat++y::xs.drop i.toNat)))
def GF:MtR X "list.insert" oz:=by
 intro pins s σ H x vs v us Q I rx rv h;obtain⟨l,xs,i,y,rfl,rfl,hH,i0,i1,hz,q⟩:=h;cases rx;obtain⟨u,w,rfl,⟨t,rfl⟩,rw'⟩:=jL rv;obtain⟨z,its,n,r,hl,e⟩:=I.lstM hH;have s63:sizeLine<=2 ^ 62:=by rw[gD];decide
 have hf:Builtin.List.listFitsIndex i=true:=s2f on on
 refine iq F.slot_list_insert ⟨_,e,fu⟩ F.entry_list_insert (F.args_list_insert_3 _ _ _)
  (AutoSeq1.list_insert_list_int_val_1 l its.toArray n i t w (by simp[hf]) (by rw[aM];lia)) ⟨e,?_⟩
 refine⟨.non,_,I.lset (its':=its.take i.toNat++w::its.drop i.toNat) hH e ?_ ((r.take _).append (.cons rw' (r.drop _))) ?_,fu,q⟩
 ·show(its.toArray.extract 0 (if i<0 then (i+(its.toArray.size:Int)).toNat else min i.toNat its.toArray.size)).push w++its.toArray.extract (if i<0 then (i+(its.toArray.size:Int)).toNat else min i.toNat its.toArray.size)=_;rw[if_neg on,aM,gG on];apply Array.ext';simp[List.extract_eq_take_drop,lQ]
 ·rw[aR,List.length_cons,aY,db];lia
section
variable {pg:Program}{wd:World}{B:Around}{X0:VS}{s0:Shared}
end
section
variable {es:List Expr}{x1:Nat}{pp:Pos}
end
section
variable {prog:Program}{w:World}{A:Around}{R:Result->Shared->Prop}{I:Addr}{fp wr:List Addr}{n:Nat}{P:Nat->Value->Prop}{St:Nat->Heap->Prop}
noncomputable def wt(h0:Heap)(S:Addr)(wr:List Addr)(kf:Nat->Int)(P:Nat->Value->Prop):Prop:=∀i v,P i v->∃a its,v=.ref a/\¬a∈wr/\a≠S/\h0.IsTuple a its/\(its.size:Int)<2 ^ 63/\kf i=its.size
noncomputable def rB(kf:Nat->Int)(m i:Nat):Prop:=∀j,j<m->kf j<=kf i/\(j<i->kf j<kf i)
theorem GG(W:Walks prog w A.in1 I fp wr n P St)(kf:Nat->Int)(S:Addr)(hSf:¬S∈fp)(h0:Heap)(hk:wt h0 S wr kf P):∀(k j i:Nat) (s:Shared) (vb:Value) (tb:Tok) (c:Nat),n-(j+1)=k->j+1<=n->St (j+1) s.heap->P i vb->i<=j->rB kf (j+1) i->(∀b o,¬b∈wr->b≠S->h0.get? b=some o->s.heap.get? b=some o)->s.heap.get? S=some ⟨.type "list",none,.seq #[vb,.int (kf i) tb] c,#[]⟩ ->
  (∀i v h' tk,P i v->i<n->rB kf n i->(∀b o,¬b∈wr->b≠S->h0.get? b=some o->h'.get? b=some o)->R (.ok (.ret v)) { s with heap:=h',toks:=tk })->codeAny (model prog w) A (.builtin "max.loop" ⟨[.ref I,.builtin "len",.ref S],[]⟩) R s:=by
 have hSw:¬S∈wr:=λ h=>hSf (W.sub _ h);have nm:(toString "max" ++ toString ".loop" : String)="max.loop" := by decide
 intro k;induction k with
 |zero=>
  intro j i s vb tb c hk' hj hst hPb hij hb kp0 hS hR;have e0:j+1=n:=on;refine cD rC ?_;rw[cM ja _];show wpAny (model prog w) A.in1 (seqItems? (.ref S) >>= _) _ _ s;refine ae (m:=seqItems? (.ref S)) (eF hS rfl ?_);show wpAny (model prog w) A.in1 (tryCatch (pyNext (.ref I)) _ >>= _) _ _ s;refine ae (m:=tryCatch (pyNext (.ref I)) _) (jb (W.done s _ _ (e0 ▸ hst) λ h' tk kp=>?_));have hS1:=kp S _ hSw hS;show wpAny (model prog w) A.in1 (updateSeq S (λ _=>#[]) >>= _) _ _ _;refine ae (m:=updateSeq S (λ _=>#[])) (iz hS1 rfl (ae (s0h (ah ?_))));exact hR i vb _ tk hPb on (e0 ▸ hb) λ b o hbw hbS e=>(df _ _ (bh hbS)).trans (kp b o hbw (kp0 b o hbw hbS e))
 |succ k ih=>
  intro j i s vb tb c hk' hj hst hPb hij hb kp0 hS hR;have lt0:j+1<n:=on;refine cD rC ?_;rw[cM ja _];show wpAny (model prog w) A.in1 (seqItems? (.ref S) >>= _) _ _ s;refine ae (m:=seqItems? (.ref S)) (eF hS rfl ?_);show wpAny (model prog w) A.in1 (tryCatch (pyNext (.ref I)) _ >>= _) _ _ s;refine ae (m:=tryCatch (pyNext (.ref I)) _) (jb (W.item (j+1) s _ _ lt0 hst λ v h' tk hP hst1 kp=>?_));have hS1:=kp S _ hSw hS;have kp1:∀b o,¬b∈wr->b≠S->h0.get? b=some o->h'.get? b=some o:=λ b o hbw hbS e=>kp b o hbw (kp0 b o hbw hbS e);obtain⟨a,its,rfl,aw,aS,at0,a63,ek⟩:=hk _ _ hP;show wpAny (model prog w) A.in1 (tryCatch (holding [.ref a] (call (.builtin "len") [.ref a])) _ >>= _) _ _ _;refine ae (jb (bv (s3e (wb at0 λ o e=>kp1 a o aw aS e) a63 ?_)));rw[<- ek];show wpAny (model prog w) A.in1 (tryCatch (holding [.ref a,.int (kf (j+1)) _] (richCompare .Gt (.int (kf (j+1)) _) (.int (kf i) tb) >>= _)) _ >>= _) _ _ _;refine ae (jb (bv (ae (CmpOf.ints_gt (prog:=prog) (w:=w) (A:=A.in1) (P:=λ i v=>∃t,v=.int (kf i) t) kf (λ i v h=>h) (j+1) i _ _ _ _ _ ⟨_,fu⟩ ⟨tb,fu⟩ ?_))));refine ae (bv (iT ?_));refine ae (s0h (ah ?_));by_cases hb':kf (j+1) > kf i
  ·simp only[hb',decide_true,ef];refine ae (m:=updateSeq S _) (iz hS1 rfl (ae (s0h ?_)));rw[nm];refine ah (a:=_) ⟨cE ja _,ih (j+1) (j+1) _ (.ref a) _ _ on lt0 (W.frame _ _ _ hst1 λ b hbf o e=>(df _ _ (λ h:S=b=>hSf (by rw[h];exact hbf))).trans e) hP (aj _) (λ j' hj'=>?_) (λ b o hbw hbS e=>(df _ _ (bh hbS)).trans (kp1 b o hbw hbS e)) (eE _ hS1 rfl) λ i2 v2 h2 tk2 q1 q2 q3 q4=>hR i2 v2 h2 tk2 q1 q2 q3 q4⟩;by_cases e:j'=j+1
   ·subst e;exact⟨iB _,λ z=>absurd z (cG _)⟩
   ·have:=(hb j' on).1;exact⟨on,λ _=>by lia⟩
  ·simp only[hb',decide_false,jZ,s0e];refine ae (m:=letGo _) (s0h ?_);rw[nm];refine ah (a:=_) ⟨cE ja _,ih (j+1) i _ vb tb c on lt0 hst1 hPb on (λ j' hj'=>?_) kp1 hS1 λ i2 v2 h2 tk2 q1 q2 q3 q4=>hR i2 v2 h2 tk2 q1 q2 q3 q4⟩;by_cases e:j'=j+1
   ·subst e;exact⟨on,λ z=>by lia⟩
   ·exact hb j' on
theorem GH(W:Walks prog w A.in1 I fp wr n P St)(kf:Nat->Int)(S:Addr)(hSf:¬S∈fp)(h0:Heap)(hk:wt h0 S wr kf P)(hn:0<n){s:Shared}(hst:St 0 s.heap)(kp0:∀b o,¬b∈wr->b≠S->h0.get? b=some o->s.heap.get? b=some o)(hS:s.heap.get? S=some ⟨.type "list",none,.seq #[] c,#[]⟩)
  (hR:∀i v h' tk,P i v->i<n->rB kf n i->(∀b o,¬b∈wr->b≠S->h0.get? b=some o->h'.get? b=some o)->R (.ok (.ret v)) { s with heap:=h',toks:=tk }):codeAny (model prog w) A (.builtin "max.loop" ⟨[.ref I,.builtin "len",.ref S],[]⟩) R s:=by
 have hSw:¬S∈wr:=λ h=>hSf (W.sub _ h);have nm:(toString "max" ++ toString ".loop" : String)="max.loop" := by decide
 refine cD rC ?_;rw[cM ja _];show wpAny (model prog w) A.in1 (seqItems? (.ref S) >>= _) _ _ s;refine ae (m:=seqItems? (.ref S)) (eF hS rfl ?_);show wpAny (model prog w) A.in1 (tryCatch (pyNext (.ref I)) _ >>= _) _ _ s;refine ae (m:=tryCatch (pyNext (.ref I)) _) (jb (W.item 0 s _ _ hn hst λ v h' tk hP hst1 kp=>?_));have hS1:=kp S _ hSw hS;have kp1:∀b o,¬b∈wr->b≠S->h0.get? b=some o->h'.get? b=some o:=λ b o hbw hbS e=>kp b o hbw (kp0 b o hbw hbS e);obtain⟨a,its,rfl,aw,aS,at0,a63,ek⟩:=hk _ _ hP;show wpAny (model prog w) A.in1 (tryCatch (holding [.ref a] (call (.builtin "len") [.ref a])) _ >>= _) _ _ _;refine ae (jb (bv (s3e (wb at0 λ o e=>kp1 a o aw aS e) a63 ?_)));rw[<- ek];show wpAny (model prog w) A.in1 (updateSeq S (λ _=>#[.ref a,.int (kf 0) _]) >>= _) _ _ _;refine ae (m:=updateSeq S _) (iz hS1 rfl ?_);rw[nm];refine ah (a:=_) ⟨cE ja _,GG W kf S hSf h0 hk _ 0 0 _ (.ref a) _ _ rfl hn (W.frame _ _ _ hst1 λ b hbf o e=>(df _ _ (λ h:S=b=>hSf (by rw[h];exact hbf))).trans e) hP (aj _) (λ j' hj'=>?_) (λ b o hbw hbS e=>(df _ _ (bh hbS)).trans (kp1 b o hbw hbS e)) (eE _ hS1 rfl) λ i2 v2 h2 tk2 q1 q2 q3 q4=>hR i2 v2 h2 tk2 q1 q2 q3 q4⟩;have z:j'=0:=on;subst z;exact⟨iB _,λ z=>absurd z (cG _)⟩
end
section
variable {st:Stmt}{rest:List Stmt}{t u:TS}{e:Expr}{es:List Expr}{te:TE}{ta:TA}{pos:Pos}
end
section
variable {prog:Program}{w:World}{A:Around}
def GI(a b v:Value):argsOk "max" ⟨[a,b],[(Str.ofString "key",v)]⟩:=by unfold argsOk;kernel_rfl
theorem GJ{s:Shared}{i1 i2:Array Value}{Q:VS}(hh:A.handled=none)(h1:s.heap.IsTuple a1 i1)(h2:s.heap.IsTuple a2 i2)(z1:(i1.size:Int)<2 ^ 63)(z2:(i2.size:Int)<2 ^ 63)
  (hQ:∀v h' tk,(v=.ref a1/\i2.size<=i1.size\/v=.ref a2/\i1.size<i2.size)->(∀b o,s.heap.get? b=some o->h'.get? b=some o)->Q v { s with heap:=h',toks:=tk }):wpAny (model prog w) A (call (.builtin "max") [.ref a1,.ref a2] [(Str.ofString "key",.builtin "len")]) Q E s:=by
 have nm:(toString "max" ++ toString ".loop" : String)="max.loop" := by decide
 have hT:(s.heap.push { cls:=.type "tuple",data:=.seq #[.ref a1,.ref a2] }).IsTuple s.heap.objs.size #[.ref a1,.ref a2]:=⟨_,aL _ rfl,rfl,0,rfl⟩;have hsz:(s.heap.push { cls:=.type "tuple",data:=.seq #[.ref a1,.ref a2] }).objs.size=s.heap.objs.size+1:=dh ..;refine kmb_tree PySem.F.kind_max PySem.F.plain_max PySem.F.entry_max (GI _ _ _) ?_;show wpAny _ A.in1 (Builtin.Builtins.bindParams "max" ["key","default"] 0 ⟨[],[(Str.ofString "key",.builtin "len")]⟩ >>= _) _ _ s;refine ae (cW (show Builtin.Builtins.bindParams "max" ["key","default"] 0 ⟨[],[(Str.ofString "key",.builtin "len")]⟩=pure [some (.builtin "len"),none] from rfl) ?_);show wpAny _ A.in1 (newTuple [.ref a1,.ref a2] >>= _) _ _ s;refine ae (cn ?_);refine ae (m:=pyIter _) (rq hT ?_);refine ae (m:=newList _) (cn ?_);rw[nm];have W:=Walks.tuple (prog:=prog) (w:=w) (A:=A.in1) hh (s.heap.push { cls:=.type "tuple",data:=.seq #[.ref a1,.ref a2] }).objs.size s.heap.objs.size (by rw[hsz];exact aJ (eU _)) #[.ref a1,.ref a2];have hI:((s.heap.push { cls:=.type "tuple",data:=.seq #[.ref a1,.ref a2] }).push { cls:=.type "tuple_iterator",data:=.fields #[.ref s.heap.objs.size,.int 0 0] }).objs.size=s.heap.objs.size+2:=by rw[dh,hsz]
 have e1:a1<s.heap.objs.size:=by obtain⟨o,g,_⟩:=h1;exact az g
 have e2:a2<s.heap.objs.size:=by obtain⟨o,g,_⟩:=h2;exact az g
 refine ah (a:=_) ⟨cE ja _,GH W (λ i=>([(i1.size:Int),(i2.size:Int)].getD i 0)) ((s.heap.push { cls:=.type "tuple",data:=.seq #[.ref a1,.ref a2] }).push { cls:=.type "tuple_iterator",data:=.fields #[.ref s.heap.objs.size,.int 0 0] }).objs.size ?_ s.heap (λ i v hv=>?_) (lU _) ?_ (λ b o _ _ e=>ay _ (ay _ (ay _ e))) (aL _ rfl) λ i v h' tk q1 q2 q3 q4=>?_⟩
 ·rw[hI,hsz];intro z
  rcases aN.mp z with z|z
  ·exact absurd z (Nat.succ_ne_self _)
  ·exact absurd (bj.mp z) (fF (cL (eU _)))
 ·have nw:∀a,a<s.heap.objs.size->¬a∈[(s.heap.push { cls:=.type "tuple",data:=.seq #[.ref a1,.ref a2] }).objs.size]:=λ a h z=>by
   have:=bj.mp z;rw[hsz] at this;exact aJ (cL h) this
  match i,hv with
  |0,hv=>cases hv;exact⟨a1,i1,rfl,nw _ e1,by rw[hI];exact aJ (cL (cL e1)),h1,z1,rfl⟩
  |1,hv=>cases hv;exact⟨a2,i2,rfl,nw _ e2,by rw[hI];exact aJ (cL (cL e2)),h2,z2,rfl⟩
  |i+2,hv=>simp at hv
 ·exact W.frame _ _ _ ⟨⟨_,aL _ rfl,fu,fu⟩,hT.push _⟩ λ b _ o e=>ay _ e
 ·have kp:∀b o,s.heap.get? b=some o->h'.get? b=some o:=λ b o e=>by
   have bl:=az e;exact q4 b o (λ z=>by have:=bj.mp z;rw[hsz] at this;exact aJ (cL bl) this) (by rw[hI];exact aJ (cL (cL bl))) e
  match i,q1 with
  |0,q1=>
   cases q1;have b:=(q3 1 (eU _)).1;have b:(i2.size:Int)<=(i1.size:Int):=b;exact hQ _ _ _ (.inl ⟨fu,on⟩) kp
  |1,q1=>
   cases q1;have b:=(q3 0 (lU _)).2 (lU _);have b:(i1.size:Int)<(i2.size:Int):=b;exact hQ _ _ _ (.inr ⟨fu,on⟩) kp
  |i+2,q1=>simp at q1
end
noncomputable def GK(r:V->V->Hp->VK->Prop)(te tf:TE):TE:=λ σ H Q=>te σ H λ x H1=>tf σ H1 λ y H2=>r x y H2 Q
theorem GL{X:Cx}{i:Nat}{elt tg iter cnd:Expr}{cl:LA}{pos pos' lpos:Pos}{own fv:List Str}{js:List Nat}
  (hN:X.N.Nodup) (hx1:X.N[i]?=some x) (hx:Loc X.env.scope x) (hf:X.fn x=true\/X.env.scope.names.lookup x=some .local)
  (hc:X.calm=true) (hi:PI X tg iter wi) (hclos:closureFor scope X.env=pure cl) (hcell:∀y∈scope.names,y.2≠.cell) (hkind:scope.kind=.function)
  (hnames:∀y∈scope.names,y.2=.local->scope.names.lookup y.1=some .local)
  (hcl:∀x c,cl.lookup x=some c->X.env.cells.lookup x=some c)
  (hhas:∀x,((relabel scope X.env).names.lookup x=some .cell\/(relabel scope X.env).names.lookup x=some .free)->∃c,cl.lookup x=some c)
  (hlen:js.length=fv.length) (hcap:∀(i:Nat) x j,fv[i]?=some x->js[i]?=some j->Cap X scope cl x j)
  (hg:∀(C:Addr) (ex:List Addr) (s:Shared) (H:Hp),PG (bp X (own++fv) scope cl C ex s H) tg g)
  (he:∀(C:Addr) (ex:List Addr) (s:Shared) (H:Hp),PE (bp X (own++fv) scope cl C ex s H) elt te)
  (ht:∀(C:Addr) (ex:List Addr) (s:Shared) (H:Hp),PT (bp X (own++fv) scope cl C ex s H) cnd tc)
  (hsw:swapsWith (.ListComp elt [⟨tg,iter,[cnd],0⟩] scope lpos) (some (.Name x pos')) pos.line X.env=pure true:=by rfl)
  (hs:∀x,foldedSetIterable iter X.env x=pure x:=by intro _;rfl) :
  PS X (.Assign [.Name x pos'] (.ListComp elt [⟨tg,iter,[cnd],0⟩] scope lpos) pos) (jH (iW wi own.length js g tc te) (dE i)):=by
 intro pins s σ H D I h;rw[s1j _ _ _ _ hsw];refine ae (gA ?_);rw[wl];have core:=we (use:=some (assign (.Name x pos') X.env)) (QQ:=λ _ s'=>SP X pins D .next s') (fpos:=firstIterPos [⟨tg,iter,[cnd],0⟩] lpos) (pos:=lpos) hc hi hclos hcell hkind hnames hcl hhas hlen hcap hg he ht hs I h (λ a C s5 H5 fl I5 zC zL zS zc zp ⟨m,hn⟩ q=>?_)
 ·refine ae (ae (thn core λ _ s' hq=>?_));exact ah (ah hq)
 ·show wpAny (model X.prog X.w) X.A (assign (.Name x pos') X.env (.ref a)) _ X.xe s5;show wpAny (model X.prog X.w) X.A (do standAt pos';bindName X.env x (.ref a)) _ X.xe s5;refine ae (gA ?_);refine bindName_ ?_;refine qr I5 hN hx1 hx (show RelV (.ref a) (.ref a) from rfl) (λ s6 I6 ⟨b,sb,hb⟩=>?_) hf
  have cb:C≠b:=by
   rcases hb with rfl|hb
   ·exact zL
   ·exact λ z=>zc x b hb z.symm
  obtain⟨o,es,ep,e,r⟩:=hn;refine⟨m,⟨o,es,ep,(sb.2 C cb).trans e,r⟩,λ h' sc=>?_⟩;exact⟨_,H5,I6.turned (t':=s6.toks) (it:=C) (λ d o nd e=>sc.extBut d o nd e) zC zL (.inr zS) zc zp,q⟩
noncomputable def GM(B h:Heap)(e:Addr)(cls:Value)(dx:Addr)(hd:Value):Prop :=
 ∃oe vs,h.get? e=some oe/\(oe.cls=cls/\oe.dict=some dx)/\oe.data=.fields vs/\vs[1]?=some hd
noncomputable def GO(B h:Heap)(e:Addr)(hd fl:Value):Prop:=∃T oT ts,hd=.ref T/\B.get? T=none/\T≠e/\h.get? T=some oT/\oT.data=.fields ts/\ts[3]?=some fl
noncomputable def GP(B:Heap)(l:List Env)(e:Addr)(cls:Value)(dx:Addr)(fl:Value)(h:Heap):Prop :=
 B.StaysIn h/\B.get? e=none/\h.FunFrames B l/\∃hd,GM B h e cls dx hd/\GO B h e hd fl
section
variable {M:Model}{A:Around}{E:VS}{s:Shared}{B:Heap}{env:Env}{outer:List Env}{L e dx:Addr}{cls:Value}
end
end _L
namespace _L
open PySem PySem.Spec PyProof.Rows Builtin Builtin.ObjectAttr
noncomputable def oA(K:FG)(C:Addr)(bmB:LV)(nid:String):Bool:=match K.lookup C with
 |some ⟨.type "type",_,.cls cd,kk⟩=>cd.hasDict&&(match cd.mro,kk.toList with|.ref C2::tl,[_,_,_,_,some (.builtin n2),_]=>C2 == C&&(n2 == nid&&(!cd.hasDel&&W.tailIn K bmB tl))|_,_=>false)
 |_=>false
structure HasX (h:Heap)(C:Addr)(bmB:LV)(nid:String):Prop where
 ex:∃(nm q:Str) (N:Addr) (bs bm:LV) (sn:List Str) (sub:LV) (ab:Bool) (col:Option Bool) (dd:OA) (k0 k1 k2 k3 k5:Option Value),
  h.get? C=some (excClassObj nm q C N bs bm true sn sub ab col dd k0 k1 k2 k3 k5 nid)/\OwnTail h bmB bm
set_option tactic.hygienic true in
def wu{K:FG}(KI:K.In h)(q:oA K C bmB nid=true):HasX h C bmB nid:=by
 unfold oA at q;split at q
 ·rename_i ddx cdx slx hlk;rw[bg] at q;obtain⟨hdict,q⟩:=q;split at q
  ·rename_i C2 bm2 f0 f1 f2 f3 nn f5 hmro hsl0;simp only[bg,eV,qO] at q;obtain⟨eC,eN,hdl,htl⟩:=q;subst eC eN;obtain⟨c1,c2,c3,c4,c5,c6,c7,c8,c9,c10,c11⟩:=cdx;dsimp only at hmro hdl hdict;subst hmro hdl hdict
   have hsl1:slx=#[f0,f1,f2,f3,some (.builtin nn),f5]:=by
    obtain⟨lst⟩:=slx;simp only at hsl0;rw[hsl0]
   subst hsl1;exact⟨⟨_,_,_,_,_,_,_,_,_,_,_,_,_,_,_,KI _ _ hlk,W.tail_of_in KI htl⟩⟩
  ·cases q
 ·cases q
noncomputable abbrev fR(C t:Addr)(d:OA):Obj:={ cls:=.ref C,dict:=d,data:=.fields #[.ref t,.none,.none,.none,.bool false,.none] }
noncomputable def iC(a C:Addr)(d:OA):HO:=.ext λ h=>∃t,h.get? a=some (fR C t d)
def GQ{h:Heap}{a C t:Addr}(e:h.get? a=some (fR C t d)):ObjOk P w H h a (iC a C d):=⟨⟨t,e⟩,⟨_,e⟩,λ _ _ ⟨t2,q⟩ k=>⟨t2,k _ q⟩⟩
noncomputable def oB(d:Addr)(fs:List (Str×V)):HO:=.ext λ h=>fs.length<=1000/\∃mA,h.Ns1 d mA/\(∀f,RelO (fs.lookup f) (mA f))/\PySem.Within mA (fs.map (·.1))
section
variable {prog:Program}{w:World}{A:Around}{E:VS}{h:Heap}{g:Array GenState}{dr:Drawn}{tk:Nat}{os:OsState}{C:Addr}{bmB:LV}{B nid initId:String}
theorem GR{K:FG}{us:LV}{Q:VS}(F:ExcBaseFacts B nid initId bmB)(KI:K.In h)(X:HasX h C bmB nid)(hi:W.findIn K (.ref C) "__init__"=some (some (.ref fI)))(hf:W.typeIn K (.ref fI)=some (.type "function"))
  (hq:wpAny (model prog w) (A.under (.builtin "type.__call__" ⟨.ref C::us,[]⟩)) (call (.ref fI) (.ref (h.objs.size+1)::us)) (λ r s2=>r=.none/\Q (.ref (h.objs.size+1)) s2) E ⟨(h.push { cls:=.type "tuple",data:=.seq us.toArray }).push (fR C h.objs.size none),g,dr,tk,os⟩)
  (hz:us.length<=sizeLine):wpAny (model prog w) A (call (.ref C) us) Q E ⟨h,g,dr,tk,os⟩:=by
 obtain⟨nm,q,N,bs,bm,sn,sub,ab,col,dd,k0,k1,k2,k3,k5,hC,T⟩:=X.ex;have tcl:=tc_lookup;have tcb:=tc_bind (.ref C);have isT:(⟨h,g,dr,tk,os⟩:Shared).TypeIs (.ref C) "type" := ⟨_,hC,rfl⟩;refine s1w (lP ?_);show wpAny _ _ (callAny (.ref C) _) _ _ _
 repeat (any_goals (first|assumption|wp_step|with_reducible refine lV hC ?_))
 refine fT rfl (codeAny_call_builtin_at (rD _ (by decide +kernel)) entry_typeCall (wpAny_check_type_call_sub hC ?_))
 repeat (first|wp_step|with_reducible refine wpAny_madeBy_exc hC ?_|with_reducible refine lV hC ?_)
 refine codeAny_call_builtin_code (rD _ F.quiet) (wpAny_check_new_subT F T hC (codeAny_exc_new_subT F T hC ?_ hz));show wpAny _ _ _ _ _ (⟨(h.push { cls:=.type "tuple",data:=.seq us.toArray }).push (fR C h.objs.size none),g,dr,tk,os⟩:Shared);generalize hh2:(h.push { cls:=.type "tuple",data:=.seq us.toArray }).push (fR C h.objs.size none)=h2 at hq ⊢;have kk:∀b o,h.get? b=some o->h2.get? b=some o:=λ b o e=>by rw[<- hh2];exact ay _ (ay _ e)
 have hg2:h2.get? (h.objs.size+1)=some (fR C h.objs.size none):=by rw[<- hh2];heap_get
 have hC2:=kk _ _ hC;have cc:(Value.ref C::bm).contains (.ref C)=true:=BT;unfold isInstance
 repeat (first|wp_step|with_reducible refine lV hg2 ?_|(with_reducible refine s2t hC2 ?_;rw[cc]))
 refine(W.looks_findIn (KI.keeps kk) hi).at ?_;refine bv (ae ((W.bind_fn (KI.keeps kk) _ hf).at (ae (bV hq (λ r s2 hr=>?_) λ _ _ z=>z))));obtain⟨rfl,z⟩:=hr;wp_walk;exact z
end
section
variable {prog:Program}{w:World}{A:Around}{E:VS}{h:Heap}{g:Array GenState}{dr:Drawn}{tk:Nat}{os:OsState}{C x:Addr}{bmB:LV}{B nid initId:String}{K:FG}
noncomputable def wv:LV->Bool
 |.ref _::r=>wv r
 |l=>l == [.type "ValueError",.type "Exception",.type "BaseException",.type "object"]
structure AtX (K:FG)(C:Addr):Prop where
 over:(W.clsIn K C).any (λ cd=>cd.hasDict&&wv cd.mro)=true
 sa:W.findIn K (.ref C) "__setattr__"=some (some (.builtin "object.__setattr__"))
 ga:W.findIn K (.ref C) "__getattribute__"=some (some (.builtin "BaseException.__getattribute__"))
end
def rm(H:Hp)(a:Addr):Hp:=λ b=>if b=a then none else H b
def rF{a b:Addr}(h:b≠a):rm H a b=H b:=by unfold rm;rw[if_neg h]
def GS:rm H a a=none:=by unfold rm;rw[if_pos rfl]
noncomputable def CX2(P:Program)(w:World):CXT:=λ outer H s E e s'=>
 ∃(a C dx:Addr) (H':Hp) (B:Heap),e=.ref a/\s'.os=s.os/\AllBare s'.gens/\GP B outer a (.ref C) dx .none s'.heap /\
  (∀b o,s.heap.get? b=some o->H b=none->b ∉ frs outer->B.get? b=some o)/\(∀b o,s.heap.get? b=some o->b ∉ frs outer->∃o',B.get? b=some o') /\
  Un (frs outer) [] H H' s.heap s'.heap/\HOk P w H' B/\E (.ref C) (some dx) H'
section
variable {P:Program}{w:World}{K:FG}{mg:SV}{base:Heap}{N:List Str}{qual:Str}{scope:Scope}{f:Addr}{cd:Value}{A:Around}{outer:List Env}{s:Shared}{H:Hp}{E:XK}
noncomputable def ww(X:Cx)(Ex:XK):Prop:=∀(pins:LO) (σ:St) (H:Hp) (s:Shared) (a C dx:Addr),Inv X pins σ H s->H a=some (iC a C (some dx))->X.s₀.heap.objs.size<=a->Ex (.ref C) (some dx) (rm H a)->X.xe (.ref a) s
end
section
variable {M:Model}{A:Around}{E:VS}{env:Env}{C:Addr}{bmB:LV}{nid:String}
theorem GU(hb:bmB.contains (.type "BaseException")=true)(hh:A.handled=none)
  (q:wpAny M A v (λ u s1=>∃e t d,u=.ref e/\HasX s1.heap C bmB nid/\s1.heap.get? e=some (fR C t d)/\E (.ref e) s1) E s):wpAny M A (raiseStmt env (some v) none) Q E s:=by
 unfold raiseStmt;refine ae (bV q (λ u s1 z=>?_) λ _ _ z=>z);obtain⟨e,t,d,rfl,X,he,hE⟩:=z;obtain⟨nm,qn,N,bs,bm,sn,sub,ab,col,dd,k0,k1,k2,k3,k5,hC,T⟩:=X.ex;obtain⟨hp,g,dr,tk,os⟩:=s1;have isB:(Value.ref C::bm).contains (.type "BaseException")=true:=by rw[List.contains_cons,T.hasType hb,Bool.or_true]
 repeat (first|with_reducible refine lV he ?_|(with_reducible refine s2t hC ?_;rw[isB])|with_reducible refine lV hC ?_|wp_step)
 exact wpAny_raiseNew_none hh hE
end
structure MkX (K:FG)(C f:Addr)(bmB:LV)(nid:String):Prop where
 cls:oA K C bmB nid=true
 init:W.findIn K (.ref C) "__init__"=some (some (.ref f))
 fn:W.isFn K (.ref f)=true
 kp:W.keepIn K (.ref C)=true
noncomputable def GV(C:Addr)(sp:Sp)(Ex:XK)(t:TA):TS:=λ _ σ H=>t σ H λ vs H1=>vs.length<=sizeLine/\∀a,H1 a=none ->
 sp (.ref a::vs) (upd H1 a (iC a C none)) (λ v H2=>v=.non/\∃dx,H2 a=some (iC a C (some dx))/\Ex (.ref C) (some dx) (rm H2 a)) E0
theorem GW{X:Cx}{e₀:Expr}{es:List Expr}
  (FB:ExcBaseFacts B nid initId bm) (hc:X.calm=true) (hg:Gl X x) (hm:X.mg x=some (.ref C)) (M:MkX X.K C f bm nid) (F:FnOk X.prog X.w X.K X.mg X.base CX0 k f fd ps sp) (hr:Room (k+1) X.A) (hbi:Binds X.K fd ps []) (hx:ww X Ex) (ha:PA X (e₀::es) t)
  (hdb:(x == ("__debug__" : Str))=false:=by decide) (he:starEach (e₀::es) X.env=(false,eval e₀ X.env)::starEach es X.env:=by rfl) (hpl:(backTo cpos (starEach es X.env)).any (·.1)=false:=by rfl) :
  PS X (.Raise (some (.Call (.Name x np) (e₀::es) [] cpos)) none pos) (GV C sp Ex t):=by
 intro pins s σ H D I h;rw[arm_exec_Raise];show wpAny (model X.prog X.w) X.A (do standAt pos;raiseStmt X.env (some (do let v <- eval (.Call (.Name x np) (e₀::es) [] cpos) X.env;standAt pos;pure v)) none) _ _ s;refine ae (gA (GU (C:=C) (bmB:=bm) (nid:=nid) FB.hasBase (I.ok.hd hc) (ae ?_)));refine jM (iS I hg hm ?_ hdb);refine s3w (h₀:=X.base) I.ok.mod.kin M.kp (thn (ha cpos pins s σ H _ I h) λ us s1 ⟨vs,H1,I1,r,hz,q⟩=>⟨I1.kIn,?_⟩) he hpl;have hzu:us.length<=sizeLine:=by rw[<- r.length];exact hz
 obtain⟨hp,g,dr,tk,os⟩:=s1;have hX:=wu I1.kIn M.cls;have hq:=q (hp.objs.size+1) (I1.hok.fresh (jQ _));show wpAny _ _ (call (.ref C) us) _ _ _;refine GR FB I1.kIn hX M.init (eV.mp M.fn) ?_ hzu;have gx:((hp.push { cls:=.type "tuple",data:=.seq us.toArray }).push (fR C hp.objs.size none)).get? (hp.objs.size+1)=some (fR C hp.objs.size none):=by heap_get
 generalize hh2:(hp.push { cls:=.type "tuple",data:=.seq us.toArray }).push (fR C hp.objs.size none)=h2 at gx ⊢;have kk:∀b o,hp.get? b=some o->h2.get? b=some o:=λ b o e=>by rw[<- hh2];exact ay _ (ay _ e)
 have I2:Inv X pins σ (upd H1 (hp.objs.size+1) (iC (hp.objs.size+1) C none)) ⟨h2,g,dr,tk,os⟩:=I1.laid (t':=tk) kk (jQ _) (GQ gx);have r2:Vals (V.ref (hp.objs.size+1)::vs) (Value.ref (hp.objs.size+1)::us):=.cons rfl r
 have hl:(Value.ref (hp.objs.size+1)::us++[]).length=ps.length:=by
  have e:=r2.length;rw[F.len _ _ _ _ hq] at e;simpa using e.symm
 have hl2:=hbi ⟨h2,g,dr,tk,os⟩ (Value.ref (hp.objs.size+1)::us) I2.kIn hl;rw[eT] at hl2;refine s1w (gE (F.run _ X.stack _ _ ⟨Value.ref (hp.objs.size+1)::us,[]⟩ (Value.ref (hp.objs.size+1)::us) _ _ E0 (hr.make C us []) (I2.env0.make C us []) hl2 r2 hq) λ r s' hq'=>?_)
 cases r with
 |error e=>exact False.elim hq'
 |ok fl=>
  cases fl with
  |ret u=>
   obtain⟨v,H',I3,rv,ev,dx,ha3,q3⟩:=I2.after hq';subst ev;refine⟨rv,ae (gA (ah ?_))⟩;obtain⟨⟨t3,hr3⟩,_⟩:=(show ObjOk X.prog X.w H' s'.heap (hp.objs.size+1) (iC (hp.objs.size+1) C (some dx)) from I3.hok _ _ ha3);exact⟨_,t3,some dx,fu,wu I3.kIn M.cls,hr3,hx pins σ H' s' _ C dx I3 ha3 (bH I1.sz (jQ _)) q3⟩
  |next=>exact False.elim hq'
  |brk=>exact False.elim hq'
  |cont=>exact False.elim hq'
end _L
namespace _L
open PySem PySem.Spec PyProof.Rows PySem.W
variable {X:Cx}
section
variable {o e value:Expr}{f:Str}{pos pos' tpos:Pos}{ta tv:TE}
end
section
variable {CX:CXT}{k:Nat}{f C:Addr}{fd:FuncData}{ps:List Str}{sp:Sp}{dvs:List V}{ds:LV}{E:XK}{EE:St->XK}{x m:Str}{p pos apos:Pos}{e o:Expr}{es:List Expr}{ta:TE}{t:TA}
end
section
open PySem.Builtin PySem.Builtin.Str
end
section
variable {a b e:Expr}{es:List Expr}{ta tb te:TE}{t:TA}{u v:TS}{st:Stmt}{rest bl:List Stmt}{pos p pos':Pos}{x:Str}
end
noncomputable def ca:List Prop->Nat->Prop
 |[],_=>True
 |a::_,0=>a
 |_::l,j+1=>ca l j
section
variable {k j:Nat}{ps:List Str}{sp:Sp}{E:XK}{x:Str}{p pos:Pos}{e:Expr}{es:List Expr}{t:TA}
end
end _L
namespace _L
open PySem PyProof.Rows
section
variable {a p q:Addr}{b:Bool}{i j:Int}{x y:Str}{v:V}{vs:List V}{r:_L.St}{H:Hp}{Q:VK}{K:FG}{o:Option V}{n:Nat}{α β:Type}
end
variable {X:Cx}
section
variable {st:Stmt}{rest:List Stmt}{t u:TS}{e a b:Expr}{es:List Expr}{te tb:TE}{ta:TA}{pos:Pos}
end
section
variable {CX:CXT}{k:Nat}{f:Addr}{fd:FuncData}{ps:List Str}{sp:Sp}{E:XK}{x:Str}{p pos:Pos}{e:Expr}{es:List Expr}{te:TE}{t:TA}{st:Stmt}{rest:List Stmt}{ts u:TS}
end
section
open PySem.W
end
end _L
namespace _L
open PySem PySem.Spec PyProof.Rows PySem.W PySem.Calls
variable {X:Cx}
section
variable {pg:Program}{wd:World}{B:Around}{X0:VS}{s0:Shared}{r:Addr}{j:Int}{t u v:Tok}{n:Nat}
end
end _L
namespace _H
open PySem PyProof.Rows
section
open PySem.SeqAt
open PySem.AutoSeq1 (wpAny_loadPart')
open PySem.MeetsSeq PySem.MeetsSeq2 PySem.MeetsSeq3
end
section
variable {prog:Program}{w:World}{A:Around}{E:VS}{s:Shared}
end
end _H
namespace _L
open PySem PySem.Spec PyProof.Rows
variable {X:Cx}
end _L
namespace _L
open PySem PySem.Spec PyProof.Rows
noncomputable def Wk(h:Heap)(c:Bool)(j t:Addr)(k:Nat):Prop:=cond c (h.IsTupleIter j t k) (h.IsListIter j t k)
noncomputable def Wq(h:Heap)(c:Bool)(t:Addr)(its:Array Value):Prop:=cond c (h.IsTuple t its) (h.IsList t its)
def Wk.out(p:Wk h c j t k):∃o,h.get? j=some o/\(∀v,o.data≠.cell v)/\∀h':Heap,h'.get? j=some o->Wk h' c j t k:=by
 cases c<;>obtain⟨o,g,r,d⟩:=p<;>exact⟨o,g,λ v z=>(by rw[d] at z;cases z),λ h' e=>⟨o,e,r,d⟩⟩
def Wq.out(p:Wq h c t its):∃o,h.get? t=some o/\∀h':Heap,h'.get? t=some o->Wq h' c t its:=by
 cases c<;>obtain⟨o,g,r⟩:=p<;>exact⟨o,g,λ h' e=>⟨o,e,r⟩⟩
def Wk.to{h h':Heap}(p:Wk h c j t k)(f:∀o,h.get? j=some o->h'.get? j=some o):Wk h' c j t k:=let ⟨o,g,_,q⟩:=p.out;q h' (f o g)
def Wq.to{h h':Heap}(p:Wq h c t its)(f:∀o,h.get? t=some o->h'.get? t=some o):Wq h' c t its:=let ⟨o,g,q⟩:=p.out;q h' (f o g)
noncomputable abbrev TuO(us:LV):Obj:={ cls:=.type "tuple",data:=.seq us.toArray }
structure Zs (S:List (Bool×Addr))(N:Nat)(f0:Value)(us:LV)(kk:Nat->Nat)(h:Heap):Prop where
 z:IsZip h (N+S.length+2) (N+S.length) (N+S.length+1) f0
 ti:h.get? (N+S.length)=some (TuO ((List.range' N S.length).map Value.ref))
 ox:h.get? (N+S.length+1)=some (TuO us)
 ul:us.length=S.length
 it:∀(i:Nat) (s:Bool×Addr),S[i]?=some s->Wk h s.1 (N+i) s.2 (kk i)
def nl{a b:Nat}(h:a<b\/b<a):a≠b:=on
def GX{a c:Nat}(h1:a<=c)(h2:c<a+3):c=a\/c=a+1\/c=a+2:=on
def eX{α:Type}{S:List α}{i:Nat}{s:α}(h:S[i]?=some s):i<S.length:=by
 obtain⟨q,_⟩:=br.mp h;exact q
section
variable {pg:Program}{wd:World}{B:Around}{X0:VS}{s0:Shared}
theorem GY{R:VS}(p:Wk s0.heap c j t k)(q:Wq s0.heap c t its)(e:its[k]?=some x)
  (f:∀h',Wk h' c j t (k+1)->Heap.SameBut j s0.heap h'->R x { s0 with heap:=h' }):wpAny (model pg wd) B (Builtin.SmallTypes.nextOf (.ref j)) R X0 s0:=by
 cases c
 ·exact wpAny_nextOf_list_item p q e f
 ·exact Fl p q e f
theorem GZ(hh:B.handled=none)(p:Wk s0.heap c j t k)(q:Wq s0.heap c t its)(e:its[k]?=none)
  (f:∀h' z,Heap.ExtBut j s0.heap h'->(∃o,h'.get? z=some o/\o.cls=.type "StopIteration")->X0 (.ref z) { s0 with heap:=h' }):wpAny (model pg wd) B (Builtin.SmallTypes.nextOf (.ref j)) R X0 s0:=by
 cases c
 ·exact wpAny_nextOf_list_end hh p q e f
 ·exact Fm hh p q e f
theorem Ha{T:Addr}{Q:Unit->Shared->Prop}(hT:s0.heap.get? T=some (TuO us))(hz:us.length<=1000)
  (h:∀h':Heap,h'.get? T=some (TuO (us.set k x))->Heap.SameBut T s0.heap h'->Q () { s0 with heap:=h' }):wpAny (model pg wd) B (updateSeq T (·.setIfInBounds k x)) Q X0 s0:=by
 refine iz hT rfl (h _ ?_ (iw ..)) (small (by simpa using hz)) (Nat.le_succ_of_le (small (by simpa using hz)));rw[eE _ hT rfl];simp[Obj.mapSeq]
theorem wx{S:List (Bool×Addr)}{N k e:Nat}{xs:Nat->Value}{R:Option Value->Shared->Prop}(hh:B.handled=none)(hn:S≠[])(hz9:S.length<=1000)(Z:Zs S N .none us (λ _=>k) s0.heap)(lo:∀(i:Nat) (s:Bool×Addr),S[i]?=some s->s.2<N)
  (src:∀(i:Nat) (s:Bool×Addr),S[i]?=some s->∃its,Wq s0.heap s.1 s.2 its/\(i<e->its[k]?=some (xs i))/\(i=e->its[k]?=none))
  (fi:S.length<=e->∀h' us',(∀i,i<S.length->us'[i]?=some (xs i))->Zs S N (rawInt s0.heap.objs.size) us' (λ _=>k+1) h'->h'.get? s0.heap.objs.size=some (TuO us')->(∀c o,c<N\/N+S.length+2<c->s0.heap.get? c=some o->h'.get? c=some o)->R (some (.ref s0.heap.objs.size)) { s0 with heap:=h' })
  (fe:e<S.length->∀h',(∀c o,c<N\/N+S.length+2<c->s0.heap.get? c=some o->h'.get? c=some o)->R none { s0 with heap:=h' }) :
  wpAny (model pg wd) B (pyNext (.ref (N+S.length+2))) R X0 s0:=by
 have n0:0<S.length:=ka.mpr hn;obtain⟨hz,hi,ho,ul,hit⟩:=Z;have ty:s0.TypeIs (.ref (N+S.length+2)) "zip" := ⟨_,hz,rfl⟩;unfold pyNext;refine ae (jV (im (name:=Str.ofString "__next__") ty F.slot_zip_next (dc F.slot_zip_next ty F.entry_zip_next ?_ (F.args_zip_next_1 _))));show wpAny _ _ (field (.ref (N+S.length+2)) 2 >>= _) _ _ _;refine ae (cH hz rfl (x:=.bool false) rfl ?_);show wpAny _ _ (field (.ref (N+S.length+2)) 3 >>= _) _ _ _;refine ae (cH hz rfl (x:=.ref (N+S.length)) rfl ?_);refine ae (eF hi rfl ?_);have ne:((List.range' N S.length).map Value.ref).toArray.isEmpty=false:=by simp;lia
 simp only[ne];show wpAny _ _ (Builtin.SmallTypes.ownedTupleIsFree (.ref (N+S.length+2)) >>= _) _ _ _;refine ae ?_;unfold Builtin.SmallTypes.ownedTupleIsFree;refine ae (cH hz rfl (x:=.none) rfl (ah ?_));simp only[ef];refine ae (fO ?_);refine ae (cH hz rfl (x:=.ref (N+S.length+1)) rfl ?_);refine ae (fU hz BT λ m1 zm1 sb1=>?_);refine ae ?_
 refine lW _ (λ rest b s'=>b.1=none/\∃d m us',s'={ s0 with heap:=m }/\rest=((List.range' N S.length).map Value.ref).zipIdx.drop d/\d≤S.length/\d≤e/\m.objs.size=s0.heap.objs.size/\(∀i,i < d->us'[i]?=some (xs i)) /\
  Zs S N .ellipsis us' (λ i=>if i<d then k+1 else k) m/\∀c o,c<N\/N+S.length+2<c->s0.heap.get? c=some o->m.get? c=some o) _ ?_ ?_ _ _ ⟨rfl,0,m1,us,rfl,rfl,aX _,aX _,sb1.1,λ i q=>absurd q (lX _),⟨zm1,sb1.extBut _ _ (nl on) hi,sb1.extBut _ _ (nl on) ho,ul,λ i s q=>(hit i s q).to λ o g=>sb1.extBut _ _ (nl (by have:=eX q;lia)) g⟩,λ c o q g=>sb1.extBut _ _ (nl on) g⟩
 ·rintro⟨x,d'⟩ rest ⟨b1,b2⟩ s' ⟨hb,d,m,us',rfl,hr,h1,h2,h3,h4,Z,out⟩;simp only at hb;subst hb
  have hd:d<S.length:=by
   have:=bu List.length hr;simp at this;lia
  rw[gH (by simpa using hd)] at hr
  injection hr with hx hr
  rw[List.getElem_zipIdx] at hx;simp at hx;obtain⟨rfl,rfl⟩:=hx;obtain⟨s,hs⟩:∃s,S[d']?=some s:=⟨S[d'],aC hd⟩;have w:Wk m s.1 (N+d') s.2 k:=by simpa using Z.it d' s hs
  obtain⟨its,q,e1,e2⟩:=src d' s hs;have q:Wq m s.1 s.2 its:=q.to λ o g=>out _ o (.inl (lo d' s hs)) g;refine ae (wpAny_onRaise ?_);show wpAny _ _ (Builtin.SmallTypes.nextOf (.ref (N+d')) >>= _) _ _ _
  rcases Nat.lt_or_eq_of_le h2 with hlt|heq
  ·refine ae (GY w q (e1 hlt) λ m2 pm2 sb2=>ah ?_);have om2:m2.get? (N+S.length+1)=some (TuO us'):=sb2.extBut _ _ (nl on) Z.ox;refine ae (eF om2 rfl ?_);refine ae (Ha om2 (by rw[Z.ul];exact hz9) λ m3 om3 sb3=>?_);refine ae (s0h (ah ?_));have to3:∀c o,c≠N+d'->c≠N+S.length+1->m.get? c=some o->m3.get? c=some o:=λ c o a1 a2 g=>sb3.extBut _ _ a2 (sb2.extBut _ _ a1 g);refine⟨fu,d' + 1,m3,us'.set d' (xs d'),fu,hr,hd,hlt,by rw[sb3.1,sb2.1];exact h3,λ i hi=>?_,⟨to3 _ _ (nl on) (nl on) Z.z,to3 _ _ (nl on) (nl on) Z.ti,om3,by rw[fG];exact Z.ul,λ i s' hs'=>?_⟩,λ c o a g=>to3 c o (nl on) (nl on) (out c o a g)⟩
   ·by_cases hid:i=d'
    ·subst hid;rw[qt (by rw[Z.ul];exact hd)]
    ·rw[qu (bh hid)];exact h4 i on
   ·have li:=eX hs';by_cases hid:i=d'
    ·subst hid;rw[hs] at hs';cases hs';rw[if_pos (eU _)];exact pm2.to λ o g=>sb3.extBut _ _ (nl on) g
    ·have:=(Z.it i s' hs').to (h':=m3) λ o g=>to3 _ o (nl on) (nl on) g;by_cases hl:i<d'
     ·rw[if_pos hl] at this;rw[if_pos on];exact this
     ·rw[if_neg hl] at this;rw[if_neg on];exact this
  ·refine ae (GZ hh w q (e2 heq) λ m2 e' xb he=>?_);obtain⟨oe,ge,ce⟩:=he;have zm2:IsZip m2 (N+S.length+2) (N+S.length) (N+S.length+1) .ellipsis:=xb _ _ (nl on) Z.z;have ez:e'≠N+S.length+2:=λ q=>by subst q;rw[zm2] at ge;cases ge;simp at ce
   exact fU zm2 BT λ m3 _ sb3=>ae (iX (T := "StopIteration") (b:=true) ⟨oe,sb3.extBut _ _ ez ge,ce⟩ s2h (ah (fe (heq ▸ hd) _ λ c o a g=>sb3.extBut _ _ (nl on) (xb _ _ (nl on) (out c o a g)))))
 ·rintro⟨b1,b2⟩ s' ⟨hb,d,m,us',rfl,hr,h1,h2,h3,h4,Z,out⟩;simp only at hb;subst hb
  have hd:d=S.length:=by
   have:=bu List.length hr;simp at this;lia
  subst hd;refine ae (eF Z.ox rfl ?_);refine ae (lY ?_ (small (by simpa [Z.ul] using hz9)));have zlt:N+S.length+2<m.objs.size:=az Z.z;show wpAny _ _ (Builtin.SmallTypes.ownedTupleHandOut (.ref (N+S.length+2)) (.ref m.objs.size) >>= _) _ _ _;refine ae ?_;unfold Builtin.SmallTypes.ownedTupleHandOut;have zm6:IsZip (m.push (TuO us')) (N+S.length+2) (N+S.length) (N+S.length+1) .ellipsis:=ay _ Z.z;refine ae (fU zm6 BT λ m7 zm7 sb7=>?_);refine fU zm7 BT λ m8 zm8 sb8=>?_;have to8:∀c o,c≠N+S.length+2->m.get? c=some o->m8.get? c=some o:=λ c o a1 g=>sb8.extBut _ _ a1 (sb7.extBut _ _ a1 (ay _ g));have np8:m8.get? m.objs.size=some (TuO us'):=sb8.extBut _ _ (fF zlt) (sb7.extBut _ _ (fF zlt) (aL _ rfl));have zm8:IsZip m8 (N+S.length+2) (N+S.length) (N+S.length+1) (rawInt m.objs.size):=zm8;rw[h3] at zm8 np8;refine ah ⟨_,fu,ah ?_⟩;show R (some (.ref m.objs.size)) _;rw[h3]
  exact fi h2 m8 us' h4 ⟨zm8,to8 _ _ (nl on) Z.ti,to8 _ _ (nl on) Z.ox,Z.ul,λ i s hs=>by
   have:=(Z.it i s hs).to (h':=m8) λ o g=>to8 _ o (nl (by have:=eX hs;lia)) g
   rwa [if_pos (eX hs)] at this⟩ np8 λ c o a g=>to8 c o (nl on) (out c o a g)
theorem Hb{Q:VS}(q:Wq s0.heap c t its)
  (f:∀h':Heap,Wk h' c s0.heap.objs.size t 0->h'.objs.size=s0.heap.objs.size+1->(∀c o,s0.heap.get? c=some o->h'.get? c=some o)->Q (.ref s0.heap.objs.size) { s0 with heap:=h' }):wpAny (model pg wd) B (pyIter (.ref t)) Q X0 s0:=by
 cases c
 ·exact lS q (f _ ⟨_,aL _ rfl,fu,fu⟩ (dh ..) λ _ _ g=>ay _ g)
 ·exact rq q (f _ ⟨_,aL _ rfl,fu,fu⟩ (dh ..) λ _ _ g=>ay _ g)
theorem Hc(S:List (Bool × Addr))(hz9:S.length≤1000):Meets (Builtin.«zip.__new__» ⟨.type "zip" :: S.map (λ s=>Value.ref s.2),[]⟩) (λ _ R s=>(∀(i:Nat) (p:Bool × Addr),S[i]?=some p->∃its,Wq s.heap p.1 p.2 its) /\
   ∀h':Heap,Zs S s.heap.objs.size .none (S.map λ _=>.none) (λ _=>0) h'->(∀c o,s.heap.get? c=some o->h'.get? c=some o)->R (.ok (.ret (.ref (s.heap.objs.size+S.length+2)))) { s with heap:=h' }) :=
 .of_wp λ prog w A R s h=>by
  obtain⟨hp,g,dd,tk,os⟩:=s;obtain⟨hq,h⟩:=h;have q0:=sub_zip
  wp_walk using lW _ (λ rest (b:Array Value) s'=>∃d m,s'=⟨m,g,dd,tk,os⟩/\rest=(S.map (λ s=>Value.ref s.2)).drop d/\d≤S.length/\b=((List.range' hp.objs.size d).map Value.ref).toArray/\m.objs.size=hp.objs.size+d /\
   (∀(i:Nat) (p:Bool×Addr),S[i]?=some p->i<d->Wk m p.1 (hp.objs.size+i) p.2 0)/\∀c o,hp.get? c=some o->m.get? c=some o) _
  case turn=>
   rintro x rest b s ⟨d,m,rfl,hr,h1,rfl,h3,h4,h5⟩
   have hd:d<S.length:=by
    have:=bu List.length hr;simp at this;lia
   rw[gH (by simpa using hd)] at hr
   injection hr with hx hr
   rw[oC] at hx;subst hx;have hs:S[d]?=some S[d]:=aC hd;obtain⟨its,q⟩:=hq d _ hs;refine ae (bv (Hb (q.to λ o e=>h5 _ o e) λ m2 w2 z2 k2=>ah ?_));refine⟨d+1,m2,fu,hr,hd,?_,by rw[z2];show m.objs.size+1=_;lia,λ i p hp hi=>?_,λ c o e=>k2 c o (h5 c o e)⟩
   ·show Array.push _ (Value.ref m.objs.size)=_;rw[h3,List.range'_concat];simp
   ·by_cases hid:i=d
    ·subst hid;rw[hs] at hp;cases hp;have w2:Wk m2 _ m.objs.size _ 0:=w2;rw[h3] at w2;exact w2
    ·exact(h4 i p hp on).to λ o e=>k2 _ o e
  case fin=>
   rintro b s ⟨d,m,rfl,hr,h1,rfl,h3,h4,h5⟩
   have hd:d=S.length:=by
    have:=bu List.length hr;simp at this;lia
   subst hd;refine ah (ae (lY (ae (lY ?_ ?_)) ?_))
   ·wp_walk;refine⟨_,fu,?_⟩;dsimp only;generalize e1:m.push _=m1;generalize e2:m1.push _=m2;have n1:m1.objs.size=hp.objs.size+S.length+1:=by rw[<- e1,dh,h3]
    have n2:m2.objs.size=hp.objs.size+S.length+2:=by rw[<- e2,dh,n1]
    rw[show List.map (λ _=>Value.none) (List.map Value.ref (List.range' hp.objs.size S.length))=S.map λ _=>Value.none by simp[List.map_const',Function.comp_def]] at e2;have k1:∀c o,m.get? c=some o->m1.get? c=some o:=λ c o g=>e1 ▸ ay _ g;have k2:∀c o,m1.get? c=some o->m2.get? c=some o:=λ c o g=>e2 ▸ ay _ g;have g1:m1.get? m.objs.size=some (TuO _):=e1 ▸ aL _ rfl;have g2:m2.get? m1.objs.size=some (TuO _):=e2 ▸ aL _ rfl;rw[h3] at g1;rw[n1] at g2;rw[n2,h3,n1];refine h _ ⟨?_,ay _ (k2 _ _ g1),ay _ g2,BT,λ i s hs=>(h4 i s hs (eX hs)).to λ o e=>ay _ (k2 _ _ (k1 _ _ e))⟩ λ c o e=>ay _ (k2 _ _ (k1 _ _ (h5 c o e)));rw[<- n2];exact aL _ rfl
   ·exact small (by simpa using hz9)
   ·exact small (by simpa using hz9)
  case h=>exact⟨0,hp,rfl,rfl,aX _,rfl,rfl,λ i _ _ q=>absurd q (lX _),λ _ _ e=>e⟩
end
noncomputable def SqB(K:FG)(b:Bool)(H:Hp)(a:Addr)(vs:List V):Prop:=if b=true then SqT K H a vs else SqL K H a vs
variable {X:Cx}
section
variable {pins:LO}{σ:St}{H:Hp}{s:Shared}
def Inv.sq(I:Inv X pins σ H s)(h:SqB X.K b H a xs):∃its:LV,Vals xs its/\Wq s.heap b a its.toArray:=by
 cases b
 ·obtain⟨its,r,p,_⟩:=I.list h;exact⟨its,r,p.isList⟩
 ·obtain⟨its,r,p,_⟩:=I.tuple h;exact⟨its,r,p⟩
def Inv.sq_inj(I:Inv X pins σ H s)(h:SqB X.K b H a xs)(h':SqB X.K b H a ys):xs=ys:=by
 cases b
 ·exact I.list_inj h h'
 ·exact I.tuple_inj h h'
end
def wy{α β:Type} [Nonempty β] {S:List α}{P:Nat->α->β->Prop}(h:∀d s,S[d]?=some s->∃u,P d s u):∃f:Nat->β,∀d s,S[d]?=some s->P d s (f d) :=
 ⟨λ d=>Classical.epsilon λ u=>∀s,S[d]?=some s->P d s u,λ d s hs=>by
  obtain⟨u,hu⟩:=h d s hs
  exact Classical.epsilon_spec (p:=λ u=>∀s,S[d]?=some s->P d s u) ⟨u,λ s' hs'=>by rw[hs] at hs';cases hs';exact hu⟩ s hs⟩
theorem wz(f:Nat->V×Value):∀l:List Nat,(∀d∈l,RelV (f d).1 (f d).2)->Vals (l.map λ d=>(f d).1) (l.map λ d=>(f d).2)
 |[],_=>.nil
 |d::l,h=>.cons (h d BT) (wz f l λ e he=>h e (by simp[he]))
noncomputable def Itn(K:FG)(S:List (Bool × Addr)):It:=⟨λ i H=>∀(d:Nat) (s:Bool × Addr),S[d]?=some s->∃xs,SqB K s.1 H s.2 xs/\i < xs.length,
 λ i H v H'=>∃T vs,v=.ref T/\H T=none/\H'=upd H T (.tup vs)/\vs.length=S.length/\∀(d:Nat) (s:Bool×Addr) xs,S[d]?=some s->SqB K s.1 H s.2 xs->vs[d]?=xs[i]?,
 λ i H=>∃e,e<S.length/\∀(d:Nat) (s:Bool×Addr),S[d]?=some s->∃xs,SqB K s.1 H s.2 xs/\(d<e->i<xs.length)/\(d=e->xs.length<=i)⟩
def wA{N n c:Nat}(h:c ∉ List.range' N (n+3)):c<N\/N+n+2<c:=by rw[jc] at h;lia
theorem Hd{K:FG}{S:List (Bool×Addr)}{N:Nat}(hn:S≠[])(hz:S.length<=1000)(lo:∀(i:Nat) (s:Bool×Addr),S[i]?=some s->s.2<N) :
  Turn P w K (.Tuple es x1 pp) (Itn K S) (List.range' N (S.length+3)) (N+S.length+2) (λ i h=>∃us,Zs S N .none us (λ _=>i) h) where
 mem:=by rw[jc];lia
 obj:=λ i h ⟨us,Z⟩ c hc=>by
  rw[jc] at hc
  rcases dz c (N+S.length) with q|q
  ·have hd:c-N<S.length:=Nat.sub_lt_left_of_lt_add hc.1 q;obtain⟨o,g,d,_⟩:=(Z.it (c-N) S[c-N] (aC hd)).out;rw[Nat.add_sub_cancel' hc.1] at g;exact⟨o,g,d⟩
  ·rcases GX q hc.2 with rfl|rfl|rfl
   ·exact⟨_,Z.ti,λ v z=>nomatch z⟩
   ·exact⟨_,Z.ox,λ v z=>nomatch z⟩
   ·exact⟨_,Z.z,λ v z=>nomatch z⟩
 keep:=λ i h h' ⟨us,Z⟩ k=>by
  have k:∀c,N<=c->c<N+(S.length+3)->∀o,h.get? c=some o->h'.get? c=some o:=λ c a b=>k c (jc.mpr ⟨a,b⟩);exact⟨us,k _ on on _ Z.z,k _ on on _ Z.ti,k _ on on _ Z.ox,Z.ul,λ i s hs=>(Z.it i s hs).to λ o g=>k _ on (by have:=eX hs;lia) o g⟩
 item:=by
  intro X hP hw hK hc i pins s σ H E I hf ⟨us,Z⟩ hg;subst hP hw hK
  haveI:Nonempty (V×Value):=⟨(.int 0,.none)⟩
  obtain⟨f,hf'⟩:=wy (β:=V×Value) (P:=λ d (s':Bool×Addr) p=>∃xs its,SqB X.K s'.1 H s'.2 xs/\Wq s.heap s'.1 s'.2 (List.toArray its)/\xs[i]?=some p.1/\its[i]?=some p.2/\RelV p.1 p.2) λ d s' hs=>by
   obtain⟨xs,q,l⟩:=hg d s' hs;obtain⟨its,r,p⟩:=I.sq q;obtain⟨u,hu,ru⟩:=r.get (aC l);exact⟨(xs[i],u),xs,its,q,p,aC l,hu,ru⟩
  refine wx (I.ok.hd hc) hn hz Z lo (e:=S.length) (xs:=λ d=>(f d).2) (λ d s' hs=>?_) (λ _ h' us' hu Z' np bt=>?_) λ q=>absurd q (cG _)
  ·obtain⟨xs,its,q,p,_,hu,_⟩:=hf' d s' hs;exact⟨_,p,λ _=>by simpa using hu,λ q=>absurd (eX hs) on⟩
  have eu:us'=(List.range S.length).map λ d=>(f d).2:=by
   refine kc λ d=>?_
   rcases dz d S.length with q|q
   ·rw[hu d q];simp[q]
   ·rw[fV (by rw[Z'.ul];exact q)];simp[q]
  have rl:Vals ((List.range S.length).map λ d=>(f d).1) us':=by
   rw[eu]
   exact wz f _ λ d hd=>by
    obtain⟨xs,its,_,_,_,_,r⟩:=hf' d _ (aC (bU.mp hd));exact r
  have I1:Inv X pins σ H { s with heap:=h' }:=I.turnedL (t':=s.toks) (fl:=List.range' N (S.length+3)) (λ c o hc e=>bt c o (wA hc) e) hf;obtain⟨f0,f1,f2,f3,f4,f5⟩:=I.fpOk (aj s.heap.objs.size) (I.hok.fresh (aj _))
  have n0:X.s₀.heap.get? s.heap.objs.size=none:=by
   cases q:X.s₀.heap.get? s.heap.objs.size with
   |none=>rfl
   |some o=>exact absurd (bZ (az q) I.sz) (cG _)
  have I2:Inv X pins σ (upd H s.heap.objs.size (.tup ((List.range S.length).map λ d=>(f d).1))) { s with heap:=h' }:=I1.track f0 ⟨small (by simpa using hz),us',rl,⟨_,np,⟨rfl,_,rfl⟩,rfl⟩⟩ f1 f4 f5 n0;have zl:N+S.length+2<s.heap.objs.size:=az Z.z;have mz:N+S.length+2∈List.range' N (S.length+3):=by rw[jc];lia
  obtain⟨e0,e1,e2,e3,e4,e5⟩:=hf _ mz;refine⟨_,fu,wpAny_letOwnedTupleGo_zip Z'.z λ h2 z2 sb=>?_⟩;have I3:Inv X pins σ (upd H s.heap.objs.size (.tup ((List.range S.length).map λ d=>(f d).1))) { s with heap:=h2 }:=Inv.turned (s:={ s with heap:=h' }) (h':=h2) (t':=s.toks) (it:=N+S.length+2) I2 (λ c o hc e=>sb.extBut _ _ hc e) (by rw[aF (aJ zl)];exact e0) e1 e3 e4 e5;refine⟨.ref s.heap.objs.size,_,I3,fu,⟨_,_,fu,f0,fu,BT,λ d s' xs hs hq=>?_⟩,⟨us',z2,sb.extBut _ _ (nl on) Z'.ti,sb.extBut _ _ (nl on) Z'.ox,Z'.ul,λ i s hs=>(Z'.it i s hs).to λ o g=>sb.extBut _ _ (nl (by have:=eX hs;lia)) g⟩,λ c hc=>?_⟩
  ·obtain⟨ys,its,q,_,hy,_⟩:=hf' d s' hs;rw[I.sq_inj hq q,hy];simp[eX hs]
  ·have:=jc.mp hc;rw[aF (show c≠s.heap.objs.size from nl on)];exact(hf c hc).1
 done:=by
  intro X hP hw hK hc i pins s σ H E I hf ⟨us,Z⟩ ⟨e,he,hg⟩;subst hP hw hK
  haveI:Nonempty Value:=⟨.none⟩
  obtain⟨f,hf'⟩:=wy (β:=Value) (P:=λ d (s':Bool×Addr) u=>∃its,Wq s.heap s'.1 s'.2 its/\(d<e->its[i]?=some u)/\(d=e->its[i]?=none)) λ d s' hs=>by
   obtain⟨xs,q,l,l'⟩:=hg d s' hs;obtain⟨its,r,p⟩:=I.sq q;have ln:=r.length;refine⟨(its[i]?).getD .none,_,p,λ q=>?_,λ q=>?_⟩
   ·have:=l q;rw[aC (show i<its.length by lia)];simp
   ·have:=l' q;simp;lia
  exact wx (I.ok.hd hc) hn hz Z lo hf' (λ q=>absurd he on) λ _ h' bt=>⟨fu,I.turnedL (t':=s.toks) (fl:=List.range' N (S.length+3)) (λ c o hc e=>bt c o (wA hc) e) hf⟩
 self:=λ _ _ _ _ _ ⟨_,Z⟩ h=>wpAny_pyIter_zip Z.z h
section
variable {es:List Expr}{x1:Nat}{pp:Pos}
noncomputable def iZn(K:FG)(n:Nat)(ta:TA):TI:=λ σ H R=>ta σ H λ vs H1=>∃S:List (Bool×Addr),S.length=n/\vs=S.map (λ s=>V.ref s.2)/\(∀(i:Nat) (s:Bool×Addr),S[i]?=some s->∃xs,SqB K s.1 H1 s.2 xs)/\R (Itn K S) H1
noncomputable def wB(n:Nat):Prop:=(0<n/\n<=1000)/\∀us:LV,us.length=n->checkTypeCall "zip" ⟨us,[]⟩=pure ()/\checkBuiltinCall "zip.__new__" ⟨.type "zip" :: us,[]⟩=pure ()/\∀ob,argsOk "object.__init__" ⟨ob::us,[]⟩
def He:∀ {S:List (Bool×Addr)},Vals (S.map λ s=>V.ref s.2) us->us=S.map λ s=>Value.ref s.2:=by
 intro S r;generalize e:(S.map λ s=>V.ref s.2)=vs at r
 induction r generalizing S with
 |nil=>cases S with|nil=>rfl|cons=>cases e
 |cons h t ih=>
  cases S with
  |nil=>cases e
  |cons s S=>injection e with a b;subst a;rw[ih b];cases h;rfl
theorem Hf{e:Expr}{rest:List Expr}{p pos:Pos}(za:wB n)(hg:Gl X "zip")(hm:X.mg "zip"=none)(ha:PA X (e::rest) ta)(he:starEach (e::rest) X.env=(false,eval e X.env)::starEach rest X.env)(hr:(backTo pos (starEach rest X.env)).any (·.1)=false) :
  PI X (.Tuple es x1 pp) (.Call (.Name "zip" p) (e::rest) [] pos) (iZn X.K n ta):=by
 intro pins s σ H R I h;have hA:=ha pos pins s σ H _ I h;refine Call_ (dD I hg hm boot_zip (gC (thn hA λ us s1 ⟨vs,H1,I1,r1,q1⟩=>?_) he hr));obtain⟨S,rfl,rfl,hS,q⟩:=q1;cases He r1;obtain⟨⟨n0,n9⟩,za⟩:=za;obtain⟨z1,z2,z3⟩:=za _ (aq _)
 have src:∀(i:Nat) (s:Bool×Addr),S[i]?=some s->∃its,Wq s1.heap s.1 s.2 its:=λ i s hs=>by
  obtain⟨xs,q⟩:=hS i s hs;obtain⟨its,_,p⟩:=I1.sq q;exact⟨_,p⟩
 refine callType_new F.called_zip pv z1 z2 z3 F.entry_zip_new (Hc S n9) ⟨src,λ h' Z kk=>⟨⟨_,Z.z,fu⟩,?_⟩⟩;have I2:Inv X pins σ H1 { s1 with heap:=h' }:=I1.kept (t':=s1.toks) kk;refine wpAny_pyIter_zip Z.z ⟨_,_,_,_,H1,fu,I2,Hd (ka.mp n0) n9 (λ i s hs=>?_),⟨_,Z⟩,λ c hc=>?_,q⟩
 ·obtain⟨its,p⟩:=src i s hs;obtain⟨o,g,_⟩:=p.out;exact az g
 ·have ge:s1.heap.objs.size<=c:=(jc.mp hc).1;exact I1.fpOk ge (I1.hok.fresh ge)
def Hg:wB 2:=⟨pv,λ us h=>by
 match us,h with
 |[a,b],_=>exact⟨F.typeCall_zip_2 _ _,F.newCall_zip_2 _ _,λ ob=>F.args_object_init_3 ob _ _⟩⟩
end
noncomputable def Ris(p:Array Nat):Prop:=∀(i k x y:Nat),i<k->p[i]?=some x->p[k]?=some y->x<y
theorem rG(p:Array Nat)(hr:Ris p)(j:Nat):∀fuel lo hi,hi-lo<=fuel->lo<=hi->hi<=p.size->(∀i x,i<lo->p[i]?=some x->x<j)->(∀i x,hi<=i->p[i]?=some x->j<=x) ->
  (∀i x,i<SetTable.below.go p j fuel lo hi->p[i]?=some x->x<j)/\(∀i x,SetTable.below.go p j fuel lo hi<=i->p[i]?=some x->j<=x)
 |0,lo,hi,h1,h2,h3,h4,h5=>by
  have e:lo=hi:=on;subst e;exact⟨h4,h5⟩
 |fuel+1,lo,hi,h1,h2,h3,h4,h5=>by
  unfold SetTable.below.go;by_cases c:lo<hi
  ·have hm:(lo+hi)/2<p.size:=by lia
   have eg:=cP hm;have ed:p.getD ((lo+hi)/2) j=p[(lo+hi)/2]:=by rw[Array.getD,s4l hm];rfl
   rw[if_pos c];dsimp only;rw[ed];split
   ·rename_i q;refine rG p hr j fuel _ _ on on h3 (λ i x hi' ex=>?_) h5;by_cases z:i=(lo+hi)/2
    ·subst z;rw[eg] at ex;cases ex;exact q
    ·exact iZ (hr i _ x _ on ex eg) q
   ·rename_i q;refine rG p hr j fuel _ _ on on on h4 (λ i x hi' ex=>?_);by_cases z:i=(lo+hi)/2
    ·subst z;rw[eg] at ex;cases ex;lia
    ·have:=hr _ i _ x on eg ex;lia
  ·have e:lo=hi:=by lia
   subst e;rw[if_neg c];exact⟨h4,h5⟩
def rH(hr:Ris p)(j:Nat):(∀i x,i<SetTable.below p j->p[i]?=some x->x<j)/\(∀i x,SetTable.below p j<=i->p[i]?=some x->j<=x) :=
 rG p hr j p.size 0 p.size on on (aj _) (λ i x h=>absurd h (lX _)) λ i x h e=>by rw[oD h] at e;cases e
def oE{p:Array Nat}(h:p.toList.Pairwise (· < ·)):Ris p:=λ i k x y ik ex ey=>by
 rw[<- bE] at ex ey;obtain⟨h1,rfl⟩:=br.mp ex;obtain⟨h2,rfl⟩:=br.mp ey;exact(lZ.mp h) i k h1 h2 ik
def Hh(h:Ris p):p.toList.Pairwise (· < ·):=lZ.mpr λ i k h1 h2 ik=>h i k _ _ ik (by rw[<- bE];exact aC h1) (by rw[<- bE];exact aC h2)
def wC(hr:Ris p)(hn:¬p[SetTable.below p j]?=some j):Ris (SetTable.insertAt p (SetTable.below p j) j):=by
 obtain⟨b1,b2⟩:=rH hr j;apply oE;rw[rJ];have pw:=Hh hr
 have m1:∀x∈p.toList.take (SetTable.below p j),x<j:=λ x hx=>by
  obtain⟨i,hi,rfl⟩:=rK.mp hx;exact b1 i _ on (by rw[<- bE];exact aC _)
 have m2:∀x∈p.toList.drop (SetTable.below p j),j<x:=λ x hx=>by
  obtain⟨i,hi,rfl⟩:=wD.mp hx;have e:p[SetTable.below p j+i]?=some p.toList[SetTable.below p j+i]:=by rw[<- bE];exact aC _
  have le:=b2 _ _ (s0p _ _) e
  rcases dz j p.toList[SetTable.below p j+i] with q|q
  ·exact q
  ·have ej:p.toList[SetTable.below p j+i]=j:=by lia
   rw[ej] at e;by_cases z:i=0
   ·subst z;rw[s1k] at e;exact absurd e hn
   ·have hlt:SetTable.below p j<p.size:=by rw[Array.length_toList] at hi;lia
    have e0:=cP hlt;have a1:=b2 _ _ (aj _) e0;have a2:=hr _ _ _ _ on e0 e;lia
 rw[List.pairwise_append,ma]
 exact⟨pw.sublist (List.take_sublist _ _),⟨m2,pw.sublist (List.drop_sublist _ _)⟩,λ x hx y hy=>by
  rcases aN.mp hy with rfl|hy
  ·exact m1 x hx
  ·exact iZ (m1 x hx) (m2 y hy)⟩
noncomputable def jd(t:SetTable)(j:Nat):Prop:=¬t.place[SetTable.below t.place j]?=some j
def rO{t:SetTable}(h:∀i,t.slot j≠.live i):jd t j:=λ e=>by
 apply h (SetTable.below t.place j);unfold SetTable.slot;dsimp only;rw[if_pos (by rw[e];exact fW _)]
def rP(t:SetTable)(p:SetTable.Probe):(t.advance p).dummy=p.dummy:=by
 unfold SetTable.advance;split<;>rfl
theorem rQ{f:Nat->Int}:∀(n:Nat) (p:SetTable.Probe) (j:Nat) (d:Option Nat),(∀x,p.dummy=some x->jd t x)->SetTable.probe.go t f h n p=some (.empty j d)->jd t (d.getD j)
 |0,_,_,_,_,e=>by cases e
 |n+1,p,j,d,hd,e=>by
  unfold SetTable.probe.go at e;split at e
  ·rename_i q;cases e;have nj:jd t p.j:=rO λ i z=>by rw[q] at z;cases z
   cases ed:p.dummy with
   |none=>exact nj
   |some x=>exact hd x ed
  ·rename_i q;have nj:jd t p.j:=rO λ i z=>by rw[q] at z;cases z
   refine rQ n _ j d (λ x hx=>?_) e;rw[rP] at hx;cases hx;exact nj
  ·split at e
   ·cases e
   ·exact rQ n _ j d (λ x hx=>hd x (by rw[rP] at hx;exact hx)) e
def Tb(b:Bool)(t:SetTable):Prop:=t.led=b/\Ris t.place
def oF(n:Nat)(h:Tb b t):Tb b (t.standIn n):=⟨h.1,oE (by show(Array.range n).toList.Pairwise _;rw[Array.toList_range];exact oG)⟩
set_option tactic.hygienic true in
def Hi(hT:Tb b t):Tb b (layNew t es h x).2.1:=by
 unfold layNew;split
 ·rename_i slot dm e
  have nj:jd t slot:=by
   unfold SetTable.freeSlot at e;split at e
   ·rename_i j d q;cases e;exact rQ _ _ _ _ (λ x hx=>by cases hx) q
   ·cases e
  dsimp only;unfold SetTable.orStandIn;have hp:Tb b (t.put slot).1:=⟨hT.1,wC hT.2 nj⟩;split
  ·exact hp
  ·exact oF _ hp
 ·exact oF _ hT
set_option tactic.hygienic true in
def Hj(hT:Tb b t):Tb b (relayAll t es n).2.1:=by
 unfold relayAll;split
 ·rename_i t' order e;dsimp only;split
  ·unfold SetTable.relaid SetTable.laid at e;simp only[Option.bind_eq_bind,Option.bind_eq_some_iff] at e;obtain⟨owner,_,e⟩:=e;cases e;refine⟨hT.1,oE ?_⟩;show(List.map _ _).Pairwise _;rw[rV,s0i];refine rY (λ {a c} q u hu v hv=>?_) (oG);rw[fQ] at hu hv;obtain⟨_,_,rfl⟩:=hu;obtain⟨_,_,rfl⟩:=hv;exact q
  ·exact oF _ hT
 ·exact oF _ hT
def kI(e:Int×Value):Int:=match e.2 with|.int n _=>n|_=>0
noncomputable abbrev cq(es:Array (Int×Value))(ep:Nat)(t:SetTable):Obj:={ cls:=.type "set",dict:=none,data:=.set es ep t,slots:=#[] }
structure SetT (pg:Program)(wd:World)(b:Bool)(M:LI)(es:Array (Int×Value))(t:SetTable):Prop where
 el:ElemsOf (intKind pg wd) es.toList
 ft:t.fits es.size=true
 tb:Tb b t
 nd:(es.toList.map kI).Nodup
 mm:∀k,k∈es.toList.map kI ↔ k∈M
 sz:es.size<=M.length
section
variable {pg:Program}{wd:World}{B:Around}{X0:VS}{z0:Shared}{b:Bool}{M:LI}{es es1:Array (Int×Value)}{t t1:SetTable}{n:Int}{tk:Tok}
def wF{e:Int×Value}(h:(intKind pg wd).is k e.2=true):kI e=k:=by
 obtain⟨h',v⟩:=e;obtain⟨u,rfl⟩:=hG (k:=k) h;rfl
def SetT.perm(T:SetT pg wd b M es t)(p:List.Perm es1.toList es.toList)(f:t1.fits es1.size=true)(g:Tb b t1):SetT pg wd b M es1 t1 :=
 ⟨T.el.perm p,f,g,(p.map kI).nodup_iff.mpr T.nd,λ k=>((p.map kI).mem_iff).trans (T.mm k),by rw[<- Array.length_toList,p.length_eq,Array.length_toList];exact T.sz⟩
def SetT.push(T:SetT pg wd b M es t)(hn:n ∉ es.toList.map kI)(p:List.Perm es1.toList (es.push (hashInt n,.int n tk)).toList)(f:t1.fits es1.size=true)(g:Tb b t1):SetT pg wd b (M++[n]) es1 t1:=by
 rw[rZ] at p;have pm:=p.map kI;rw[bQ] at pm;refine⟨(T.el.push (knd:=intKind pg wd) (k:=n) (intKind_is _ _ _ _) rfl).perm p,f,g,pm.nodup_iff.mpr ?_,λ k=>?_,?_⟩
 ·rw[List.nodup_append];refine⟨T.nd,BT,λ a ha c hc=>?_⟩;rw[sg,bj] at hc;subst hc;intro e;exact hn (e ▸ ha)
 ·rw[pm.mem_iff,bn,bn,T.mm k];exact Iff.rfl
 ·rw[<- Array.length_toList,p.length_eq,aR,aR,Array.length_toList];exact s2a T.sz 1
def SetT.old(T:SetT pg wd b M es t)(hn:n∈es.toList.map kI):SetT pg wd b (M++[n]) es t :=
 ⟨T.el,T.ft,T.tb,T.nd,λ k=>by
  rw[bn,bj,<- T.mm k]
  exact⟨.inl,λ h=>h.elim id λ e=>e ▸ hn⟩,by rw[aR];exact bH T.sz (s0p _ _)⟩
def oH{h:Heap}{a:Addr}(ho:h.get? a=some (cq es ep t)):(h.update a (Obj.putSet es1 t1)).get? a=some (cq es1 (ep+1) t1) :=
 eE (Obj.putSet es1 t1) ho rfl
theorem Hk{a:Addr}{R:Bool->Shared->Prop}(ho:z0.heap.get? a=some (cq es ep t))(T:SetT pg wd b M es t)(hz:M.length+1<scanBound)
  (fin:∀h' es' ep' t' r,Heap.SameBut a z0.heap h'->h'.get? a=some (cq es' ep' t')->SetT pg wd b (M++[n]) es' t'->R r { z0 with heap:=h' }) :
  wpAny (model pg wd) B (setAddHashed a (.int n tk) (hashInt n)) R X0 z0:=by
 have zs:es.size<scanBound:=by have:=T.sz;lia
 have fi:∀m,m<=M.length+1->m<=sizeLine:=λ m q=>fits_of_scanBound on;unfold setAddHashed setAddHashedIn;refine bv (ae (fX ho rfl T.ft ?_));dsimp only;rw[byScan_of (knd:=intKind pg wd) rfl zs T.el,if_pos rfl];unfold setAddByScan;refine ae (ae (fO (ae (wpAny_setScan_of (knd:=intKind pg wd) (k:=n) (intKind_is _ _ _ _) ho rfl T.ft T.el ?_))))
 cases hr:es.toList.findIdx? (λ e=>(intKind pg wd).is n e.2) with
 |some j=>
  obtain⟨hj,hp,_⟩:=List.findIdx?_eq_some_iff_getElem.mp hr;exact ah (ah (fin z0.heap es ep t _ (Heap.SameBut.refl a _) ho (T.old (aW.mpr ⟨_,kg hj,wF hp⟩))))
 |none=>
  have nn:n ∉ es.toList.map kI:=λ h=>by
   obtain⟨e,he,q⟩:=aW.mp h;obtain⟨⟨k,hk,_⟩,_⟩:=T.el e he;have:=List.findIdx?_eq_none_iff.mp hr e he;rw[wF hk] at q;rw[q] at hk;rw[hk] at this;cases this
  have p1:=layNew_perm t es (hashInt n) (.int n tk);have f1:=layNew_fits t es (hashInt n) (.int n tk);have g1:=Hi (es:=es) (h:=hashInt n) (x:=.int n tk) T.tb;dsimp only;generalize layNew t es (hashInt n) (.int n tk)=L at p1 f1 g1 ⊢;obtain⟨es1,t1,dm,gv⟩:=L;have T1:=T.push nn p1 f1 g1;have s1:es1.size<=M.length+1:=by have:=T1.sz;rwa [aR] at this
  have gw:∀(c:Bool) (z:Shared) (R:Unit->Shared->Prop),R () z->wpAny (model pg wd) B (match c with|true=>rule "set.scan.the-table-gave-way" |false=>pure ()) R X0 z:=λ c z R h=>by
   cases c
   ·exact ah h
   ·exact fO h
  refine ae (gw _ _ _ ?_);split
  all_goals
   refine ae (ah (a:=true) ?_);dsimp only;first|rw[if_pos rfl]|skip
   refine ae (oJ ho rfl ?_ (fi _ s1));have o1:=oH (es1:=es1) (t1:=t1) ho;have sb:=iw z0.heap a (Obj.putSet es1 t1);split
   ·have p2:=relayAll_perm t1 es1 (SetTable.grown es1.size);have f2:=relayAll_fits t1 es1 (SetTable.grown es1.size);have g2:=Hj (es:=es1) (n:=SetTable.grown es1.size) T1.tb;generalize relayAll t1 es1 (SetTable.grown es1.size)=L at p2 f2 g2 ⊢;obtain⟨es2,t2,gv⟩:=L;have T2:=T1.perm p2 f2 g2;refine ae (gw _ _ _ (ae (oJ o1 rfl ?_ (fi _ (by have:=T2.sz;rwa [aR] at this)))));exact ah (ah (fin _ es2 _ t2 _ (sb.trans (iw _ a _)) (oH o1) T2))
   ·exact ah (ah (fin _ es1 _ t1 _ sb o1 T1))
end
section
variable {pg:Program}{wd:World}{B:Around}{X0:VS}{z0:Shared}{b:Bool}{n:Int}{tk:Tok}
noncomputable def gI(pg:Program)(wd:World)(b:Bool)(M:LI)(a:Addr)(h:Heap):Prop:=∃es ep t,h.get? a=some (cq es ep t)/\SetT pg wd b M es t
theorem Hl{l I a:Addr}{items:Array Value}{R:Result->Shared->Prop}(hh:B.handled=none)(hI:l≠I)(aI:a≠I)(al:a≠l)(hi:IntsAre items.toList ns)(hz:ns.length+1<scanBound) :
  ∀(k i:Nat) (z:Shared),ns.length-i=k->i<=ns.length->z.heap.IsListIter I l i->z.heap.IsList l items->gI pg wd b (ns.take i) a z.heap ->
   (∀h' tk,(∀c o,c≠a->c≠I->z.heap.get? c=some o->h'.get? c=some o)->gI pg wd b ns a h'->R (.ok (.ret .none)) { z with heap:=h',toks:=tk }) ->
   codeAny (model pg wd) B (.builtin "set.update.loop" ⟨[.ref a,.ref I],[]⟩) R z:=by
 have W:=s3v (prog:=pg) (w:=wd) (A:=B.in1) hh I l hI items;have sz:items.size=ns.length:=by have:=hi.length;rwa [Array.length_toList] at this
 intro k
 induction k with
 |zero=>
  intro i z hk hle it il hS fin;have e:i=ns.length:=on;subst e;refine cD oK ?_;rw[cM kh _];show wpAny _ B.in1 (pyNext (.ref I) >>= _) _ _ z;refine ae (W.done z _ _ (by rw[sz];exact⟨it,il⟩) λ h' tk kp=>?_);show wpAny _ _ (ret Value.none) _ _ _;obtain⟨es,ep,t,ho,T⟩:=hS;rw[cX] at T;exact ah (fin h' tk (λ c o _ cI q=>kp c o (by simpa using cI) q) ⟨es,ep,t,kp a _ (by simpa using aI) ho,T⟩)
 |succ k ih=>
  intro i z hk hle it il hS fin;have lt:i<ns.length:=on;refine cD oK ?_;rw[cM kh _];show wpAny _ B.in1 (pyNext (.ref I) >>= _) _ _ z;refine ae (W.item i z _ _ on ⟨it,il⟩ λ v h' tk hv st kp=>?_);obtain⟨u,rfl⟩:=IntsAre.int_at hi i v (by rw[bE];exact hv);obtain⟨es,ep,t,ho,T⟩:=hS;have ho':=kp a _ (by simpa using aI) ho
  have tt:ns.take i++[ns.getD i 0]=ns.take (i+1):=by
   rw[mf,aC lt,cw,aC lt];rfl
  show wpAny _ B.in1 (holding [Value.int (ns.getD i 0) u] (setAdd a (.int (ns.getD i 0) u)) >>= _) _ _ _;refine ae (bv ?_);unfold setAdd;refine bv (ae ((intKind pg wd).pyHash (k:=ns.getD i 0) (intKind_is _ _ _ _) ?_));refine Hk (n:=ns.getD i 0) (z0:={ z with heap:=h',toks:=tk+1 }) ho' T (by rw[aY];lia) λ h2 es2 ep2 t2 r sb o2 T2=>?_;rw[tt] at T2
  have kp2:∀c o,c≠a->c≠I->z.heap.get? c=some o->h2.get? c=some o:=λ c o ca cI q=>by
   rw[sb.2 c ca];exact kp c o (by simpa using cI) q
  refine ah ⟨cE kh _,ih (i+1) _ on lt ?_ ?_ ⟨es2,ep2,t2,o2,T2⟩ λ h3 tk3 kp3 hS3=>?_⟩
  ·exact st.1.at λ o e=>by rw[sb.2 I (bh aI)];exact e
  ·exact st.2.at λ o e=>by rw[sb.2 l (bh al)];exact e
  ·exact fin h3 tk3 (λ c o ca cI q=>kp3 c o ca cI (kp2 c o ca cI q)) hS3
end
section
variable {pg:Program}{wd:World}{B:Around}{X0:VS}{z0:Shared}{b:Bool}{n:Int}{tk:Tok}
noncomputable abbrev byT(wd:World):Bool:=wd.params.followText "set-order"
theorem Hn(v:Value){R:VS}(fin:R (.ref z0.heap.objs.size) { z0 with heap:=z0.heap.push (cq #[] 0 (.fresh 0 0 (!byT wd))) }) :
  codeAny (model pg wd) B (.call (.builtin "set.__new__") ⟨[.type "set",v],[]⟩) (wants R X0) z0:=by
 refine lP ?_;refine ae (cW (F.newCall_set_1 v) (ah ⟨cE F.plain_set_new _,cD F.entry_set_new ?_⟩));rw[cM F.plain_set_new _];unfold Builtin.«set.__new__» Builtin.Frozenset.newClass;have hs:=sub_set_self;obtain⟨hp,g,d,tk,os⟩:=z0;dsimp only;wp_walk;refine s0q (ah ?_);dsimp only[newObj];exact ae (wpAny_alloc (ah (ah fin)))
def wG{h:Heap}{c:Addr}(hc:h.objs.size<=c):h.get? c=none:=Option.eq_none_iff_forall_ne_some.mpr λ _ q=>absurd (az q) (Nat.not_lt.mpr hc)
theorem wI{S:Heap->Prop}{R:VS}(il:z0.heap.IsList l items)
  (loop:∀(h1:Heap) (I:Addr) (Q:Result->Shared->Prop),l≠I->z0.heap.objs.size≠I->z0.heap.objs.size≠l->z0.heap.get? I=none->(∀c o,z0.heap.get? c=some o->h1.get? c=some o)->h1.IsListIter I l 0->h1.IsList l items->h1.get? z0.heap.objs.size=some (cq #[] 0 (.fresh 0 0 (!byT wd))) ->
   (∀h' tk,(∀c o,c≠z0.heap.objs.size->c≠I->h1.get? c=some o->h'.get? c=some o)->S h'->Q (.ok (.ret .none)) { z0 with heap:=h',toks:=tk })->codeAny (model pg wd) B.in1.in1 (.builtin "set.update.loop" ⟨[.ref z0.heap.objs.size,.ref I],[]⟩) Q { z0 with heap:=h1 })
  (fin:∀(h':Heap) (tk:Nat),S h'->(∀c o,z0.heap.get? c=some o->h'.get? c=some o)->R (.ref z0.heap.objs.size) { z0 with heap:=h',toks:=tk }) :
  wpAny (model pg wd) B (call (.type "set") [.ref l]) R X0 z0:=by
 obtain⟨c,tl,hmro⟩:=F.called_set.mro;have hmade:=F.called_set.made;have hsub:=F.called_set.sub;have h1:=F.called_set.notType;have h2:=F.called_set.canCreate;have hct:=F.typeCall_set_1 (.ref l);refine s1w (lP ?_);show wpAny _ _ (callAny (.type "set") _) _ _ _;refine ah ⟨rD _ (by decide +kernel),cD F.entry_type_call ?_⟩;rw[Around.under_plain (weight_type_call_type "set" [.ref l] []) rfl]
 repeat (any_goals (first|assumption|wp_step))
 refine gE (Hn (.ref l) (X0:=X0) (R:=λ v z=>v=.ref z0.heap.objs.size/\z={ z0 with heap:=z0.heap.push (cq #[] 0 (.fresh 0 0 (!byT wd))) }) ⟨fu,fu⟩) λ r z hr=>?_;have g0:(z0.heap.push (cq #[] 0 (.fresh 0 0 (!byT wd)))).get? z0.heap.objs.size=some (cq #[] 0 (.fresh 0 0 (!byT wd))):=aL _ rfl
 rcases r with e|(_|_|_|obj)<;>try exact hr
 obtain⟨rfl,rfl⟩:=hr;have hT:Shared.TypeIs { z0 with heap:=z0.heap.push (cq #[] 0 (.fresh 0 0 (!byT wd))) } (.ref z0.heap.objs.size) "set" := ⟨_,g0,rfl⟩;have hli:=F.called_set.init.lookup;have hbi:=F.called_set.init.bind (.ref z0.heap.objs.size)
 repeat (any_goals (first|assumption|wp_step))
 refine gE (codeAny_call_builtin (R:=wants (λ r z=>r=.none/\∃h' tk,z={ z0 with heap:=h',toks:=tk }/\S h'/\∀c o,z0.heap.get? c=some o->h'.get? c=some o) X0) F.called_set.init.plain F.entry_set_init (check_set_init_1 hT ?_)) λ r z hr=>?_
 ·obtain⟨ol,go,hc,nl,hd⟩:=il;obtain⟨oc,od,odt,os⟩:=ol;simp only at hc hd;subst hc hd;have go':=ay (cq #[] 0 (.fresh 0 0 (!byT wd))) go;have y1:=F.sub_list_set;have y2:=F.sub_list_frozenset;have y3:(Value.type "list" == Value.type "dict")=false:=pv;have il1:(z0.heap.push (cq #[] 0 (.fresh 0 0 (!byT wd)))).IsList l items:=⟨_,go',rfl,nl,rfl⟩;unfold Builtin.«set.__init__» noKeywords Builtin.Frozenset.updateFrom;generalize hPI:pyIter=PI;wp_walk;subst hPI;refine lS il1 (ae (og ?_));have lt:l<z0.heap.objs.size:=az go;refine loop _ _ _ (by rw[dh];exact aJ (cL lt)) (by rw[dh];exact aJ (eU _)) (fF lt) (wG (by rw[dh];exact jQ _)) (λ c o q=>ay _ (ay _ q)) ⟨_,aL _ rfl,fu,fu⟩ (il1.push _) (ay _ g0) λ h' tk kp hS=>?_
  ·show wpAny _ _ _ _ _ _;refine ah ?_;show wpAny _ _ (ret Value.none) _ _ _;exact ah ⟨fu,h',tk,fu,hS,λ c o q=>kp c o (aJ (az q)) (by rw[dh];exact aJ (cL (az q))) (ay _ (ay _ q))⟩
 ·rcases r with e|(_|_|_|v)<;>try exact hr
  obtain⟨rfl,h',tk,rfl,hS,kp⟩:=hr
  repeat (any_goals (first|assumption|wp_step))
  exact fin h' tk hS kp
theorem Ho{R:VS}(hh:B.handled=none)(il:z0.heap.IsList l items)(hi:IntsAre items.toList ns)(hz:ns.length+1<scanBound)
  (fin:∀(h':Heap) (tk:Nat),gI pg wd (!byT wd) ns z0.heap.objs.size h'->(∀c o,z0.heap.get? c=some o->h'.get? c=some o)->R (.ref z0.heap.objs.size) { z0 with heap:=h',toks:=tk }) :
  wpAny (model pg wd) B (call (.type "set") [.ref l]) R X0 z0 :=
 wI il (λ h1 I Q lI aI al _ _ it il1 g0 fin=>Hl (ns:=ns) (b:=!byT wd) (items:=items) (l:=l) (B:=B.in1.in1) hh lI aI al hi hz (ns.length-0) 0 _ rfl (aX _) it il1 ⟨_,_,_,g0,⟨(λ e he=>(dJ he).elim),rfl,⟨rfl,(λ i k x y _ e=>by simp[SetTable.fresh] at e)⟩,List.nodup_nil,λ k=>by simp,aX _⟩⟩ fin) fin
end
def si_next:Slot "set_iterator" "__next__" "set_iterator.__next__" :=
 .of (owner := "set_iterator") (n := "__next__") (by rw[dG,dH];kernel_rfl) (by decide +kernel) (by decide +kernel) (by decide +kernel) (.inl (by decide +kernel)) (by rw[fK];kernel_rfl)
def wJ:Slot "set_iterator" "__iter__" "set_iterator.__iter__" :=
 .of (owner := "set_iterator") (n := "__iter__") (by rw[dG,dH];kernel_rfl) (by decide +kernel) (by decide +kernel) (by decide +kernel) (.inl (by decide +kernel)) (by rw[fK];kernel_rfl)
def Hq:entryFor table "set_iterator.__next__"=some Builtin.«set_iterator.__next__»:=nX (by kernel_rfl)
def Hr:entryFor table "set_iterator.__iter__"=some Builtin.«dict_keyiterator.__iter__» :=
 s2g (id' := "dict_keyiterator.__iter__") (by kernel_rfl) (by first|rfl|decide +kernel) (by decide +kernel) (by kernel_rfl)
def Hs:entryFor table "set.__iter__"=some Builtin.«frozenset.__iter__» :=
 s2g (id' := "frozenset.__iter__") (by kernel_rfl) (by first|rfl|decide +kernel) (by decide +kernel) (by kernel_rfl)
def Ht(a:Value):argsOk "set_iterator.__next__" ⟨[a],[]⟩:=by unfold argsOk;kernel_rfl
def Hu(a:Value):argsOk "set_iterator.__iter__" ⟨[a],[]⟩:=by unfold argsOk;kernel_rfl
section
variable {pg:Program}{wd:World}{B:Around}{X0:VS}{z0:Shared}{M:LI}{es:Array (Int×Value)}{t:SetTable}{a:Addr}{ep:Nat}
def Hv{n:Nat}{R:Nat->Shared->Prop}(hn:n≠0)(h:∀i d,i<n->R i { z0 with drawn:=d }):wpAny N B (choose src n) R X0 z0 :=
 λ _ _ _=>⟨hn,h _ _ (s1x _ (Nat.pos_of_ne_zero hn))⟩
def wK{α:Type}{l:List α}{i:Nat}(h:i<l.length):List.Perm (l[i]::l.eraseIdx i) l:=by
 have e:l=l.take i++l[i]::l.drop (i+1):=by rw[<- gH h,eY]
 rw[jf];exact List.perm_middle.symm.trans (by rw[<- e])
theorem wM{α:Type}:∀(n:Nat) (xs:List α) (z:Shared) (R:List α->Shared->Prop),xs.length=n->(∀ys d,ys.Perm xs->R ys { z with drawn:=d })->wpAny N B (drawOrder n xs) R X0 z
 |0,xs,z,R,hl,h=>by
  have e:xs=[]:=mh hl;subst e;exact ah (h [] z.drawn (.refl _))
 |n+1,[],z,R,hl,h=>by cases hl
 |n+1,x::r,z,R,hl,h=>by
  unfold drawOrder;refine ae (Hv (by rw[List.length_cons];lia) λ i d hi=>?_);have ge:=aC hi;rw[ge];dsimp only;refine ae (wM n _ _ _ (by rw[dL,if_pos hi];simp at hl ⊢;lia) λ ys d' pm=>ah ?_);exact h _ d' ((pm.cons _).trans (wK hi))
theorem wN{α:Type}(next:Nat->Nat):∀(n k:Nat) (l:List α) (out:Array α),l.length=n->List.Perm (pickOrder.go next n k l out).toList (out.toList++l)
 |0,k,l,out,hl=>by
  have e:l=[]:=mh hl;subst e;unfold pickOrder.go;rw[eT]
 |n+1,k,l,out,hl=>by
  have hi:next k%l.length<l.length:=s1x _ on;unfold pickOrder.go;rw[aC hi];dsimp only;refine(wN next n _ _ _ (by rw[dL,if_pos hi];lia)).trans ?_;rw[rZ,dF];exact(wK hi).append_left _
def Hw{α:Type}(next:Nat->Nat)(xs:Array α):List.Perm (pickOrder next xs).toList xs.toList:=wN next xs.size 0 xs.toList #[] (Array.length_toList)
def sh{R:Bool->Shared->Prop}(h:R (byT wd) z0):wpAny (model pg wd) B setsByText R X0 z0:=by
 unfold setsByText;exact ae (s0q (ah h))
inductive Md (wd:World)(es:Array (Int×Value))(ep:Nat)(t:SetTable)(a T:Addr)(xs:LV)(i:Nat)(h:Heap):Value->Prop where
 |text (e:byT wd=true) (x:xs=(pickOrder (wd.params.setOrder a ep) es).toList.map (·.2)):Md wd es ep t a T xs i h (.int (0:Nat) 0)
 |plain (j:Nat) (e:byT wd=false) (d:(!t.plain&&decide (es.size > 1))=false) (l:t.led=true) (r:Ris t.place) (f:t.place.size=es.size) (x:xs=es.toList.map (·.2)) (q:(i=0/\j=0)\/∃k p,i=k+1/\t.place[k]?=some p/\j=p+1):Md wd es ep t a T xs i h (.int j 0)
 |drawn (ps:List Nat) (e:byT wd=false) (p:ps.Perm (List.range es.size)) (g:h.get? T=some { cls:=.type "tuple",data:=.seq (ps.map λ k:Nat=>rawInt k).toArray 0 }) (x:xs=ps.map λ k=>((es[k]?).map (·.2)).getD .none):Md wd es ep t a T xs i h (.ref T)
def Hx{α β:Type}(es:Array α)(f:α->β)(d:β):(List.range es.size).map (λ k=>((es[k]?).map f).getD d)=es.toList.map f:=by
 apply List.ext_getElem BT;intro i h1 h2;simp at h1;simp[h1]
theorem si(p:Array Nat)(j:Nat):∀fuel lo hi,lo<=hi->SetTable.below.go p j fuel lo hi<=hi
 |0,lo,hi,h=>h
 |fuel+1,lo,hi,h=>by
  unfold SetTable.below.go;split
  ·dsimp only;split
   ·exact si p j fuel _ _ on
   ·exact bH (si p j fuel _ _ on) on
  ·exact h
def Hy(hr:Ris p){i j:Nat}(hi:i<=p.size)(q:(i=0/\j=0)\/∃k x,i=k+1/\p[k]?=some x/\j=x+1):SetTable.below p j=i:=by
 obtain⟨b1,b2⟩:=rH hr j;have bl:SetTable.below p j<=p.size:=si p j _ _ _ (aX _)
 have nl:¬SetTable.below p j<i:=λ c=>by
  rcases q with ⟨rfl,_⟩|⟨k,x,rfl,ex,rfl⟩
  ·lia
  ·have:=b2 k x on ex;lia
 have ng:¬i<SetTable.below p j:=λ c=>by
  have hl:i<p.size:=on;have eg:=cP hl;have l1:=b1 i _ c eg
  rcases q with ⟨rfl,rfl⟩|⟨k,x,rfl,ex,rfl⟩
  ·lia
  ·have:=hr k (k+1) x _ on ex eg;lia
 lia
noncomputable abbrev siO(first:Value)(i:Nat)(a:Addr)(n ep:Nat):Obj:={ cls:=.type "set_iterator",data:=.fields #[first,.int i 0,.ref a,.int n 0,.int ep 0] }
theorem Hz{i j:Nat}{R:Option (Value×Nat)->Shared->Prop}(hs:z0.heap.get? a=some (cq es ep t))(ft:t.fits es.size=true)(hi:i<=es.size)
  (m:Md wd es ep t a T xs i h (.int j 0)) (fin:∀o:Option (Value×Nat),(∀(v:Value) (k:Nat),o=some (v,k)->xs[i]?=some v/\Md wd es ep t a T xs (i+1) h (.int k 0))->(o=none->xs[i]?=none)->R o z0):wpAny (model pg wd) B (setNext a j i ep) R X0 z0:=by
 unfold setNext;refine ae (fX hs rfl ft ?_);dsimp only;refine ae (sh ?_);generalize hv:Value.int (j:Int) 0=v at m
 cases m with
 |text e x=>
  have j0:j=0:=by injection hv with q _;lia
  subst j0;rw[if_pos e];simp only[sj,jZ,s0e];refine ae ?_;unfold setWalk;refine ae (fX hs rfl ft ?_);dsimp only;refine ae (sh ?_);rw[if_pos e];refine ae (s0q (ah (ah ?_)));have eg:xs[i]?=((pickOrder (wd.params.setOrder a ep) es)[i]?).map (·.2):=by rw[x,bc,bE]
  refine fin _ (λ v k q=>?_) λ q=>?_
  ·rw[fQ] at q;obtain⟨u,hu,q⟩:=q;cases q;have hu:(pickOrder (wd.params.setOrder a ep) es)[i]?=some u:=hu;exact⟨by rw[eg,hu];rfl,.text e x⟩
  ·rw[Option.map_eq_none_iff] at q;have q:(pickOrder (wd.params.setOrder a ep) es)[i]?=none:=q;rw[eg,q];rfl
 |plain j' e d l r f x q=>
  have jj:j'=j:=by injection hv with q _;lia
  subst jj;rw[if_neg (by rw[e];exact aV)];have bi:=Hy r (i:=i) (j:=j') on q;split
  ·rename_i c;exact absurd ((show(!t.plain&&decide (es.size > 1))=true from c).symm.trans d) pv
  refine ae ?_;show wpAny _ _ (if (!t.led && !es.isEmpty)=true then unsupported "set:maker-not-led" else pure ()) _ _ _;rw[l,if_neg (by exact aV)];refine ah (ah ?_);show R (match es[SetTable.below t.place j']?,t.place[SetTable.below t.place j']? with|some (_,x),some k=>some (x,k+1)|_,_=>none) z0;rw[bi]
  rcases dz i es.size with c|c
  ·rw[cP c,cP (by lia:i<t.place.size)];refine fin _ (λ v k z=>?_) λ z=>by cases z
   cases z;exact⟨by rw[x,bc,bE,cP c];rfl,.plain _ e d l r f x (.inr ⟨i,_,fu,cP _,fu⟩)⟩
  ·rw[oD c];exact fin _ (λ v k z=>by cases z) λ _=>by rw[x,bc,bE,oD c];rfl
 |drawn ps e p g x=>cases hv
end
section
variable {pg:Program}{wd:World}{B:Around}{X0:VS}{z0:Shared}{es:Array (Int×Value)}{t:SetTable}{a I T:Addr}{ep i:Nat}{xs:LV}
noncomputable def SIt(wd:World)(es:Array (Int×Value))(ep:Nat)(t:SetTable)(a I T:Addr)(xs:LV)(i:Nat)(h:Heap):Prop:=∃v,h.get? I=some (siO v i a es.size ep)/\h.get? a=some (cq es ep t)/\Md wd es ep t a T xs i h v
def Md.frame{h h':Heap}(k:∀o,h.get? T=some o->h'.get? T=some o)(m:Md wd es ep t a T xs i h v):Md wd es ep t a T xs i h' v:=by
 cases m with
 |text e x=>exact .text e x
 |plain j e d l r f x q=>exact .plain j e d l r f x q
 |drawn ps e p g x=>exact .drawn ps e p (k _ g) x
theorem wO{R:Option Value->Shared->Prop}{z:Shared}(hh:B.handled=none)(fin:∀h',(∀c o,z.heap.get? c=some o->h'.get? c=some o)->R none { z with heap:=h' }) :
  wpAny (model pg wd) B.in1 (newExc (.type "StopIteration") [] >>= λ e=>raiseNew e) Q (λ e z'=>wpAny (model pg wd) B (isInstance e (.type "StopIteration") >>= λ c=>if c=true then pure (none:Option Value) else throw e) R X0 z') z:=by
 refine ae ?_;simp only[newExc,newTuple];refine ae (cn ?_ (by size_fits));refine ae (m:=firstArgMember _ _) (cW (a:=Value.none) (by first|rfl|(simp only[firstArgMember];rfl)) ?_);refine cn ?_ (by size_fits);simp only[raiseNew];refine ae (s3g ?_);rw[show B.in1.handled=none from hh];refine ae (ah (s4h ?_));refine ae (iX (T := "StopIteration") (b:=true) ⟨_,aL _ rfl,fu⟩ s2h ?_);exact ah (fin _ λ c o e=>ay _ (ay _ e))
theorem wP{R:Option Value->Shared->Prop}(hh:B.handled=none)(ai:a≠I)(ti:T≠I)(ft:t.fits es.size=true)(hi:i<=es.size)(st:SIt wd es ep t a I T xs i z0.heap)
  (f1:∀v h',xs[i]?=some v->SIt wd es ep t a I T xs (i+1) h'->(∀c o,c≠I->z0.heap.get? c=some o->h'.get? c=some o)->R (some v) { z0 with heap:=h' })
  (f2:∀h',xs[i]?=none->(∀c o,c≠I->z0.heap.get? c=some o->h'.get? c=some o)->R none { z0 with heap:=h' }) :
  wpAny (model pg wd) B (pyNext (.ref I)) R X0 z0:=by
 obtain⟨v,ho,hs,m⟩:=st;have hT:z0.TypeIs (.ref I) "set_iterator" := ⟨_,ho,rfl⟩;unfold pyNext;refine ae (jV (im (name:=Str.ofString "__next__") hT si_next (dc si_next hT Hq ?_ (Ht _))));unfold Builtin.«set_iterator.__next__»;refine ae (cW (a:=(Value.ref I,[])) rfl ?_);dsimp only;refine ae (wpAny_fieldsOf ho rfl ?_);dsimp only;refine ae (s2u hs rfl ft ?_);rw[if_neg BT]
 have kd:(∃j:Nat,v=.int j 0)\/v=.ref T:=by
  cases m with
  |text e x=>exact .inl ⟨0,rfl⟩
  |plain j=>exact .inl ⟨j,rfl⟩
  |drawn=>exact .inr rfl
 rcases kd with ⟨j,rfl⟩|rfl
 ·dsimp only;refine ae (Hz hs ft hi m λ o g1 g2=>?_)
  cases o with
  |some p=>
   obtain⟨u,k⟩:=p;obtain⟨x1,m1⟩:=g1 u k rfl;dsimp only;refine ae (fU ho BT λ h1 o1 s1=>?_);refine ae (fU o1 BT λ h2 o2 s2=>?_);refine ah ⟨_,fu,ah (f1 u h2 x1 ⟨.int k 0,?_,?_,m1.frame λ o e=>?_⟩ λ c o ci e=>?_)⟩
   ·rw[o2];simp[rawInt,siO]
   ·exact s2.extBut _ _ ai (s1.extBut _ _ ai hs)
   ·exact s2.extBut _ _ ti (s1.extBut _ _ ti e)
   ·exact s2.extBut _ _ ci (s1.extBut _ _ ci e)
  |none=>
   dsimp only;refine ae (fU ho BT λ h1 o1 s1=>?_);exact wO hh λ h2 k2=>f2 h2 (g2 rfl) λ c o ci e=>k2 c o (s1.extBut _ _ ci e)
 ·dsimp only
  cases m with
  |drawn ps e p g x=>
  refine ae (eF g rfl ?_);dsimp only;rw[oo,bc]
  cases ep0:ps[((i:Nat):Int).toNat]? with
  |some k=>
   rw[Int.toNat_natCast] at ep0;have kl:k<es.size:=bU.mp (p.mem_iff.mp (aK ep0));have hx:xs[i]?=some (es[k].2):=by rw[x,bc,ep0];simp[kl]
   show wpAny _ _ (setNextDrawn a ((k:Nat):Int).toNat ((ep:Nat):Int).toNat >>= _) _ _ _;refine ae ?_;unfold setNextDrawn;refine ae (fX hs rfl ft ?_);dsimp only;rw[if_neg BT];rw[Int.toNat_natCast,cP kl];refine ah ?_;refine ae (fU ho BT λ h1 o1 s1=>?_);refine ah ⟨_,fu,ah (f1 _ h1 hx ⟨.ref T,?_,?_,.drawn ps e p (s1.extBut _ _ ti g) x⟩ λ c o ci e=>s1.extBut _ _ ci e)⟩
   ·rw[o1];simp[rawInt,siO]
   ·exact s1.extBut _ _ ai hs
  |none=>
   rw[Int.toNat_natCast] at ep0;have hx:xs[i]?=none:=by rw[x,bc,ep0];rfl
   dsimp only[Option.map];refine ae (fU ho BT λ h1 o1 s1=>?_);refine ae (fU o1 BT λ h2 o2 s2=>?_);exact wO hh λ h3 k3=>f2 h3 hx λ c o ci e=>k3 c o (s2.extBut _ _ ci (s1.extBut _ _ ci e))
theorem HA(hh:B.handled=none)(ai:a≠I)(ti:T≠I)(ft:t.fits es.size=true)(xl:xs.length=es.size):Walks pg wd B I [I,a,T] [I] es.size (λ i v=>xs[i]?=some v) (SIt wd es ep t a I T xs) where
 sub:=λ b hb=>by simp at hb;simp[hb]
 frame:=λ i h h' ⟨v,g1,g2,m⟩ k=>⟨v,k I BT _ g1,k a BT _ g2,m.frame λ o e=>k T BT _ e⟩
 item:=λ i s Q E hi st hQ=>wP hh ai ti ft (cu hi) st (λ v h' e st' k=>hQ v h' s.toks e st' λ c o n e=>k c o (by simpa using n) e) λ h' e _=>by
  rw[aC on] at e;cases e
 done:=λ s Q E st hQ=>wP hh ai ti ft (aj _) st (λ v h' e _ _=>by rw[fV on] at e;cases e) λ h' _ k=>hQ h' s.toks λ c o n e=>k c o (by simpa using n) e
 self:=λ i s Q E ⟨v,g,_⟩ hQ=>by
  have hT:s.TypeIs (.ref I) "set_iterator" := ⟨_,g,rfl⟩;refine qU hT wJ (dc wJ hT Hr ?_ (Hu _));show wpAny _ _ (ret (.ref I)) _ _ s;exact ah ⟨_,fu,"set_iterator",_,hT,si_next.lookup,hQ⟩
end
section
variable {pg:Program}{wd:World}{B:Around}{X0:VS}{z0:Shared}{es:Array (Int×Value)}{t:SetTable}{a I T:Addr}{ep i:Nat}{xs:LV}{M:LI}
def HB(h:t.fits n=true):t.place.size=n:=by
 unfold SetTable.fits at h;rw[bg] at h;exact eV.mp h.1
theorem HC{R:VS}(hs:z0.heap.get? a=some (cq es ep t))(ft:t.fits es.size=true)(tb:Tb (!byT wd) t)(zl:es.size<=sizeLine)
  (fin:∀h' d I T xs,(∀c o,z0.heap.get? c=some o->h'.get? c=some o)->z0.heap.objs.size<=I->(T=a\/z0.heap.objs.size<=T)->a≠I->T≠I->xs.Perm (es.toList.map (·.2))->SIt wd es ep t a I T xs 0 h'->R (.ref I) { z0 with heap:=h',drawn:=d }) :
  wpAny (model pg wd) B (pyIter (.ref a)) R X0 z0:=by
 have hT:z0.TypeIs (.ref a) "set" := ⟨_,hs,rfl⟩;have lt:a<z0.heap.objs.size:=az hs;refine qU hT F.slot_set_iter (dc F.slot_set_iter hT Hs ?_ (F.args_set_iter_1 _));unfold Builtin.«frozenset.__iter__»;refine ae (cW (a:=a) rfl ?_);refine ae ?_;unfold Builtin.Frozenset.sizeOf;refine ae (s2u hs rfl ft (ah ?_));refine ae ?_;unfold setDrawn;refine ae (fX hs rfl ft ?_);dsimp only;refine ae (sh (ah ?_));split
 ·rename_i c;have c:(!byT wd&&(!t.plain&&decide (es.size > 1)))=true:=c;have e:byT wd=false:=by cases q:byT wd<;>simp_all
  refine ae (wM _ _ _ _ (bd) λ ps d pm=>?_);refine ae (lY (items:=ps.map λ i:Nat=>rawInt i) ?_ (by rw[aq,pm.length_eq,bd];exact zl));have hs1:=ay { cls:=.type "tuple",data:=.seq (ps.map λ i:Nat=>rawInt i).toArray } hs;refine ae (wpAny_setEpoch_of hs1 rfl ft ?_);simp only[newFields];refine ae (cn (ah ⟨_,fu,"set_iterator",_,⟨_,aL _ rfl,fu⟩,si_next.lookup,?_⟩));refine fin _ d _ z0.heap.objs.size (ps.map λ k=>((es[k]?).map (·.2)).getD .none) (λ c o e=>ay _ (ay _ e)) (by rw[dh];exact jQ _) (.inr (aj _)) ?_ ?_ ?_ ⟨_,aL _ rfl,ay _ hs1,.drawn ps e pm (ay _ (aL _ rfl)) rfl⟩
  ·rw[dh];exact aJ (cL lt)
  ·rw[dh];exact aJ (eU _)
  ·rw[<- Hx es (·.2) Value.none];exact pm.map _
 ·rename_i c;have c:(!byT wd&&(!t.plain&&decide (es.size > 1)))=false:=Bool.eq_false_iff.mpr c;refine ae (ah ?_);refine ae (wpAny_setEpoch_of hs rfl ft ?_);simp only[newFields];refine ae (cn (ah ⟨_,fu,"set_iterator",_,⟨_,aL _ rfl,fu⟩,si_next.lookup,?_⟩));have aI:a≠z0.heap.objs.size:=aJ lt
  have go:∀xs,xs.Perm (es.toList.map (·.2))->Md wd es ep t a a xs 0 (z0.heap.push (siO (.int (0:Nat) 0) 0 a es.size ep)) (.int (0:Nat) 0)->R (.ref z0.heap.objs.size) { z0 with heap:=z0.heap.push (siO (.int (0:Nat) 0) 0 a es.size ep) }:=λ xs px m=>
   fin _ z0.drawn _ a xs (λ c o e=>ay _ e) (aj _) (.inl rfl) aI aI px ⟨_,aL _ rfl,ay _ hs,m⟩
  cases e:byT wd with
  |true=>exact go _ ((Hw _ _).map _) (.text e rfl)
  |false=>
   rw[e] at c;exact go _ (.refl _) (.plain 0 e (by simpa using c) (by rw[tb.1,e];rfl) tb.2 (HB ft) rfl (.inl ⟨fu,fu⟩))
end
section
variable {pg:Program}{wd:World}{B:Around}{X0:VS}{z0:Shared}{es:Array (Int×Value)}{t:SetTable}{a I T:Addr}{ep i:Nat}{xs:LV}{M:LI}
def HD{R:Bool->Shared->Prop}(hT:z0.TypeIs (.ref a) "set")(h:R false z0):wpAny (model pg wd) B (Builtin.List.listLengthHint (.ref a)) R X0 z0:=by
 unfold Builtin.List.listLengthHint;refine ae (fN hT PySem.F.slot_set_len.lookup ?_);generalize hid:("set.__len__" : String)=id0
 wp_delta
 rw[show splitId id0=some ("set","__len__") from by subst hid;decide +kernel];subst hid;refine ae (iX (T := "set") (b:=true) hT (by rw[fK];kernel_rfl) ?_);refine mi (λ c=>absurd c pv) λ _=>?_;exact mi (λ _=>ae (eo hT (ah h))) λ c=>absurd (by decide +kernel) c
theorem wQ{R:LV->Shared->Prop}(hh:B.handled=none)(hs:z0.heap.get? a=some (cq es ep t))(ft:t.fits es.size=true)(tb:Tb (!byT wd) t)(zl:es.size<=sizeLine)
  (fin:∀(h':Heap) (d:Drawn) (tk:Nat) (ac:LV),(∀c o,z0.heap.get? c=some o->h'.get? c=some o)->ac.Perm (es.toList.map (·.2))->R ac { z0 with heap:=h',drawn:=d,toks:=tk }) :
  wpAny (model pg wd) B (collect (.ref a)) R X0 z0:=by
 have lt:a<z0.heap.objs.size:=az hs;unfold collect;refine ae (og (cD entry_proto_collect' ?_));rw[cM PySem.F.plain_proto_collect _];show wpAny _ B.in1 (newList [] >>= λ l=>again (.builtin "list.__iadd__" ⟨[l,.ref a],[]⟩)) _ _ z0;refine ae (cn ?_);refine ah ⟨cE s0j _,cD entry_list_iadd' ?_⟩;rw[cM s0j _];have gS:(z0.heap.push { cls:=.type "list",data:=.seq ([]:LV).toArray }).get? z0.heap.objs.size=some { cls:=.type "list",data:=.seq #[] }:=aL _ rfl;have hs1:=ay { cls:=.type "list",data:=.seq ([]:LV).toArray } hs;show wpAny _ B.in1 (Builtin.List.listExtendWith (.ref z0.heap.objs.size) (.ref a) (.ref z0.heap.objs.size)) _ _ _;unfold Builtin.List.listExtendWith;refine ae (eo (T := "set") ⟨_,hs1,fu⟩ ?_);rw[if_neg (by simp[Builtin.List.listSameRef,fF lt])];refine ae (HC hs1 ft tb zl λ h1 d I T xs k1 bI bT aI tI px st=>?_);have hs2:=k1 _ _ hs1;refine ae (bv (HD ⟨_,hs2,fu⟩ ?_));rw[dh] at bI bT;have nI:z0.heap.objs.size≠I:=aJ bI;have nT:z0.heap.objs.size≠T:=bT.elim (λ r=>r ▸ fF lt) λ r=>aJ r;have xl:xs.length=es.size:=px.length_eq.trans BT;have na:z0.heap.objs.size≠a:=fF lt;have W:=HA (pg:=pg) (wd:=wd) (B:=B.in1) (ep:=ep) (t:=t) hh aI tI ft (px.length_eq.trans (by rw[aq,Array.length_toList]))
 have go:∀(h2:Heap) (c2:Nat),(∀c o,c≠z0.heap.objs.size->h1.get? c=some o->h2.get? c=some o)->h2.get? z0.heap.objs.size=some { cls:=.type "list",data:=.seq #[] c2 } ->
   codeAny (model pg wd) B (.builtin "list.extend.loop" ⟨[.ref z0.heap.objs.size,.ref I,.ref z0.heap.objs.size],[]⟩) (λ q z'=>∃(h':Heap) (tk:Nat) (ac:Array Value) (c':Nat),q=.ok (.ret (.ref z0.heap.objs.size))/\z'={ z0 with heap:=h',drawn:=d,toks:=tk } /\
    (∀c o,z0.heap.get? c=some o->h'.get? c=some o)/\h'.get? z0.heap.objs.size=some { cls:=.type "list",dict:=none,data:=.seq ac c',slots:=#[] }/\ItemsOf (λ i v=>xs[i]?=some v) ac es.size) { z0 with heap:=h2,drawn:=d }:=by
  intro h2 c2 k2 g2;have st2:SIt wd es ep t a I T xs 0 h2:=W.frame 0 h1 h2 st λ c hc o e=>k2 c o (λ z=>by subst z;simp at hc;rcases hc with r|r|r;exact nI r;exact na r;exact nT r) e;refine oi W.toS zl z0.heap.objs.size (by simp;exact⟨nI,na,nT⟩) _ es.size 0 _ #[] c2 rfl (aX _) st2 g2 (s2r _) λ s' ac c' hm gs' it=>?_;rw[Moved.eq_with hm];refine⟨s'.heap,s'.toks,ac,c',fu,fu,λ c o e=>hm.heap c o (λ hmem=>?_) (k2 c o (aJ (az e)) (k1 c o (ay _ e))),gs',it⟩;have lc:=az e;simp at hmem
  rcases hmem with r|r
  ·exact absurd (r ▸ lc) (cG _)
  ·exact absurd (iZ (r ▸ lc) bI) (cG _)
 have last:∀(ac:Array Value),ItemsOf (λ i v=>xs[i]?=some v) ac es.size->ac.toList.Perm (es.toList.map (·.2)):=λ ac it=>by
  have e:ac.toList=xs:=kc λ i=>by
   rcases dz i ac.size with c|c
   ·rw[bE,cP c];exact(it.2 i _ (cP c)).symm
   ·rw[bE,oD c,fV];have:=it.1;lia
  rw[e];exact px
 have close:∀q z',(∃(h':Heap) (tk:Nat) (ac:Array Value) (c':Nat),q=.ok (.ret (.ref z0.heap.objs.size))/\z'={ z0 with heap:=h',drawn:=d,toks:=tk } /\
    (∀c o,z0.heap.get? c=some o->h'.get? c=some o)/\h'.get? z0.heap.objs.size=some { cls:=.type "list",dict:=none,data:=.seq ac c',slots:=#[] }/\ItemsOf (λ i v=>xs[i]?=some v) ac es.size)->wants (λ v z=>wpAny (model pg wd) B (match v with
     |.ref a=>load a >>= λ o=>(match o.data with|.seq xs _=>pure xs.toList|_=>unsupported "internal:collect")
     |_=>unsupported "internal:collect") R X0 z) X0 q z':=by
  rintro q z' ⟨h',tk,ac,c',rfl,rfl,k,g,it⟩;show wpAny _ B (load z0.heap.objs.size >>= _) _ _ _;exact ae (s1v g (ah (fin h' d tk ac.toList k (last ac it))))
 refine mi (λ _=>?_) λ _=>ah ⟨cE wT _,gE (go h1 0 (λ c o _ e=>e) (k1 _ _ gS)) close⟩;refine ae (fO (ae ?_));show wpAny _ _ (updateSeq z0.heap.objs.size (·.push .none) >>= λ _=>updateSeq z0.heap.objs.size (·.pop)) _ _ _;refine ae (iz (k1 _ _ gS) rfl ?_);have g2:=eE (Obj.mapSeq (·.push Value.none)) (k1 _ _ gS) rfl;refine iz (hz:=by seq_fits) g2 rfl ?_;have g3:=eE (Obj.mapSeq (·.pop)) g2 rfl;exact ah ⟨cE wT _,gE (go _ _ (λ c o ne e=>(df _ _ (bh ne)).trans ((df _ _ (bh ne)).trans e)) g3) close⟩
end
theorem wV:∀(l:LV),(∀v∈l,∃n t,v=Value.int n t)->IntsAre l (l.map λ v=>kI (0,v))
 |[],_=>.nil
 |v::r,h=>by
  obtain⟨n,t,rfl⟩:=h v bJ;exact .cons n t (wV r λ u hu=>h u (bO _ hu))
section
variable {pg:Program}{wd:World}{B:Around}{X0:VS}{z0:Shared}{a:Addr}{M:LI}
theorem HE{R:VS}(hh:B.handled=none)(hS:gI pg wd (!byT wd) M a z0.heap)(m64:∀ms:LI,ms.Nodup->(∀k,k∈ms ↔ k∈M)->ms.length<64)
  (fin:∀(h1 h2:Heap) (vs':LV) (ns':LI) (e tk:Nat) (d:Drawn),(∀b u,z0.heap.get? b=some u->h1.get? b=some u)->(∀b u,h1.get? b=some u->h2.get? b=some u)->h2.get? h1.objs.size=some (seqObj "list" vs'.toArray e)->IntsAre vs' ns'->ns'.Pairwise (· < ·)->(∀k,k∈ns' ↔ k∈M)->ns'.length<64->R (.ref h1.objs.size) { z0 with heap:=h2,drawn:=d,toks:=tk }) :
  wpAny (model pg wd) B (call (.builtin "sorted") [.ref a]) R X0 z0:=by
 obtain⟨es,ep,t,ho,T⟩:=hS;have e64:es.size<64:=by have:=m64 _ T.nd T.mm;simpa using this
 have zl:es.size<=sizeLine:=cu (aP on);refine qX s4i s4a s4b (s4c _) ?_;unfold Builtin.«sorted»;refine ae (m:=checkCount "sorted" 1 1 _) (ah ?_);refine ae (wQ (B:=B.in1) hh ho T.ft T.tb zl λ h1 d tk ac k1 pm=>?_);have al:ac.length=es.size:=pm.length_eq.trans BT
 have hI:IntsAre ac (ac.map λ v=>kI (0,v)):=wV ac λ v hv=>by
  obtain⟨e,he,rfl⟩:=aW.mp (pm.mem_iff.mp hv);obtain⟨⟨k,hk,_⟩,_⟩:=T.el e he;obtain⟨u,q⟩:=hG (k:=k) hk;exact⟨k,u,q⟩
 have pk:(ac.map λ v=>kI (0,v)).Perm (es.toList.map kI):=(pm.map λ v=>kI (0,v)).trans (by rw[bq];exact .refl _);refine ae (s0f ?_ (by rw[al];exact zl));have g1:(h1.push (seqObj "list" ac.toArray 0)).get? h1.objs.size=some (seqObj "list" ac.toArray 0):=aL _ rfl;refine ae (bv (dc s2k ⟨_,g1,fu⟩ s1i (list_sort_tree g1 hI on λ out ns' a1 a2 a3=>⟨_,fu,?_⟩) (s2l _)));refine ah ⟨_,fu,?_⟩;obtain⟨e,he⟩:=s3k (vs:=ac) (out:=out) g1;have nd:ns'.Nodup:=(a2.trans pk).nodup_iff.mpr T.nd;refine fin h1 _ out.toList ns' e tk d k1 (λ b u q=>?_) (by rw[qY];exact he) a1 ?_ (λ k=>((a2.trans pk).mem_iff).trans (T.mm k)) (by have l1:=a2.length_eq;rw[aq] at l1;lia)
 ·have lt:=az q;rw[s2m (aJ lt) (by rw[size_push'];exact cL lt)];exact ay _ q
 ·have both:=List.Pairwise.and a3 nd;exact both.imp λ h=>by lia
end
def HF(hc:X.calm=true):bo X (.type "set") (λ xs H Q=>∃p ns,xs=[.ref p]/\SqL X.K H p (List.map V.int ns)/\ns.length<=1000/\∀l,H l=none->Q (.ref l) (upd H l (.ext (gI X.prog X.w (!byT X.w) ns l)))):=by
 intro pins s σ H xs us Q I r h;obtain⟨p,ns,rfl,hq,hn,q⟩:=h;obtain⟨u,rfl,rx⟩:=bW r;cases rx;obtain⟨its,r',pl,hz⟩:=I.list hq;have hi:=iU r';refine Ho (ns:=ns) (I.ok.hd hc) pl.isList hi (lL (jR hn) pv) λ h' tk so ol=>?_;refine⟨.ref s.heap.objs.size,_,I.laid (a:=s.heap.objs.size) (o:=.ext (gI X.prog X.w (!byT X.w) ns s.heap.objs.size)) (h':=h') (t':=tk) ol (aj _) ⟨so,?_,?_⟩,fu,q _ (I.hok.fresh (aj _))⟩
 ·obtain⟨es,ep,t,g,_⟩:=so;exact⟨_,g⟩
 ·rintro h1 h2 ⟨es,ep,t,g,T⟩ k;exact⟨es,ep,t,k _ g,T⟩
def HG(hc:X.calm=true):bo X (.builtin "sorted") (λ xs H Q=>∃p ns,xs=[.ref p]/\H p=some (.ext (gI X.prog X.w (!byT X.w) ns p))/\(∀ms:LI,ms.Nodup->(∀k,k∈ms ↔ k∈ns)->ms.length<64)/\∀ns':LI,ns'.Pairwise (· < ·)->(∀k,k∈ns' ↔ k∈ns)->∀l,H l=none->Q (.ref l) (upd H l (.lst (ns'.map V.int)))):=by
 intro pins s σ H xs us Q I r h;obtain⟨p,ns,rfl,hp,h64,q⟩:=h;obtain⟨u,rfl,rx⟩:=bW r;cases rx;have so:=(show ObjOk X.prog X.w H s.heap p (.ext (gI X.prog X.w (!byT X.w) ns p)) from I.hok p _ hp).1;refine HE (I.ok.hd hc) so h64 λ h1 h2 vs' ns' e tk d k1 k2 g a1 a2 a3 a4=>?_;have I0:Inv X pins σ H { s with drawn:=d }:=⟨I.ok,I.os,I.bare,I.base,I.loc,I.cell,I.free,I.freeC,I.pin,I.hok,I.len⟩;have I1:Inv X pins σ H { s with heap:=h1,drawn:=d,toks:=tk }:=I0.kept (t':=tk) k1;have hz:(ns'.map V.int).length<=sizeLine:=by rw[aq];exact cu (aP on)
 have I2:Inv X pins σ (upd H h1.objs.size (.lst (ns'.map V.int))) { s with heap:=h2,drawn:=d,toks:=tk }:=I1.laid (t':=tk) k2 (aj _) (show ObjOk X.prog X.w _ _ _ (.lst (ns'.map V.int)) from ⟨hz,vs',e,nV a1,g⟩);exact⟨.ref h1.objs.size,_,I2,fu,q ns' a2 a3 _ (I1.hok.fresh (aj _))⟩
section
variable {pg:Program}{wd:World}{B:Around}{X0:VS}{z0:Shared}{a:Addr}
def HH:typeLookup (.type "list") "keys"=pure none:=by rw[dG,dH];kernel_rfl
theorem HI{sl:AV}{R:Option Value->Shared->Prop}(hx:z0.heap.get? a=some { cls:=.type "list",dict:=none,data:=.seq xs k,slots:=sl })(hA:B.handled=none)
  (fin:∀h' tk,(∀c o,z0.heap.get? c=some o->h'.get? c=some o)->R none { z0 with heap:=h',toks:=tk }):wpAny (model pg wd) B (getAttr? (.ref a) "keys") R X0 z0:=by
 obtain⟨hp,g,d,tk,os⟩:=z0;have hT:∀tk',(⟨hp,g,d,tk',os⟩:Shared).TypeIs (.ref a) "list" := λ _=>⟨_,hx,rfl⟩;have f1:=sub_AttributeError;have f3:=F.slot_list_getattribute.lookup;have f4:=F.slot_list_getattribute.bind (.ref a);have f5:=am_list_getattr_none;unfold getAttr? getAttrBy? getAttrBy
 repeat (any_goals (first|assumption|exact hT _|((with_reducible show wpAny _ _ (call (Value.builtin "list.__getattribute__") _ _) _ _ _);refine iq F.slot_list_getattribute (hT _) am_entry_list_getattribute (F.args_list_getattribute_2 _ _) (meets_getattribute_miss_list a xs k sl "keys" _ HH pv pv) ⟨hx,hA,λ h' tk' e hx'=>?_⟩)|wp_step))
 obtain⟨t',u',he⟩:=hx'.there;show wpAny _ _ (getattributeRaised _ _ _ _ _ _ _) _ _ _;unfold getattributeRaised
 repeat (any_goals (first|assumption|wp_step))
 exact fin _ _ hx'.keeps
end
def wW:entryFor table "dict.update.loop"=some Builtin.«dict.update.loop»:=nX (by kernel_rfl)
def oM:plainId "dict.update.loop"=true:=by decide +kernel
section
variable {pg:Program}{wd:World}{B:Around}{X0:VS}{z0:Shared}{a:Addr}
noncomputable def HJ(h:Heap)(p:Int×Int)(v:Value):Prop:=∃c t1 t2,v=.ref c/\IsTup h c #[.int p.1 t1,.int p.2 t2]
noncomputable def Kvs:List (Int×Int)->List (Key×Value)->Prop:=Paired λ(p:Int×Int) (q:Key×Value)=>q.1=Sum.inl p.1/\∃t,q.2=Value.int p.2 t
noncomputable def su(pg:Program)(wd:World)(ps:List (Int×Int))(d:Addr)(h:Heap):Prop:=∃kvs,Kvs ps kvs/\h.DictOf (cF pg wd) d kvs
theorem Kvs.keys:∀ {ps:List (Int×Int)}{kvs:List (Key×Value)},Kvs ps kvs->kvs.map (·.1)=ps.map λ p=>(Sum.inl p.1:Key)
 |[],_,.nil=>rfl
 |_::_,_,.cons h r=>by rw[bw,bw,Kvs.keys r,h.1]
theorem Kvs.push{p:Int×Int}{q:Key×Value}(h:q.1=Sum.inl p.1/\∃t,q.2=Value.int p.2 t):∀ {ps:List (Int×Int)}{kvs:List (Key×Value)},Kvs ps kvs->Kvs (ps++[p]) (kvs++[q])
 |[],_,.nil=>.cons h .nil
 |_::_,_,.cons g r=>.cons g (Kvs.push h r)
theorem HK{l I d:Addr}{items:Array Value}{ps:List (Int×Int)}{R:Result->Shared->Prop}(hh:B.handled=none)(lI:l≠I)(dI:d≠I)(dl:d≠l)(sz:items.size=ps.length)(nd:(ps.map (·.1)).Nodup)(zl:ps.length<=sizeLine) :
  ∀(k i:Nat) (z:Shared),ps.length-i=k->i<=ps.length->z.heap.IsListIter I l i->z.heap.IsList l items->(∀(j:Nat) (p:Int×Int),ps[j]?=some p->∃v,items[j]?=some v/\∃c t1 t2,v=.ref c/\c≠d/\c≠I/\IsTup z.heap c #[.int p.1 t1,.int p.2 t2])->su pg wd (ps.take i) d z.heap ->
   (∀h' tk,(∀c o,c≠d->c≠I->z.heap.get? c=some o->h'.get? c=some o)->su pg wd ps d h'->R (.ok (.ret .none)) { z with heap:=h',toks:=tk }) ->
   codeAny (model pg wd) B (.builtin "dict.update.loop" ⟨[.ref d,.ref I,rawInt i,.none],[]⟩) R z:=by
 have W:=s3v (prog:=pg) (w:=wd) (A:=B.in1) hh I l lI items;intro k
 induction k with
 |zero=>
  intro i z hk hle it il hp hS fin;have e:i=ps.length:=on;subst e;refine cD wW ?_;rw[cM oM _];show wpAny _ B.in1 (pyNext (.ref I) >>= _) _ _ z;refine ae (W.done z _ _ (by rw[sz];exact⟨it,il⟩) λ h' tk kp=>?_);show wpAny _ _ (Builtin.Dict.addKeywords d [] >>= λ _=>ret Value.none) _ _ _;rw[cX] at hS;obtain⟨kvs,hv,hd⟩:=hS;exact ae (ah (ah (fin h' tk (λ c o _ cI q=>kp c o (by simpa using cI) q) ⟨kvs,hv,let ⟨o,es,ep,ho,r⟩:=hd;⟨o,es,ep,kp d _ (by simpa using dI) ho,r⟩⟩)))
 |succ k ih=>
  intro i z hk hle it il hp hS fin;have lt:i<ps.length:=on;refine cD wW ?_;rw[cM oM _];show wpAny _ B.in1 (pyNext (.ref I) >>= _) _ _ z;refine ae (W.item i z _ _ on ⟨it,il⟩ λ v h' tk hv st kp=>?_);obtain⟨v',ev,c,t1,t2,rfl,cd,cI,tp⟩:=hp i _ (aC lt);rw[ev] at hv;cases hv;have tp':IsTup h' c #[.int ps[i].1 t1,.int ps[i].2 t2]:=let ⟨o,e,r⟩:=tp;⟨o,kp c o (by simpa using cI) e,r⟩;obtain⟨kvs,hv,hd⟩:=hS;have hd':h'.DictOf (cF pg wd) d kvs:=let ⟨o,es,ep,ho,r⟩:=hd;⟨o,es,ep,kp d _ (by simpa using dI) ho,r⟩;obtain⟨ot,gt,ct,nt,dt⟩:=id tp';have kl:kvs.length=i:=by have:=bu List.length hv.keys;simpa [gG hle] using this
  have fresh:¬(kvs.any λ kv=>decide (kv.1=(Sum.inl ps[i].1:Key)))=true:=λ h=>by
   obtain⟨kv,hkv,e⟩:=List.any_eq_true.mp h;have e:=ax e;have m:(Sum.inl ps[i].1:Key)∈kvs.map (·.1):=aW.mpr ⟨kv,hkv,e⟩;rw[hv.keys] at m;obtain⟨p,hp1,hp2⟩:=aW.mp m;have hp2:p.1=ps[i].1:=by injection hp2
   obtain⟨j,hj,rfl⟩:=rK.mp hp1;have:=(lZ.mp nd) j i (by rw[aq];lia) (by rw[aq];lia) on;rw[oC,oC] at this;exact this hp2
  have st1:stored kvs (Sum.inl ps[i].1:Key) (.int ps[i].2 t2)=kvs++[(Sum.inl ps[i].1,.int ps[i].2 t2)]:=by unfold stored;exact if_neg fresh
  have tt:ps.take (i+1)=ps.take i++[ps[i]]:=by rw[mf,aC lt];rfl
  refine ae (bv (ae (jb ?_)));unfold Builtin.Dict.pairItems;refine ae (eo (T := "tuple") ⟨ot,gt,ct⟩ ?_);rw[if_pos pv];refine ae (eF gt dt (ah ?_));refine bv (wpAny_dictSet_pairs (knd:=cF pg wd) (k:=Sum.inl ps[i].1) (key:=.int ps[i].1 t1) (v:=.int ps[i].2 t2) (uJ _ t1) hd' (λ h2 hd2 sb=>?_) on);rw[st1] at hd2;refine ah ⟨cE oM _,?_⟩
  have kp2:∀c o,c≠d->c≠I->z.heap.get? c=some o->h2.get? c=some o:=λ c o ca cI q=>by
   rw[sb.2 c ca];exact kp c o (by simpa using cI) q
  have go:=ih (i+1) { z with heap:=h2,toks:=tk+1 } on lt (st.1.at λ o e=>by rw[sb.2 I (bh dI)];exact e) (st.2.at λ o e=>by rw[sb.2 l (bh dl)];exact e)
   (λ j p hj=>by
    obtain⟨v,e1,c,t1,t2,e2,c1,c2,o,g,r⟩:=hp j p hj
    exact⟨v,e1,c,t1,t2,e2,c1,c2,o,kp2 c o c1 c2 g,r⟩)
   ⟨_,by rw[tt];exact hv.push ⟨rfl,t2,rfl⟩,hd2⟩ λ h3 tk3 kp3 hS3=>fin h3 tk3 (λ c o ca cI q=>kp3 c o ca cI (kp2 c o ca cI q)) hS3
  exact go
end
section
variable {pg:Program}{wd:World}{B:Around}{X0:VS}{z0:Shared}{a:Addr}
theorem HL{l:Addr}{sl:AV}{ps:List (Int×Int)}{R:VS}(hh:B.handled=none)(gl:z0.heap.get? l=some { cls:=.type "list",dict:=none,data:=.seq items kk,slots:=sl })
  (sz:items.size=ps.length) (nd:(ps.map (·.1)).Nodup) (zl:ps.length<=sizeLine) (hp:∀(j:Nat) (p:Int×Int),ps[j]?=some p->∃v,items[j]?=some v/\HJ z0.heap p v)
  (fin:∀(h':Heap) (tk:Nat),su pg wd ps z0.heap.objs.size h'->(∀c o,z0.heap.get? c=some o->h'.get? c=some o)->R (.ref z0.heap.objs.size) { z0 with heap:=h',toks:=tk }) :
  wpAny (model pg wd) B (call (.type "dict") [.ref l]) R X0 z0:=by
 refine s2j (Q₁:=λ v z=>v=.ref z0.heap.objs.size/\z={ z0 with heap:=z0.heap.push { cls:=.type "dict",data:=.dict #[] } }) F.kt_called_dict (F.kt_typeCall_dict_1 _) F.entry_dict_init (kt_code_dict_new _ ⟨fu,fu⟩) ?_;rintro obj z ⟨rfl,rfl⟩;have new:(z0.heap.push { cls:=.type "dict",data:=.dict #[] }).DictOf (cF pg wd) z0.heap.objs.size []:=Heap.DictOf.new z0.heap;have gl1:=ay { cls:=.type "dict",data:=.dict #[] } gl;have ll:l<z0.heap.objs.size:=az gl;refine⟨new.typeIs,F.args_dict_init_2 _ _,?_⟩;unfold Builtin.«dict.__init__»;refine ae ?_;unfold Builtin.Dict.selfAndRest;refine ae (wpAny_notOrdered_dict new.typeIs ?_);show wpAny _ _ (pure (z0.heap.objs.size,[Value.ref l])) _ _ _;refine ah ?_;show wpAny _ _ (Builtin.Dict.updateFrom "dict.__init__" z0.heap.objs.size (.ref l) [] .none) _ _ _;unfold Builtin.Dict.updateFrom;refine ae (eo (T := "list") ⟨_,gl1,fu⟩ ?_);rw[if_pos pv];refine ae (HI gl1 hh λ h1 tk1 k1=>?_);rw[if_pos (show(none:Option Value).isNone=true from rfl)];refine ae (fO ?_);have gl2:=k1 _ _ gl1;have il:h1.IsList l items:=⟨_,gl2,rfl,kk,rfl⟩;refine ae (lS il ?_);obtain⟨od,es,ep,gd,rd⟩:=new;have b0:z0.heap.objs.size<h1.objs.size:=az (k1 _ _ gd);have bl:l<h1.objs.size:=iZ ll b0;refine ah ⟨cE oM _,HK (ps:=ps) (items:=items) (l:=l) (d:=z0.heap.objs.size) (B:=B.in1) hh (aJ bl) (aJ b0) (fF ll) sz nd zl (ps.length-0) 0 _ rfl (aX _) ⟨_,aL _ rfl,fu,fu⟩ (il.push _) (λ j p hj=>?_) ⟨[],.nil,od,es,ep,ay _ (k1 _ _ gd),rd⟩ λ h' tk kp hd=>⟨fu,fin h' tk hd λ c o e=>?_⟩⟩
 ·obtain⟨v,ev,c,t1,t2,rfl,o,g,r⟩:=hp j p hj;have lc:=az g;exact⟨_,ev,c,t1,t2,fu,aJ lc,aJ (iZ lc b0),o,ay _ (k1 _ _ (ay _ g)),r⟩
 ·have lc:=az e;exact kp c o (aJ lc) (aJ (iZ lc b0)) (ay _ (k1 _ _ (ay _ e)))
end
theorem wY{α β:Type}{F:α->β->Prop}:∀ {xs:List α}{ys:List β}{j:Nat}{x:α}{y:β},Paired F xs ys->xs[j]?=some x->ys[j]?=some y->F x y
 |_,_,_,_,_,.nil,e,_=>by cases e
 |_,_,0,_,_,.cons h _,e1,e2=>by cases e1;cases e2;exact h
 |_,_,j+1,_,_,.cons _ r,e1,e2=>wY (j:=j) r e1 e2
theorem wZ:∀ {ps:List (Int×Int)}{kvs:List (Key×Value)},Kvs ps kvs->KV (ps.map λ p=>((Sum.inl p.1:Key),V.int p.2)) kvs
 |[],_,.nil=>.nil
 |_::_,_,.cons h r=>.cons ⟨h.1.symm,by obtain⟨t,e⟩:=h.2;rw[e];exact⟨t,rfl⟩⟩ (wZ r)
def HM(hc:X.calm=true):bo X (.type "dict") (λ xs H Q=>∃p rs ps,xs=[.ref p]/\SqL X.K H p rs/\Paired (λ(r:V) (q:Int×Int)=>∃c,r=.ref c/\SqT X.K H c [.int q.1,.int q.2]) rs ps/\(ps.map (·.1)).Nodup/\∀l,H l=none->Q (.ref l) (upd H l (.dK (ps.map λ q=>((Sum.inl q.1:Key),V.int q.2))))):=by
 intro pins s σ H xs us Q I r h;obtain⟨p,rs,ps,rfl,hq,hr,nd,q⟩:=h;obtain⟨u,rfl,rx⟩:=bW r;cases rx;obtain⟨its,r',pl,hz⟩:=I.list hq;obtain⟨o,n,g,e1,e2,e3⟩:=pl;obtain⟨oc,od,odt,os⟩:=o;simp only at e1 e2 e3;subst e1 e2 e3;have lr:rs.length=ps.length:=kX hr;have li:rs.length=its.length:=r'.length;refine HL (I.ok.hd hc) g (by rw[aM];lia) nd on (λ j p hj=>?_) λ h' tk hd ol=>?_
 ·have jl:j<rs.length:=by rw[lr];exact(br.mp hj).1
  obtain⟨v,ev,rv⟩:=r'.get (aC jl);obtain⟨c,e,sq⟩:=wY hr (aC jl) hj;rw[e] at rv;cases rv;obtain⟨it2,r2,tp,_⟩:=I.tuple sq;obtain⟨v1,v2,rfl,⟨t1,rfl⟩,⟨t2,rfl⟩⟩:=jL r2;exact⟨_,by rw[oo];exact ev,c,t1,t2,fu,tp⟩
 ·obtain⟨kvs,hk,hd⟩:=hd;have lo:(s.heap.objs.size == sysModules)=false:=by have:=I.big;exact beq_false_of_ne (fF this)
  exact⟨.ref s.heap.objs.size,_,I.laid (a:=s.heap.objs.size) (o:=.dK (ps.map λ q=>((Sum.inl q.1:Key),V.int q.2))) (h':=h') (t':=tk) ol (aj _) (Gj (by rw[aq];lia) lo (wZ hk) hd),fu,q _ (I.hok.fresh (aj _))⟩
def eG(m:Nat):Prop:=m=7\/m=31\/m=127
def lcg(m i:Nat):Nat:=(i*5+1)%(m+1)
noncomputable def oN(m:Nat):Nat->Nat->Nat
 |0,i=>i
 |n+1,i=>oN m n (lcg m i)
noncomputable def mj(m:Nat):Nat->Nat->Nat->Nat
 |0,_,b=>b
 |n+1,i,b=>mj m n (lcg m i) (b ||| (1 <<< i))
theorem xa:∀(n i b j:Nat),(mj m n i b).testBit j=true->b.testBit j=true\/∃k,k<n/\oN m k i=j
 |0,_,b,j,h=>.inl h
 |n+1,i,b,j,h=>by
  rcases xa n (lcg m i) _ j h with h|⟨k,hk,e⟩
  ·rw[Nat.testBit_or,jg] at h
   rcases h with h|h
   ·exact .inl h
   ·rw[Nat.testBit_shiftLeft,bg,eZ] at h
    have:j=i:=by
     have h2:=h.2;have h1:=h.1
     rcases Nat.eq_or_lt_of_le h1 with e|e
     ·exact e.symm
     ·have h2:(2 ^ 0).testBit (j-i)=true:=h2;rw[Nat.testBit_two_pow,eZ] at h2;lia
    exact .inr ⟨0,s4d _,this.symm⟩
  ·exact .inr ⟨k+1,on,e⟩
def HN(h:eG m):(List.range (m+1)).all (λ i=>mj m (m+1) i 0 == 2 ^ (m+1)-1)=true:=by
 rcases h with rfl|rfl|rfl<;>decide +kernel
def HP{m i j:Nat}(h:eG m)(hi:i<=m)(hj:j<=m):∃k,k<=m/\oN m k i=j:=by
 have a:=gJ.mp (HN h) i (bU.mpr on);have e:mj m (m+1) i 0=2 ^ (m+1)-1:=eV.mp a;have b:(mj m (m+1) i 0).testBit j=true:=by rw[e,Nat.testBit_two_pow_sub_one];exact bz on
 rcases xa _ _ _ _ b with z|⟨k,hk,e⟩
 ·simp at z
 ·exact⟨k,on,e⟩
noncomputable def lpN(m:Nat):Nat->Nat×Nat->Nat×Nat
 |0,p=>p
 |n+1,p=>lpN m n (SetTable.leap m p.1 p.2)
theorem sv(m:Nat):∀(n:Nat) (p:Nat×Nat),lpN m (n+1) p=SetTable.leap m (lpN m n p).1 (lpN m n p).2
 |0,_=>rfl
 |n+1,p=>by rw[lpN,sv m n];rfl
theorem xc(m:Nat):∀(a b:Nat) (p:Nat×Nat),lpN m (a+b) p=lpN m b (lpN m a p)
 |0,b,p=>by rw[Nat.zero_add];rfl
 |a+1,b,p=>by rw[s3m];exact xc m a b _
theorem xf(m:Nat):∀(n:Nat) (p:Nat×Nat),(lpN m n p).2=p.2/32 ^ n
 |0,p=>by simp[lpN]
 |n+1,p=>by rw[sv];show(lpN m n p).2/32=_;rw[xf m n,Nat.div_div_eq_div_mul,<- Nat.pow_succ]
theorem xg(m:Nat):∀(n i:Nat),lpN m n (i,0)=(oN m n i,0)
 |0,i=>rfl
 |n+1,i=>by
  show lpN m n (SetTable.leap m i 0)=_;have e:SetTable.leap m i 0=(lcg m i,0):=rfl;rw[e,xg m n];rfl
def xh{m i p j:Nat}(h:eG m)(hp:p<2 ^ 64)(hj:j<=m):∃n,1<=n/\n<=13+m/\(lpN m n (i,p)).1=j:=by
 have z:(lpN m 13 (i,p)).2=0:=by rw[xf];exact Nat.div_eq_of_lt (bZ hp pv)
 have b:(lpN m 13 (i,p)).1<=m:=by
  rw[sv m 12];have:=s1x ((lpN m 12 (i,p)).1*5+1+(lpN m 12 (i,p)).2/32) (show 0<m+1 by lia);exact sw this
 obtain⟨k,hk,e⟩:=HP h b hj;refine⟨13+k,on,on,?_⟩;have q:lpN m 13 (i,p)=((lpN m 13 (i,p)).1,0):=Prod.ext rfl z;rw[xc,q,xg];exact e
noncomputable def ki(m tgt c:Nat)(p:SetTable.Probe):Prop:=p.more<=9/\((p.j=tgt/\1<=c)\/∃n,1<=n/\(lpN m n (p.i,p.perturb)).1=tgt/\p.more+2+10*(n-1)<=c)
def sC(m i:Nat):SetTable.runEnd m i-i<=9:=by unfold SetTable.runEnd;split<;>lia
def HQ{t:SetTable}{tgt c:Nat}(h:ki t.mask tgt (c+1) p)(ne:p.j≠tgt):ki t.mask tgt c (t.advance p):=by
 obtain⟨m9,h⟩:=h
 rcases h with h|⟨n,n1,e,l⟩
 ·exact absurd h.1 ne
 unfold SetTable.advance;split
 ·rename_i mp;exact⟨by show p.more-1<=9;lia,.inr ⟨n,n1,e,by show p.more-1+2+10*(n-1)<=c;lia⟩⟩
 ·rename_i mp;refine⟨sC _ _,?_⟩;obtain⟨k,rfl⟩:∃k,n=k+1:=⟨n-1,on⟩;have e':(lpN t.mask k (SetTable.leap t.mask p.i p.perturb)).1=tgt:=e
  cases k with
  |zero=>exact .inl ⟨e',on⟩
  |succ k=>
   refine .inr ⟨k+1,on,e',?_⟩;have:=sC t.mask (SetTable.leap t.mask p.i p.perturb).1;show SetTable.runEnd t.mask (SetTable.leap t.mask p.i p.perturb).1-(SetTable.leap t.mask p.i p.perturb).1+2+10*(k+1-1)<=c;lia
def xi{t:SetTable}(d:t.dummies=#[])(j:Nat):t.slot j≠.dummy:=by
 unfold SetTable.slot;dsimp only;split
 ·intro z;cases z
 ·rw[if_neg (by rw[d];simp[SetTable.has])];intro z;cases z
theorem xj{t:SetTable}{f:Nat->Int}(nd:t.dummies=#[])(et:t.slot tgt=.empty):∀(fuel c:Nat) (p:SetTable.Probe),ki t.mask tgt c p->c<=fuel->p.dummy=none ->
  (∃j,SetTable.probe.go t f h fuel p=some (.empty j none)/\t.slot j=.empty)\/∃j i q c',SetTable.probe.go t f h fuel p=some (.candidate j i q)/\t.slot j=.live i/\f i=h/\c'<c/\ki t.mask tgt c' q/\q.dummy=none
 |fuel,0,p,r,_,_=>by rcases r.2 with r|⟨_,_,_,r⟩<;>lia
 |0,c+1,p,r,l,_=>by lia
 |fuel+1,c+1,p,r,l,dm=>by
  unfold SetTable.probe.go
  cases e:t.slot p.j with
  |empty=>exact .inl ⟨p.j,by rw[dm],e⟩
  |dummy=>exact absurd e (xi nd _)
  |live i=>
   have ne:p.j≠tgt:=λ z=>by rw[z,et] at e;cases e
   have r':=HQ r ne;have dm':(t.advance p).dummy=none:=by rw[rP];exact dm
   dsimp only;by_cases q:f i=h
   ·rw[if_pos (by rw[q];exact fW _)];exact .inr ⟨p.j,i,_,c,fu,e,q,eU _,r',dm'⟩
   ·rw[if_neg (by rw[eV];exact q)]
    rcases xj nd et fuel c _ r' on dm' with z|⟨j,i,q,c',z⟩
    ·exact .inl z
    ·exact .inr ⟨j,i,q,c',z.1,z.2.1,z.2.2.1,on,z.2.2.2.2⟩
def HR{t:SetTable}{tgt:Nat}(h:Int)(m:eG t.mask)(ht:tgt<=t.mask):ki t.mask tgt (10*SetTable.turns t.mask) (t.probeStart h):=by
 have b:SetTable.bits h<2 ^ 64:=by
  unfold SetTable.bits;have:=dj h (show(0:Int)<2 ^ 64 by decide);have:=cY h (show(2 ^ 64:Int)≠0 by decide);lia
 obtain⟨n,n1,nl,e⟩:=xh (i:=SetTable.bits h%(t.mask+1)) m b ht;have r:=sC t.mask (SetTable.bits h%(t.mask+1));refine⟨r,.inr ⟨n,n1,e,?_⟩⟩;show SetTable.runEnd t.mask (SetTable.bits h%(t.mask+1))-SetTable.bits h%(t.mask+1)+2+10*(n-1)<=10*(t.mask+15);lia
theorem xk:∀(l m:List Nat),l.Nodup->(∀x∈l,x∈m)->l.length<=m.length
 |[],_,_,_=>aX _
 |x::l,m,nd,h=>by
  have nd':=lA.mp nd;have hx:=h x (.head _);have:=xk l (m.erase x) nd'.2 λ y hy=>(List.mem_erase_of_ne (λ z:y=x=>nd'.1 (by rw[<- z];exact hy))).mpr (h y (.tail _ hy));rw[List.length_erase_of_mem hx] at this;have:=oO hx;rw[List.length_cons];lia
def xn(hr:Ris p){j:Nat}(h:j∈p.toList):p[SetTable.below p j]?=some j:=by
 obtain⟨i,hi⟩:=oP.mp h;rw[bE] at hi;obtain⟨b1,b2⟩:=rH hr j
 have e:SetTable.below p j=i:=by
  rcases Nat.lt_trichotomy (SetTable.below p j) i with c|c|c
  ·have il:=(lN.mp hi).1;have eb:=cP (show SetTable.below p j<p.size by lia);have:=b2 _ _ (aj _) eb;have:=hr _ _ _ _ c eb hi;lia
  ·exact c
  ·have:=b1 i j c hi;lia
 rw[e];exact hi
def HS{t:SetTable}(hr:Ris t.place)(nd:t.dummies=#[])(l:t.place.size<=t.mask):∃j,j<=t.mask/\t.slot j=.empty:=by
 have ex:∃j,j<=t.mask/\j ∉ t.place.toList:=by
  apply mq;intro c
  have:=xk (List.range (t.mask+1)) t.place.toList List.nodup_range λ x hx=>by
   apply mq;intro z;exact c ⟨x,by have:=bU.mp hx;lia,z⟩
  rw[bd,Array.length_toList] at this;lia
 obtain⟨j,hj,hn⟩:=ex;refine⟨j,hj,?_⟩;unfold SetTable.slot;dsimp only
 rw[if_neg (λ z=>hn (by
  have z:t.place[SetTable.below t.place j]?=some j:=eV.mp z;rw[<- bE] at z
  exact aK z)),if_neg (by rw[nd];simp[SetTable.has])]
theorem xp{owner:Array (Option Nat)}(ht:(owner.getD tgt (some 0)).isNone=true):∀(n fuel i p:Nat),(lpN m n (i,p)).1=tgt->n<fuel->∃j,SetTable.layClean.free m owner fuel i p=some j/\(owner.getD j (some 0)).isNone=true
 |n,0,i,p,_,h=>by lia
 |n,fuel+1,i,p,e,h=>by
  unfold SetTable.layClean.free
  cases q:(List.range (SetTable.runEnd m i+1-i)).find? λ k=>(owner.getD (i+k) (some 0)).isNone with
  |some k=>
   have:=List.find?_some q;exact⟨i+k,fu,this⟩
  |none=>
   cases n with
   |zero=>
    have e:i=tgt:=e;have r:i<=SetTable.runEnd m i:=by unfold SetTable.runEnd;split<;>lia
    have:=s3n.mp q 0 (bU.mpr on);rw[s1k,e] at this;exact absurd ht this
   |succ n=>
    dsimp only;exact xp ht n fuel _ _ e on
theorem xq{α β:Type}{f g:α->Option β}:∀ {l:List α},(∀x∈l,f x=g x)->l.filterMap f=l.filterMap g
 |[],_=>rfl
 |a::r,h=>by rw[fE,fE,h a (.head _),xq λ x hx=>h x (.tail _ hx)]
noncomputable def lst(m:Nat)(acc:Option (Array (Option Nat)×Nat))(h:Int):Option (Array (Option Nat)×Nat):=acc.bind λ p=>(SetTable.layClean.free m p.1 (SetTable.turns m) (SetTable.bits h%(m+1)) (SetTable.bits h)).bind λ j=>some (p.1.setIfInBounds j (some p.2),p.2+1)
noncomputable def lv(m:Nat)(owner:Array (Option Nat)):List (Nat×Nat):=(List.range (m+1)).filterMap λ j=>(owner.getD j none).map (j,·)
def HU{owner:Array (Option Nat)}(h:(owner.getD j (some 0)).isNone=true):j<owner.size/\owner.getD j none=none:=by
 rcases dz j owner.size with c|c
 ·refine⟨c,?_⟩;rw[Array.getD,s4l c] at h ⊢;exact jh.mp h
 ·rw[Array.getD,dif_neg on] at h;cases h
def HV{m n j:Nat}{owner:Array (Option Nat)}(hs:owner.size=m+1)(hj:j<owner.size)(hf:owner.getD j none=none):((lv m (owner.setIfInBounds j (some n))).map (·.2)).Perm (n::(lv m owner).map (·.2)):=by
 have jm:j<m+1:=on
 have sp:List.range (m+1)=(List.range (m+1)).take j++j::(List.range (m+1)).drop (j+1):=by
  have e:(List.range (m+1))[j]'(by rw[bd];exact jm)=j:=sD _
  conv=>lhs;rw[<- eY j (List.range (m+1)),gH (by rw[bd];exact jm),e]
 have na:∀x∈(List.range (m+1)).take j,x≠j:=λ x hx=>by
  obtain⟨i,hi,rfl⟩:=rK.mp hx;rw[sD];lia
 have nb:∀x∈(List.range (m+1)).drop (j+1),x≠j:=λ x hx=>by
  obtain⟨i,hi,rfl⟩:=wD.mp hx;rw[sD];lia
 have ag:∀x,x≠j->(owner.setIfInBounds j (some n)).getD x none=owner.getD x none:=λ x hx=>by
  rw[fY,fY,sG (bh hx)]
 have at_:(owner.setIfInBounds j (some n)).getD j none=some n:=by
  rw[fY,Array.getElem?_setIfInBounds_self_of_lt hj];rfl
 have fe:∀l:List Nat,(∀x∈l,x≠j)->l.filterMap (λ x=>((owner.setIfInBounds j (some n)).getD x none).map (x,·))=l.filterMap λ x=>(owner.getD x none).map (x,·):=λ l h=>xq λ x hx=>by rw[ag x (h x hx)]
 unfold lv;rw[sp,s1l,s1l,fE,fE,fe _ na,fe _ nb,at_,hf];simp only[Option.map_some,Option.map_none,bQ,bw];exact s0r
theorem xr(mk:eG m):∀(l:LI) (owner:Array (Option Nat)) (k:Nat),owner.size=m+1->((lv m owner).map (·.2)).Perm (List.range k)->k+l.length<=m->∃o',l.foldl (lst m) (some (owner,k))=some (o',k+l.length)/\((lv m o').map (·.2)).Perm (List.range (k+l.length))
 |[],owner,k,hs,hp,hl=>⟨owner,rfl,hp⟩
 |h::l,owner,k,hs,hp,hl=>by
  have ex:∃j,j<=m/\owner.getD j none=none:=by
   apply mq;intro c
   have all:∀j∈List.range (m+1),(owner.getD j none).isSome=true:=λ j hj=>by
    rcases q:owner.getD j none with _|x
    ·exact absurd ⟨j,by have:=bU.mp hj;lia,q⟩ c
    ·rfl
   have len:(lv m owner).length=m+1:=by
    unfold lv
    have:∀L:List Nat,(∀j∈L,(owner.getD j none).isSome=true)->(L.filterMap λ j=>(owner.getD j none).map (j,·)).length=L.length:=λ L=>by
     induction L with
     |nil=>intro _;rfl
     |cons a r ih=>
      intro h;obtain⟨x,hx⟩:=vp.mp (h a (.head _));rw[fE,hx];simp only[Option.map_some,List.length_cons];rw[ih λ j hj=>h j (.tail _ hj)]
    rw[this _ all,bd]
   have:=hp.length_eq;rw[aq,bd,len] at this;rw[List.length_cons] at hl;lia
  obtain⟨tgt,ht,hn⟩:=ex
  have ht':(owner.getD tgt (some 0)).isNone=true:=by
   rw[Array.getD,s4l on] at hn ⊢;rw[hn];rfl
  have b:SetTable.bits h<2 ^ 64:=by
   unfold SetTable.bits;have:=dj h (show(0:Int)<2 ^ 64 by decide);have:=cY h (show(2 ^ 64:Int)≠0 by decide);lia
  obtain⟨n,_,nl,e⟩:=xh (i:=SetTable.bits h%(m+1)) mk b ht;obtain⟨j,ej,fj⟩:=xp ht' n (SetTable.turns m) _ _ e (by unfold SetTable.turns;lia);obtain⟨jl,jn⟩:=HU fj;have step:=HV (n:=k) hs jl jn
  have pm:((lv m (owner.setIfInBounds j (some k))).map (·.2)).Perm (List.range (k+1)):=by
   refine step.trans ((hp.cons k).trans ?_);rw[oQ];exact(sH k _).symm
  obtain⟨o',e1,e2⟩:=xr mk l (owner.setIfInBounds j (some k)) (k+1) (by rw[s0a];exact hs) pm (by rw[List.length_cons] at hl;lia);have kk:k+(h::l).length=k+1+l.length:=by rw[List.length_cons];lia
  rw[kk];refine⟨o',?_,e2⟩;rw[s1e]
  have st:lst m (some (owner,k)) h=some (owner.setIfInBounds j (some k),k+1):=by
   show(SetTable.layClean.free m owner (SetTable.turns m) (SetTable.bits h%(m+1)) (SetTable.bits h)).bind _=_;rw[ej];rfl
  rw[st];exact e1
def xt{hs:Array Int}(mk:eG m)(hl:hs.size<=m):∃o,SetTable.layClean m hs=some o/\((lv m o).map (·.2)).Perm (List.range hs.size):=by
 have z:(lv m (Array.replicate (m+1) none)).map (·.2)=[]:=by
  unfold lv
  have:∀L:List Nat,(L.filterMap λ j=>((Array.replicate (m+1) (none:Option Nat)).getD j none).map (j,·))=[]:=λ L=>by
   induction L with
   |nil=>rfl
   |cons a r ih=>
    have e:(Array.replicate (m+1) (none:Option Nat)).getD a none=none:=by
     rw[fY,s0b];split<;>rfl
    rw[fE,e];exact ih
  rw[this];rfl
 obtain⟨o,e1,e2⟩:=xr mk hs.toList (Array.replicate (m+1) none) 0 (by rw[s2b]) (by rw[z];exact .nil) (by rw[Array.length_toList];lia);refine⟨o,?_,by rw[Nat.zero_add,Array.length_toList] at e2;exact e2⟩;show(hs.foldl (lst m) (some (Array.replicate (m+1) none,0))).map (·.1)=some o;rw[<- s3o,e1];rfl
def HW{t:SetTable}{es:Array (Int×Value)}(mk:eG (SetTable.sizeAbove wanted-1))(hl:es.size<=SetTable.sizeAbove wanted-1):∃t' order,t.relaid (es.map (·.1)) wanted=some (t',order)/\order.toList.Perm (List.range es.size)/\t'.mask=SetTable.sizeAbove wanted-1/\t'.led=t.led/\t'.plain=t.plain/\t'.dummies=#[]/\Ris t'.place/\t'.place.size=es.size/\∀x∈t'.place.toList,x<=t'.mask:=by
 obtain⟨o,e,pm⟩:=xt (hs:=es.map (·.1)) mk (by rw[oR];exact hl);rw[oR] at pm;refine⟨{ mask:=SetTable.sizeAbove wanted-1,place:=((lv (SetTable.sizeAbove wanted-1) o).map (·.1)).toArray,dummies:=#[],finger:=t.finger,led:=t.led,moves:=t.movedTo (SetTable.sizeAbove wanted-1),plain:=t.plain },((lv (SetTable.sizeAbove wanted-1) o).map (·.2)).toArray,by unfold SetTable.relaid SetTable.laid;rw[e];rfl,pm,fu,fu,fu,fu,oE ?_,?_,?_⟩
 ·show((lv (SetTable.sizeAbove wanted-1) o).map (·.1)).Pairwise _;unfold lv;rw[rV,s0i];refine rY (λ {a c} q u hu v hv=>?_) oG;rw[fQ] at hu hv;obtain⟨_,_,rfl⟩:=hu;obtain⟨_,_,rfl⟩:=hv;exact q
 ·have:=pm.length_eq;rw[aq,bd] at this;show((lv (SetTable.sizeAbove wanted-1) o).map (·.1)).toArray.size=_;rw[aM,aq];exact this
 ·intro x hx;have hx:x∈(lv (SetTable.sizeAbove wanted-1) o).map (·.1):=hx;obtain⟨p,hp,rfl⟩:=aW.mp hx;unfold lv at hp;obtain⟨j,hj,e⟩:=jJ.mp hp;rw[fQ] at e;obtain⟨_,_,rfl⟩:=e;have:=bU.mp hj;show j<=SetTable.sizeAbove wanted-1;lia
inductive Pwk (t:SetTable)(O:Nat->Prop)(tgt:Nat):SetTable.Probe->Prop where
 |here {p:SetTable.Probe}(e:p.j=tgt):Pwk t O tgt p
 |step {p:SetTable.Probe}(o:O p.j) (w:Pwk t O tgt (t.advance p)):Pwk t O tgt p
def Pwk.mono{O O':Nat->Prop}(h:∀j,O j->O' j)(w:Pwk t O tgt p):Pwk t O' tgt p:=by
 induction w with
 |here e=>exact .here e
 |step o _ ih=>exact .step (h _ o) ih
def HX{t t':SetTable}(h:t.mask=t'.mask)(p:SetTable.Probe):t.advance p=t'.advance p:=by unfold SetTable.advance;rw[h]
def Pwk.mask{t t':SetTable}(h:t.mask=t'.mask)(w:Pwk t O tgt p):Pwk t' O tgt p:=by
 induction w with
 |here e=>exact .here e
 |step o _ ih=>exact .step o (by rw[<- HX h];exact ih)
abbrev dM(t:SetTable)(j:Nat):Prop:=∃i,t.slot j=.live i
theorem sJ{t:SetTable}{f:Nat->Int}{h:Int}(lt:t.slot tgt=.live i0)(hf:f i0=h):∀(fuel:Nat) (p:SetTable.Probe) (r:SetTable.Met),Pwk t (dM t) tgt p->SetTable.probe.go t f h fuel p=some r ->
  ∃j i q,r=.candidate j i q/\t.slot j=.live i/\(j=tgt\/Pwk t (dM t) tgt q)
 |0,p,r,_,e=>by cases e
 |fuel+1,p,r,w,e=>by
  unfold SetTable.probe.go at e
  have hd:dM t p.j:=by
   cases w with
   |here z=>exact⟨i0,by rw[z];exact lt⟩
   |step o _=>exact o
  obtain⟨i,hi⟩:=hd;rw[hi] at e;dsimp only at e;by_cases c:(f i == h)=true
  ·rw[if_pos c] at e;cases e;refine⟨p.j,i,_,fu,hi,?_⟩
   cases w with
   |here z=>exact .inl z
   |step _ w=>exact .inr w
  ·rw[if_neg c] at e
   cases w with
   |here z=>
    rw[z,lt] at hi;cases hi;exact absurd (by rw[hf];exact fW _) c
   |step _ w=>exact sJ lt hf fuel _ r w e
theorem sK{t:SetTable}{f:Nat->Int}:∀(fuel:Nat) (p:SetTable.Probe) (r:SetTable.Met),t.dummies=#[]->SetTable.probe.go t f h fuel p=some r ->
  match r with|.empty j _=>Pwk t (dM t) j p|.candidate j _ q=>∀tgt,Pwk t (dM t) tgt q->Pwk t (dM t) tgt p
 |0,p,r,_,e=>by cases e
 |fuel+1,p,r,nd,e=>by
  unfold SetTable.probe.go at e
  cases hs:t.slot p.j with
  |empty=>rw[hs] at e;cases e;exact .here rfl
  |dummy=>exact absurd hs (xi nd _)
  |live i=>
   rw[hs] at e;dsimp only at e;by_cases c:(f i == h)=true
   ·rw[if_pos c] at e;cases e;exact λ tgt w=>.step ⟨i,hs⟩ w
   ·rw[if_neg c] at e;have:=sK fuel _ r nd e
    cases r with
    |empty j d=>exact .step ⟨i,hs⟩ this
    |candidate j k q=>exact λ tgt w=>.step ⟨i,hs⟩ (this tgt w)
noncomputable def mk0(m i p:Nat):SetTable.Probe:={ j:=i,more:=SetTable.runEnd m i-i,i,perturb:=p,dummy:=none }
theorem sM{O:Nat->Prop}:∀(n:Nat) (p:SetTable.Probe),n<=p.more->(∀k,k<n->O (p.j+k))->Pwk t O tgt { p with j:=p.j+n,more:=p.more-n }->Pwk t O tgt p
 |0,p,_,_,w=>by rw[s1k,Nat.sub_zero] at w;exact w
 |n+1,p,hn,ho,w=>by
  refine .step (by have:=ho 0 on;rwa [s1k] at this) ?_;have e:t.advance p={ p with j:=p.j+1,more:=p.more-1 }:=by unfold SetTable.advance;rw[if_pos on]
  rw[e];refine sM n _ (by show n<=p.more-1;lia) (λ k hk=>by have:=ho (k+1) on;show O (p.j+1+k);rwa [s3m,Nat.add_assoc]) ?_;show Pwk t O tgt { p with j:=p.j+1+n,more:=p.more-1-n };rw[Nat.add_assoc,s3z 1 n,Nat.sub_sub,s3z 1 n];exact w
theorem xv{t:SetTable}:∀(fuel i p j:Nat),i<=t.mask->SetTable.layClean.free t.mask owner fuel i p=some j->Pwk t (λ j=>j<=t.mask/\(owner.getD j (some 0)).isNone=false) j (mk0 t.mask i p)
 |0,i,p,j,_,e=>by cases e
 |fuel+1,i,p,j,hi,e=>by
  unfold SetTable.layClean.free at e;have r0:i<=SetTable.runEnd t.mask i:=by unfold SetTable.runEnd;split<;>lia
  have r1:SetTable.runEnd t.mask i<=t.mask:=by unfold SetTable.runEnd;split<;>lia
  cases q:(List.range (SetTable.runEnd t.mask i+1-i)).find? λ k=>(owner.getD (i+k) (some 0)).isNone with
  |some k=>
   rw[q] at e;cases e;have km:=bU.mp (List.mem_of_find?_eq_some q);refine sM k (mk0 t.mask i p) (by show k<=SetTable.runEnd t.mask i-i;lia) (λ n hn=>?_) (.here rfl);obtain⟨_,as,bs,hl,hb⟩:=List.find?_eq_some_iff_append.mp q
   have na:n∈as:=by
    have ln:as.length=k:=by
     have h1:(as++k::bs)[as.length]?=some k:=BT
     rw[← hl,iD (by
      have:=bu List.length hl;rw[bd,aR,List.length_cons] at this
      lia)] at h1
     exact cv h1
    have h2:(as++k::bs)[n]?=some n:=by rw[<- hl];exact iD on
    rw[dZ on] at h2;exact aK h2
   have:=hb n na;refine⟨by show i+n<=t.mask;lia,?_⟩;show(owner.getD (i+n) (some 0)).isNone=false
   rcases z:(owner.getD (i+n) (some 0)).isNone with _|_
   ·rfl
   ·rw[z] at this;cases this
  |none=>
   rw[q] at e;dsimp only at e
   have all:∀n,n<SetTable.runEnd t.mask i+1-i->i+n<=t.mask/\(owner.getD (i+n) (some 0)).isNone=false:=λ n hn=>by
    refine⟨on,?_⟩;have:=s3n.mp q n (bU.mpr hn)
    rcases z:(owner.getD (i+n) (some 0)).isNone with _|_
    ·rfl
    ·exact absurd z this
   refine sM (SetTable.runEnd t.mask i-i) (mk0 t.mask i p) (aj _) (λ k hk=>all k on) (.step (all _ on) ?_);have ih:=xv fuel _ _ j (sw (s1x _ (s4d _))) e
   have ea:t.advance { mk0 t.mask i p with j:=(mk0 t.mask i p).j+(SetTable.runEnd t.mask i-i),more:=(mk0 t.mask i p).more-(SetTable.runEnd t.mask i-i) }=mk0 t.mask (SetTable.leap t.mask i p).1 (SetTable.leap t.mask i p).2:=by
    unfold SetTable.advance;rw[if_neg (by show ¬SetTable.runEnd t.mask i-i-(SetTable.runEnd t.mask i-i) > 0;lia)];rfl
   rw[ea];exact ih
noncomputable abbrev Occ(m:Nat)(owner:Array (Option Nat))(j:Nat):Prop:=j<=m/\(owner.getD j (some 0)).isNone=false
noncomputable def Trk(t:SetTable)(owner:Array (Option Nat))(hs:LI):Prop:=∀j x,owner.getD j none=some x->∃h,hs[x]?=some h/\Pwk t (Occ t.mask owner) j (t.probeStart h)
theorem xw{t:SetTable}(mk:eG t.mask):∀(l pre:LI) (owner o':Array (Option Nat)) (n:Nat),owner.size=t.mask+1->Trk t owner pre->l.foldl (lst t.mask) (some (owner,pre.length))=some (o',n)->Trk t o' (pre++l)/\o'.size=t.mask+1
 |[],pre,owner,o',n,hs,tr,e=>by cases e;rw[eT];exact⟨tr,hs⟩
 |h::l,pre,owner,o',n,hs,tr,e=>by
  rw[s1e] at e
  cases ej:SetTable.layClean.free t.mask owner (SetTable.turns t.mask) (SetTable.bits h%(t.mask+1)) (SetTable.bits h) with
  |none=>
   have st:lst t.mask (some (owner,pre.length)) h=none:=by
    show(SetTable.layClean.free t.mask owner (SetTable.turns t.mask) (SetTable.bits h%(t.mask+1)) (SetTable.bits h)).bind _=_;rw[ej];rfl
   rw[st] at e
   have:∀L:LI,L.foldl (lst t.mask) none=none:=λ L=>by
    induction L with
    |nil=>rfl
    |cons a r ih=>exact ih
   rw[this] at e;cases e
  |some j=>
   have st:lst t.mask (some (owner,pre.length)) h=some (owner.setIfInBounds j (some pre.length),pre.length+1):=by
    show(SetTable.layClean.free t.mask owner (SetTable.turns t.mask) (SetTable.bits h%(t.mask+1)) (SetTable.bits h)).bind _=_;rw[ej];rfl
   rw[st] at e;have pw:=xv (t:=t) _ _ _ _ (sw (s1x _ (s4d _))) ej
   have mono:∀y,Occ t.mask owner y->Occ t.mask (owner.setIfInBounds j (some pre.length)) y:=λ y hy=>by
    refine⟨hy.1,?_⟩;have h2:=hy.2;rw[fY] at h2 ⊢;by_cases c:j=y
    ·subst c;rw[xy];rw[if_pos rfl];split<;>rfl
    ·rw[sG c];exact h2
   have tr':Trk t (owner.setIfInBounds j (some pre.length)) (pre++[h]):=λ y x ex=>by
    rw[fY] at ex;by_cases c:j=y
    ·subst c;rw[xy,if_pos rfl] at ex;split at ex
     ·have ex:x=pre.length:=(cv ex).symm;subst ex;exact⟨h,by rw[dY (aj _),ji];rfl,pw.mono mono⟩
     ·cases ex
    ·rw[sG c,<- fY] at ex;obtain⟨h',e1,w⟩:=tr y x ex;exact⟨h',by rw[dZ (br.mp e1).1];exact e1,w.mono mono⟩
   have ih:=xw mk l (pre++[h]) _ o' n (by rw[s0a];exact hs) tr' (by rw[aR];exact e)
   rwa [dF] at ih
noncomputable def Met(es:List (Int×Value))(t:SetTable):Prop:=∀q∈t.place.toList.zip es,Pwk t (λ j=>j∈t.place.toList) q.1 (t.probeStart q.2.1)
def HY{t:SetTable}{es:Array (Int×Value)}(mk:eG (SetTable.sizeAbove wanted-1))(hl:es.size<=SetTable.sizeAbove wanted-1):∃t' order,t.relaid (es.map (·.1)) wanted=some (t',order)/\order.toList.Perm (List.range es.size)/\t'.mask=SetTable.sizeAbove wanted-1/\t'.led=t.led/\t'.plain=t.plain/\t'.dummies=#[]/\Ris t'.place/\t'.place.size=es.size/\Met (order.filterMap (es[·]?)).toList t':=by
 obtain⟨o,e,pm⟩:=xt (hs:=es.map (·.1)) mk (by rw[oR];exact hl);obtain⟨t',order,r,a1,a2,a3,a4,a5,a6,a7,a8⟩:=HW (t:=t) (es:=es) mk hl;refine⟨t',order,r,a1,a2,a3,a4,a5,a6,a7,?_⟩;unfold SetTable.relaid SetTable.laid at r;rw[e] at r;cases r;generalize hM:SetTable.sizeAbove wanted-1=M at *
 have fo:∃n,(es.map (·.1)).toList.foldl (lst M) (some (Array.replicate (M+1) none,0))=some (o,n):=by
  have e:((es.map (·.1)).foldl (lst M) (some (Array.replicate (M+1) none,0))).map (·.1)=some o:=e;rw[<- s3o,fQ] at e;obtain⟨⟨o2,n⟩,e1,rfl⟩:=e;exact⟨n,e1⟩
 obtain⟨n,fo⟩:=fo;generalize ht:({ mask:=M,place:=_,dummies:=#[],finger:=t.finger,led:=t.led,moves:=t.movedTo M,plain:=t.plain }:SetTable)=t1;have tm:t1.mask=M:=by rw[<- ht]
 have tp:t1.place.toList=(lv M o).map (·.1):=by rw[<- ht];rfl
 obtain⟨tk,os⟩:=xw (t:=t1) (by rw[tm];exact mk) (es.map (·.1)).toList [] (Array.replicate (M+1) none) o n (by rw[s2b,tm]) (λ j x ex=>by
  rw[fY,s0b] at ex
  split at ex<;>cases ex) (by rw[tm];exact fo)
 rw[s1f] at tk;rw[tm] at os
 have occ:∀y,Occ t1.mask o y->y∈t1.place.toList:=λ y hy=>by
  obtain⟨y1,y2⟩:=hy;rw[tm] at y1;rw[Array.getD,s4l on] at y2;rw[tp]
  rcases q:o[y]' on with _|x
  ·rw[show o.getInternal y on =o[y]' on from rfl,q] at y2;cases y2
  ·refine aW.mpr ⟨(y,x),jJ.mpr ⟨y,bU.mpr on,?_⟩,fu⟩;rw[Array.getD,s4l on,show o.getInternal y on =o[y]' on from rfl,q];rfl
 have mem:∀p∈lv M o,o.getD p.1 none=some p.2:=λ p hp=>by
  obtain⟨j,_,e⟩:=jJ.mp hp;rw[fQ] at e;obtain⟨x,e,rfl⟩:=e;exact e
 intro q hq;rw[tp,s0y] at hq;have hq:q∈((lv M o).map (·.1)).zip ((lv M o).map (·.2) |>.filterMap λ k=>es[k]?):=hq;rw[s3c] at hq
 have zf:∀L:List (Nat×Nat),(∀p∈L,p.2<es.size)->∀q∈(L.map (·.1)).zip (L.filterMap ((λ k=>es[k]?) ∘ (·.2))),∃p∈L,q.1=p.1/\es[p.2]?=some q.2:=λ L=>by
  induction L with
  |nil=>intro _ q hq;cases hq
  |cons a r ih=>
   intro hl q hq;have ea:=cP (hl a (.head _));rw[bw,fE] at hq;simp only[Function.comp,ea,kj,aN] at hq
   rcases hq with rfl|hq
   ·exact⟨a,.head _,fu,ea⟩
   ·obtain⟨p,hp,z⟩:=ih (λ p hp=>hl p (.tail _ hp)) q hq;exact⟨p,.tail _ hp,z⟩
 obtain⟨p,hp,e1,e2⟩:=zf _ (λ p hp=>bU.mp (a1.mem_iff.mp (aW.mpr ⟨p,hp,rfl⟩))) q hq;obtain⟨h,e3,w⟩:=tk p.1 p.2 (mem p hp)
 have eh:h=q.2.1:=by
  rw[bE,Array.getElem?_map,e2] at e3;exact(cv e3).symm
 rw[e1,<- eh];exact w.mono occ
def vI(v:Value):Int:=match v with|.int n _=>n|_=>0
noncomputable def kP(h:Heap)(v:Value):LI:=match v with|.ref c=>(match h.get? c with|some o=>(match o.data with|.seq its _=>its.toList.map vI|_=>[])|none=>[])|_=>[]
section
variable {pg:Program}{wd:World}{B:Around}{X0:VS}{z0:Shared}{b:Bool}{M:LL}{es:Array (Int×Value)}{t:SetTable}{h0:Heap}{ks:LI}{c:Addr}{G:Addr->Prop}
theorem xz:∀ {ks:LI}{vs:LV},ItemsAre (intKind pg wd) ks vs->vs.map vI=ks
 |[],_,.nil=>rfl
 |k::_,_,.cons h r=>by obtain⟨u,rfl⟩:=hG (k:=k) h;rw[bw,xz r];rfl
def xA(h:IsTupleKey (intKind pg wd) h0 ks c):kP h0 (.ref c)=ks:=by
 obtain⟨o,its,n,g,_,d,i⟩:=h;unfold kP;simp only[g,d];exact xz i
structure SetP (pg:Program)(wd:World)(h0:Heap)(G:Addr->Prop)(b:Bool)(M:LL)(es:Array (Int×Value))(t:SetTable):Prop where
 el:∀e∈es.toList,∃c,e.2=.ref c/\(IsTupleKey (intKind pg wd) h0 (kP h0 e.2) c/\G c)/\e.1=tupleKeyHash (intKind pg wd) (kP h0 e.2)
 fs:t.place.size=es.size
 mo:eG t.mask
 nd:t.dummies=#[]
 tb:Tb b t
 fl:es.size*5<t.mask*3
 kn:(es.toList.map λ e=>kP h0 e.2).Nodup
 mm:∀k,k∈es.toList.map (λ e=>kP h0 e.2) ↔ k∈M
 mt:Met es.toList t
 sz:es.size<=M.length
def SetP.ft(T:SetP pg wd h0 G b M es t):t.fits es.size=true:=by
 unfold SetTable.fits SetTable.fill;rw[T.nd,T.fs];have:=T.fl;simp;lia
def xB(h:t.slot j=.live i):t.place[i]?=some j:=by
 unfold SetTable.slot at h;dsimp only at h;split at h
 ·rename_i q;cases h;exact eV.mp q
 ·split at h<;>cases h
def HZ(hr:Ris t.place){j:Nat}(h:j∈t.place.toList):dM t j:=by
 refine⟨SetTable.below t.place j,?_⟩;unfold SetTable.slot;dsimp only;rw[if_pos (by rw[xn hr h];exact fW _)]
def Ia(h:dM t j):j∈t.place.toList:=by
 obtain⟨i,h⟩:=h;have:=xB h;rw[<- bE] at this;exact aK this
def jk{h h':Heap}(x:IsTupleKey (intKind pg wd) h ks c)(k:∀c o,h.get? c=some o->h'.get? c=some o):IsTupleKey (intKind pg wd) h' ks c:=by
 obtain⟨o,its,n,g,r⟩:=x;exact⟨o,its,n,k _ _ g,r⟩
def Ib(m:eG t.mask):t.gaveWay=false:=by
 unfold SetTable.gaveWay
 rcases m with e|e|e<;>rw[e]<;>rfl
def sO(hr:Ris t.place){i j:Nat}(h:t.place[i]?=some j):t.slot j=.live i:=by
 have hm:j∈t.place.toList:=by rw[<- bE] at h;exact aK h
 have e:=xn hr hm
 have ei:SetTable.below t.place j=i:=by
  rcases Nat.lt_trichotomy (SetTable.below t.place j) i with c|c|c
  ·have:=hr _ _ _ _ c e h;lia
  ·exact c
  ·have:=hr _ _ _ _ c h e;lia
 unfold SetTable.slot;dsimp only;rw[if_pos (by rw[e];exact fW _),ei]
def items_int{vs:LV}(h:ItemsAre (intKind pg wd) ks vs):∀v∈vs,∃n t,v=Value.int n t:=by
 induction h with
 |nil=>intro v hv;cases hv
 |@cons k v' _ _ h1 _ ih=>
  intro v hv
  rcases aN.mp hv with rfl|hv
  ·obtain⟨u,rfl⟩:=hG (k:=k) h1;exact⟨k,u,rfl⟩
  ·exact ih v hv
def xC{R:Bool->Shared->Prop}(hx:IsTupleKey (intKind pg wd) z0.heap ks c)(h:R false z0):wpAny (model pg wd) B (ofAClassStatement 8 (.ref c)) R X0 z0:=by
 obtain⟨o,its,n,g,hc,d,i⟩:=hx;have ii:=items_int i;unfold ofAClassStatement;refine ae (eo (T := "tuple") ⟨o,g,hc⟩ ?_);dsimp only;rw[if_pos pv];refine ae (ah ?_);rw[if_neg pv];refine ae (eF g d ?_);dsimp only;refine ae ?_;rw[<- s3p];refine lW _ (λ rest r z=>(∀v∈rest,∃n t,v=Value.int n t)/\r.1=none/\z=z0) _ ?_ ?_ _ _ ⟨ii,fu,fu⟩
 ·rintro x rest r z ⟨hv,_,rfl⟩;obtain⟨n,u,rfl⟩:=hv x (.head _);refine ae (ah ?_);rw[if_neg aV];exact ah ⟨λ v h=>hv v (.tail _ h),fu,fu⟩
 ·rintro r z ⟨_,e,rfl⟩;rw[e];exact ah h
def Ic{R:Bool->Shared->Prop}(hx:IsTupleKey (intKind pg wd) z0.heap ks c):∀(l:LV),(∀v∈l,∃c' ks',v=.ref c'/\IsTupleKey (intKind pg wd) z0.heap ks' c')->R false z0->wpAny (model pg wd) B (searchCouldBeSeen (.ref c) l) R X0 z0:=by
 intro l hl h;unfold searchCouldBeSeen;refine ae ?_;refine lW _ (λ rest r z=>(∀v∈rest,∃c' ks',v=.ref c'/\IsTupleKey (intKind pg wd) z0.heap ks' c')/\r.1=none/\z=z0) _ ?_ ?_ _ _ ⟨hl,fu,fu⟩
 ·rintro x rest r z ⟨hv,_,rfl⟩;obtain⟨c',ks',rfl,tk⟩:=hv x (.head _);dsimp only;have nx:∀v∈rest,∃c' ks',v=.ref c'/\IsTupleKey (intKind pg wd) z.heap ks' c':=λ v h=>hv v (.tail _ h);refine mi (λ _=>ah ⟨nx,fu,fu⟩) λ _=>?_;refine ae (s1m hx ?_);rw[if_neg pv];refine ae (s1m tk ?_);rw[if_neg pv];refine ae (xC hx ?_);rw[if_neg aV];refine ae (xC tk ?_);rw[if_neg aV];exact ah ⟨nx,fu,fu⟩
 ·rintro r z ⟨_,e,rfl⟩;dsimp only;rw[e];exact ah h
theorem Ie{a:Addr}{R:SetFound->Shared->Prop}(hu:B.units<cLine)(ho:z0.heap.get? a=some (cq es ep t))(T:SetP pg wd h0 G b M es t)(k0:∀c o,h0.get? c=some o->z0.heap.get? c=some o)(hx:IsTupleKey (intKind pg wd) h0 ks c)(et:t.slot tgt=.empty)
  (f1:ks∈es.toList.map (λ e=>kP h0 e.2)->R (.there none) z0) (f2:∀j,ks ∉ es.toList.map (λ e=>kP h0 e.2)->t.slot j=.empty->Pwk t (dM t) j (t.probeStart (tupleKeyHash (intKind pg wd) ks))->R (.free j false) z0) :
  ∀(cc fuel:Nat) (st:Option SetTable.Probe),cc<fuel->cc<=10*SetTable.turns t.mask->ki t.mask tgt cc (st.getD (t.probeStart (tupleKeyHash (intKind pg wd) ks)))->(st.getD (t.probeStart (tupleKeyHash (intKind pg wd) ks))).dummy=none ->
   (∀g,Pwk t (dM t) g (st.getD (t.probeStart (tupleKeyHash (intKind pg wd) ks)))->Pwk t (dM t) g (t.probeStart (tupleKeyHash (intKind pg wd) ks))) ->
   (∀(i:Nat) (e:Int×Value) (j:Nat),es[i]?=some e->kP h0 e.2=ks->t.place[i]?=some j->Pwk t (dM t) j (st.getD (t.probeStart (tupleKeyHash (intKind pg wd) ks)))) ->
   wpAny (model pg wd) B (setSearchFrom a (.ref c) (tupleKeyHash (intKind pg wd) ks) true fuel st) R X0 z0:=by
 intro cc
 induction cc using Nat.strongRecOn with
 |ind cc ih=>
  intro fuel st hf hl hr hd hp hm;obtain⟨fuel,rfl⟩:∃f,fuel=f+1:=⟨fuel-1,on⟩;unfold setSearchFrom;refine ae (fX ho rfl T.ft ?_);dsimp only;rw[if_neg (by rw[Ib T.mo];exact aV)];generalize hq:st.getD (t.probeStart (tupleKeyHash (intKind pg wd) ks))=p at *
  have inx:ks∈es.toList.map (λ e=>kP h0 e.2)->∃(i:Nat) (e:Int×Value) (j:Nat),es[i]?=some e/\kP h0 e.2=ks/\t.place[i]?=some j:=λ z=>by
   obtain⟨e,he,ek⟩:=aW.mp z;obtain⟨i,hi⟩:=oP.mp he;rw[bE] at hi;exact⟨i,e,_,hi,ek,cP (by rw[T.fs];exact(lN.mp hi).1)⟩
  have pr:∀f,t.probe f (tupleKeyHash (intKind pg wd) ks) p=SetTable.probe.go t f (tupleKeyHash (intKind pg wd) ks) (10*SetTable.turns t.mask) p:=λ _=>rfl
  have hz:∀(i:Nat) (e:Int×Value),es[i]?=some e->kP h0 e.2=ks->((es[i]?).map (·.1)).getD 0=tupleKeyHash (intKind pg wd) ks:=λ i e he ek=>by
   obtain⟨_,_,_,hh⟩:=T.el e (by rw[<- bE] at he;exact aK he);rw[he];show e.1=_;rw[hh,ek]
  rcases xj (f:=λ i=>((es[i]?).map (·.1)).getD 0) (h:=tupleKeyHash (intKind pg wd) ks) T.nd et (10*SetTable.turns t.mask) cc p hr hl hd with ⟨j,e,ej⟩|⟨j,i,q,c',e,ej,fi,lt,r',d'⟩
  ·have e':t.probe (λ i=>((es[i]?).map (·.1)).getD 0) (tupleKeyHash (intKind pg wd) ks) p=some (.empty j none):=e;generalize hM:t.probe _ (tupleKeyHash (intKind pg wd) ks) p=mt;rw[show mt=some (.empty j none) from hM.symm.trans e'];refine ah (f2 j (λ z=>?_) ej (hp _ (sK _ _ _ T.nd e)));obtain⟨i0,e0,j0,g1,g2,g3⟩:=inx z;obtain⟨_,_,_,r,_⟩:=sJ (sO T.tb.2 g3) (hz i0 e0 g1 g2) _ _ _ (hm i0 e0 j0 g1 g2 g3) e;cases r
  ·have e':t.probe (λ i=>((es[i]?).map (·.1)).getD 0) (tupleKeyHash (intKind pg wd) ks) p=some (.candidate j i q):=e;generalize hM:t.probe _ (tupleKeyHash (intKind pg wd) ks) p=mt;rw[show mt=some (.candidate j i q) from hM.symm.trans e'];clear hM;dsimp only;have pi:=xB ej;have il:i<es.size:=by rw[<- T.fs];exact(lN.mp pi).1
   have ei:=cP il;generalize es[i]=e1 at ei;obtain⟨h1,v1⟩:=e1;have mem1:(h1,v1)∈es.toList:=by rw[<- bE] at ei;exact aK ei
   obtain⟨c1,ev,⟨tk1,_⟩,_⟩:=T.el _ mem1;have ev:v1=.ref c1:=ev;subst ev;have tk1:IsTupleKey (intKind pg wd) h0 (kP h0 (.ref c1)) c1:=tk1;refine mi (λ _=>ae (Ic (jk hx k0) _ (λ v hv=>?_) ?_)) (λ _=>?_)
   ·obtain⟨e2,he2,rfl⟩:=aW.mp hv
    have he2:e2∈es.toList:=by
     rw[Array.toList_filter] at he2;exact(hZ.mp he2).1
    obtain⟨c2,q1,⟨q2,_⟩,_⟩:=T.el _ he2;exact⟨c2,_,q1,jk q2 k0⟩
   rw[if_neg aV]
   all_goals
    rw[ei];dsimp only;refine ae (bv ((tupleKind (intKind pg wd)).eqBool hu (jk tk1 k0) (jk hx k0) ?_));refine ae (fX ho rfl T.ft ?_);dsimp only;by_cases ek:kP h0 (.ref c1)=ks
    ·rw[if_pos (by rw[bz ek];rfl)];exact ah (f1 (aW.mpr ⟨_,mem1,ek⟩))
    ·have sm:t.sameMemory t.moves t.mask=some true:=by unfold SetTable.sameMemory;rw[if_pos (fW _)]
     rw[if_neg (by rw[aO ek];exact aV),sm];dsimp only;rw[if_pos rfl,ej];dsimp only;rw[ei];dsimp only;refine ae (wpAny_isSame_ref_self ?_);refine ae (ah ?_);show wpAny _ _ (if decide (kP h0 (.ref c1)=ks)=true then _ else _) _ _ _;rw[if_neg (by rw[aO ek];exact aV)];refine ih c' lt fuel (some q) on on r' d' (λ g w=>hp g (sK _ _ _ T.nd e g w)) λ i' e' j' g1 g2 g3=>?_;obtain⟨jj,ii,qq,r,sl,w⟩:=sJ (sO T.tb.2 g3) (hz i' e' g1 g2) _ _ _ (hm i' e' j' g1 g2 g3) e;cases r
     rcases w with w|w
     ·subst w;have:=sO T.tb.2 g3;rw[ej] at this;cases this;rw[ei] at g1;cases g1;exact absurd g2 ek
     ·exact w
end
section
variable {pg:Program}{wd:World}{B:Around}{X0:VS}{z0:Shared}{b:Bool}{M:LL}{es es1:Array (Int×Value)}{t t1:SetTable}{h0:Heap}{ks:LI}{c:Addr}{G:Addr->Prop}
def hbv{R:Bool->Shared->Prop}(hx:IsTupleKey (intKind pg wd) z0.heap ks c)(h:R true z0):wpAny (model pg wd) B (hashByValue 8 (.ref c)) R X0 z0:=by
 have hT:=hx.typeIs;obtain⟨o,its,n,g,hc,d,i⟩:=hx;have ii:=items_int i;unfold hashByValue;refine ae (fN hT F.slot_tuple_hash.lookup ?_);dsimp only;refine ae (eF g d ?_);refine ae ?_;show wpAny _ _ (forIn its _ _) _ _ _;rw[<- s3p];refine lW _ (λ rest r z=>(∀v∈rest,∃n t,v=Value.int n t)/\r.1=none/\z=z0) _ ?_ ?_ _ _ ⟨ii,fu,fu⟩
 ·rintro x rest r z ⟨hv,_,rfl⟩;obtain⟨n,u,rfl⟩:=hv x (.head _);refine ae (ah ?_);rw[if_neg pv];exact ah ⟨λ v h=>hv v (.tail _ h),fu,fu⟩
 ·rintro r z ⟨_,e,rfl⟩;rw[e];exact ah h
def SetP.oldP(T:SetP pg wd h0 G b M es t)(hn:ks∈es.toList.map λ e=>kP h0 e.2):SetP pg wd h0 G b (M++[ks]) es t :=
 ⟨T.el,T.fs,T.mo,T.nd,T.tb,T.fl,T.kn,λ k=>by
  rw[bn,bj,<- T.mm k]
  exact⟨.inl,λ h=>h.elim id λ e=>e ▸ hn⟩,T.mt,by rw[aR];exact bH T.sz (s0p _ _)⟩
def Ig{α β:Type}(A:List α)(Bs:List β)(p:Nat)(x:α)(y:β)(hl:A.length=Bs.length)(q:α×β)(h:q∈(A.take p++x::A.drop p).zip (Bs.take p++y::Bs.drop p)):q=(x,y)\/q∈A.zip Bs:=by
 rw[List.zip_append (by rw[aY,aY,hl]),kj] at h
 rcases bn.mp h with h|h
 ·rw[oU,<- List.take_zipWith,<- oU] at h;exact .inr (my h)
 ·rcases aN.mp h with h|h
  ·exact .inl h
  ·rw[oU,<- List.drop_zipWith,<- oU] at h;exact .inr (gK h)
structure Cnt (pg:Program)(wd:World)(h0:Heap)(G:Addr->Prop)(M:LL)(es:List (Int×Value)):Prop where
 el:∀e∈es,∃c,e.2=.ref c/\(IsTupleKey (intKind pg wd) h0 (kP h0 e.2) c/\G c)/\e.1=tupleKeyHash (intKind pg wd) (kP h0 e.2)
 kn:(es.map λ e=>kP h0 e.2).Nodup
 mm:∀k,k∈es.map (λ e=>kP h0 e.2) ↔ k∈M
 sz:es.length<=M.length
def Cnt.perm{l l':List (Int×Value)}(C:Cnt pg wd h0 G M l)(p:l'.Perm l):Cnt pg wd h0 G M l' :=
 ⟨λ e he=>C.el e (p.mem_iff.mp he),(p.map _).nodup_iff.mpr C.kn,λ k=>((p.map _).mem_iff).trans (C.mm k),by rw[p.length_eq];exact C.sz⟩
def Ih(T:SetP pg wd h0 G b M es t)(hn:ks ∉ es.toList.map λ e=>kP h0 e.2)(hx:IsTupleKey (intKind pg wd) h0 ks c)(hg:G c):Cnt pg wd h0 G (M++[ks]) (es.push (tupleKeyHash (intKind pg wd) ks,.ref c)).toList:=by
 have kk:=xA hx;rw[rZ];refine⟨λ e he=>?_,?_,λ k=>?_,?_⟩
 ·rcases bn.mp he with he|he
  ·exact T.el e he
  ·cases bj.mp he;exact⟨c,fu,⟨by show IsTupleKey (intKind pg wd) h0 (kP h0 (.ref c)) c;rw[kk];exact hx,hg⟩,by show _=tupleKeyHash (intKind pg wd) (kP h0 (.ref c));rw[kk]⟩
 ·rw[bQ,List.nodup_append];refine⟨T.kn,BT,λ x hx y hy=>?_⟩;rw[sg,bj] at hy;subst hy;intro e;exact hn (by rw[<- kk];exact e ▸ hx)
 ·rw[bQ,bn,bn,T.mm k,sg];show _\/k∈[kP h0 (.ref c)] ↔ _;rw[kk]
 ·rw[aR,aR,Array.length_toList];exact s2a T.sz 1
theorem Ii(T:SetP pg wd h0 G b M es t)(ej:t.slot j=.empty)(w:Pwk t (dM t) j (t.probeStart (tupleKeyHash (intKind pg wd) ks))) :
  (t.put j).1.place.size=es.size+1/\(t.put j).1.mask=t.mask/\(t.put j).1.dummies=#[]/\Tb b (t.put j).1/\Met (SetTable.insertAt es (t.put j).2 (tupleKeyHash (intKind pg wd) ks,.ref c)).toList (t.put j).1:=by
 have na:jd t j:=rO λ i z=>by rw[ej] at z;cases z
 have pl:(t.put j).1.place.toList=t.place.toList.take (SetTable.below t.place j)++j::t.place.toList.drop (SetTable.below t.place j):=rJ _ _ _
 have inn:∀y,y∈t.place.toList->y∈(t.put j).1.place.toList:=λ y hy=>by
  rw[pl];rw[<- eY (SetTable.below t.place j) t.place.toList] at hy
  rcases bn.mp hy with z|z
  ·exact gz _ z
  ·exact bK _ (.tail _ z)
 refine⟨?_,fu,?_,⟨T.tb.1,wC T.tb.2 na⟩,λ q hq=>?_⟩
 ·rw[<- Array.length_toList,pl,aR,List.length_cons,aY,db,Array.length_toList,T.fs];have:=T.fs;lia
 ·show(if SetTable.has t.dummies j=true then _ else t.dummies)=_;rw[T.nd];rw[if_neg (by simp[SetTable.has])]
 ·rw[pl,rJ] at hq;have hq:=Ig _ _ _ _ _ (by rw[Array.length_toList,Array.length_toList,T.fs]) q hq;have mk:∀g p,Pwk t (λ y=>y∈t.place.toList) g p->Pwk (t.put j).1 (λ y=>y∈(t.put j).1.place.toList) g p:=λ g p w=>Pwk.mask (t:=t) (t':=(t.put j).1) rfl (Pwk.mono (t:=t) (O':=λ y=>y∈(t.put j).1.place.toList) inn w)
  rcases hq with rfl|hq
  ·exact mk _ _ (w.mono λ y hy=>Ia hy)
  ·exact mk _ _ (T.mt q hq)
theorem Ij{a:Addr}{R:Bool->Shared->Prop}(hu:B.units<cLine)(ho:z0.heap.get? a=some (cq es ep t))(T:SetP pg wd h0 G b M es t)(k0:∀c o,h0.get? c=some o->z0.heap.get? c=some o)(hx:IsTupleKey (intKind pg wd) h0 ks c)(hg:G c)(hz:M.length<70)
  (fin:∀h' es' ep' t' r,Heap.SameBut a z0.heap h'->h'.get? a=some (cq es' ep' t')->SetP pg wd h0 G b (M++[ks]) es' t'->R r { z0 with heap:=h' }) :
  wpAny (model pg wd) B (setAddHashed a (.ref c) (tupleKeyHash (intKind pg wd) ks)) R X0 z0:=by
 have e70:es.size<70:=lL T.sz hz;obtain⟨tgt,tl,et⟩:=HS T.tb.2 T.nd (by rw[T.fs];have:=T.fl;lia);unfold setAddHashed setAddHashedIn;refine bv (ae (fX ho rfl T.ft ?_));dsimp only;rw[if_neg (by simp[byScan,Value.scannable])];unfold setSearch
 have tm:10*SetTable.turns t.mask<100000:=by
  unfold SetTable.turns
  rcases T.mo with e|e|e<;>rw[e]<;>decide
 refine ae (Ie hu ho T k0 hx et (λ hin=>?_) (λ j hn ej w=>?_) (10*SetTable.turns t.mask) 100000 none tm (aj _) (HR _ T.mo tl) rfl (λ g w=>w) λ i e j g1 g2 g3=>?_)
 ·exact ah (fin z0.heap es ep t _ (Heap.SameBut.refl a _) ho (T.oldP hin))
 ·dsimp only;refine ae (fX ho rfl T.ft ?_);dsimp only;obtain⟨p1,p2,p3,p4,p5⟩:=Ii (c:=c) T ej w;have C:=(Ih T hn hx hg).perm (s0z es (t.put j).2 (tupleKeyHash (intKind pg wd) ks,.ref c))
  have es1:(SetTable.insertAt es (t.put j).2 (tupleKeyHash (intKind pg wd) ks,Value.ref c)).size=es.size+1:=by
   rw[<- Array.length_toList,(s0z es (t.put j).2 (tupleKeyHash (intKind pg wd) ks,Value.ref c)).length_eq,Array.length_toList,Array.size_push]
  generalize SetTable.insertAt es (t.put j).2 (tupleKeyHash (intKind pg wd) ks,Value.ref c)=E at *;generalize (t.put j).1=u at *;have Esz:=C.sz;rw[Array.length_toList] at Esz;have fi:∀m,m<=100->m<=sizeLine:=λ m q=>cu (aP on);split
  all_goals
   first
    |refine ae (hbv (jk hx k0) ?_)
    |refine ae (ah ?_)
   rw[if_pos rfl];refine ae (oJ ho rfl ?_ (fi _ on));have o1:=oH (es1:=E) (t1:=u) ho;have sb:=iw z0.heap a (Obj.putSet E u);by_cases full:u.tooFull=true
   ·rw[if_pos (by rw[full];rfl)];unfold SetTable.tooFull SetTable.fill at full;have full:=ax full;rw[p1,p3] at full;have fl:=T.fl
    have big:(t.mask=7/\es.size=4)\/(t.mask=31/\es.size=18):=by
     rw[p2] at full
     rcases T.mo with e|e|e<;>rw[e] at full fl
     ·exact .inl ⟨e,by simp at full;lia⟩
     ·exact .inr ⟨e,by simp at full;lia⟩
     ·simp at full;lia
    have mo':eG (SetTable.sizeAbove (SetTable.grown (es.size+1))-1)/\(es.size+1)*5<(SetTable.sizeAbove (SetTable.grown (es.size+1))-1)*3/\SetTable.sizeAbove (SetTable.grown (es.size+1))<=128:=by
     rcases big with ⟨_,e⟩|⟨_,e⟩<;>rw[e]
     ·exact⟨.inr (.inl pv),pv,pv⟩
     ·exact⟨.inr (.inr pv),pv,pv⟩
    refine ae ?_;unfold setRelay;refine ae (fX o1 rfl ?_ ?_)
    ·unfold SetTable.fits SetTable.fill;rw[p1,p3,es1,p2];simp
     rcases big with ⟨m,e⟩|⟨m,e⟩<;>rw[m,e]<;>decide
    dsimp only;rw[if_neg (by have:=mo'.2.2;have:=fi 100 on;have hs:sizeLine=16777216:=gD;lia)];obtain⟨t',order,r,a1,a2,a3,a4,a5,a6,a7,a8⟩:=HY (t:=u) (es:=E) (wanted:=SetTable.grown (es.size+1)) mo'.1 (by rw[es1];have:=mo'.2.1;lia);rw[r]
    have pm:(order.filterMap (E[·]?)).toList.Perm E.toList:=by
     rw[s0y];exact(a1.filterMap _).trans (by rw[filterMap_getElem?_range])
    have sz2:(order.filterMap (E[·]?)).size=E.size:=by rw[<- Array.length_toList,pm.length_eq,Array.length_toList]
    have C2:=C.perm pm;refine ae ?_;show wpAny _ _ (if ((order.filterMap (E[·]?)).size != E.size)=true then _ else pure (order.filterMap (E[·]?),t')) _ _ _;rw[if_neg (by rw[sz2];simp)];refine ah ?_;refine oJ o1 rfl ?_ (fi _ (by show(order.filterMap (E[·]?)).size<=100;rw[sz2,es1];lia));exact ah (fin _ _ _ t' _ (sb.trans (iw _ a _)) (oH o1) ⟨C2.el,by rw[a7,sz2],by rw[a2];exact mo'.1,a5,⟨a3.trans p4.1,a6⟩,by rw[sz2,es1,a2];exact mo'.2.1,C2.kn,C2.mm,a8,by rw[sz2];exact Esz⟩)
   ·rw[if_neg (by simpa using full)];refine ah (fin _ E _ u _ sb o1 ⟨C.el,p1.trans es1.symm,by rw[p2];exact T.mo,p3,p4,?_,C.kn,C.mm,p5,Esz⟩);unfold SetTable.tooFull SetTable.fill at full;rw[eZ,p1,p3] at full;rw[es1];simp at full;lia
 ·have hh:e.1=tupleKeyHash (intKind pg wd) ks:=by
   obtain⟨_,_,_,q⟩:=T.el e (by rw[<- bE] at g1;exact aK g1);rw[q,g2]
  have hz:(j,e)∈t.place.toList.zip es.toList:=by
   refine aK (i:=i) ?_;rw[oV];exact⟨by rw[bE];exact g3,by rw[bE];exact g1⟩
  have w:=T.mt _ hz;rw[show(j,e).2.1=_ from hh] at w;exact w.mono λ y hy=>HZ T.tb.2 hy
end
section
variable {pg:Program}{wd:World}{B:Around}{X0:VS}{z0:Shared}{b:Bool}{G:Addr->Prop}
noncomputable def gM(pg:Program)(wd:World)(h0:Heap)(G:Addr->Prop)(b:Bool)(M:LL)(a:Addr)(h:Heap):Prop:=∃es ep t,h.get? a=some (cq es ep t)/\SetP pg wd h0 G b M es t
theorem Ik{l I a:Addr}{items:Array Value}{ms:LL}{h0:Heap}{R:Result->Shared->Prop}(hu:B.units+1<cLine)(hh:B.handled=none)(lI:l≠I)(aI:a≠I)(al:a≠l)(na:h0.get? a=none)(nI:h0.get? I=none)(sz:items.size=ms.length)
  (hi:∀(i:Nat) (ks:LI),ms[i]?=some ks->∃c,items[i]?=some (.ref c)/\IsTupleKey (intKind pg wd) h0 ks c/\G c) (hz:ms.length<70) :
  ∀(k i:Nat) (z:Shared),ms.length-i=k->i<=ms.length->(∀c o,h0.get? c=some o->z.heap.get? c=some o)->z.heap.IsListIter I l i->z.heap.IsList l items->gM pg wd h0 G b (ms.take i) a z.heap ->
   (∀h' tk,(∀c o,c≠a->c≠I->z.heap.get? c=some o->h'.get? c=some o)->gM pg wd h0 G b ms a h'->R (.ok (.ret .none)) { z with heap:=h',toks:=tk }) ->
   codeAny (model pg wd) B (.builtin "set.update.loop" ⟨[.ref a,.ref I],[]⟩) R z:=by
 have W:=s3v (prog:=pg) (w:=wd) (A:=B.in1) hh I l lI items;intro k
 induction k with
 |zero=>
  intro i z hk hle kz it il hS fin;have e:i=ms.length:=on;subst e;refine cD oK ?_;rw[cM kh _];show wpAny _ B.in1 (pyNext (.ref I) >>= _) _ _ z;refine ae (W.done z _ _ (by rw[sz];exact⟨it,il⟩) λ h' tk kp=>?_);show wpAny _ _ (ret Value.none) _ _ _;obtain⟨es,ep,t,ho,T⟩:=hS;rw[cX] at T;exact ah (fin h' tk (λ c o _ cI q=>kp c o (by simpa using cI) q) ⟨es,ep,t,kp a _ (by simpa using aI) ho,T⟩)
 |succ k ih=>
  intro i z hk hle kz it il hS fin;have lt:i<ms.length:=on;refine cD oK ?_;rw[cM kh _];show wpAny _ B.in1 (pyNext (.ref I) >>= _) _ _ z;refine ae (W.item i z _ _ on ⟨it,il⟩ λ v h' tk hv st kp=>?_);obtain⟨c,ec,tkc,gc⟩:=hi i _ (aC lt);rw[ec] at hv;cases hv;obtain⟨es,ep,t,ho,T⟩:=hS;have ho':=kp a _ (by simpa using aI) ho
  have kz':∀c o,h0.get? c=some o->h'.get? c=some o:=λ c o q=>kp c o (by
   have:c≠I:=λ z=>by rw[z,nI] at q;cases q
   simpa using this) (kz c o q)
  have tt:ms.take i++[ms[i]]=ms.take (i+1):=by rw[mf,aC lt];rfl
  show wpAny _ B.in1 (holding [Value.ref c] (setAdd a (.ref c)) >>= _) _ _ _;refine ae (bv ?_);unfold setAdd;refine bv (ae ((tupleKind (intKind pg wd)).pyHash (k:=ms[i]) (show B.in1.units<cLine from hu) (jk tkc kz') ?_));refine Ij (ks:=ms[i]) (z0:={ z with heap:=h',toks:=tk+(tupleKind (intKind pg wd)).draws ms[i] }) (show B.in1.units<cLine from hu) ho' T kz' tkc gc (by rw[aY];lia) λ h2 es2 ep2 t2 r sb o2 T2=>?_;rw[tt] at T2
  have kp2:∀c o,c≠a->c≠I->z.heap.get? c=some o->h2.get? c=some o:=λ c o ca cI q=>by
   rw[sb.2 c ca];exact kp c o (by simpa using cI) q
  have kz2:∀c o,h0.get? c=some o->h2.get? c=some o:=λ c o q=>by
   have:c≠a:=λ z=>by rw[z,na] at q;cases q
   rw[sb.2 c this];exact kz' c o q
  refine ah ⟨cE kh _,ih (i+1) _ on lt kz2 ?_ ?_ ⟨es2,ep2,t2,o2,T2⟩ λ h3 tk3 kp3 hS3=>?_⟩
  ·exact st.1.at λ o e=>by rw[sb.2 I (bh aI)];exact e
  ·exact st.2.at λ o e=>by rw[sb.2 l (bh al)];exact e
  ·exact fin h3 tk3 (λ c o ca cI q=>kp3 c o ca cI (kp2 c o ca cI q)) hS3
end
end _L
namespace _L
open PySem PySem.Spec PySem.W PyProof.Rows
section
variable {n:Nat}{r:Nat->Nat}{cmp:Nat->Nat->(Bool->Shared->Prop)->Shared->Prop}{s:Shared}
noncomputable def iE(n:Nat)(r:Nat->Nat)(cmp:Nat->Nat->(Bool->Shared->Prop)->Shared->Prop)(s:Shared):Prop:=∀i j C,i<n->j<n->C (decide (r i<r j)) s->cmp i j C s
structure Pm (n:Nat)(p:Array Nat):Prop where
 pm:p.toList.Perm (List.range n)
 n0:0<n
def Pm.size(h:Pm n p):p.size=n:=by have:=h.pm.length_eq;simpa using this
def Pm.lt(h:Pm n p)(i:Nat):p.getD i 0<n:=by
 by_cases c:i<p.size
 ·have e:p.getD i 0=p[i]:=by simp[Array.getD,c]
  have m:p[i]∈p.toList:=BT;have:=h.pm.mem_iff.mp m;rw[e];simpa using this
 ·have e:p.getD i 0=0:=by simp[Array.getD,c]
  rw[e];exact h.n0
def Pm.of{p q:Array Nat}(h:Pm n p)(e:q.Perm p):Pm n q:=⟨e.toList.trans h.pm,h.n0⟩
def Kr(r:Nat->Nat)(p:Array Nat)(i:Nat):Nat:=r (p.getD i 0)
def mB{p q:Array Nat}{i j:Nat}(h:p[i]?=q[j]?):p.getD i 0=q.getD j 0:=by
 rw[fY,fY,h]
def xD{p:Array Nat}{k l:Nat}(hk:k<p.size)(hl:l<=k)(i:Nat):Kr r (bubble p k (k-l)) i=if i=l then Kr r p k else if l<i/\i<=k then Kr r p (i-1) else Kr r p i:=by
 have g:=getElem?_bubble hk (k-l) (Nat.sub_le _ _) i;rw[show k-(k-l)=l by lia] at g;unfold Kr;by_cases c1:i=l
 ·rw[if_pos c1] at g ⊢;exact bu r (mB g)
 ·rw[if_neg c1] at g ⊢;by_cases c2:l<i/\i<=k
  ·rw[if_pos c2] at g ⊢;exact bu r (mB g)
  ·rw[if_neg c2] at g ⊢;exact bu r (mB g)
def sP{p:Array Nat}{i j:Nat}(hj:j<=p.size)(k:Nat):Kr r (kas_rev p i j) k=if i<=k/\k<j then Kr r p (i+j-1-k) else Kr r p k:=by
 have g:=getElem?_mirror_all (i:=i) hj k;unfold Kr kas_rev;by_cases c:i<=k/\k<j
 ·rw[if_pos c] at g ⊢;exact bu r (mB g)
 ·rw[if_neg c] at g ⊢;exact bu r (mB g)
def Pm.rev(h:Pm n p)(i j:Nat):Pm n (kas_rev p i j):=h.of (mirror_perm _ _ _ _)
noncomputable def Up(r:Nat->Nat)(p:Array Nat)(k:Nat):Prop:=∀i j,i<=j->j<k->Kr r p i<=Kr r p j
noncomputable def Dn(r:Nat->Nat)(p:Array Nat)(k:Nat):Prop:=∀i j,i<=j->j<k->Kr r p j<=Kr r p i
def Up.more(h:Up r p k)(h1:1<=k)(q:Kr r p (k-1)<=Kr r p k):Up r p (k+1):=by
 intro i j hij hj
 rcases dz j k with c|c
 ·exact h i j hij c
 ·have:j=k:=by lia
  subst this
  rcases dz i j with c2|c2
  ·exact bH (h i (j-1) on on) q
  ·have:i=j:=by lia
   subst this;exact aj _
def Dn.more(h:Dn r p k)(h1:1<=k)(q:Kr r p k<=Kr r p (k-1)):Dn r p (k+1):=by
 intro i j hij hj
 rcases dz j k with c|c
 ·exact h i j hij c
 ·have:j=k:=by lia
  subst this
  rcases dz i j with c2|c2
  ·exact bH q (h i (j-1) on on)
  ·have:i=j:=by lia
   subst this;exact aj _
theorem sQ(hc:iE n r cmp s)(P:Pm n p){Q:Nat->Shared->Prop}:∀(f k:Nat),1<=k->k+f<=n->Up r p k->(∀m,k<=m->m<=k+f->Up r p m->(m<k+f->Kr r p m<Kr r p (m-1))->Q m s)->(kas_asc p f k).kasWp cmp Q s
 |0,k,_,_,hu,h=>h k (aj _) (aj _) hu λ c=>by lia
 |f+1,k,h1,hn,hu,h=>by
  show cmp _ _ _ _;refine hc _ _ _ (P.lt _) (P.lt _) ?_;by_cases c:r (p.getD k 0)<r (p.getD (k-1) 0)
  ·rw[bz c];dsimp only;(try rw[if_pos rfl]);exact h k (aj _) on hu λ _=>c
  ·rw[aO c];dsimp only;(try rw[if_neg aV]);exact sQ hc P f (k+1) on on (hu.more h1 (jS c)) λ m a b u l=>h m on on u λ q=>l on
def sU{p:Array Nat}{i j:Nat}(hj:j<=p.size)(e:∀k,i<=k->k<j->Kr r p k=Kr r p (j-1))(k:Nat):Kr r (kas_rev p i j) k=Kr r p k:=by
 rw[sP hj];split
 ·rename_i c;rw[e k c.1 c.2,e (i+j-1-k) on on]
 ·rfl
def Dn.same(h:Dn r p k)(e:∀i,Kr r q i=Kr r p i):Dn r q k:=λ i j a b=>by rw[e,e];exact h i j a b
theorem oW(hc:iE n r cmp s){Q:Array Nat×Nat×Nat->Shared->Prop}:∀(f:Nat) (p:Array Nat) (k q:Nat),Pm n p->1<=k->q+1<=k->k+f<=n->Dn r p k->(∀i,k-(q+1)<=i->i<k->Kr r p i=Kr r p (k-1)) ->
  (∀p' m q',Pm n p'->k<=m->m<=k+f->q' + 1<=m->Dn r p' m->(∀i,m-(q' + 1)<=i->i<m->Kr r p' i=Kr r p' (m-1))->Q (p',m,q') s)->(kas_desc f p k q).kasWp cmp Q s
 |0,p,k,q,P,h1,hq,hn,hd,he,h=>h p k q P (aj _) (aj _) hq hd he
 |f+1,p,k,q,P,h1,hq,hn,hd,he,h=>by
  have hs:=P.size;have nx:∀(p':Array Nat) (k':Nat),k'=k+1->∀i,k'-(0+1)<=i->i<k'->Kr r p' i=Kr r p' (k'-1):=λ p' k' e i a b=>by rw[show i=k'-1 by lia]
  show cmp _ _ _ _;refine hc _ _ _ (P.lt _) (P.lt _) ?_;by_cases c:r (p.getD k 0)<r (p.getD (k-1) 0)
  ·rw[bz c];dsimp only;(try rw[if_pos rfl]);have hd':Dn r p (k+1):=hd.more h1 (cu c);split
   ·refine oW hc f _ (k+1) 0 (P.rev _ _) on on on (hd'.same (sU on he)) (nx _ _ rfl) λ p' m q' a1 a2 a3=>h p' m q' a1 on on
   ·exact oW hc f p (k+1) 0 P on on on hd' (nx _ _ rfl) λ p' m q' a1 a2 a3=>h p' m q' a1 on on
  ·rw[aO c];dsimp only;(try rw[if_neg aV]);show cmp _ _ _ _;refine hc _ _ _ (P.lt _) (P.lt _) ?_;by_cases d:r (p.getD (k-1) 0)<r (p.getD k 0)
   ·rw[bz d];dsimp only;(try rw[if_pos rfl]);exact h p k q P (aj _) on hq hd he
   ·rw[aO d];dsimp only;(try rw[if_neg aV]);have e:Kr r p k=Kr r p (k-1):=Nat.le_antisymm (jS d) (jS c);refine oW hc f p (k+1) (q+1) P on on on (hd.more h1 (Nat.le_of_eq e)) (λ i a b=>?_) λ p' m q' a1 a2 a3=>h p' m q' a1 on on;show Kr r p i=Kr r p k
    rcases dz i k with z|z
    ·rw[he i on z,e]
    ·rw[show i=k by lia]
def xF(hc:iE n r cmp s){k:Nat}{Q:Nat×Array Nat->Shared->Prop}(P:Pm n p)(h1:1<=k)(hn:k<=n)(hd:Dn r p k)(h:∀m p',Pm n p'->k<=m->m<=n->Up r p' m->Q (m,p') s):(kas_tail3 k n p).kasWp cmp Q s:=by
 unfold kas_tail3;rw[KasT.kasWp_bind];have hs:=P.size;refine sQ hc (P.rev 0 k) (n-k) k h1 on (λ i j a b=>?_) λ m a b u _=>h m _ (P.rev 0 k) a on u;rw[sP on,sP on,if_pos on,if_pos on];exact hd _ _ on on
def xG(hc:iE n r cmp s){k:Nat}{Q:Nat×Array Nat->Shared->Prop}(P:Pm n p)(hn:k+1<=n)(hd:Dn r p (k+1))(h:∀m p',Pm n p'->1<=m->m<=n->Up r p' m->Q (m,p') s):(kas_descPart k n p).kasWp cmp Q s:=by
 unfold kas_descPart;rw[KasT.kasWp_bind];refine oW hc (n-(k+1)) p (k+1) 0 P on on on hd (λ i a b=>by rw[show i=k by lia];rfl) λ p' m q' P' a b c d e=>?_;have hs:=P'.size;dsimp only;split
 ·exact xF hc (P'.rev _ _) on on (d.same (sU on e)) λ m' p2 a1 a2 a3 a4=>h m' p2 a1 on a3 a4
 ·exact xF hc P' on on d λ m' p2 a1 a2 a3 a4=>h m' p2 a1 on a3 a4
def Il(hc:iE n r cmp s){Q:Nat×Array Nat->Shared->Prop}(P:Pm n p)(h:∀m p',Pm n p'->1<=m->m<=n->Up r p' m->Q (m,p') s):(kas_count n p).kasWp cmp Q s:=by
 have n0:=P.n0;have hs:=P.size;unfold kas_count;rw[KasT.kasWp_bind];refine sQ hc P (n-1) 1 on on (λ i j a b=>by rw[show i=0 by lia,show j=0 by lia];exact aj _) λ m a b u l=>?_;split
 ·exact h m p P a on u
 ·rename_i c;have c:m≠n:=λ z=>c (eV.mpr z);have lt:=l on;split
  ·show cmp _ _ _ _;refine hc _ _ _ (P.lt _) (P.lt _) ?_;by_cases d:r (p.getD 0 0)<r (p.getD (m-1) 0)
   ·rw[bz d];dsimp only;(try rw[if_pos rfl]);exact h m p P a on u
   ·rw[aO d];dsimp only;(try rw[if_neg aV]);have d:Kr r p (m-1)<=Kr r p 0:=jS d;have e:∀k,0<=k->k<m->Kr r p k=Kr r p (m-1):=λ k _ hk=>Nat.le_antisymm (u _ _ on on) (bH d (u _ _ on on));have dn:Dn r p m:=λ i j a b=>by rw[e i on on,e j on b];exact aj _
    exact xG hc (P.rev 0 m) on ((dn.more a (cu lt)).same (sU on e)) h
  ·have e:m=1:=by lia
   subst e;have dn:Dn r p 1:=λ i j a b=>by rw[show i=0 by lia,show j=0 by lia];exact aj _
   exact xG hc P on (dn.more a (cu lt)) h
theorem sV(hc:iE n r cmp s)(P:Pm n p)(hu:Up r p k){Q:Nat->Shared->Prop}:∀(f l t:Nat),t-l<=f->l<=t->t<=k->(∀i,i<l->Kr r p i<=Kr r p k)->(∀i,t<=i->i<k->Kr r p k<Kr r p i) ->
  (∀m,m<=k->(∀i,i<m->Kr r p i<=Kr r p k)->(∀i,m<=i->i<k->Kr r p k<Kr r p i)->Q m s)->(kas_place p k f l t).kasWp cmp Q s
 |0,l,t,hf,hl,ht,a,b,h=>h l on a λ i x y=>b i on y
 |f+1,l,t,hf,hl,ht,a,b,h=>by
  unfold kas_place;split
  ·exact h l on a λ i x y=>b i on y
  ·show cmp _ _ _ _;refine hc _ _ _ (P.lt _) (P.lt _) ?_;by_cases c:r (p.getD k 0)<r (p.getD ((l+t)/2) 0)
   ·rw[bz c];dsimp only;(try rw[if_pos rfl]);exact sV hc P hu f l ((l+t)/2) on on on a (λ i x y=>bZ c (hu _ _ x y)) h
   ·rw[aO c];dsimp only;(try rw[if_neg aV]);exact sV hc P hu f ((l+t)/2+1) t on on on (λ i x=>bH (hu i ((l+t)/2) on on) (jS c)) b h
def Up.ins{p:Array Nat}{k l:Nat}(hk:k<p.size)(hl:l<=k)(hu:Up r p k)(a:∀i,i<l->Kr r p i<=Kr r p k)(b:∀i,l<=i->i<k->Kr r p k<Kr r p i):Up r (bubble p k (k-l)) (k+1):=by
 intro i j hij hj;rw[xD hk hl,xD hk hl];by_cases c1:i=l
 ·rw[if_pos c1];by_cases c2:j=l
  ·rw[if_pos c2];exact aj _
  ·rw[if_neg c2,if_pos on];exact cu (b _ on on)
 ·rw[if_neg c1];by_cases c2:l<i/\i<=k
  ·rw[if_pos c2,if_neg on,if_pos on];exact hu _ _ on on
  ·rw[if_neg c2];by_cases c3:j=l
   ·rw[if_pos c3];exact a _ on
   ·rw[if_neg c3];by_cases c4:l<j/\j<=k
    ·rw[if_pos c4];exact hu _ _ on on
    ·rw[if_neg c4];exact hu _ _ hij on
theorem xH(hc:iE n r cmp s){Q:Array Nat->Shared->Prop}:∀(f:Nat) (p:Array Nat) (k:Nat),Pm n p->k+f=n->Up r p k->(∀p',Pm n p'->Up r p' n->Q p' s)->(kas_bin f p k).kasWp cmp Q s
 |0,p,k,P,e,hu,h=>h p P (by rw[<- e];exact hu)
 |f+1,p,k,P,e,hu,h=>by
  unfold kas_bin;rw[KasT.kasWp_bind];have hs:=P.size;refine sV hc P hu k 0 k on on (aj _) (λ i x=>by lia) (λ i x y=>by lia) λ m a b c=>?_;exact xH hc f _ (k+1) (P.of (bubble_perm _ _ _)) on (hu.ins on a b c) h
def Im(hc:iE n r cmp s)(n0:0<n){Q:Array Nat->Shared->Prop}(h:∀p,Pm n p->Up r p n->Q p s):(kas_sort n).kasWp cmp Q s:=by
 unfold kas_sort;rw[KasT.kasWp_bind];refine Il hc ⟨BT,n0⟩ λ m p P h1 hm hu=>?_;dsimp only;split
 ·rw[show max m 1=m by lia];exact xH hc (n-m) p m P on hu h
 ·exact h p P (by rw[<- show m=n by lia];exact hu)
end
section
variable {pg:Program}{wd:World}{A:Around}{E:VS}{s:Shared}
theorem xI{Q:Bool->Shared->Prop}:∀ {ks:LI}{xs:LV},ItemsAre (intKind pg wd) ks xs->∀ {ls:LI}{ys:LV},ItemsAre (intKind pg wd) ls ys->∀i,Q (decide (ks<ls)) s->KatLex pg wd A true (decide (xs.length<ys.length)) Q (xs.zip ys) i s
 |_,_,.nil,_,_,.nil,i,h=>by
  rw[show decide (([]:LI) < [])=false from aO (List.not_lt_nil _)] at h;exact kat_nil h
 |_,_,.nil,_,_,.cons _ _,i,h=>by
  rw[bz (List.nil_lt_cons _ _)] at h;exact kat_nil (by simpa using h)
 |_,_,.cons _ _,_,_,.nil,i,h=>by
  rw[aO (List.not_lt_nil _)] at h;exact kat_nil (by simpa using h)
 |k::ks,v::xs,.cons hk rk,l::ls,u::ys,.cons hl rl,i,h=>by
  show KatLex _ _ _ _ _ _ ((v,u)::xs.zip ys) i s;refine kat_cons ((intKind pg wd).eqBool hk hl ?_);obtain⟨t1,rfl⟩:=hG (k:=k) hk;obtain⟨t2,rfl⟩:=hG (k:=l) hl;by_cases e:k=l
  ·rw[bz e];refine kat_yes ?_;have hf:decide ((Value.int k t1::xs).length<(Value.int l t2::ys).length)=decide (xs.length<ys.length):=ij.mpr BT;rw[hf];refine xI rk rl (i+1) ?_;rw[show decide (k::ks<l::ls)=decide (ks<ls) from ij.mpr (s1n.trans ⟨λ q=>q.elim (λ q=>absurd q on) (·.2),λ q=>.inr ⟨e,q⟩⟩)] at h;exact h
  ·rw[aO e];refine kat_no ?_;rw[show decide (k::ks<l::ls)=decide (k<l) from ij.mpr (s1n.trans ⟨λ q=>q.elim id (λ q=>absurd q.1 e),.inl⟩)] at h;by_cases c:i=0
   ·rw[show(true&&i == 0)=true by rw[c];rfl];exact oneLt_int h
   ·rw[show(true&&i == 0)=false by simpa using c];exact kat_one _ _ (PyProof.Rows.lt_int h)
def Io{Q:Bool->Shared->Prop}(hx:IsTupleKey (intKind pg wd) s.heap ks x)(hy:IsTupleKey (intKind pg wd) s.heap ls y)(h:Q (decide (ks<ls)) s):wpAny (model pg wd) A (keyLt' (tuples' true) (.ref x) (.ref y)) Q E s:=by
 obtain⟨ox,xs,n,gx,cx,dx,ix⟩:=hx;obtain⟨oy,ys,m,gy,cy,dy,iy⟩:=hy;refine kat_lt gx dx gy dy ?_;have:=xI (A:=A) ix iy 0 h
 rwa [Array.length_toList,Array.length_toList] at this
end
def xJ{p q:Nat->Bool}:∀(l:List Nat),(∀x,p x=true->q x=true)->l.countP p<=l.countP q:=λ l h=>List.countP_mono_left λ x _=>h x
theorem xK{p q:Nat->Bool}(h:∀x,p x=true->q x=true)(hp:p y=false)(hq:q y=true):∀(l:List Nat),y∈l->l.countP p<l.countP q
 |x::l,hy=>by
  rw[List.countP_cons,List.countP_cons];have:=xJ l h;by_cases e:y=x
  ·subst e;rw[hp,hq];simp;lia
  ·have:=xK h hp hq l (by rcases aN.mp hy with z|z;exact absurd z e;exact z)
   have:(if p x=true then 1 else 0)<=(if q x=true then 1 else 0):=by
    by_cases c:p x=true
    ·rw[if_pos c,if_pos (h x c)];exact aj _
    ·rw[if_neg c];exact aX _
   lia
noncomputable def rk(key:Nat->LI)(n i:Nat):Nat:=(List.range n).countP λ j=>decide (key j<key i)
def xL{key:Nat->LI}{n i j:Nat}(hi:i<n):decide (key i<key j)=decide (rk key n i<rk key n j):=by
 apply ij.mpr;constructor
 ·intro h;exact xK (y:=i) (λ x q=>bz (s3q (ax q) h)) (aO (mC _)) (bz h) _ (bU.mpr hi)
 ·intro h;apply mq;intro c
  have:rk key n j<=rk key n i:=xJ _ λ x q=>by
   have q:=ax q;apply bz;by_cases d:key j<key i
   ·exact s3q q d
   ·rw[<- show key j=key i from List.le_antisymm c d];exact q
  lia
section
variable {pg:Program}{wd:World}{A:Around}{E:VS}{s:Shared}
noncomputable def Tups(pg:Program)(wd:World)(h:Heap)(ks:Nat->LI)(vs:LV):Prop:=∀(i:Nat) (v:Value),vs[i]?=some v->∃c,v=.ref c/\IsTupleKey (intKind pg wd) h (ks i) c/\ks i≠[]
theorem Tups.kat:∀ {vs:LV}{ks:Nat->LI},Tups pg wd h ks vs->∃fs,KatTups h vs fs/\fs.length=vs.length/\∀v∈fs,∃n t,v=Value.int n t
 |[],_,_=>⟨[],.nil,rfl,λ v hv=>by cases hv⟩
 |v::vs,ks,h=>by
  obtain⟨fs,k,e,a⟩:=Tups.kat (vs:=vs) (ks:=λ i=>ks (i+1)) λ i u hu=>h (i+1) u hu;obtain⟨c,rfl,⟨o,its,n,g,hc,d,it⟩,ne⟩:=h 0 v rfl
  cases hk:ks 0 with
  |nil=>exact absurd hk ne
  |cons k0 kr=>
   rw[hk] at it;generalize hi:its.toList=il at it
   cases it with
   |@cons _ u _ us h1 h2=>
    obtain⟨t,rfl⟩:=hG (k:=k0) h1;refine⟨_::fs,.cons (f:=.int k0 t) g hc d (by rw[<- bE,hi];rfl) k,by rw[List.length_cons,List.length_cons,e],λ v hv=>?_⟩
    rcases aN.mp hv with rfl|hv
    ·exact⟨_,_,fu⟩
    ·exact a v hv
theorem Ip{a:Addr}{vs:LV}{P:PySem.Fin->Shared->Prop}(ho:s.heap.get? a=some (seqObj "list" vs.toArray n))(ht:Tups pg wd s.heap ks vs)(h64:vs.length<64)
  (h:∀p:Array Nat,p.toList.Perm (List.range vs.length)->(∀i j,i<=j->j<vs.length->¬ks (p.getD j 0)<ks (p.getD i 0))->P (.done (.ret .none)) { s with heap:=sortedHeap s.heap a vs (List.toArray (p.toList.map λ i=>vs.getD i Value.none)) }) :
  wpAny (model pg wd) A (Builtin.«list.sort» ⟨[.ref a],[]⟩) P E s:=by
 have ha:a<s.heap.objs.size:=az ho
 have na:∀ {i c},IsTupleKey (intKind pg wd) s.heap (ks i) c->c≠a:=λ q z=>by
  obtain⟨o,_,_,g,hc,_⟩:=q;rw[z,ho] at g;cases g;exact absurd hc (by simp[seqObj])
 rw[list_sort_plain];refine ae (listItems_at ho rfl ?_);refine ae (s3r ho rfl ?_);obtain⟨e1,ho1⟩:∃e1,(s.heap.update a (Obj.mapSeq λ _=>#[])).get? a=some (seqObj "list" #[] e1):=⟨_,get?_update_seq ho (λ _=>#[])⟩;refine ae (s4j ho1 rfl ?_);refine ae (lY ?_);refine ae (s0f ?_);refine bv ?_;generalize hh:((s.heap.update a (Obj.mapSeq λ _=>(#[]:Array Value))).push (seqObj "tuple" vs.toArray 0)).push (seqObj "list" #[] 0)=hp
 have kp:∀c o,c≠a->s.heap.get? c=some o->hp.get? c=some o:=λ c o ca q=>by
  rw[<- hh];exact ay _ (ay _ ((df _ _ (bh ca)).trans q))
 have ho6:hp.get? a=some (seqObj "list" #[] e1):=by rw[<- hh];exact ay _ (ay _ ho1)
 have ht6:Tups pg wd hp ks vs:=λ i v q=>by
  obtain⟨c,rfl,tk,ne⟩:=ht i v q;refine⟨c,fu,?_,ne⟩;have nc:=na tk;obtain⟨o,its,m,g,r⟩:=tk;exact⟨o,its,m,kp _ _ nc g,r⟩
 show wpAny (model pg wd) A _ P E { s with heap:=hp }
 have fin:∀p:Array Nat,p.toList.Perm (List.range vs.length)->(∀i j,i<=j->j<vs.length->¬ks (p.getD j 0)<ks (p.getD i 0))->P (.done (.ret .none)) { s with heap:=hp.update a (Obj.mapSeq λ _=>List.toArray (p.toList.map λ i=>vs.getD i Value.none)) }:=by
  rw[<- hh];exact h
 dsimp only;have hsz:vs.toArray.size=vs.length:=BT;by_cases h2:vs.toArray.size<2
 ·rw[if_pos h2,if_pos h2];refine ae (ah ?_);rw[StateT.run_pure];refine ae (ah ?_);dsimp only;refine ae (s4j ho6 rfl ?_);refine ae (s3r ho6 rfl ?_ (hsz2:=by rw[oR];show(pairsOf vs).size<=_;rw[pairsOf_size,gD];lia));simp only[sj,jZ,s0e]
  have:=fin (List.toArray (List.range vs.length)) BT λ i j a b=>by
   have:i=j:=on;subst this;exact mC _
  refine ah ?_
  have e:Array.map (λ x=>x.2) (arrOf (SortSt.mk' general' (vs.toArray.zip vs.toArray) #[] 7 none))=List.toArray ((List.toArray (List.range vs.length)).toList.map λ i=>vs.getD i Value.none):=by
   apply Array.toList_inj.mp;show((vs.toArray.zip vs.toArray).map (·.2)).toList=_;apply kc;intro i;simp
   rcases dz i vs.length with c|c
   ·simp[c]
   ·simp[c,Nat.not_lt.mpr c]
  rw[e];exact this
 ·rw[if_neg h2,if_neg h2];obtain⟨fs,kt,fl,fi⟩:=ht6.kat
  refine ae (kat_kind (T:=.type "int") kt on (λ v hv=>by obtain⟨n,t,rfl⟩:=fi v hv;exact Looks.of_pure rfl) rfl ?_);rw[show(Value.type "int" != Value.type "tuple")=true by decide]
  refine ae (bV (kat_run (κ:=tuples' true) (vs:=vs) (ks:=vs) (Q:=λ st' s'=>∃p:Array Nat,p.size=vs.length/\arrOf st'=p.map (kas_item (vs.toArray.zip vs.toArray))/\failedOf st'=none/\s'={ s with heap:=hp }/\Pm vs.length p/\Up (rk ks vs.length) p vs.length)
   (G:=λ p s'=>s'={ s with heap:=hp }/\Pm vs.length p/\Up (rk ks vs.length) p vs.length) rfl on h64 (λ p st' s' a1 a2 a3 a4=>⟨p,a1,a2,a3,a4.1,a4.2⟩) (Im (r:=rk ks vs.length) (λ i j C hi hj hC=>?_) on λ p P u=>⟨rfl,P,u⟩)) ?_ λ _ _ e=>e)
  ·obtain⟨c1,e1',t1,_⟩:=ht6 i _ (aC hi);obtain⟨c2,e2',t2,_⟩:=ht6 j _ (aC hj);show wpAny (model pg wd) A (keyLt' (tuples' true) (vs.getD i Value.none) (vs.getD j Value.none)) C (λ _ _=>False) _;rw[show vs.getD i Value.none=.ref c1 by rw[<- e1'];simp[hi],show vs.getD j Value.none=.ref c2 by rw[<- e2'];simp[hj]];refine Io t1 t2 ?_;rw[xL hi];exact hC
  ·rintro⟨⟨⟩,st'⟩ s' ⟨p,ps,ar,hf,rfl,P,u⟩;dsimp only;have e:=kat_snds (vs:=vs) (ks:=vs) rfl ar;refine ae (s4j ho6 rfl ?_);refine ae (s3r ho6 rfl ?_ (hsz2:=by rw[e,aM,aq,Array.length_toList,ps,gD];lia));rw[hf,e];simp only[sj,jZ,s0e];refine ah (fin p P.pm λ i j a b=>?_);exact λ q=>Nat.not_lt.mpr (u i j a b) ((ij.mp (xL (key:=ks) (i:=p.getD j 0) (j:=p.getD i 0) (P.lt j))).mp q)
end
section
variable {pg:Program}{wd:World}{B:Around}{X0:VS}{z0:Shared}{G:Addr->Prop}{M:LL}{a:Addr}{h0:Heap}
theorem SetP.new:SetP pg wd h0 G b [] #[] (.fresh 0 0 b) where
 el:=λ e he=>(dJ he).elim
 fs:=rfl
 mo:=.inl rfl
 nd:=rfl
 tb:=⟨rfl,λ i k x y _ e=>by simp[SetTable.fresh] at e⟩
 fl:=by show 0*5<7*3;decide
 kn:=List.nodup_nil
 mm:=λ k=>by simp
 mt:=λ i h=>(dJ h).elim
 sz:=aj _
theorem Iq{R:VS}(hu:B.units+3<cLine)(hh:B.handled=none)(il:z0.heap.IsList l items)(sz:items.size=M.length)
  (hi:∀(i:Nat) (ks:LI),M[i]?=some ks->∃c,items[i]?=some (.ref c)/\IsTupleKey (intKind pg wd) z0.heap ks c/\G c) (hz:M.length<70)
  (fin:∀(h':Heap) (tk:Nat),gM pg wd z0.heap G (!byT wd) M z0.heap.objs.size h'->(∀c o,z0.heap.get? c=some o->h'.get? c=some o)->R (.ref z0.heap.objs.size) { z0 with heap:=h',toks:=tk }) :
  wpAny (model pg wd) B (call (.type "set") [.ref l]) R X0 z0 :=
 wI il (λ h1 I Q lI aI al nI k1 it il1 g0 fin=>Ik (B:=B.in1.in1) (h0:=z0.heap) hu hh lI aI al (wG (aj _)) nI sz hi hz M.length 0 { z0 with heap:=h1 } rfl (aX _) k1 it il1 ⟨#[],0,_,g0,.new⟩ fin) fin
def Ir{p:Array Nat}{vs:LV}(h:p.toList.Perm (List.range vs.length)):(p.toList.map λ i=>vs.getD i Value.none).Perm vs:=by
 refine(h.map _).trans (.of_eq ?_);apply kc;intro i;rw[bc]
 rcases dz i vs.length with c|c
 ·rw[iD c];simp[c]
 ·rw[fV (by simpa using c),fV c];rfl
theorem Iu{R:VS}(hh:B.handled=none)(hS:gM pg wd h0 G (!byT wd) M a z0.heap)(gk:∀c,G c->IsTupleKey (intKind pg wd) z0.heap (kP h0 (.ref c)) c)(nn:∀k∈M,k≠[])(m64:M.length<64)
  (fin:∀(h1 h2:Heap) (vs':LV) (ms':LL) (e tk:Nat) (d:Drawn),(∀b u,z0.heap.get? b=some u->h1.get? b=some u)->(∀b u,h1.get? b=some u->h2.get? b=some u)->h2.get? h1.objs.size=some (seqObj "list" vs'.toArray e)->ms'.Pairwise (· < ·)->(∀k,k∈ms' ↔ k∈M) ->
   ms'.length<64->vs'.map (kP h0)=ms'->(∀v∈vs',∃c,v=.ref c/\G c)->R (.ref h1.objs.size) { z0 with heap:=h2,drawn:=d,toks:=tk }) :
  wpAny (model pg wd) B (call (.builtin "sorted") [.ref a]) R X0 z0:=by
 obtain⟨es,ep,t,ho,T⟩:=hS;have e64:es.size<64:=lL T.sz m64;have zl:es.size<=sizeLine:=cu (aP on);refine qX s4i s4a s4b (s4c _) ?_;unfold Builtin.«sorted»;refine ae (m:=checkCount "sorted" 1 1 _) (ah ?_);refine ae (wQ (B:=B.in1) hh ho T.ft T.tb zl λ h1 d tk ac k1 pm=>?_);have al:ac.length=es.size:=pm.length_eq.trans BT
 have el:∀v∈ac,∃c,v=.ref c/\G c/\kP h0 v∈M:=λ v hv=>by
  obtain⟨e,he,rfl⟩:=aW.mp (pm.mem_iff.mp hv);obtain⟨c,ec,⟨_,g⟩,_⟩:=T.el e he;exact⟨c,ec,g,(T.mm _).mp (aW.mpr ⟨e,he,fu⟩)⟩
 refine ae (s0f ?_ (by rw[al];exact zl));have g1:(h1.push (seqObj "list" ac.toArray 0)).get? h1.objs.size=some (seqObj "list" ac.toArray 0):=aL _ rfl
 have ht:Tups pg wd (h1.push (seqObj "list" ac.toArray 0)) (λ i=>kP h0 (ac.getD i .none)) ac:=λ i v q=>by
  obtain⟨c,rfl,g,m⟩:=el v (aK q);have ev:ac.getD i .none=.ref c:=by rw[cw,q];rfl
  refine⟨c,fu,?_,?_⟩
  ·show IsTupleKey _ _ (kP h0 (ac.getD i .none)) c;rw[ev];exact jk (gk c g) λ c o q=>ay _ (k1 c o q)
  ·show kP h0 (ac.getD i .none)≠[];rw[ev];exact nn _ m
 refine ae (bv (dc s2k ⟨_,g1,fu⟩ s1i (Ip g1 ht on λ p a1 a2=>⟨_,fu,?_⟩) (s2l _)));refine ah ⟨_,fu,?_⟩;obtain⟨e,he⟩:=s3k (vs:=ac) (out:=List.toArray (p.toList.map λ i=>ac.getD i Value.none)) g1;have po:=Ir a1;have pl:p.toList.length=ac.length:=by rw[a1.length_eq,bd]
 have pk:((p.toList.map λ i=>ac.getD i Value.none).map (kP h0)).Perm (es.toList.map λ e=>kP h0 e.2):=((po.trans pm).map (kP h0)).trans (by rw[bq];exact .refl _);have nd:((p.toList.map λ i=>ac.getD i Value.none).map (kP h0)).Nodup:=pk.nodup_iff.mpr T.kn;refine fin h1 _ (p.toList.map λ i=>ac.getD i Value.none) _ e tk d k1 (λ b u q=>?_) he ?_ (λ k=>pk.mem_iff.trans (T.mm k)) (by rw[aq,aq,pl,al];exact e64) rfl λ v hv=>?_
 ·have lt:=az q;rw[s2m (aJ lt) (by rw[size_push'];exact cL lt)];exact ay _ q
 ·rw[lZ];intro i j hi hj lt;have hj':j<p.toList.length:=by simpa using hj
  have hi':i<p.toList.length:=on;have n1:=a2 i j on on;have gi:p.getD i 0=p.toList[i]:=by simp[Array.getD,show i<p.size from hi']
  have gj:p.getD j 0=p.toList[j]:=by simp[Array.getD,show j<p.size from hj']
  have n1:¬kP h0 (ac.getD (p.getD j 0) .none)<kP h0 (ac.getD (p.getD i 0) .none):=n1;rw[gi,gj] at n1;have ne:=(List.nodup_iff_pairwise_ne.mp nd);rw[lZ] at ne;have ne:=ne i j hi hj lt;simp only[oC] at ne ⊢;apply mq;intro z;exact ne (List.le_antisymm n1 z)
 ·obtain⟨c,e,g,_⟩:=el v (po.mem_iff.mp hv);exact⟨c,e,g⟩
end
noncomputable abbrev TL(K:FG)(H:Hp):LL->List V->Prop:=Paired λ(k:LI) (v:V)=>∃c,v=.ref c/\SqT K H c (k.map V.int)
theorem TL.get{K:FG}:∀ {ms:LL}{vs:List V}{i:Nat}{k:LI},TL K H ms vs->ms[i]?=some k->∃c,vs[i]?=some (.ref c)/\SqT K H c (k.map V.int)
 |[],_,i,k,_,e=>by simp at e
 |_::_,_,0,k,.cons h _,e=>by cases e;obtain⟨c,rfl,q⟩:=h;exact⟨c,rfl,q⟩
 |_::_,_,i+1,k,.cons _ r,e=>TL.get (i:=i) r e
variable {X:Cx}
theorem xM:∀ {us:LV}{ns:LI},IntsAre us ns->ItemsAre (intKind pg wd) ns us
 |_,_,.nil=>.nil
 |_,_,.cons n t r=>.cons (by show Value.isInt n (.int n t)=true;simp[Value.isInt]) (xM r)
def xN{k:LI}(I:Inv X pins σ H s)(h:SqT X.K H c (k.map V.int)):IsTupleKey (intKind X.prog X.w) s.heap k c:=by
 obtain⟨its,r,⟨o,g,hc,n,d⟩,_⟩:=I.tuple h;exact⟨o,its.toArray,n,g,hc,d,xM (iU r)⟩
theorem Iv(hc:X.calm=true)(hu:X.A.units+3 < cLine):bo X (.type "set") (λ xs H Q=>∃p vs ms,xs=[.ref p]/\SqL X.K H p vs/\TL X.K H ms vs/\ms.length < 64 /\
  ∀l h0,H l=none->Q (.ref l) (upd H l (.ext (gM X.prog X.w h0 (λ c=>SqT X.K H c ((kP h0 (.ref c)).map V.int)) (!byT X.w) ms l)))):=by
 intro pins s σ H xs us Q I r h;obtain⟨p,vs,ms,rfl,hq,tl,hn,q⟩:=h;obtain⟨u,rfl,rx⟩:=bW r;cases rx;obtain⟨its,r',pl,hz⟩:=I.list hq;have ln:its.length=ms.length:=by rw[<- Vals.length r',<- kX tl]
 refine Iq (M:=ms) (G:=λ c=>SqT X.K H c ((kP s.heap (.ref c)).map V.int)) hu (I.ok.hd hc) pl.isList (by simpa using ln) (λ i ks e=>?_) on λ h' tk so ol=>?_
 ·obtain⟨c,e1,sq⟩:=tl.get e;obtain⟨u,e2,ru⟩:=Vals.get r' e1;cases ru;have tk:=xN I sq;refine⟨c,by simpa using e2,tk,?_⟩;rw[xA tk];exact sq
 ·refine⟨.ref s.heap.objs.size,_,I.laid (a:=s.heap.objs.size) (o:=.ext (gM X.prog X.w s.heap (λ c=>SqT X.K H c ((kP s.heap (.ref c)).map V.int)) (!byT X.w) ms s.heap.objs.size)) (h':=h') (t':=tk) ol (aj _) ⟨so,?_,?_⟩,fu,q _ _ (I.hok.fresh (aj _))⟩
  ·obtain⟨es,ep,t,g,_⟩:=so;exact⟨_,g⟩
  ·rintro h1 h2 ⟨es,ep,t,g,T⟩ k;exact⟨es,ep,t,k _ g,T⟩
theorem Iw(hc:X.calm=true):bo X (.builtin "sorted") (λ xs H Q=>∃p ms h0 G,xs=[.ref p]/\H p=some (.ext (gM X.prog X.w h0 G (!byT X.w) ms p))/\(∀c,G c->SqT X.K H c ((kP h0 (.ref c)).map V.int))/\(ms.length < 64/\∀k∈ms,k≠[]) /\
  ∀ms' vs',ms'.Pairwise (· < ·)->(∀k,k∈ms' ↔ k∈ms)->TL X.K H ms' vs'->∀l,H l=none->Q (.ref l) (upd H l (.lst vs'))):=by
 intro pins s σ H xs us Q I r h;obtain⟨p,ms,h0,G,rfl,hp,hg,⟨h64,nn⟩,q⟩:=h;obtain⟨u,rfl,rx⟩:=bW r;cases rx;have so:=(show ObjOk X.prog X.w H s.heap p (.ext (gM X.prog X.w h0 G (!byT X.w) ms p)) from I.hok p _ hp).1;refine Iu (I.ok.hd hc) so (λ c g=>xN I (hg c g)) nn h64 λ h1 h2 vs' ms' e tk d k1 k2 g a1 a2 a3 a4 a5=>?_;have I0:Inv X pins σ H { s with drawn:=d }:=⟨I.ok,I.os,I.bare,I.base,I.loc,I.cell,I.free,I.freeC,I.pin,I.hok,I.len⟩;have I1:Inv X pins σ H { s with heap:=h1,drawn:=d,toks:=tk }:=I0.kept (t':=tk) k1
 have two:∀(l:LV),(∀v∈l,∃c,v=.ref c/\G c)->∃ws:List V,Vals ws l/\TL X.K H (l.map (kP h0)) ws:=by
  intro l
  induction l with
  |nil=>intro _;exact⟨[],.nil,.nil⟩
  |cons v l ih=>
   intro h;obtain⟨ws,w1,w2⟩:=ih λ u hu=>h u (bO _ hu);obtain⟨c,rfl,gc⟩:=h v bJ;exact⟨.ref c::ws,.cons rfl w1,.cons ⟨c,fu,hg c gc⟩ w2⟩
 obtain⟨ws,w1,w2⟩:=two vs' a5;rw[a4] at w2;have hz:ws.length<=sizeLine:=by rw[<- kX w2];exact cu (aP on)
 have I2:Inv X pins σ (upd H h1.objs.size (.lst ws)) { s with heap:=h2,drawn:=d,toks:=tk }:=I1.laid (t':=tk) k2 (aj _) (show ObjOk X.prog X.w _ _ _ (.lst ws) from ⟨hz,vs',e,w1,g⟩);exact⟨.ref h1.objs.size,_,I2,fu,q ms' ws a1 a2 w2 _ (I1.hok.fresh (aj _))⟩
inductive TV where
 |non|bl (b:Bool)|int (i:Int)|str (x:Str)|tup (l:List TV)|lst (l:List TV)|bor (l:List TV)|own (l:List TV)|dct (l:List (Int×Int))
noncomputable abbrev dcO(l:List (Int×Int)):HO:=.dK (l.map λ q=>((Sum.inl q.1:Key),V.int q.2))
abbrev Fz:=Addr->Prop
noncomputable def Ls(K:FG)(F:Fz)(H:Hp)(a:Addr)(vs:List V):Prop:=(F a/\SqL K H a vs) \/
 ∃(o:Obj) (its:Array Value) (n:Nat),K.lookup a=some o/\o.cls=.type "list" /\ o.dict=none/\o.data=.seq its n/\its.size<=sizeLine/\Vals vs its.toList
def Ls.sq{K:FG}{vs:List V}(h:Ls K F H a vs):SqL K H a vs:=h.elim (λ h=>h.2) λ h=>.inr h
def Ls.imp{K:FG}{F F':Fz}{vs:List V}(h:Ls K F H a vs)(i:F a->SqL K H a vs->F' a/\SqL K H' a vs):Ls K F' H' a vs:=h.elim (λ h=>.inl (i h.1 h.2)) .inr
mutual
def Rp(K:FG)(F:Fz)(H:Hp):TV->V->Prop
 |.non,v=>v=.non
 |.bl b,v=>v=.bl b
 |.int i,v=>v=.int i
 |.str x,v=>v=.str x
 |.tup l,v=>∃a vs,v=.ref a/\SqT K H a vs/\RpL K F H l vs
 |.lst l,v=>∃a vs,v=.ref a/\Ls K F H a vs/\RpL K F H l vs
 |.bor _,_=>False
 |.own _,_=>False
 |.dct _,_=>False
def RpL(K:FG)(F:Fz)(H:Hp):List TV->List V->Prop
 |[],vs=>vs=[]
 |t::ts,vs=>∃v r,vs=v::r/\Rp K F H t v/\RpL K F H ts r
end
structure Wd (J:Hp->Prop)(F:Fz)(H:Hp):Prop where
 j:J H
 d:∀a,F a->H a≠none
structure Grow (J:Hp->Prop)(F:Fz)(H:Hp)(F':Fz)(H':Hp):Prop where
 sm:∀a o,(∀ps,o≠.tbl ps)->H a=some o->H' a=some o
 dm:∀a,H a≠none->H' a≠none
 up:∀a,F a->F' a
 nw:∀a,F' a->F a\/H a=none
 w:Wd J F' H'
section
variable {K:FG}{J:Hp->Prop}{F F' F1 F2:Fz}{H H' H1 H2:Hp}
def Grow.refl(w:Wd J F H):Grow J F H F H:=⟨λ _ _ _ e=>e,λ _ e=>e,λ _ e=>e,λ _ e=>.inl e,w⟩
def Grow.trans(g:Grow J F H F1 H1)(k:Grow J F1 H1 F2 H2):Grow J F H F2 H2 :=
 ⟨λ a o n e=>k.sm a o n (g.sm a o n e),λ a e=>k.dm a (g.dm a e),λ a e=>k.up a (g.up a e),λ a e=>by
  rcases k.nw a e with q|q
  ·exact g.nw a q
  ·by_cases z:H a=none
   ·exact .inr z
   ·exact absurd q (g.dm a z),k.w⟩
def Rd.sm{a:Addr}{u:HO}(s:∀a o,(∀ps,o≠.tbl ps)->H a=some o->H' a=some o)(n:∀ps,u≠.tbl ps)(h:Rd H a u):Rd H' a u:=by
 rcases h with h|⟨o,h⟩
 ·exact .inl (s _ _ n h)
 ·exact .inr ⟨o,s _ _ (λ ps z=>by cases z) h⟩
def SqT.sm{a:Addr}{vs:List V}(s:∀a o,(∀ps,o≠.tbl ps)->H a=some o->H' a=some o)(h:SqT K H a vs):SqT K H' a vs:=by
 rcases h with h|h
 ·exact .inl (h.sm s λ ps z=>by cases z)
 ·exact .inr h
def SqL.sm{a:Addr}{vs:List V}(s:∀a o,(∀ps,o≠.tbl ps)->H a=some o->H' a=some o)(h:SqL K H a vs):SqL K H' a vs:=by
 rcases h with h|h
 ·exact .inl (h.sm s λ ps z=>by cases z)
 ·exact .inr h
structure Ke (K:FG)(F:Fz)(H:Hp)(F':Fz)(H':Hp):Prop where
 t:∀a vs,SqT K H a vs->SqT K H' a vs
 l:∀a vs,Ls K F H a vs->Ls K F' H' a vs
mutual
theorem Rp.ke(k:Ke K F H F' H'):∀ {t:TV}{v:V},Rp K F H t v->Rp K F' H' t v
 |.non,_,h=>h
 |.bl _,_,h=>h
 |.int _,_,h=>h
 |.str _,_,h=>h
 |.tup _,_,⟨a,vs,e,q,r⟩=>⟨a,vs,e,k.t _ _ q,RpL.ke k r⟩
 |.lst _,_,⟨a,vs,e,f,r⟩=>⟨a,vs,e,k.l _ _ f,RpL.ke k r⟩
 |.bor _,_,h=>h.elim
 |.own _,_,h=>h.elim
 |.dct _,_,h=>h.elim
theorem RpL.ke(k:Ke K F H F' H'):∀ {ts:List TV}{vs:List V},RpL K F H ts vs->RpL K F' H' ts vs
 |[],_,h=>h
 |_::_,_,⟨v,r,e,h1,h2⟩=>⟨v,r,e,Rp.ke k h1,RpL.ke k h2⟩
end
def Grow.ke(g:Grow J F H F' H'):Ke K F H F' H':=⟨λ _ _ h=>h.sm g.sm,λ a _ h=>h.imp λ f h=>⟨g.up a f,h.sm g.sm⟩⟩
def Ke.up(h:∀a,F a->F' a):Ke K F H F' H:=⟨λ _ _ h=>h,λ a _ q=>q.imp λ f q=>⟨h a f,q⟩⟩
noncomputable def Rr(K:FG)(H:Hp)(F':Fz)(H':Hp):TV->V->Prop
 |.own l,v=>∃a vs,v=.ref a/\H a=none/\¬F' a/\H' a=some (.lst vs)/\RpL K F' H' l vs
 |.bor l,v=>∃a vs,v=.ref a/\¬F' a/\H' a=some (.lst vs)/\RpL K F' H' l vs
 |t,v=>Rp K F' H' t v
def Rr.of(h:Rp K F' H' t v):Rr K H F' H' t v:=by
 cases t<;>first|exact h|exact h.elim
def Rr.grow(g:Grow J F1 H1 F2 H2)(h:Rr K H F1 H1 t v):Rr K H F2 H2 t v:=by
 have nf:∀ {a vs},¬F1 a->H1 a=some (.lst vs)->¬F2 a:=λ n e z=>by
  rcases g.nw _ z with q|q
  ·exact n q
  ·rw[q] at e;cases e
 cases t with
 |own l=>obtain⟨a,vs,e,n,f,q,r⟩:=h;exact⟨a,vs,e,n,nf f q,g.sm _ _ (λ ps z=>by cases z) q,r.ke g.ke⟩
 |bor l=>obtain⟨a,vs,e,f,q,r⟩:=h;exact⟨a,vs,e,nf f q,g.sm _ _ (λ ps z=>by cases z) q,r.ke g.ke⟩
 |_=>exact Rp.ke g.ke h
def Rr.late(g:Grow J F H F1 H1)(h:Rr K H1 F2 H2 t v):Rr K H F2 H2 t v:=by
 cases t with
 |own l=>
  obtain⟨a,vs,e,n,f,q,r⟩:=h;refine⟨a,vs,e,?_,f,q,r⟩;by_cases z:H a=none
  ·exact z
  ·exact absurd n (g.dm a z)
 |_=>exact h
noncomputable abbrev RrL(K:FG)(H:Hp)(F':Fz)(H':Hp):List TV->List V->Prop:=Paired (Rr K H F' H')
def RrL.grow{vs:List V}(g:Grow J F1 H1 F2 H2)(h:RrL K H F1 H1 ts vs):RrL K H F2 H2 ts vs:=Paired.mapP h λ _ _ r=>r.grow g
theorem RpL.length:∀ {ts:List TV}{vs:List V},RpL K F H ts vs->ts.length=vs.length
 |[],_,h=>by cases h;rfl
 |_::_,_,⟨_,_,e,_,h⟩=>by rw[e,List.length_cons,List.length_cons,RpL.length h]
theorem RpL.get:∀ {ts:List TV}{vs:List V}{i:Nat}{t:TV},RpL K F H ts vs->ts[i]?=some t->∃v,vs[i]?=some v/\Rp K F H t v
 |[],_,_,_,_,e=>by simp at e
 |_::_,_,0,_,⟨v,r,e,h1,_⟩,q=>by cases q;exact⟨v,by rw[e];rfl,h1⟩
 |_::_,_,i+1,_,⟨v,r,e,_,h2⟩,q=>by
  obtain⟨w,e1,h⟩:=RpL.get (i:=i) h2 q;exact⟨w,by rw[e];exact e1,h⟩
theorem RpL.append:∀ {ts us:List TV}{vs ws:List V},RpL K F H ts vs->RpL K F H us ws->RpL K F H (ts++us) (vs++ws)
 |[],_,_,_,h,g=>by cases h;exact g
 |_::_,_,_,_,⟨v,r,e,h1,h2⟩,g=>by subst e;exact⟨v,_,rfl,h1,RpL.append h2 g⟩
theorem RpL.take:∀ {ts:List TV}{vs:List V}(n:Nat),RpL K F H ts vs->RpL K F H (ts.take n) (vs.take n)
 |_,_,0,_=>rfl
 |[],_,_+1,h=>by cases h;rfl
 |_::_,_,n+1,⟨v,r,e,h1,h2⟩=>by subst e;exact⟨v,_,rfl,h1,RpL.take n h2⟩
theorem RpL.drop:∀ {ts:List TV}{vs:List V}(n:Nat),RpL K F H ts vs->RpL K F H (ts.drop n) (vs.drop n)
 |_,_,0,h=>h
 |[],_,_+1,h=>by cases h;rfl
 |_::_,_,n+1,⟨v,r,e,h1,h2⟩=>by subst e;exact RpL.drop n h2
theorem RpL.set(h:Rp K F H t v):∀ {ts:List TV}{vs:List V}(i:Nat),RpL K F H ts vs->RpL K F H (ts.set i t) (vs.set i v)
 |[],_,_,q=>by cases q;rfl
 |_::_,_,0,⟨w,r,e,_,h2⟩=>by subst e;exact⟨v,r,rfl,h,h2⟩
 |_::_,_,i+1,⟨w,r,e,h1,h2⟩=>by subst e;exact⟨w,_,rfl,h1,RpL.set h i h2⟩
def RpL.reverse{vs:List V}(h:RpL K F H ts vs):RpL K F H ts.reverse vs.reverse:=by
 induction ts generalizing vs with
 |nil=>cases h;rfl
 |cons t r ih=>
  obtain⟨v,q,e,h1,h2⟩:=h;subst e;rw[ip,ip];exact(ih h2).append ⟨v,[],fu,h1,fu⟩
theorem RpL.ints:∀ {ns:LI}{vs:List V},RpL K F H (ns.map TV.int) vs->vs=ns.map V.int
 |[],_,h=>h
 |_::_,_,⟨v,r,e,h1,h2⟩=>by rw[e,RpL.ints h2,show v=_ from h1];rfl
theorem RpL.ofInts:∀(ns:LI),RpL K F H (ns.map TV.int) (ns.map V.int)
 |[]=>rfl
 |_::r=>⟨_,_,rfl,rfl,RpL.ofInts r⟩
theorem RpL.bls:∀ {ns:List Bool}{vs:List V},RpL K F H (ns.map TV.bl) vs->vs=ns.map V.bl
 |[],_,h=>h
 |_::_,_,⟨v,r,e,h1,h2⟩=>by rw[e,RpL.bls h2,show v=_ from h1];rfl
noncomputable def TV.items:TV->Option (Bool×List TV)
 |.tup l=>some (true,l)
 |.lst l=>some (false,l)
 |.bor l=>some (false,l)
 |.own l=>some (false,l)
 |_=>none
def Rr.sq{b:Bool}{l:List TV}(h:Rr K H F' H' t v)(e:t.items=some (b,l)):∃a vs,v=.ref a/\RpL K F' H' l vs/\((b=true/\SqT K H' a vs)\/(b=false/\SqL K H' a vs)):=by
 cases t<;>cases e
 ·obtain⟨a,vs,e,q,r⟩:=h;exact⟨a,vs,e,r,.inl ⟨rfl,q⟩⟩
 ·obtain⟨a,vs,e,q,r⟩:=h;exact⟨a,vs,e,r,.inr ⟨rfl,q.sq⟩⟩
 ·obtain⟨a,vs,e,_,q,r⟩:=h;exact⟨a,vs,e,r,.inr ⟨rfl,.of q⟩⟩
 ·obtain⟨a,vs,e,_,_,q,r⟩:=h;exact⟨a,vs,e,r,.inr ⟨rfl,.of q⟩⟩
structure JS (J:Hp->Prop):Prop where
 nw:∀(H:Hp) (p:Addr) (o:HO),H p=none->J H->J (upd H p o)
 mu:∀(H:Hp) (p:Addr) (vs ws:List V),H p=some (.lst vs)->J H->J (upd H p (.lst ws))
def Grow.new(hJ:JS J)(w:Wd J F H)(o:HO)(h:H p=none):Grow J F H F (upd H p o):=by
 have k:∀a x,H a=some x->upd H p o a=some x:=λ a x e=>by rw[aF (λ z=>by rw[z,h] at e;cases e)];exact e
 have d:∀a,H a≠none->upd H p o a≠none:=λ a e z=>by
  cases q:H a with
  |none=>exact e q
  |some x=>rw[k a x q] at z;cases z
 exact⟨λ a x _ e=>k a x e,d,λ _ e=>e,λ _ e=>.inl e,hJ.nw H p o h w.j,λ a f=>d a (w.d a f)⟩
def Grow.frz(g:Grow J F H F1 H1)(n:H a=none)(e:H1 a≠none):Grow J F H (λ b=>F1 b\/b=a) H1 :=
 ⟨g.sm,g.dm,λ b f=>.inl (g.up b f),λ b f=>by
  rcases f with f|rfl
  ·exact g.nw b f
  ·exact .inr n,g.w.j,λ b f=>by
  rcases f with f|rfl
  ·exact g.w.d b f
  ·exact e⟩
def TV.fz:TV->TV
 |.own l=>.lst l
 |.bor l=>.lst l
 |t=>t
def TV.nb:TV->Bool
 |.bor _=>false
 |_=>true
def Rr.frz(g:Grow J F H F1 H1)(h:Rr K H F1 H1 t v)(n:t.nb=true):∃F2,Grow J F H F2 H1/\(∀a,F1 a->F2 a)/\(∀a,F2 a->F1 a\/v=.ref a)/\Rp K F2 H1 t.fz v:=by
 cases t with
 |own l=>
  obtain⟨a,vs,e,n,f,q,r⟩:=h;refine⟨λ b=>F1 b\/b=a,g.frz n (by rw[q];simp),λ _ f=>.inl f,λ b f=>?_,a,vs,e,.inl ⟨.inr rfl,.of q⟩,r.ke (.up λ _ f=>.inl f)⟩
  rcases f with f|rfl
  ·exact .inl f
  ·exact .inr e
 |bor l=>cases n
 |_=>exact⟨F1,g,λ _ f=>f,λ _ f=>.inl f,h⟩
end
mutual
def eqT:TV->TV->Bool
 |.non,.non=>true
 |.bl a,.bl b=>a == b
 |.bl a,.int b=>(if a then 1 else 0) == b
 |.int a,.bl b=>a == (if b then 1 else 0)
 |.int a,.int b=>decide (a=b)
 |.str a,.str b=>decide (a=b)
 |.tup l,.tup m=>eqTL l m
 |.lst l,.lst m=>eqTL l m
 |_,_=>false
def eqTL:List TV->List TV->Bool
 |[],[]=>true
 |x::xs,y::ys=>eqT x y&&eqTL xs ys
 |_,_=>false
end
def oX(l m:List TV):eqT (.lst l) (.lst m)=eqTL l m:=rfl
def xO(l m:List TV):eqT (.tup l) (.tup m)=eqTL l m:=rfl
def eqTL_c(x y:TV)(xs ys:List TV):eqTL (x::xs) (y::ys)=(eqT x y&&eqTL xs ys):=rfl
noncomputable def dp:Nat->TV->Prop
 |_,.non=>True|_,.bl _=>True|_,.int _=>True|_,.str _=>True
 |n+1,.tup l=>∀x∈l,dp n x
 |n+1,.lst l=>∀x∈l,dp n x
 |_,_=>False
theorem ko:∀ {l m:List TV},l.length≠m.length->eqTL l m=false
 |[],[],h=>absurd rfl h
 |[],_::_,_=>rfl
 |_::_,[],_=>rfl
 |x::xs,y::ys,h=>by rw[eqTL_c,ko (l:=xs) (m:=ys) (λ z=>h (by rw[List.length_cons,List.length_cons,z])),oY]
theorem kq:∀ {l m:List TV},l.length=m.length->(List.range l.length).all (λ j=>eqT (l.getD j .non) (m.getD j .non))=eqTL l m
 |[],[],_=>rfl
 |x::xs,y::ys,h=>by
  rw[List.length_cons,s1a,cJ,List.all_map];show(eqT x y&&(List.range xs.length).all λ j=>eqT (xs.getD j .non) (ys.getD j .non))=eqTL (x::xs) (y::ys);rw[kq (l:=xs) (m:=ys) (by simpa using h),eqTL_c]
mutual
theorem eqT_self:∀ {t:TV}{n:Nat},dp n t->eqT t t=true
 |.non,_,_=>rfl
 |.bl b,_,_=>fW b
 |.int _,_,_=>bz rfl
 |.str _,_,_=>bz rfl
 |.tup l,0,h=>h.elim
 |.tup l,n+1,h=>eqTL_self (l:=l) (n:=n) h
 |.lst l,0,h=>h.elim
 |.lst l,n+1,h=>eqTL_self (l:=l) (n:=n) h
 |.bor _,0,h=>h.elim
 |.bor _,_+1,h=>h.elim
 |.own _,0,h=>h.elim
 |.own _,_+1,h=>h.elim
 |.dct _,0,h=>h.elim
 |.dct _,_+1,h=>h.elim
theorem eqTL_self:∀ {l:List TV}{n:Nat},(∀x∈l,dp n x)->eqTL l l=true
 |[],_,_=>rfl
 |x::xs,n,h=>by rw[eqTL_c,eqT_self (h x BT),eqTL_self λ y hy=>h y (by simp[hy])];rfl
end
def RelV.uniq(h:RelV x u)(g:RelV y u):x=y:=by
 cases x<;>cases y<;>first
  |(cases h;cases g;rfl)
  |(obtain⟨_,rfl⟩:=h;obtain⟨_,e⟩:=g;cases e;rfl)
  |(cases h;cases g;done)
  |(cases h;obtain⟨_,e⟩:=g;cases e;done)
  |(obtain⟨_,rfl⟩:=h;cases g;done)
  |(obtain⟨_,rfl⟩:=h;obtain⟨_,e⟩:=g;cases e;done)
theorem Vals.uniq:∀ {xs ys:List V}{us:LV},Vals xs us->Vals ys us->xs=ys
 |_,_,_,.nil,.nil=>rfl
 |_,_,_,.cons r t,.cons r' t'=>by rw[r.uniq r',Vals.uniq t t']
section
variable {pins:LO}{σ:St}{H:Hp}{s:Shared}{F:Fz}
def Inv.tup_uniq(I:Inv X pins σ H s)(h:SqT X.K H a xs)(g:SqT X.K H a ys):xs=ys:=by
 obtain⟨us,r1,p1,_⟩:=I.tuple h;obtain⟨ws,r2,p2,_⟩:=I.tuple g;obtain⟨o,e,_,n,d⟩:=p1;obtain⟨o',e',_,n',d'⟩:=p2;rw[e] at e';cases e';rw[d] at d';have:us.toArray=ws.toArray:=by injection d'
 have:us=ws:=by simpa using bu Array.toList this
 subst this;exact r1.uniq r2
def Inv.lst_uniq(I:Inv X pins σ H s)(h:SqL X.K H a xs)(g:SqL X.K H a ys):xs=ys:=by
 obtain⟨us,r1,p1,_⟩:=I.list h;obtain⟨ws,r2,p2,_⟩:=I.list g;obtain⟨o,n,e,_,_,d⟩:=p1;obtain⟨o',n',e',_,_,d'⟩:=p2;rw[e] at e';cases e';rw[d] at d';have:us.toArray=ws.toArray:=by injection d'
 have:us=ws:=by simpa using bu Array.toList this
 subst this;exact r1.uniq r2
def Inv.tl(I:Inv X pins σ H s)(h:SqT X.K H a xs)(g:SqL X.K H a ys):False:=by
 obtain⟨us,r1,p1,_⟩:=I.tuple h;obtain⟨ws,r2,p2,_⟩:=I.list g;obtain⟨o,e,c,_⟩:=p1;obtain⟨o',n',e',c',_⟩:=p2;rw[e] at e';cases e';rw[c] at c';simp at c'
mutual
theorem Inv.rp_uniq(I:Inv X pins σ H s):∀ {t u:TV}{v:V},Rp X.K F H t v->Rp X.K F H u v->t=u
 |.non,u,v,h,g=>by cases h;cases u<;>first|rfl|(cases g;done)|(obtain⟨_,_,e,_⟩:=g;cases e)|exact g.elim
 |.bl _,u,v,h,g=>by cases h;cases u<;>first|(cases g;rfl)|(cases g;done)|(obtain⟨_,_,e,_⟩:=g;cases e)|exact g.elim
 |.int _,u,v,h,g=>by cases h;cases u<;>first|(cases g;rfl)|(cases g;done)|(obtain⟨_,_,e,_⟩:=g;cases e)|exact g.elim
 |.str _,u,v,h,g=>by cases h;cases u<;>first|(cases g;rfl)|(cases g;done)|(obtain⟨_,_,e,_⟩:=g;cases e)|exact g.elim
 |.tup l,u,v,⟨a,vs,e,q,r⟩,g=>by
  subst e
  cases u with
  |tup m=>
   obtain⟨b,ws,e,q',r'⟩:=g;cases e;have:=I.tup_uniq q q';subst this;rw[Inv.rpl_uniq I r r']
  |lst m=>obtain⟨b,ws,e,q',r'⟩:=g;cases e;exact(I.tl q q'.sq).elim
  |_=>first|exact g.elim|cases g
 |.lst l,u,v,⟨a,vs,e,q,r⟩,g=>by
  subst e
  cases u with
  |lst m=>
   obtain⟨b,ws,e,q',r'⟩:=g;cases e;have:=I.lst_uniq q.sq q'.sq;subst this;rw[Inv.rpl_uniq I r r']
  |tup m=>obtain⟨b,ws,e,q',r'⟩:=g;cases e;exact(I.tl q' q.sq).elim
  |_=>first|exact g.elim|cases g
 |.bor _,_,_,h,_=>h.elim
 |.own _,_,_,h,_=>h.elim
 |.dct _,_,_,h,_=>h.elim
theorem Inv.rpl_uniq(I:Inv X pins σ H s):∀ {ts us:List TV}{vs:List V},RpL X.K F H ts vs->RpL X.K F H us vs->ts=us
 |[],us,_,h,g=>by
  cases h
  cases us with
  |nil=>rfl
  |cons t r=>obtain⟨_,_,e,_⟩:=g;cases e
 |t::ts,us,_,⟨v,r,e,h1,h2⟩,g=>by
  subst e
  cases us with
  |nil=>cases g
  |cons u us=>obtain⟨_,_,e,g1,g2⟩:=g;cases e;rw[Inv.rp_uniq I h1 g1,Inv.rpl_uniq I h2 g2]
end
def iF{K:FG}{vs:List V}(r:RpL K F H l vs)(q:Vals vs us){j:Nat}(h:j<us.toArray.size):∃z,Rp K F H (l.getD j .non) z/\RelV z us.toArray[j]/\l.getD j .non∈l:=by
 obtain⟨z,e,rz⟩:=Gz q h;have k:j<l.length:=by rw[r.length,q.length];simpa using h
 obtain⟨v,e',rv⟩:=r.get (aC k);rw[e] at e';cases e';have ee:l.getD j .non=l[j]:=by simp[cw,aC k]
 rw[ee];exact⟨z,rv,rz,kg k⟩
def xP(I:Inv X pins σ H s){n:Nat}(ih:∀m,n=m+1->∀(A:Around) (t u:TV) (x y:V) (v w:Value),A.units+m<cLine->dp m t->Rp X.K F H t x->Rp X.K F H u y->RelV x v->RelV y w->SeqAt.EqAt A s v w (eqT t u))(A:Around)(t u:TV)(x y:V)(v w:Value)(hu:A.units+n<cLine)(d:dp n t)(h:Rp X.K F H t x)(g:Rp X.K F H u y)(rx:RelV x v)(ry:RelV y w):SeqAt.EqAt A s v w (eqT t u):=by
 have hu0:A.units<cLine:=on;have tupI:∀ {a vs},SqT X.K H a vs->∃us:LV,Vals vs us/\s.heap.IsTuple a us.toArray:=λ q=>by obtain⟨us,r,p,_⟩:=I.tuple q;exact⟨us,r,p⟩
 have lstI:∀ {a vs},SqL X.K H a vs->∃us:LV,Vals vs us/\s.heap.IsList a us.toArray:=λ q=>by obtain⟨us,r,p,_⟩:=I.list q;exact⟨us,r,p.isList⟩
 cases t with
 |bor l=>exact h.elim
 |own l=>exact h.elim
 |dct l=>exact h.elim
 |tup l=>
  obtain⟨a,vs,rfl,q,r⟩:=h;cases rx;obtain⟨us,r1,p1⟩:=tupI q
  cases u with
  |bor l=>exact g.elim
  |own l=>exact g.elim
  |dct l=>exact g.elim
  |non=>cases g;cases ry;exact SeqAt.EqAt.tuple_none p1 hu0
  |bl b=>cases g;cases ry;exact SeqAt.EqAt.tuple_bool b p1 hu0
  |int b=>cases g;obtain⟨tk,rfl⟩:=ry;exact SeqAt.EqAt.tuple_int b tk p1 hu0
  |str b=>cases g;obtain⟨tk,rfl⟩:=ry;exact SeqAt.EqAt.tuple_str b tk p1 hu0
  |lst m=>
   obtain⟨b,ws,rfl,q',r'⟩:=g;cases ry;obtain⟨us2,r2,p2⟩:=lstI q'.sq;exact SeqAt.EqAt.tuple_list p1 p2 hu0
  |tup m=>
   obtain⟨b,ws,rfl,q',r'⟩:=g;cases ry;obtain⟨us2,r2,p2⟩:=tupI q'
   cases n with
   |zero=>exact False.elim d
   |succ n=>
    have d':∀x∈l,dp n x:=d;by_cases ab:a=b
    ·subst ab;have:=I.tup_uniq q q';subst this;have:=I.rpl_uniq r r';subst this;rw[xO,eqTL_self d'];exact s1d _
    ·refine s3s ab ?_
     have z:=SeqAt.RcAt.tuples (A:=A) p1 p2 (e:=λ j=>eqT (l.getD j .non) (m.getD j .non)) hu0 (λ j k1 k2=>by
      obtain⟨z1,h1,r1',m1⟩:=iF r r1 k1;obtain⟨z2,h2,r2',_⟩:=iF r' r2 k2
      exact ih n rfl A.in1 _ _ z1 z2 _ _ (by show A.units+1+n<cLine;lia) (d' _ m1) h1 h2 r1' r2')
     have e1:us.toArray.size=l.length:=by simp[r.length,r1.length]
     have e2:us2.toArray.size=m.length:=by simp[r'.length,r2.length]
     rw[e1,e2] at z;rw[xO];by_cases c:l.length=m.length
     ·rw[<- c,Nat.min_self,kq c] at z;simpa using z
     ·rw[ko c];have c':(l.length == m.length)=false:=by simpa using c
      rw[c',oY] at z;exact z
 |lst l=>
  obtain⟨a,vs,rfl,q,r⟩:=h;cases rx;obtain⟨us,r1,p1⟩:=lstI q.sq
  cases u with
  |bor l=>exact g.elim
  |own l=>exact g.elim
  |dct l=>exact g.elim
  |non=>cases g;cases ry;exact SeqAt.EqAt.list_none p1 hu0
  |bl b=>cases g;cases ry;exact SeqAt.EqAt.list_bool b p1 hu0
  |int b=>cases g;obtain⟨tk,rfl⟩:=ry;exact SeqAt.EqAt.list_int b tk p1 hu0
  |str b=>cases g;obtain⟨tk,rfl⟩:=ry;exact SeqAt.EqAt.list_str b tk p1 hu0
  |tup m=>
   obtain⟨b,ws,rfl,q',r'⟩:=g;cases ry;obtain⟨us2,r2,p2⟩:=tupI q';exact SeqAt.EqAt.list_tuple p1 p2 hu0
  |lst m=>
   obtain⟨b,ws,rfl,q',r'⟩:=g;cases ry;obtain⟨us2,r2,p2⟩:=lstI q'.sq
   cases n with
   |zero=>exact False.elim d
   |succ n=>
    have d':∀x∈l,dp n x:=d;have e1:us.toArray.size=l.length:=by simp[r.length,r1.length]
    have e2:us2.toArray.size=m.length:=by simp[r'.length,r2.length]
    by_cases ab:a=b
    ·subst ab;have:=I.lst_uniq q.sq q'.sq;subst this;have:=I.rpl_uniq r r';subst this;rw[oX,eqTL_self d'];exact s1d _
    ·refine s3s ab ?_;rw[oX];by_cases c:l.length=m.length
     ·have z:=SeqAt.RcAt.lists (A:=A) p1 p2 (e:=λ j=>eqT (l.getD j .non) (m.getD j .non)) (by rw[e1,e2,c]) hu0 (λ j k1 k2=>by
       obtain⟨z1,h1,r1',m1⟩:=iF r r1 k1;obtain⟨z2,h2,r2',_⟩:=iF r' r2 k2
       exact ih n rfl A.in1 _ _ z1 z2 _ _ (by show A.units+1+n<cLine;lia) (d' _ m1) h1 h2 r1' r2')
      rwa [e1,kq c] at z
     ·rw[ko c];exact SeqAt.RcAt.lists_lengths p1 p2 (by rw[e1,e2];simpa using c) hu0
 |non=>
  cases h
  cases u with
  |bor l=>exact g.elim
  |own l=>exact g.elim
  |dct l=>exact g.elim
  |tup m=>obtain⟨b,ws,rfl,q',_⟩:=g;cases ry;obtain⟨us2,r2,p2⟩:=tupI q';cases rx;exact SeqAt.EqAt.none_tuple p2 hu0
  |lst m=>obtain⟨b,ws,rfl,q',_⟩:=g;cases ry;obtain⟨us2,r2,p2⟩:=lstI q'.sq;cases rx;exact SeqAt.EqAt.none_list p2 hu0
  |_=>cases g;exact lF rx ry rfl rfl
 |bl k=>
  cases h
  cases u with
  |bor l=>exact g.elim
  |own l=>exact g.elim
  |dct l=>exact g.elim
  |tup m=>obtain⟨b,ws,rfl,q',_⟩:=g;cases ry;obtain⟨us2,r2,p2⟩:=tupI q';cases rx;exact SeqAt.EqAt.bool_tuple k p2 hu0
  |lst m=>obtain⟨b,ws,rfl,q',_⟩:=g;cases ry;obtain⟨us2,r2,p2⟩:=lstI q'.sq;cases rx;exact SeqAt.EqAt.bool_list k p2 hu0
  |_=>cases g;exact lF rx ry rfl rfl
 |int k=>
  cases h
  cases u with
  |bor l=>exact g.elim
  |own l=>exact g.elim
  |dct l=>exact g.elim
  |tup m=>obtain⟨b,ws,rfl,q',_⟩:=g;cases ry;obtain⟨us2,r2,p2⟩:=tupI q';obtain⟨tk,rfl⟩:=rx;exact SeqAt.EqAt.int_tuple k tk p2 hu0
  |lst m=>obtain⟨b,ws,rfl,q',_⟩:=g;cases ry;obtain⟨us2,r2,p2⟩:=lstI q'.sq;obtain⟨tk,rfl⟩:=rx;exact SeqAt.EqAt.int_list k tk p2 hu0
  |_=>cases g;exact lF rx ry rfl rfl
 |str k=>
  cases h
  cases u with
  |bor l=>exact g.elim
  |own l=>exact g.elim
  |dct l=>exact g.elim
  |tup m=>obtain⟨b,ws,rfl,q',_⟩:=g;cases ry;obtain⟨us2,r2,p2⟩:=tupI q';obtain⟨tk,rfl⟩:=rx;exact SeqAt.EqAt.str_tuple k tk p2 hu0
  |lst m=>obtain⟨b,ws,rfl,q',_⟩:=g;cases ry;obtain⟨us2,r2,p2⟩:=lstI q'.sq;obtain⟨tk,rfl⟩:=rx;exact SeqAt.EqAt.str_list k tk p2 hu0
  |_=>cases g;exact lF rx ry rfl rfl
def xQ(I:Inv X pins σ H s)(n:Nat):∀(A:Around) (t u:TV) (x y:V) (v w:Value),A.units+n<cLine->dp n t->Rp X.K F H t x->Rp X.K F H u y->RelV x v->RelV y w->SeqAt.EqAt A s v w (eqT t u):=by
 induction n with
 |zero=>exact xP I λ m e=>nomatch e
 |succ n ih=>exact xP I λ m e=>by cases e;exact ih
end
inductive BI where
 |len|tuple|list|sum|max|min|abs|int|str|sorted|any|all|isI|isB|isT|isL|isS|maxlen|trev (b:Bool)|lrange (k:Bool)
 deriving DecidableEq
inductive IK where
 |seq|rng|rng2|rng3|zip (a b:Bool)|zip3|enum (a:Bool)|rev (a:Bool)|str
 deriving DecidableEq
inductive Cd where
 |v (i:Nat)|c (t:TV)|g (k:Nat)
 |bin (o:Operator) (a b:Cd)|neg (a:Cd)|not (a:Cd)|cmp (o:CmpOp) (a b:Cd)
 |and (a b:Cd)|or (a b:Cd)|ite (c a b:Cd)
 |nil|cons (a r:Cd)|tup (l:Cd)|lst (l:Cd)|ix (a b:Cd)|sl (a lo hi:Cd)
 |call (f:Nat) (l:Cd)|bi (f:BI) (l:Cd)|isi (f:BI) (a:Cd)|mxl (a b:Cd)|trev (k:Bool) (a:Cd)|lrng (k:Bool) (a:Cd)|dk (k:Nat) (a:Cd)|ss (k:Bool) (a:Cd)|di (i:Nat) (b:Cd)|dg (i:Nat) (b:Cd)
 |comp (own:List Str) (fv:List Str) (js:List Nat) (tg:List Nat) (k:IK) (it:Cd) (e:Cd)|compI (own:List Str) (fv:List Str) (js:List Nat) (tg:List Nat) (k:IK) (it:Cd) (c e:Cd)
abbrev PSp:=List TV->(TV->Prop)->Prop
abbrev En:=List (Option TV)
noncomputable def i2(t u:TV)(P:Int->Int->Prop):Prop:=match t,u with|.int i,.int j=>P i j|_,_=>False
noncomputable def i1(t:TV)(P:Int->Prop):Prop:=match t with|.int i=>P i|_=>False
noncomputable def b1(t:TV)(P:Bool->Prop):Prop:=match t with|.bl i=>P i|_=>False
noncomputable def l1(t:TV)(P:List TV->Prop):Prop:=match t with|.lst l=>P l|.bor l=>P l|.own l=>P l|_=>False
noncomputable def s1(t:TV)(P:List TV->Prop):Prop:=match t with|.lst l=>P l|.bor l=>P l|.own l=>P l|.tup l=>P l|_=>False
def aB(i j:Int):Int:=if 0<j then i%j else i.fmod j
def aD(i j:Int):Int:=if 0<j then i/j else i.fdiv j
noncomputable def sW(t u:TV)(K:TV->Prop):Prop:=match t,u with
 |.int i,.int j=>K (.int (i+j))
 |.tup l,.tup m=>l.length+m.length<=sizeLine/\K (.tup (l++m))
 |t,u=>l1 t λ l=>l1 u λ m=>l.length+m.length<=sizeLine/\K (.own (l++m))
noncomputable def sZ(t u:TV)(K:TV->Prop):Prop:=match t,u with
 |.int i,.int j=>IntMulOk i j/\K (.int (i*j))
 |t,.int k=>(match t with|.own l=>(0<=k/\k<2 ^ 63)/\l.length*k.toNat<=sizeLine/\K (.own (List.replicate k.toNat l).flatten)|_=>False)
 |_,_=>False
noncomputable def opP:Operator->TV->TV->(TV->Prop)->Prop
 |.Add,t,u,K=>sW t u K
 |.Sub,t,u,K=>i2 t u λ i j=>K (.int (i-j))
 |.Mult,t,u,K=>sZ t u K
 |.FloorDiv,t,u,K=>i2 t u λ i j=>(j≠0/\-18446744073709551616<j/\j<1606938044258990275541962092341162602522202993782792835301376)/\K (.int (aD i j))
 |.Mod,t,u,K=>i2 t u λ i j=>j≠0/\K (.int (aB i j))
 |.Pow,t,u,K=>i2 t u λ i j=>lw i j/\K (.int (i ^ j.toNat))
 |.RShift,t,u,K=>i2 t u λ i j=>0<=j/\K (.int (i/2 ^ j.toNat))
 |.BitAnd,t,u,K=>i2 t u λ i j=>K (.int (Builtin.bitAnd i j))
 |.BitOr,t,u,K=>i2 t u λ i j=>K (.int (Builtin.bitOr i j))
 |.BitXor,t,u,K=>i2 t u λ i j=>K (.int (Builtin.bitXor i j))
 |_,_,_,_=>False
noncomputable def eqC(t u:TV):Prop:=match t,u with
 |.tup l,.tup _=>dp 9 (.tup l)
 |.lst l,.lst _=>dp 9 (.lst l)
 |.int _,.int _=>True|.str _,.str _=>True|.bl _,.bl _=>True|.non,.non=>True
 |.non,.int _=>True|.int _,.non=>True|.non,.str _=>True|.str _,.non=>True|.int _,.str _=>True|.str _,.int _=>True
 |.non,.bl _=>True|.bl _,.non=>True
 |_,_=>False
noncomputable def flT:TV->Bool
 |.non=>true|.bl _=>true|.int _=>true|.str _=>true|_=>false
def inT(x:TV)(l:List TV):Bool:=l.any λ y=>eqT y x
noncomputable def gtQ(t u:TV)(K:TV->Prop):Prop:=match t,u with
 |t,u=>i2 t u λ i j=>K (.bl (decide (j<i)))
noncomputable def ky:CmpOp->TV->TV->(TV->Prop)->Prop
 |.Eq,t,u,K=>eqC t.fz u.fz/\K (.bl (eqT t.fz u.fz))
 |.NotEq,t,u,K=>eqC t.fz u.fz/\K (.bl (!eqT t.fz u.fz))
 |.Lt,t,u,K=>i2 t u λ i j=>K (.bl (decide (i<j)))
 |.LtE,t,u,K=>i2 t u λ i j=>K (.bl (decide (i<=j)))
 |.Gt,t,u,K=>gtQ t u K
 |.GtE,t,u,K=>i2 t u λ i j=>K (.bl (decide (j<=i)))
 |.In,t,u,K=>s1 u λ l=>flT t=true/\(∀x∈l,flT x=true)/\K (.bl (inT t l))
 |.NotIn,t,u,K=>s1 u λ l=>flT t=true/\(∀x∈l,flT x=true)/\K (.bl (!inT t l))
 |.Is,t,u,K=>u=.non/\K (.bl (match t with|.non=>true|_=>false))
 |.IsNot,t,u,K=>u=.non/\K (.bl (match t with|.non=>false|_=>true))
noncomputable def au(l:List TV)(lo hi:Option Int):List TV:=(l.drop (_H.sIx l.length 0 lo)).take (_H.sIx l.length l.length hi-_H.sIx l.length 0 lo)
noncomputable def oI(t:TV)(P:Option Int->Prop):Prop:=match t with|.non=>P none|.int i=>P (some i)|_=>False
noncomputable def slK(t:TV)(a b:Option Int)(K:TV->Prop):Prop:=match t with
 |.tup l=>K (.tup (au l a b))
 |.str x=>x.length<=4000000/\K (.str (Txt.slice x a b))
 |t=>l1 t λ l=>K (.own (au l a b))
noncomputable def ixP(t u:TV)(K:TV->Prop):Prop:=match t with
 |.str x=>i1 u λ i=>x.length<=sizeLine/\∃c,atI x.cps.toList i=some c/\K (.str ⟨#[c]⟩)
 |t=>s1 t λ l=>i1 u λ i=>∃x,atI l i=some x/\K x
noncomputable def LF:TV->Prop
 |.tup l=>∀x∈l,LF x
 |.lst _=>False|.bor _=>False|.own _=>False|.dct _=>False
 |_=>True
noncomputable def k1(b:Bool)(t:TV)(P:List TV->Prop):Prop:=if b=true then (match t with|.tup l=>P l|_=>False) else l1 t P
noncomputable def biP:BI->List TV->(TV->Prop)->Prop
 |.len,[t],K=>(match t with|.str x=>x.length<=sizeLine/\K (.int x.length)|t=>s1 t λ l=>K (.int l.length))
 |.tuple,[t],K=>s1 t λ l=>K (.tup l)
 |.list,[t],K=>s1 t λ l=>K (.own l)
 |.sum,[t],K=>l1 t λ l=>∃ns:LI,l=ns.map .int/\K (.int ns.sum)
 |.max,[t,u],K=>i2 t u λ i j=>K (.int (if j > i then j else i))
 |.max,[t],K=>l1 t λ l=>∃ns:LI,l=ns.map .int/\0<ns.length/\∀M:Int,M∈ns->(∀z∈ns,z<=M)->K (.int M)
 |.min,[t],K=>l1 t λ l=>∃ns:LI,l=ns.map .int/\0<ns.length/\∀M:Int,M∈ns->(∀z∈ns,M<=z)->K (.int M)
 |.min,[t,u],K=>i2 t u λ i j=>K (.int (if j<i then j else i))
 |.abs,[t],K=>i1 t λ i=>K (.int (if i<0 then -i else i))
 |.int,[t],K=>(match t with|.int i=>K (.int i)|.bl k=>K (.int (if k then 1 else 0))|_=>False)
 |.str,[t],K=>i1 t λ i=>i.natAbs.log2<1920/\K (.str (Str.ofString (toString i)))
 |.sorted,[t],K=>s1 t λ l=>∃ns:LI,l=ns.map .int/\ns.length<64/\∀ns':LI,ns'.Perm ns->ns'.Pairwise (·<=·)->K (.own (ns'.map .int))
 |.any,[t],K=>l1 t λ l=>∃bs:List Bool,l=bs.map .bl/\K (.bl (bs.any id))
 |.all,[t],K=>l1 t λ l=>∃bs:List Bool,l=bs.map .bl/\K (.bl (bs.all id))
 |.isI,[t],K=>(match t with|.int _=>K (.bl true)|.bl _=>K (.bl true)|.str _=>K (.bl false)|.non=>K (.bl false)|.tup _=>K (.bl false)|_=>False)
 |.isB,[t],K=>(match t with|.bl _=>K (.bl true)|.int _=>K (.bl false)|.str _=>K (.bl false)|.non=>K (.bl false)|.tup _=>K (.bl false)|_=>False)
 |.isT,[t],K=>(match t with|.tup _=>K (.bl true)|.int _=>K (.bl false)|.str _=>K (.bl false)|.non=>K (.bl false)|.bl _=>K (.bl false)|_=>False)
 |.isL,[t],K=>(match t with|.tup _=>K (.bl false)|.int _=>K (.bl false)|.str _=>K (.bl false)|.non=>K (.bl false)|.bl _=>K (.bl false)|.lst _=>K (.bl true)|.bor _=>K (.bl true)|.own _=>K (.bl true)|.dct _=>False)
 |.isS,[t],K=>(match t with|.tup _=>K (.bl false)|.int _=>K (.bl false)|.str _=>K (.bl true)|.non=>K (.bl false)|.bl _=>K (.bl false)|_=>False)
 |.trev b,[t],K=>k1 b t λ l=>K (.tup l.reverse)
 |.maxlen,[t,u],K=>(match t,u with|.tup l,.tup m=>K (.tup (if l.length<m.length then m else l))|_,_=>False)
 |.lrange k,[t],K=>i1 t λ j=>(0<=j/\j<=1000)/\K (if k=true then .tup ((List.range j.toNat).map λ i=>.int (i:Nat)) else .own ((List.range j.toNat).map λ i=>.int (i:Nat)))
 |_,_,_=>False
noncomputable def z3(l m n:List TV):List TV:=List.zipWith (λ x (p:TV×TV)=>.tup [x,p.1,p.2]) l (m.zip n)
noncomputable def itP:IK->List TV->(List TV->Prop)->Prop
 |.seq,[t],K=>s1 t K
 |.rng,[t],K=>i1 t λ j=>(-(2 ^ 62)<=j/\j<2 ^ 62)/\K ((List.range j.toNat).map λ i=>.int (i:Nat))
 |.rng2,[t,u],K=>i2 t u λ i j=>(-(2 ^ 62)<=i/\i<2 ^ 62/\-(2 ^ 62)<=j/\j<2 ^ 62)/\K ((List.range (j-i).toNat).map λ k=>.int (i+(k:Nat)))
 |.rng3,[t,u,w],K=>i2 t u λ i j=>i1 w λ c=>(c≠0/\c.natAbs<1073741824/\Builtin.Range.small i j c=true)/\K ((List.range (Builtin.Range.rangeSize i j c).toNat).map λ k=>.int (i+(k:Nat)*c))
 |.zip a b,[t,u],K=>k1 a t λ l=>k1 b u λ m=>K (List.zipWith (λ x y=>.tup [x,y]) l m)
 |.zip3,[t,u,w],K=>k1 true t λ l=>k1 true u λ m=>k1 true w λ n=>(m.length=l.length/\n.length=l.length)/\K (z3 l m n)
 |.enum a,[t],K=>k1 a t λ l=>K (l.mapIdx λ i x=>.tup [.int (i:Nat),x])
 |.rev a,[t],K=>k1 a t λ l=>K l.reverse
 |.str,[t],K=>(match t with|.str x=>K (x.cps.toList.map λ c=>.str ⟨#[c]⟩)|_=>False)
 |_,_,_=>False
noncomputable def gtP(s:Option TV)(K:TV->Prop):Prop:=match s with|some (.bor _)=>False|some t=>K t|none=>False
noncomputable def dcP(s:Option TV)(P:List TV->Prop):Prop:=match s with|some (.bor l)=>P l|_=>False
noncomputable def t1(t:TV)(P:Str->Prop):Prop:=match t with|.str x=>P x|_=>False
noncomputable def dlk:List TV->Str->Option TV
 |.tup [.str k,t]::r,x=>if decide (k=x)=true then some t else dlk r x
 |_,_=>none
abbrev kT(k:LI):TV:=.tup (k.map .int)
noncomputable def spP(t:TV)(K:TV->Prop):Prop:=l1 t λ l=>∃ms:LL,l=ms.map kT/\(ms.length<64/\∀k∈ms,k≠[])/\∀ms':LL,ms'.Pairwise (· < ·)->(∀k,k∈ms' ↔ k∈ms)->K (.own (ms'.map kT))
noncomputable def siP(t:TV)(K:TV->Prop):Prop:=l1 t λ l=>∃ns:LI,l=ns.map .int/\(ns.length<=1000/\∀ms:LI,ms.Nodup->(∀k,k∈ms ↔ k∈ns)->ms.length<64)/\∀ns':LI,ns'.Pairwise (· < ·)->(∀k,k∈ns' ↔ k∈ns)->K (.own (ns'.map .int))
noncomputable def ssP:Bool->TV->(TV->Prop)->Prop
 |false=>siP
 |true=>spP
noncomputable def dcQ(t:TV)(K:TV->Prop):Prop:=l1 t λ l=>∃ps:List (Int×Int),l=ps.map (λ q=>.tup [.int q.1,.int q.2])/\(ps.map (·.1)).Nodup/\K (.dct ps)
noncomputable def dcR(s:Option (Option TV))(P:List (Int×Int)->Prop):Prop:=match s with|some (some (.dct l))=>P l|_=>False
noncomputable def dgT(l:List (Int×Int))(k:Int):TV:=match l.lookup k with|some j=>.int j|none=>.non
noncomputable def rdV:Option (Option TV)->(TV->Prop)->Prop
 |some (some (.dct _)),_=>False
 |some (some t),K=>K (match t with|.own l=>.bor l|t=>t)
 |_,_=>False
noncomputable def stE(ρ:En)(is:List Nat)(t:TV)(K:En->Prop):Prop:=match is with
 |[i]=>K (ρ.set i (some t))
 |[i,j]=>(match t with|.tup [x,y]=>K ((ρ.set i (some x)).set j (some y))|_=>False)
 |[i,j,k]=>(match t with|.tup [x,y,z]=>K (((ρ.set i (some x)).set j (some y)).set k (some z))|_=>False)
 |_=>False
noncomputable def cmF(b:TV->(List TV->Prop)->Prop):List TV->(List TV->Prop)->Prop
 |[],K=>K []
 |t::r,K=>b t λ y=>cmF b r λ ys=>K (y++ys)
section
variable (FT:List PSp)(GT:List TV)
mutual
def wE:Cd->En->(TV->Prop)->Prop
 |.v i,ρ,K=>rdV ρ[i]? K
 |.c t,_,K=>K t
 |.g k,_,K=>gtP GT[k]? K
 |.bin o a b,ρ,K=>wE a ρ λ x=>wE b ρ λ y=>opP o x y K
 |.neg a,ρ,K=>wE a ρ λ x=>i1 x λ i=>K (.int (-i))
 |.not a,ρ,K=>wE a ρ λ x=>b1 x λ i=>K (.bl (!i))
 |.cmp o a b,ρ,K=>wE a ρ λ x=>wE b ρ λ y=>ky o x y K
 |.and a b,ρ,K=>wE a ρ λ x=>b1 x λ k=>if k=true then wE b ρ K else K (.bl false)
 |.or a b,ρ,K=>wE a ρ λ x=>b1 x λ k=>if k=true then K (.bl true) else wE b ρ K
 |.ite c a b,ρ,K=>wE c ρ λ x=>b1 x λ k=>if k=true then wE a ρ K else wE b ρ K
 |.tup l,ρ,K=>wL l ρ λ ts=>ts.all TV.nb=true/\ts.length<=sizeLine/\K (.tup (ts.map .fz))
 |.lst l,ρ,K=>wL l ρ λ ts=>ts.all TV.nb=true/\ts.length<=sizeLine/\K (.own (ts.map .fz))
 |.ix a b,ρ,K=>wE a ρ λ x=>wE b ρ λ y=>ixP x y K
 |.sl a lo hi,ρ,K=>wE a ρ λ x=>wE lo ρ λ y=>oI y λ p=>wE hi ρ λ z=>oI z λ q=>slK x p q K
 |.call f l,ρ,K=>wL l ρ λ ts=>∃P,(∃S,FT[f]?=some S/\S (ts.map .fz) P)/\∀t,P t->(ts.all TV.nb=false->LF t)/\K t
 |.bi f l,ρ,K=>wL l ρ λ ts=>biP f ts K
 |.isi f a,ρ,K=>wE a ρ λ t=>biP f [t] K
 |.mxl a b,ρ,K=>wE a ρ λ t=>wE b ρ λ u=>biP .maxlen [t,u] K
 |.trev k a,ρ,K=>wE a ρ λ t=>biP (.trev k) [t] K
 |.lrng k a,ρ,K=>wE a ρ λ t=>biP (.lrange k) [t] K
 |.dk k a,ρ,K=>dcP GT[k]? λ kvs=>wE a ρ λ y=>t1 y λ x=>∃t,dlk kvs x=some t/\K t
 |.ss k a,ρ,K=>wE a ρ λ t=>ssP k t K
 |.di i b,ρ,K=>dcR ρ[i]? λ l=>wE b ρ λ y=>i1 y λ k=>∃j,l.lookup k=some j/\K (.int j)
 |.dg i b,ρ,K=>dcR ρ[i]? λ l=>wE b ρ λ y=>i1 y λ k=>K (dgT l k)
 |.comp own _ js tg k it e,ρ,K=>wL it ρ λ ts=>itP k ts λ its=>its.length<sizeLine /\
   cmF (λ t K'=>stE (List.replicate own.length none++js.map λ j=>(ρ[j]?).join) tg t λ ρ'=>wE e ρ' λ y=>(y.nb=true/\K' [y.fz])) its λ ys=>K (.own ys)
 |.compI own _ js tg k it c e,ρ,K=>wL it ρ λ ts=>itP k ts λ its=>its.length<sizeLine /\
   cmF (λ t K'=>stE (List.replicate own.length none++js.map λ j=>(ρ[j]?).join) tg t λ ρ'=>wE c ρ' λ x=>b1 x λ q=>if q=true then wE e ρ' λ y=>(y.nb=true/\K' [y.fz]) else K' []) its λ ys=>K (.own ys)
 |_,_,_=>False
def wL:Cd->En->(List TV->Prop)->Prop
 |.nil,_,K=>K []
 |.cons a r,ρ,K=>wE a ρ λ t=>wL r ρ λ ts=>K (t::ts)
 |_,_,_=>False
end
end
section
variable {K K':TV->Prop}{t u w:TV}
def kA{P P':Int->Int->Prop}(h:∀i j,P i j->P' i j)(q:i2 t u P):i2 t u P':=by
 cases t<;>cases u<;>first|exact h _ _ q|exact q.elim
def dN{P P':Int->Prop}(h:∀i,P i->P' i)(q:i1 t P):i1 t P':=by
 cases t<;>first|exact h _ q|exact q.elim
def cz{P P':Bool->Prop}(h:∀i,P i->P' i)(q:b1 t P):b1 t P':=by
 cases t<;>first|exact h _ q|exact q.elim
def gN{P P':List TV->Prop}(h:∀i,P i->P' i)(q:l1 t P):l1 t P':=by
 cases t<;>first|exact h _ q|exact q.elim
def oZ{P P':List TV->Prop}(h:∀i,P i->P' i)(q:s1 t P):s1 t P':=by
 cases t<;>first|exact h _ q|exact q.elim
def gO{P P':List TV->Prop}(h:∀i,P i->P' i)(q:k1 b t P):k1 b t P':=by
 cases b
 ·exact gN h q
 ·cases t<;>first|exact h _ q|exact q.elim
def pc{P P':Option Int->Prop}(h:∀i,P i->P' i)(q:oI t P):oI t P':=by
 cases t<;>first|exact h _ q|exact q.elim
def Ix(h:∀t,K t->K' t)(q:sW t u K):sW t u K':=by
 cases t<;>cases u<;>first|exact h _ q|exact fT q.1 (h _ q.2)|exact q.elim
def Iy(h:∀t,K t->K' t)(q:sZ t u K):sZ t u K':=by
 cases t<;>cases u<;>first|exact q.elim|exact fT q.1 (h _ q.2)|exact fT q.1 (fT q.2.1 (fT q.2.2.1 (h _ q.2.2.2)))|exact fT q.1 (fT q.2.1 (h _ q.2.2))
def Iz(h:∀t,K t->K' t)(q:opP o t u K):opP o t u K':=by
 cases o<;>first
  |exact q.elim
  |exact Ix h q
  |exact Iy h q
  |exact kA (λ _ _ q=>h _ q) q
  |exact kA (λ _ _ q=>⟨q.1,h _ q.2⟩) q
def IA(h:∀t,K t->K' t)(q:gtQ t u K):gtQ t u K':=by
 cases t<;>cases u<;>first|exact q.elim|exact h _ q|(obtain⟨ns,ms,a,b,q⟩:=q;exact⟨ns,ms,a,b,h _ q⟩)
def tj(h:∀t,K t->K' t)(q:ky o t u K):ky o t u K':=by
 cases o<;>first
  |exact⟨q.1,h _ q.2⟩
  |exact kA (λ _ _ q=>h _ q) q
  |exact IA h q
  |exact oZ (λ _ q=>⟨q.1,q.2.1,h _ q.2.2⟩) q
def IB(h:∀t,K t->K' t)(q:slK t a b K):slK t a b K':=by
 cases t<;>first|exact h _ q|exact fT q.1 (h _ q.2)|exact q.elim
def IC(h:∀t,K t->K' t)(q:ixP t u K):ixP t u K':=by
 have a:∀l,(i1 u λ i=>∃x,atI l i=some x/\K x)->i1 u λ i=>∃x,atI l i=some x/\K' x:=λ l q=>dN (λ i ⟨c,e,q⟩=>⟨c,e,h _ q⟩) q;have b:∀x:Str,(i1 u λ i=>x.length<=sizeLine/\∃c,atI x.cps.toList i=some c/\K (.str ⟨#[c]⟩))->i1 u λ i=>x.length<=sizeLine/\∃c,atI x.cps.toList i=some c/\K' (.str ⟨#[c]⟩):=λ l q=>dN (λ i ⟨z,c,e,q⟩=>⟨z,c,e,h _ q⟩) q
 cases t with
 |str x=>exact b x q
 |tup l=>exact a l q
 |lst l=>exact a l q
 |bor l=>exact a l q
 |own l=>exact a l q
 |_=>exact q.elim
def mD(h:∀t,K t->K' t)(q:biP f ts K):biP f ts K':=by
 have sl:∀ {t:TV}{g:List TV->TV},(s1 t λ l=>K (g l))->s1 t λ l=>K' (g l):=λ q=>oZ (λ _ q=>h _ q) q;have il:∀ {t:TV}{g:Int->TV},(i1 t λ l=>K (g l))->i1 t λ l=>K' (g l):=λ q=>dN (λ _ q=>h _ q) q;have i2l:∀ {t u:TV}{g:Int->Int->TV},(i2 t u λ i j=>K (g i j))->i2 t u λ i j=>K' (g i j):=λ q=>kA (λ _ _ q=>h _ q) q
 rcases ts with _|⟨t,_|⟨u,_|⟨w,r⟩⟩⟩
 ·cases f<;>exact q.elim
 ·cases f with
  |len=>cases t<;>first|exact h _ q|exact q.elim|exact fT q.1 (h _ q.2)
  |tuple=>exact sl q
  |list=>exact sl q
  |trev b=>exact gO (λ _ q=>h _ q) q
  |sum=>exact gN (λ _ ⟨ns,e,q⟩=>⟨ns,e,h _ q⟩) q
  |max=>exact gN (λ _ ⟨ns,e,l,q⟩=>⟨ns,e,l,λ M m z=>h _ (q M m z)⟩) q
  |min=>exact gN (λ _ ⟨ns,e,l,q⟩=>⟨ns,e,l,λ M m z=>h _ (q M m z)⟩) q
  |abs=>exact il q
  |int=>cases t<;>first|exact h _ q|exact q.elim
  |str=>exact dN (λ _ ⟨a,q⟩=>⟨a,h _ q⟩) q
  |sorted=>exact oZ (λ _ ⟨ns,e,l,q⟩=>⟨ns,e,l,λ M m z=>h _ (q M m z)⟩) q
  |any=>exact gN (λ _ ⟨ns,e,q⟩=>⟨ns,e,h _ q⟩) q
  |all=>exact gN (λ _ ⟨ns,e,q⟩=>⟨ns,e,h _ q⟩) q
  |isI=>cases t<;>first|exact h _ q|exact q.elim
  |isB=>cases t<;>first|exact h _ q|exact q.elim
  |isT=>cases t<;>first|exact h _ q|exact q.elim
  |isL=>cases t<;>first|exact h _ q|exact q.elim
  |isS=>cases t<;>first|exact h _ q|exact q.elim
  |lrange k=>exact dN (λ _ ⟨a,q⟩=>⟨a,h _ q⟩) q
  |maxlen=>exact q.elim
 ·cases f with
  |max=>exact i2l q
  |min=>exact i2l q
  |maxlen=>cases t<;>cases u<;>first|exact h _ q|exact q.elim
  |_=>exact q.elim
 ·cases f<;>exact q.elim
def iG{K K':List TV->Prop}(h:∀t,K t->K' t)(q:itP k ts K):itP k ts K':=by
 rcases ts with _|⟨t,_|⟨u,_|⟨w,_|⟨y,r⟩⟩⟩⟩
 ·cases k<;>exact q.elim
 ·cases k with
  |seq=>exact oZ h q
  |rng=>exact dN (λ _ ⟨a,q⟩=>⟨a,h _ q⟩) q
  |enum a=>exact gO (λ _ q=>h _ q) q
  |rev a=>exact gO (λ _ q=>h _ q) q
  |str=>cases t<;>first|exact h _ q|exact q.elim
  |_=>exact q.elim
 ·cases k with
  |rng2=>exact kA (λ _ _ ⟨a,q⟩=>⟨a,h _ q⟩) q
  |zip a b=>exact gO (λ _ q=>gO (λ _ q=>h _ q) q) q
  |_=>exact q.elim
 ·cases k with
  |rng3=>exact kA (λ _ _ q=>dN (λ _ ⟨a,q⟩=>⟨a,h _ q⟩) q) q
  |zip3=>exact gO (λ _ q=>gO (λ _ q=>gO (λ _ ⟨a,q⟩=>⟨a,h _ q⟩) q) q) q
  |_=>exact q.elim
 ·cases k<;>exact q.elim
def ID(h:∀t,K t->K' t)(q:gtP s K):gtP s K':=by
 cases s with
 |none=>exact q
 |some t=>cases t<;>first|exact h _ q|exact q.elim
def xS(q:dcP s P):∃l,s=some (.bor l)/\P l:=by
 cases s with
 |none=>exact q.elim
 |some t=>cases t<;>first|exact⟨_,rfl,q⟩|exact q.elim
theorem IE{t:TV}{K K':TV->Prop}(h:∀t,K t->K' t):∀ {k:Bool},ssP k t K->ssP k t K'
 |false,q=>gN (λ l ⟨ns,e,z,q⟩=>⟨ns,e,z,λ a b c=>h _ (q a b c)⟩) q
 |true,q=>gN (λ l ⟨ns,e,z,q⟩=>⟨ns,e,z,λ a b c=>h _ (q a b c)⟩) q
def IF{t:TV}{K K':TV->Prop}(h:∀t,K t->K' t)(q:dcQ t K):dcQ t K':=gN (λ l ⟨ps,e,z,q⟩=>⟨ps,e,z,h _ q⟩) q
def xT{P P':List (Int×Int)->Prop}(h:∀l,P l->P' l)(q:dcR s P):dcR s P':=by
 rcases s with _|_|t
 ·exact q.elim
 ·exact q.elim
 ·cases t<;>first|exact h _ q|exact q.elim
def IG{P P':List TV->Prop}(h:∀l,P l->P' l)(q:dcP s P):dcP s P':=by
 obtain⟨l,e,p⟩:=xS q;subst e;exact h l p
def xU(q:t1 t P):∃x,t=.str x/\P x:=by cases t<;>first|exact⟨_,rfl,q⟩|exact q.elim
def IH{P P':Str->Prop}(h:∀x,P x->P' x)(q:t1 t P):t1 t P':=by
 obtain⟨x,e,p⟩:=xU q;subst e;exact h x p
def II(h:∀t,K t->K' t)(q:rdV s K):rdV s K':=by
 rcases s with _|_|t
 ·exact q
 ·exact q
 ·cases t<;>first|exact h _ q|exact q.elim
def fc{K K':En->Prop}(h:∀t,K t->K' t)(q:stE ρ is t K):stE ρ is t K':=by
 rcases is with _|⟨i,_|⟨j,_|⟨k,_|⟨l,r⟩⟩⟩⟩
 ·exact q.elim
 ·exact h _ q
 ·cases t with
  |tup l=>rcases l with _|⟨x,_|⟨y,_|⟨z,r⟩⟩⟩<;>first|exact h _ q|exact q.elim
  |_=>exact q.elim
 ·cases t with
  |tup l=>rcases l with _|⟨x,_|⟨y,_|⟨z,_|⟨w,r⟩⟩⟩⟩<;>first|exact h _ q|exact q.elim
  |_=>exact q.elim
 ·exact q.elim
theorem pd{b b':TV->(List TV->Prop)->Prop}(hb:∀t K K',(∀y,K y->K' y)->b t K->b' t K'):∀ {l:List TV}{K K':List TV->Prop},(∀y,K y->K' y)->cmF b l K->cmF b' l K'
 |[],_,_,h,q=>h _ q
 |_::_,_,_,h,q=>hb _ _ _ (λ y q=>pd hb (λ ys q=>h _ q) q) q
variable {FT:List PSp}{GT:List TV}
structure Mo (FT:List PSp)(GT:List TV)(c:Cd):Prop where
 e:∀ {ρ:En}{K K':TV->Prop},(∀t,K t->K' t)->wE FT GT c ρ K->wE FT GT c ρ K'
 l:∀ {ρ:En}{K K':List TV->Prop},(∀t,K t->K' t)->wL FT GT c ρ K->wL FT GT c ρ K'
def mE{k:Bool}{A A' B B':Prop}(ha:A->A')(hb:B->B')(q:if k=true then A else B):if k=true then A' else B':=by
 cases k
 ·exact hb q
 ·exact ha q
def mo(FT:List PSp)(GT:List TV):∀c,Mo FT GT c:=λ c=>by
 induction c with
 |v i=>exact⟨λ h q=>II h q,λ _ q=>q.elim⟩
 |c t=>exact⟨λ h q=>h _ q,λ _ q=>q.elim⟩
 |g k=>exact⟨λ h q=>ID h q,λ _ q=>q.elim⟩
 |bin o a b ia ib=>exact⟨λ h q=>ia.e (λ x q=>ib.e (λ y q=>Iz h q) q) q,λ _ q=>q.elim⟩
 |neg a ia=>exact⟨λ h q=>ia.e (λ x q=>dN (λ _ q=>h _ q) q) q,λ _ q=>q.elim⟩
 |not a ia=>exact⟨λ h q=>ia.e (λ x q=>cz (λ _ q=>h _ q) q) q,λ _ q=>q.elim⟩
 |cmp o a b ia ib=>exact⟨λ h q=>ia.e (λ x q=>ib.e (λ y q=>tj h q) q) q,λ _ q=>q.elim⟩
 |and a b ia ib=>exact⟨λ h q=>ia.e (λ x q=>cz (λ k q=>mE (λ q=>ib.e h q) (λ q=>h _ q) q) q) q,λ _ q=>q.elim⟩
 |or a b ia ib=>exact⟨λ h q=>ia.e (λ x q=>cz (λ k q=>mE (λ q=>h _ q) (λ q=>ib.e h q) q) q) q,λ _ q=>q.elim⟩
 |ite c a b ic ia ib=>exact⟨λ h q=>ic.e (λ x q=>cz (λ k q=>mE (λ q=>ia.e h q) (λ q=>ib.e h q) q) q) q,λ _ q=>q.elim⟩
 |nil=>exact⟨λ _ q=>q.elim,λ h q=>h _ q⟩
 |cons a r ia ir=>exact⟨λ _ q=>q.elim,λ h q=>ia.e (λ t q=>ir.l (λ ts q=>h _ q) q) q⟩
 |tup l il=>exact⟨λ h q=>il.l (λ ts ⟨a,b,q⟩=>⟨a,b,h _ q⟩) q,λ _ q=>q.elim⟩
 |lst l il=>exact⟨λ h q=>il.l (λ ts ⟨a,b,q⟩=>⟨a,b,h _ q⟩) q,λ _ q=>q.elim⟩
 |ix a b ia ib=>exact⟨λ h q=>ia.e (λ x q=>ib.e (λ y q=>IC h q) q) q,λ _ q=>q.elim⟩
 |sl a lo hi ia il ih=>exact⟨λ h q=>ia.e (λ x q=>il.e (λ y q=>pc (λ p q=>ih.e (λ z q=>pc (λ r q=>IB h q) q) q) q) q) q,λ _ q=>q.elim⟩
 |call f l il=>exact⟨λ h q=>il.l (λ ts q=>let ⟨P,s,q⟩:=q;⟨P,s,λ t p=>⟨(q t p).1,h _ (q t p).2⟩⟩) q,λ _ q=>q.elim⟩
 |bi f l il=>exact⟨λ h q=>il.l (λ ts q=>mD h q) q,λ _ q=>q.elim⟩
 |isi f a ia=>exact⟨λ h q=>ia.e (λ t q=>mD h q) q,λ _ q=>q.elim⟩
 |mxl a b ia ib=>exact⟨λ h q=>ia.e (λ t q=>ib.e (λ u q=>mD h q) q) q,λ _ q=>q.elim⟩
 |trev k a ia=>exact⟨λ h q=>ia.e (λ t q=>mD h q) q,λ _ q=>q.elim⟩
 |dk k a ia=>exact⟨λ h q=>IG (λ kvs q=>ia.e (λ y q=>IH (λ x ⟨t,e,q⟩=>⟨t,e,h _ q⟩) q) q) q,λ _ q=>q.elim⟩
 |ss k a ia=>exact⟨λ h q=>ia.e (λ t q=>IE h q) q,λ _ q=>q.elim⟩
 |di i b ib=>exact⟨λ h q=>xT (λ l q=>ib.e (λ y q=>dN (λ k ⟨j,e,q⟩=>⟨j,e,h _ q⟩) q) q) q,λ _ q=>q.elim⟩
 |dg i b ib=>exact⟨λ h q=>xT (λ l q=>ib.e (λ y q=>dN (λ k q=>h _ q) q) q) q,λ _ q=>q.elim⟩
 |lrng k a ia=>exact⟨λ h q=>ia.e (λ t q=>mD h q) q,λ _ q=>q.elim⟩
 |comp own fv js tg k it e ii ie=>exact⟨λ h q=>ii.l (λ ts q=>iG (λ its q=>⟨q.1,pd (λ t K K' h q=>fc (λ ρ' q=>ie.e (λ y q=>⟨q.1,h _ q.2⟩) q) q) (λ ys q=>h _ q) q.2⟩) q) q,λ _ q=>q.elim⟩
 |compI own fv js tg k it c e ii ic ie=>exact⟨λ h q=>ii.l (λ ts q=>iG (λ its q=>⟨q.1,pd (λ t K K' h q=>fc (λ ρ' q=>ic.e (λ x q=>cz (λ z q=>mE (λ q=>ie.e (λ y q=>⟨q.1,h _ q.2⟩) q) (λ q=>h _ q) q) q) q) q) (λ ys q=>h _ q) q.2⟩) q) q,λ _ q=>q.elim⟩
def av(c:Cd){K K':TV->Prop}(h:∀t,K t->K' t)(q:wE FT GT c ρ K):wE FT GT c ρ K':=(mo FT GT c).e h q
def bP(c:Cd){K K':List TV->Prop}(h:∀t,K t->K' t)(q:wL FT GT c ρ K):wL FT GT c ρ K':=(mo FT GT c).l h q
end
example (FT:List PSp) (GT:List TV) (K:TV->Prop):wE FT GT (.neg (.v 0)) [some (.int 3)] K=K (.int (-3)):=rfl
section
variable {J:Hp->Prop}
noncomputable def r2(X:Cx)(J:Hp->Prop)(p:TV->TV->(TV->Prop)->Prop):R2:=λ x y H1 Q=>∃F H F1 t u,Grow J F H F1 H1/\Rr X.K H F1 H1 t x/\Rr X.K H F1 H1 u y/\p t u λ r=>∀F' H' v,Grow J F H F' H'->Rr X.K H F' H' r v->Q v H'
def dA(h:i2 t u P):∃i j,t=.int i/\u=.int j/\P i j:=by
 cases t<;>cases u<;>first|exact⟨_,_,rfl,rfl,h⟩|exact h.elim
def eI(h:i1 t P):∃i,t=.int i/\P i:=by
 cases t<;>first|exact⟨_,rfl,h⟩|exact h.elim
def mF(h:b1 t P):∃i,t=.bl i/\P i:=by
 cases t<;>first|exact⟨_,rfl,h⟩|exact h.elim
def eJ(h:l1 t P):∃l,t.items=some (false,l)/\P l:=by
 cases t<;>first|exact⟨_,rfl,h⟩|exact h.elim
def kB(h:s1 t P):∃b l,t.items=some (b,l)/\P l:=by
 cases t<;>first|exact⟨_,_,rfl,h⟩|exact h.elim
def Rr.lq{K:FG}{l:List TV}(h:Rr K H F' H' t v)(e:t.items=some (false,l)):∃a vs,v=.ref a/\RpL K F' H' l vs/\SqL K H' a vs:=by
 obtain⟨a,vs,e,r,q⟩:=h.sq e
 rcases q with ⟨z,_⟩|⟨_,q⟩
 ·cases z
 ·exact⟨a,vs,e,r,q⟩
def kC(hJ:JS J){K:FG}{Q:VK}{vs:List V}(g:Grow J F H F1 H1)(r:RpL K F1 H1 l vs)(q:∀F' H' v,Grow J F H F' H'->Rr K H F' H' (.tup l) v->Q v H')(p:Addr)(hp:H1 p=none):Q (.ref p) (upd H1 p (.tup vs)) :=
 q F1 _ _ (g.trans (.new hJ g.w _ hp)) ⟨p,vs,rfl,.of cT,r.ke (Grow.new hJ g.w _ hp).ke⟩
def Grow.none(g:Grow J F H F1 H1)(h:H1 a=none):H a=none:=by
 by_cases z:H a=Option.none
 ·exact z
 ·exact absurd h (g.dm a z)
def eK(hJ:JS J){K:FG}{Q:VK}{vs:List V}(g:Grow J F H F1 H1)(r:RpL K F1 H1 l vs)(q:∀F' H' v,Grow J F H F' H'->Rr K H F' H' (.own l) v->Q v H')(p:Addr)(hp:H1 p=none):Q (.ref p) (upd H1 p (.lst vs)) :=
 q F1 _ _ (g.trans (.new hJ g.w _ hp)) ⟨p,vs,rfl,g.none hp,λ z=>g.w.d p z hp,cT,r.ke (Grow.new hJ g.w _ hp).ke⟩
def IJ(hJ:JS J)(o:Operator):OpR X (binaryOp o) (r2 X J (opP o)):=by
 intro pins s σ H1 x y v u Q I rx ry h;obtain⟨F,H,F1,t,w,g,rt,rw',p⟩:=h
 cases o with
 |Add=>
  cases t with
  |int i=>
   cases rt
   cases w with
   |int j=>cases rw';exact CS pins s σ H1 _ _ v u Q I rx ry (p F1 H1 _ g rfl)
   |_=>exact p.elim
  |tup l=>
   cases w with
   |tup m=>
    obtain⟨a,vs,rfl,q1,r1⟩:=rt;obtain⟨b,ws,rfl,q2,r2⟩:=rw';obtain⟨lz,p⟩:=p;have rr:=r1.append r2;refine Fk pins s σ H1 _ _ v u Q I rx ry ⟨a,b,vs,ws,fu,fu,q1,q2,by rw[<- r1.length,<- r2.length];exact lz,λ e=>?_,λ _ e=>?_,λ _ _=>kC hJ g rr p⟩
    ·subst e;exact p F1 H1 _ g ⟨b,_,rfl,q2,rr⟩
    ·subst e;rw[eT] at rr;exact p F1 H1 _ g ⟨a,_,rfl,q1,rr⟩
   |_=>exact p.elim
  |lst l=>
   obtain⟨m,em,lz,p⟩:=eJ p;obtain⟨a,vs,rfl,r1,q1⟩:=rt.lq rfl;obtain⟨b,ws,rfl,r2,q2⟩:=rw'.lq em;exact qW pins s σ H1 _ _ v u Q I rx ry ⟨a,b,vs,ws,fu,fu,q1,q2,by rw[<- r1.length,<- r2.length];exact lz,eK hJ g (r1.append r2) p⟩
  |bor l=>
   obtain⟨m,em,lz,p⟩:=eJ p;obtain⟨a,vs,rfl,r1,q1⟩:=rt.lq rfl;obtain⟨b,ws,rfl,r2,q2⟩:=rw'.lq em;exact qW pins s σ H1 _ _ v u Q I rx ry ⟨a,b,vs,ws,fu,fu,q1,q2,by rw[<- r1.length,<- r2.length];exact lz,eK hJ g (r1.append r2) p⟩
  |own l=>
   obtain⟨m,em,lz,p⟩:=eJ p;obtain⟨a,vs,rfl,r1,q1⟩:=rt.lq rfl;obtain⟨b,ws,rfl,r2,q2⟩:=rw'.lq em;exact qW pins s σ H1 _ _ v u Q I rx ry ⟨a,b,vs,ws,fu,fu,q1,q2,by rw[<- r1.length,<- r2.length];exact lz,eK hJ g (r1.append r2) p⟩
  |_=>exact p.elim
 |Sub=>
  obtain⟨i,j,rfl,rfl,p⟩:=dA p;cases rt;cases rw';exact CT pins s σ H1 _ _ v u Q I rx ry (p F1 H1 _ g rfl)
 |Mult=>
  cases t with
  |int i=>
   cases rt
   cases w with
   |int j=>cases rw';exact FY pins s σ H1 _ _ v u Q I rx ry ⟨p.1,p.2 F1 H1 _ g rfl⟩
   |_=>exact p.elim
  |own l=>
   cases w with
   |int k=>
    cases rw';obtain⟨a,vs,rfl,n,f,q,r⟩:=rt;obtain⟨k0,lz,p⟩:=p
    have rr:RpL X.K F1 H1 (List.replicate k.toNat l).flatten (List.replicate k.toNat vs).flatten:=by
     generalize k.toNat=m
     induction m with
     |zero=>rfl
     |succ m ih=>rw[iV,iV,jP,jP];exact r.append ih
    exact El pins s σ H1 _ _ v u Q I rx ry ⟨a,k,vs,fu,fu,q,on,k0.2,by rw[<- r.length];exact lz,eK hJ g rr p⟩
   |_=>exact p.elim
  |_=>cases w<;>exact p.elim
 |FloorDiv=>
  obtain⟨i,j,rfl,rfl,⟨c1,c2,c3⟩,p⟩:=dA p;cases rt;cases rw';by_cases c:0<j
  ·rw[show aD i j=i/j by unfold aD;rw[if_pos c]] at p;exact FD pins s σ H1 _ _ v u Q I rx ry ⟨⟨c,c3⟩,p F1 H1 _ g rfl⟩
  ·rw[show aD i j=i.fdiv j by unfold aD;rw[if_neg c]] at p;exact EL pins s σ H1 _ _ v u Q I rx ry ⟨⟨c1,c2,on⟩,p F1 H1 _ g rfl⟩
 |Mod=>
  obtain⟨i,j,rfl,rfl,c1,p⟩:=dA p;cases rt;cases rw';by_cases c:0<j
  ·rw[show aB i j=i%j by unfold aB;rw[if_pos c]] at p;exact CU pins s σ H1 _ _ v u Q I rx ry ⟨c,p F1 H1 _ g rfl⟩
  ·rw[show aB i j=i.fmod j by unfold aB;rw[if_neg c]] at p;exact CV pins s σ H1 _ _ v u Q I rx ry ⟨c1,p F1 H1 _ g rfl⟩
 |Pow=>
  obtain⟨i,j,rfl,rfl,c1,p⟩:=dA p;cases rt;cases rw';exact CW pins s σ H1 _ _ v u Q I rx ry ⟨c1,p F1 H1 _ g rfl⟩
 |RShift=>
  obtain⟨i,j,rfl,rfl,c1,p⟩:=dA p;cases rt;cases rw';exact CY pins s σ H1 _ _ v u Q I rx ry ⟨c1,p F1 H1 _ g rfl⟩
 |BitAnd=>
  obtain⟨i,j,rfl,rfl,p⟩:=dA p;cases rt;cases rw';exact CZ pins s σ H1 _ _ v u Q I rx ry (p F1 H1 _ g rfl)
 |BitOr=>
  obtain⟨i,j,rfl,rfl,p⟩:=dA p;cases rt;cases rw';exact Da pins s σ H1 _ _ v u Q I rx ry (p F1 H1 _ g rfl)
 |BitXor=>
  obtain⟨i,j,rfl,rfl,p⟩:=dA p;cases rt;cases rw';exact Db pins s σ H1 _ _ v u Q I rx ry (p F1 H1 _ g rfl)
 |_=>exact p.elim
end
section
variable {J:Hp->Prop}{pins:LO}{σ:St}{H H1:Hp}{s:Shared}{F F1:Fz}
def FA:Fz:=λ _=>True
def Rr.top{K:FG}(h:Rr K H F1 H1 t v):Rp K FA H1 t.fz v:=by
 have k:Ke K F1 H1 FA H1:=.up λ _ _=>trivial
 cases t with
 |own l=>obtain⟨a,vs,e,_,_,q,r⟩:=h;exact⟨a,vs,e,.inl ⟨trivial,.of q⟩,r.ke k⟩
 |bor l=>obtain⟨a,vs,e,_,q,r⟩:=h;exact⟨a,vs,e,.inl ⟨trivial,.of q⟩,r.ke k⟩
 |_=>exact Rp.ke k h
def tq{K:FG}(h:Rp K F H t v)(f:flT t=true):fH v=true:=by
 cases t<;>first|(cases h;rfl)|(cases f)
def IL{K:FG}(h:Rp K F H t v)(g:Rp K F H u w)(f:flT t=true)(f':flT u=true):eqV v w=eqT t u:=by
 cases t<;>cases u<;>first|(cases h;cases g;rfl)|(cases f;done)|(cases f';done)
theorem tu{K:FG}:∀ {l:List TV}{vs:List V},RpL K F H l vs->(∀x∈l,flT x=true)->vs.all fH=true
 |[],_,h,_=>by cases h;rfl
 |t::ts,_,⟨v,r,e,h1,h2⟩,f=>by subst e;rw[cJ,tq h1 (f t BT),tu h2 λ x hx=>f x (by simp[hx])];rfl
theorem tw{K:FG}(ht:Rp K F H t v)(f:flT t=true):∀ {l:List TV}{vs:List V},RpL K F H l vs->(∀x∈l,flT x=true)->inV v vs=inT t l
 |[],_,h,_=>by cases h;rfl
 |u::ts,_,⟨w,r,e,h1,h2⟩,g=>by
  subst e;have ih:=tw ht f h2 λ x hx=>g x (by simp[hx]);unfold inV inT at *;rw[lH,lH,ih,IL h1 ht (g u BT) f]
theorem xV(I:Inv X pins σ H s){A:Around}{vs ws:List V}(hu:A.units+9<cLine)(d:dp 9 (.tup l))(q:SqT X.K H a vs)(r:RpL X.K F H l vs)(q':SqT X.K H b ws)(r':RpL X.K F H m ws) :
  ∃(us us2:LV),s.heap.IsTuple a us.toArray/\s.heap.IsTuple b us2.toArray/\(∀j (h1:j<us.toArray.size) (h2:j<us2.toArray.size),SeqAt.EqAt A.in1 s us.toArray[j] us2.toArray[j] (eqT (l.getD j .non) (m.getD j .non))) /\
   ((List.range (min us.toArray.size us2.toArray.size)).all (λ j=>eqT (l.getD j .non) (m.getD j .non))&&us.toArray.size == us2.toArray.size)=eqTL l m:=by
 obtain⟨us,r1,p1,_⟩:=I.tuple q;obtain⟨us2,r2,p2,_⟩:=I.tuple q';have d':∀x∈l,dp 8 x:=d;refine⟨us,us2,p1,p2,λ j k1 k2=>?_,?_⟩
 ·obtain⟨z1,h1,r1',m1⟩:=iF r r1 k1;obtain⟨z2,h2,r2',_⟩:=iF r' r2 k2;exact xQ I 8 A.in1 _ _ z1 z2 _ _ (by show A.units+1+8<cLine;lia) (d' _ m1) h1 h2 r1' r2'
 ·have e1:us.toArray.size=l.length:=by simp[r.length,r1.length]
  have e2:us2.toArray.size=m.length:=by simp[r'.length,r2.length]
  rw[e1,e2];by_cases c:l.length=m.length
  ·rw[<- c,Nat.min_self,kq c];simp
  ·rw[ko c];have c':(l.length == m.length)=false:=by simpa using c
   rw[c',oY]
theorem xW(I:Inv X pins σ H s){A:Around}{vs ws:List V}(hu:A.units+9<cLine)(d:dp 9 (.lst l))(q:SqL X.K H a vs)(r:RpL X.K F H l vs)(q':SqL X.K H b ws)(r':RpL X.K F H m ws) :
  ∃(us us2:LV),s.heap.IsList a us.toArray/\s.heap.IsList b us2.toArray/\(∀j (h1:j<us.toArray.size) (h2:j<us2.toArray.size),SeqAt.EqAt A.in1 s us.toArray[j] us2.toArray[j] (eqT (l.getD j .non) (m.getD j .non)))/\us.toArray.size=l.length/\us2.toArray.size=m.length:=by
 obtain⟨us,r1,p1,_⟩:=I.list q;obtain⟨us2,r2,p2,_⟩:=I.list q';have d':∀x∈l,dp 8 x:=d;refine⟨us,us2,p1.isList,p2.isList,λ j k1 k2=>?_,by simp[r.length,r1.length],by simp[r'.length,r2.length]⟩;obtain⟨z1,h1,r1',m1⟩:=iF r r1 k1;obtain⟨z2,h2,r2',_⟩:=iF r' r2 k2;exact xQ I 8 A.in1 _ _ z1 z2 _ _ (by show A.units+1+8<cLine;lia) (d' _ m1) h1 h2 r1' r2'
noncomputable def r2c(X:Cx)(J:Hp->Prop)(p:TV->TV->(TV->Prop)->Prop):R2:=λ x y H1 Q=>∃F H F1 t u,Grow J F H F1 H1/\Rr X.K H F1 H1 t x/\Rr X.K H F1 H1 u y/\p t u λ r=>∀v,Rr X.K H F1 H1 r v->Q v H1
def IM(hu:X.A.units+20<cLine):OpR X (compareOp .Eq) (r2c X J (ky .Eq)):=by
 intro pins s σ H1 x y v u Q I rx ry h;obtain⟨F,H,F1,t,w,g,rt,rw',c,p⟩:=h;replace p:=p _ rfl;have ht:=rt.top;have hw:=rw'.top;generalize t.fz=t at *;generalize w.fz=w at *;clear rt rw';have fin:EP X pins σ Q (.bool (eqT t w)) s:=⟨.bl _,H1,I,rfl,p⟩
 cases t with
 |tup l=>
  cases w with
  |tup m=>
   obtain⟨a,vs,rfl,q,r⟩:=ht;obtain⟨b,ws,rfl,q',r'⟩:=hw;cases rx;cases ry;obtain⟨us,us2,p1,p2,e,z⟩:=xV I (A:=X.A) on c q r q' r';exact SeqAt.eq_tupleAt p1 p2 on e (by rw[z];exact fin)
  |_=>exact c.elim
 |lst l=>
  cases w with
  |lst m=>
   obtain⟨a,vs,rfl,q,r⟩:=ht;obtain⟨b,ws,rfl,q',r'⟩:=hw;cases rx;cases ry;obtain⟨us,us2,p1,p2,e,e1,e2⟩:=xW I (A:=X.A) on c q.sq r q'.sq r';by_cases k:l.length=m.length
   ·exact SeqAt.eq_listAt p1 p2 (by rw[e1,e2,k]) on e (by rw[e1,kq k];exact fin)
   ·refine SeqAt.eq_list_lengthsAt p1 p2 (by rw[e1,e2];simpa using k) on ?_;rw[oX,ko k] at fin;exact fin
  |_=>exact c.elim
 |int i=>
  cases w with
  |int j=>cases ht;cases hw;exact dW pins s σ H1 _ _ v u Q I rx ry p
  |non=>cases ht;cases hw;exact dW pins s σ H1 _ _ v u Q I rx ry (show bD _ _=true/\_ from ⟨rfl,p⟩)
  |str j=>cases ht;cases hw;exact dW pins s σ H1 _ _ v u Q I rx ry (show bD _ _=true/\_ from ⟨rfl,p⟩)
  |_=>exact c.elim
 |str i=>
  cases w with
  |str j=>cases ht;cases hw;exact dW pins s σ H1 _ _ v u Q I rx ry p
  |non=>cases ht;cases hw;exact dW pins s σ H1 _ _ v u Q I rx ry (show bD _ _=true/\_ from ⟨rfl,p⟩)
  |int j=>cases ht;cases hw;exact dW pins s σ H1 _ _ v u Q I rx ry (show bD _ _=true/\_ from ⟨rfl,p⟩)
  |_=>exact c.elim
 |bl i=>
  cases w with
  |bl j=>cases ht;cases hw;refine dW pins s σ H1 _ _ v u Q I rx ry (show bD _ _=true/\_ from ⟨rfl,?_⟩);cases i<;>cases j<;>exact p
  |non=>cases ht;cases hw;exact dW pins s σ H1 _ _ v u Q I rx ry (show bD _ _=true/\_ from ⟨rfl,p⟩)
  |_=>exact c.elim
 |non=>
  cases w with
  |non=>cases ht;cases hw;exact dW pins s σ H1 _ _ v u Q I rx ry (show bD _ _=true/\_ from ⟨rfl,p⟩)
  |int j=>cases ht;cases hw;exact dW pins s σ H1 _ _ v u Q I rx ry (show bD _ _=true/\_ from ⟨rfl,p⟩)
  |str j=>cases ht;cases hw;exact dW pins s σ H1 _ _ v u Q I rx ry (show bD _ _=true/\_ from ⟨rfl,p⟩)
  |bl j=>cases ht;cases hw;exact dW pins s σ H1 _ _ v u Q I rx ry (show bD _ _=true/\_ from ⟨rfl,p⟩)
  |_=>exact c.elim
 |_=>exact ht.elim
def IN(hu:X.A.units+20<cLine):OpR X (compareOp .NotEq) (r2c X J (ky .NotEq)):=by
 intro pins s σ H1 x y v u Q I rx ry h;obtain⟨F,H,F1,t,w,g,rt,rw',c,p⟩:=h;replace p:=p _ rfl;have ht:=rt.top;have hw:=rw'.top;generalize t.fz=t at *;generalize w.fz=w at *;clear rt rw';have fin:EP X pins σ Q (.bool (!eqT t w)) s:=⟨.bl _,H1,I,rfl,p⟩
 cases t with
 |tup l=>
  cases w with
  |tup m=>
   obtain⟨a,vs,rfl,q,r⟩:=ht;obtain⟨b,ws,rfl,q',r'⟩:=hw;cases rx;cases ry;obtain⟨us,us2,p1,p2,e,z⟩:=xV I (A:=X.A) on c q r q' r';exact SeqAt.RcNeAt.tuples p1 p2 on e _ _ _ _ (by rw[z];exact fin)
  |_=>exact c.elim
 |lst l=>
  cases w with
  |lst m=>
   obtain⟨a,vs,rfl,q,r⟩:=ht;obtain⟨b,ws,rfl,q',r'⟩:=hw;cases rx;cases ry;obtain⟨us,us2,p1,p2,e,e1,e2⟩:=xW I (A:=X.A) on c q.sq r q'.sq r';by_cases k:l.length=m.length
   ·exact SeqAt.RcNeAt.lists p1 p2 (by rw[e1,e2,k]) on e _ _ _ _ (by rw[e1,kq k];exact fin)
   ·refine SeqAt.RcNeAt.lists_lengths p1 p2 (by rw[e1,e2];simpa using k) on _ _ _ _ ?_;rw[oX,ko k] at fin;exact fin
  |_=>exact c.elim
 |int i=>
  cases w with
  |int j=>cases ht;cases hw;exact dX pins s σ H1 _ _ v u Q I rx ry p
  |non=>cases ht;cases hw;exact dX pins s σ H1 _ _ v u Q I rx ry (show bD _ _=true/\_ from ⟨rfl,p⟩)
  |str j=>cases ht;cases hw;exact dX pins s σ H1 _ _ v u Q I rx ry (show bD _ _=true/\_ from ⟨rfl,p⟩)
  |_=>exact c.elim
 |str i=>
  cases w with
  |str j=>cases ht;cases hw;exact dX pins s σ H1 _ _ v u Q I rx ry p
  |non=>cases ht;cases hw;exact dX pins s σ H1 _ _ v u Q I rx ry (show bD _ _=true/\_ from ⟨rfl,p⟩)
  |int j=>cases ht;cases hw;exact dX pins s σ H1 _ _ v u Q I rx ry (show bD _ _=true/\_ from ⟨rfl,p⟩)
  |_=>exact c.elim
 |bl i=>
  cases w with
  |bl j=>cases ht;cases hw;refine dX pins s σ H1 _ _ v u Q I rx ry (show bD _ _=true/\_ from ⟨rfl,?_⟩);cases i<;>cases j<;>exact p
  |non=>cases ht;cases hw;exact dX pins s σ H1 _ _ v u Q I rx ry (show bD _ _=true/\_ from ⟨rfl,p⟩)
  |_=>exact c.elim
 |non=>
  cases w with
  |non=>cases ht;cases hw;exact dX pins s σ H1 _ _ v u Q I rx ry (show bD _ _=true/\_ from ⟨rfl,p⟩)
  |int j=>cases ht;cases hw;exact dX pins s σ H1 _ _ v u Q I rx ry (show bD _ _=true/\_ from ⟨rfl,p⟩)
  |str j=>cases ht;cases hw;exact dX pins s σ H1 _ _ v u Q I rx ry (show bD _ _=true/\_ from ⟨rfl,p⟩)
  |bl j=>cases ht;cases hw;exact dX pins s σ H1 _ _ v u Q I rx ry (show bD _ _=true/\_ from ⟨rfl,p⟩)
  |_=>exact c.elim
 |_=>exact ht.elim
def xX(hu:X.A.units+20<cLine)(o:CmpOp):OpR X (compareOp o) (r2c X J (ky o)):=by
 cases o with
 |Eq=>exact IM hu
 |NotEq=>exact IN hu
 |In=>
  intro pins s σ H1 x y v u Q I rx ry h;obtain⟨F,H,F1,t,w,g,rt,rw',p⟩:=h;obtain⟨b,l,e,f1,f2,p⟩:=kB p;obtain⟨a,vs,rfl,r,q⟩:=rw'.sq e
  have ht:Rp X.K F1 H1 t x:=by cases t<;>first|exact rt|cases f1
  refine DW pins s σ H1 _ _ v u Q I rx ry ⟨a,vs,fu,?_,tq ht f1,tu r f2,?_⟩
  ·rcases q with ⟨_,q⟩|⟨_,q⟩
   ·exact .inr q
   ·exact .inl q
  ·rw[if_neg pv,tw ht f1 r f2];exact p _ rfl
 |NotIn=>
  intro pins s σ H1 x y v u Q I rx ry h;obtain⟨F,H,F1,t,w,g,rt,rw',p⟩:=h;obtain⟨b,l,e,f1,f2,p⟩:=kB p;obtain⟨a,vs,rfl,r,q⟩:=rw'.sq e
  have ht:Rp X.K F1 H1 t x:=by cases t<;>first|exact rt|cases f1
  refine DX pins s σ H1 _ _ v u Q I rx ry ⟨a,vs,fu,?_,tq ht f1,tu r f2,?_⟩
  ·rcases q with ⟨_,q⟩|⟨_,q⟩
   ·exact .inr q
   ·exact .inl q
  ·rw[if_pos rfl,tw ht f1 r f2];exact p _ rfl
 |Is=>
  intro pins s σ H1 x y v u Q I rx ry h;obtain⟨F,H,F1,t,w,g,rt,rw',rfl,p⟩:=h;cases rw';have hx:=rt.top;refine Dj pins s σ H1 _ _ v u Q I rx ry ⟨fu,?_⟩;replace p:=p _ rfl
  cases t<;>first|exact False.elim hx|(cases hx;exact p)|(obtain⟨a,vs,rfl,_⟩:=hx;exact p)
 |IsNot=>
  intro pins s σ H1 x y v u Q I rx ry h;obtain⟨F,H,F1,t,w,g,rt,rw',rfl,p⟩:=h;cases rw';have hx:=rt.top;refine Dk pins s σ H1 _ _ v u Q I rx ry ⟨fu,?_⟩;replace p:=p _ rfl
  cases t<;>first|exact False.elim hx|(cases hx;exact p)|(obtain⟨a,vs,rfl,_⟩:=hx;exact p)
 |Lt=>intro pins s σ H1 x y v u Q I rx ry h;obtain⟨F,H,F1,t,w,g,rt,rw',p⟩:=h;obtain⟨i,j,rfl,rfl,p⟩:=dA p;cases rt;cases rw';exact Df pins s σ H1 _ _ v u Q I rx ry (p _ rfl)
 |LtE=>intro pins s σ H1 x y v u Q I rx ry h;obtain⟨F,H,F1,t,w,g,rt,rw',p⟩:=h;obtain⟨i,j,rfl,rfl,p⟩:=dA p;cases rt;cases rw';exact Dg pins s σ H1 _ _ v u Q I rx ry (p _ rfl)
 |Gt=>
  intro pins s σ H1 x y v u Q I rx ry h;obtain⟨F,H,F1,t,w,g,rt,rw',p⟩:=h;cases t<;>cases w<;>try exact p.elim
  ·cases rt;cases rw';exact Dh pins s σ H1 _ _ v u Q I rx ry (p _ rfl)
 |GtE=>intro pins s σ H1 x y v u Q I rx ry h;obtain⟨F,H,F1,t,w,g,rt,rw',p⟩:=h;obtain⟨i,j,rfl,rfl,p⟩:=dA p;cases rt;cases rw';exact Di pins s σ H1 _ _ v u Q I rx ry (p _ rfl)
def IP{K:FG}{vs:List V}(r:RpL K F H l vs)(e:atI l i=some t):∃v,atI vs i=some v/\Rp K F H t v:=by
 unfold atI at *;rw[<- r.length]
 cases q:ixN l.length i with
 |none=>rw[q] at e;cases e
 |some j=>rw[q] at e;exact r.get e
def IQ:IxR X (r2 X J ixP):=by
 intro value slice pins s σ H1 x y v u Q I rx ry h hs;obtain⟨F,H,F1,t,w,g,rt,rw',p⟩:=h
 have key:∀b l,t.items=some (b,l)->(i1 w λ i=>∃x,atI l i=some x/\∀F' H' v,Grow J F H F' H'->Rr X.K H F' H' x v->Q v H')->wpAny (model X.prog X.w) X.A (subscriptTail value slice v u) (EP X pins σ Q) X.xe s:=λ b l e p=>by
  obtain⟨i,rfl,z,ez,p⟩:=eI p;cases rw';obtain⟨a,vs,rfl,r,q⟩:=rt.sq e;obtain⟨zv,e1,rz⟩:=IP r ez;have fin:=p F1 H1 _ g (Rr.of rz)
  rcases q with ⟨_,q⟩|⟨_,q⟩
  ·exact qI value slice pins s σ H1 _ _ v u Q I rx ry (.inr (.inl ⟨a,vs,i,zv,fu,fu,q,e1,fin⟩)) hs
  ·exact qI value slice pins s σ H1 _ _ v u Q I rx ry (.inl ⟨a,vs,i,zv,fu,fu,q,e1,fin⟩) hs
 cases t with
 |str x=>
  obtain⟨i,rfl,lz,c,ec,p⟩:=eI p;cases rw';cases rt;exact qI value slice pins s σ H1 _ _ v u Q I rx ry (.inr (.inr ⟨x,i,c,fu,fu,lz,ec,p F1 H1 _ g rfl⟩)) hs
 |tup l=>exact key _ _ rfl p
 |lst l=>exact key _ _ rfl p
 |bor l=>exact key _ _ rfl p
 |own l=>exact key _ _ rfl p
 |_=>exact p.elim
noncomputable def rsl(X:Cx)(J:Hp->Prop):V->Option Int->Option Int->Hp->VK->Prop:=λ x lo hi H1 Q=>∃F H F1 t,Grow J F H F1 H1/\Rr X.K H F1 H1 t x /\
 slK t lo hi λ r=>∀F' H' v,Grow J F H F' H'->Rr X.K H F' H' r v->Q v H'
def tz{K:FG}{vs:List V}(r:RpL K F H l vs)(lo hi:Option Int):RpL K F H (au l lo hi) (gF vs lo hi):=by
 unfold au gF;rw[<- r.length];exact(r.drop _).take _
def IR(hJ:JS J):SlR X (rsl X J):=by
 intro pins s σ H1 x v vl vu lo hi sl Q I rx hs pl pu h;obtain⟨F,H,F1,t,g,rt,p⟩:=h
 have key:∀l,t.items=some (false,l)->(∀F' H' v,Grow J F H F' H'->Rr X.K H F' H' (.own (au l lo hi)) v->Q v H')->∃T id,typeLookup (.type T) "__getitem__"=pure (some (.builtin id))/\s.TypeIs v T/\wpAny (model X.prog X.w) X.A (getItem v (.ref sl)) (EP X pins σ Q) X.xe s:=λ l e p=>by
  obtain⟨a,vs,rfl,r,q⟩:=rt.lq e;exact DV pins s σ H1 _ v vl vu lo hi sl Q I rx hs pl pu ⟨a,vs,fu,q,eK hJ g (tz r lo hi) p⟩
 cases t with
 |tup l=>
  obtain⟨a,xs,rfl,ha,r⟩:=rt;by_cases c:_H.sIx xs.length 0 lo=0/\_H.sIx xs.length xs.length hi=xs.length
  ·cases rx;obtain⟨its,rr,ht,hz⟩:=I.tuple ha;have hlen:its.toArray.size=xs.length:=by rw[aM];exact rr.length.symm
   refine⟨"tuple",_,PyProof.Rows.slot_tuple_getitem.lookup,ht.typeIs,_H.whole_tup ht hs pl pu (by rw[hlen];exact c.1) (by rw[hlen];exact c.2) ⟨.ref a,H1,I,fu,p F1 H1 _ g ⟨a,xs,fu,ha,?_⟩⟩⟩;have z:=tz r lo hi;unfold gF at z
   rwa [c.1,c.2,List.drop_zero,Nat.sub_zero,cX] at z
  ·exact DI pins s σ H1 _ v vl vu lo hi sl Q I rx hs pl pu ⟨a,xs,fu,ha,c,kC hJ g (tz r lo hi) p⟩
 |str z=>cases rt;exact Gf pins s σ H1 _ v vl vu lo hi sl Q I rx hs pl pu ⟨z,rfl,p.1,p.2 F1 H1 _ g rfl⟩
 |lst l=>exact key l rfl p
 |bor l=>exact key l rfl p
 |own l=>exact key l rfl p
 |_=>exact p.elim
end
section
variable {J:Hp->Prop}
noncomputable def xY(X:Cx):V->V->Hp->VK->Prop:=λ x y H Q=>∃(a b:Addr) (xs ys:List V),x=.ref a/\y=.ref b/\SqT X.K H a xs/\SqT X.K H b ys/\(ys.length<=xs.length->Q (.ref a) H)/\(xs.length<ys.length->Q (.ref b) H)
def IS{p kp pos p2:Pos}(hc:X.calm=true)(hg:Gl X "max")(hm:X.mg "max"=none)(hg2:Gl X "len")(hm2:X.mg "len"=none)(he:PE X e te)(hf:PE X f tf)(hs:starEach [e,f] X.env=(false,eval e X.env)::starEach [f] X.env:=by rfl)(hs2:starEach [f] X.env=[(false,eval f X.env)]:=by rfl):PE X (.Call (.Name "max" p) [e,f] [⟨some (Str.ofString "key"),.Name "len" p2,kp⟩] pos) (GK (xY X) te tf):=by
 intro pins s σ H Q I h;refine jM (dD I hg hm boot_max ?_);have hA:=(cj he (cj hf (pa_nil (X:=X)) hs2) hs) pos pins s σ H (λ vs H1=>match vs with|[x,y]=>xY X x y H1 Q|_=>False) I h;refine callWith_kw (thn hA λ us s1 ⟨vs,H1,I1,r1,q1⟩=>?_) (by rw[hs,hs2];rfl) (by rw[hs,hs2];rfl)
 match vs,q1 with
 |[x0,y0],q1=>
  obtain⟨u,v,rfl,ru,rv⟩:=jL r1;refine kws_cons (dD I1 hg2 hm2 boot_len (kws_nil ?_));obtain⟨a,b,xs,ys,rfl,rfl,ha,hb,qa,qb⟩:=q1;cases (show u=Value.ref a from ru);cases (show v=Value.ref b from rv);obtain⟨i1,t1,p1,y1⟩:=I1.tuple ha;obtain⟨i2,t2,p2',y2⟩:=I1.tuple hb;have l1:=t1.length;have l2:=t2.length;have hsz:sizeLine=16777216:=gD;refine GJ (I1.ok.hd hc) p1 p2' (by rw[aM];omega) (by rw[aM];omega) λ v h' tk hv kk=>?_;simp only[aM] at hv
  rcases hv with ⟨rfl,hl⟩|⟨rfl,hl⟩
  ·exact⟨.ref a,H1,I1.kept kk,fu,qa (by omega)⟩
  ·exact⟨.ref b,H1,I1.kept kk,fu,qb (by omega)⟩
noncomputable def rL(X:Cx)(J:Hp->Prop)(p:List TV->(TV->Prop)->Prop):List V->Hp->VK->Prop:=λ xs H1 Q=>∃F H F1 ts,Grow J F H F1 H1/\RrL X.K H F1 H1 ts xs/\p ts λ r=>∀F' H' v,Grow J F H F' H'->Rr X.K H F' H' r v->Q v H'
noncomputable def biV:BI->Value
 |.len=>.builtin "len" |.tuple=>.type "tuple" |.list=>.type "list" |.sum=>.builtin "sum" |.max=>.builtin "max" |.min=>.builtin "min" |.abs=>.builtin "abs" |.int=>.type "int" |.str=>.type "str"
 |.sorted=>.builtin "sorted" |.any=>.builtin "any" |.all=>.builtin "all" |_=>.none
def jo{K:FG}{t:TV}(h:RrL K H F1 H1 [t] xs):∃x,xs=[x]/\Rr K H F1 H1 t x:=by
 cases h with
 |cons r q=>cases q;exact⟨_,rfl,r⟩
def pf{K:FG}{t u:TV}(h:RrL K H F1 H1 [t,u] xs):∃x y,xs=[x,y]/\Rr K H F1 H1 t x/\Rr K H F1 H1 u y:=by
 cases h with
 |cons r q=>obtain⟨y,rfl,r'⟩:=jo q;exact⟨_,y,rfl,r,r'⟩
def IT(h:rL X J p xs H1 Q)(n:∀ts K,p ts K->ts.length=1):∃F H F1 t x,xs=[x]/\Grow J F H F1 H1/\Rr X.K H F1 H1 t x/\p [t] λ r=>∀F' H' v,Grow J F H F' H'->Rr X.K H F' H' r v->Q v H':=by
 obtain⟨F,H,F1,ts,g,r,q⟩:=h
 match ts,n _ _ q with
 |[t],_=>obtain⟨x,rfl,rx⟩:=jo r;exact⟨F,H,F1,t,x,rfl,g,rx,q⟩
def tD{K:FG}{b:Bool}{vs:List V}(q:(b=true/\SqT K H' a vs)\/(b=false/\SqL K H' a vs)):SqL K H' a vs\/SqT K H' a vs:=q.elim (λ z=>.inr z.2) λ z=>.inl z.2
def bi1{f:BI}(h:f=.len\/f=.tuple\/f=.list\/f=.sum\/f=.abs\/f=.int\/f=.sorted\/f=.any):∀ts K,biP f ts K->ts.length=1:=by
 intro ts K q
 rcases ts with _|⟨t,_|⟨u,_|⟨w,r⟩⟩⟩
 ·rcases h with rfl|rfl|rfl|rfl|rfl|rfl|rfl|rfl<;>exact q.elim
 ·rfl
 ·rcases h with rfl|rfl|rfl|rfl|rfl|rfl|rfl|rfl<;>exact q.elim
 ·rcases h with rfl|rfl|rfl|rfl|rfl|rfl|rfl|rfl<;>exact q.elim
def iH(hJ:JS J)(hc:X.calm=true)(f:BI)(h:f=.len\/f=.tuple\/f=.list\/f=.sum\/f=.abs\/f=.int\/f=.sorted\/f=.any):bo X (biV f) (rL X J (biP f)):=by
 intro pins s σ H1 xs us Q I rs hh;obtain⟨F,H,F1,t,x,rfl,g,rt,p⟩:=IT hh (bi1 h)
 rcases h with rfl|rfl|rfl|rfl|rfl|rfl|rfl|rfl
 ·have key:∀b l,t.items=some (b,l)->(∀F' H' v,Grow J F H F' H'->Rr X.K H F' H' (.int l.length) v->Q v H')->wpAny (model X.prog X.w) X.A (call (biV .len) us) (EP X pins σ Q) X.xe s:=λ b l e p=>by
   obtain⟨a,vs,rfl,r,q⟩:=rt.sq e;exact DY pins s σ H1 _ us Q I rs ⟨a,vs,fu,tD q,by rw[<- r.length];exact p F1 H1 _ g rfl⟩
  cases t with
  |str z=>cases rt;exact DZ pins s σ H1 _ us Q I rs ⟨z,rfl,p.1,p.2 F1 H1 _ g rfl⟩
  |tup l=>exact key _ _ rfl p
  |lst l=>exact key _ _ rfl p
  |bor l=>exact key _ _ rfl p
  |own l=>exact key _ _ rfl p
  |_=>exact p.elim
 ·obtain⟨b,l,e,p⟩:=kB p;obtain⟨a,vs,rfl,r,q⟩:=rt.sq e;refine Eb pins s σ H1 _ us Q I rs ⟨a,vs,fu,?_⟩
  rcases q with ⟨_,q⟩|⟨_,q⟩
  ·exact .inr ⟨q,p F1 H1 _ g ⟨a,vs,fu,q,r⟩⟩
  ·exact .inl ⟨q,kC hJ g r p⟩
 ·obtain⟨b,l,e,p⟩:=kB p;obtain⟨a,vs,rfl,r,q⟩:=rt.sq e;exact Ea pins s σ H1 _ us Q I rs ⟨a,vs,fu,tD q,eK hJ g r p⟩
 ·obtain⟨l,e,ns,rfl,p⟩:=eJ p;obtain⟨a,vs,rfl,r,q⟩:=rt.lq e;cases r.ints;exact Fn hc pins s σ H1 _ us Q I rs ⟨a,ns,fu,q,p F1 H1 _ g rfl⟩
 ·obtain⟨i,rfl,p⟩:=eI p;cases rt;exact Dp pins s σ H1 _ us Q I rs ⟨i,fu,p F1 H1 _ g rfl⟩
 ·cases t with
  |int i=>cases rt;exact vf pins s σ H1 _ us Q I rs (.inl ⟨i,rfl,p F1 H1 _ g rfl⟩)
  |bl i=>cases rt;exact vf pins s σ H1 _ us Q I rs (.inr ⟨i,rfl,p F1 H1 _ g rfl⟩)
  |_=>exact p.elim
 ·obtain⟨b,l,e,ns,rfl,n64,p⟩:=kB p;obtain⟨a,vs,rfl,r,q⟩:=rt.sq e;cases r.ints;exact FZ pins s σ H1 _ us Q I rs ⟨a,ns,fu,tD q,n64,λ ns' p1 p2=>eK hJ g (RpL.ofInts ns') (p ns' p1 p2)⟩
 ·obtain⟨l,e,ns,rfl,p⟩:=eJ p;obtain⟨a,vs,rfl,r,q⟩:=rt.lq e;cases r.bls;exact Gh hc pins s σ H1 _ us Q I rs ⟨a,ns,fu,q,p F1 H1 _ g rfl⟩
def IU(hc:X.calm=true):bo X (.builtin "max") (rL X J (biP .max)):=by
 intro pins s σ H1 xs us Q I rs h;obtain⟨F,H,F1,ts,g,r,p⟩:=h
 rcases ts with _|⟨t,_|⟨u,_|⟨w,r⟩⟩⟩
 ·exact p.elim
 ·obtain⟨x,rfl,rt⟩:=jo r;obtain⟨l,e,ns,rfl,l0,p⟩:=eJ p;obtain⟨a,vs,rfl,r,q⟩:=rt.lq e;cases r.ints;exact GE hc pins s σ H1 _ us Q I rs ⟨a,ns,fu,q,l0,λ M m z=>p M m z F1 H1 _ g rfl⟩
 ·obtain⟨x,y,rfl,rt,ru⟩:=pf r;obtain⟨i,j,rfl,rfl,p⟩:=dA p;cases rt;cases ru;exact Dq hc pins s σ H1 _ us Q I rs ⟨i,j,fu,p F1 H1 _ g rfl⟩
 ·exact p.elim
def IV(hc:X.calm=true):bo X (.builtin "min") (rL X J (biP .min)):=by
 intro pins s σ H1 xs us Q I rs h;obtain⟨F,H,F1,ts,g,r,p⟩:=h
 rcases ts with _|⟨t,_|⟨u,_|⟨w,r⟩⟩⟩
 ·exact p.elim
 ·obtain⟨x,rfl,rt⟩:=jo r;obtain⟨l,e,ns,rfl,l0,p⟩:=eJ p;obtain⟨a,vs,rfl,r,q⟩:=rt.lq e;cases r.ints;exact GD hc pins s σ H1 _ us Q I rs ⟨a,ns,fu,q,l0,λ M m z=>p M m z F1 H1 _ g rfl⟩
 ·obtain⟨x,y,rfl,rt,ru⟩:=pf r;obtain⟨i,j,rfl,rfl,p⟩:=dA p;cases rt;cases ru;exact Dr hc pins s σ H1 _ us Q I rs ⟨i,j,fu,p F1 H1 _ g rfl⟩
 ·exact p.elim
noncomputable def isN:BI->String
 |.isI=> "int" |.isB=> "bool" |.isT=> "tuple" |.isL=> "list" |.isS=> "str" |_=> ""
noncomputable def tyT:TV->String
 |.non=> "NoneType" |.bl _=> "bool" |.int _=> "int" |.str _=> "str" |.tup _=> "tuple" |_=> "list"
theorem IW{t:TV}{Q:VS}(I:Inv X pins σ H1 s)(ht:Rp X.K FA H1 t.fz x)(rx:RelV x u)
  (e:W.kitOne X.K (.type (tyT t)) (.type n)=some b) (h:∀tk,Q (.bool b) { s with toks:=tk }):wpAny (model X.prog X.w) A (call (.builtin "isinstance") [u,.type n]) Q E s:=by
 have lst:∀ {l a vs},x=.ref a->SqL X.K H1 a vs->RpL X.K FA H1 l vs->tyT t="list" -> wpAny (model X.prog X.w) A (call (.builtin "isinstance") [u,.type n]) Q E s:=λ ex q r et=>by
  subst ex;cases rx;obtain⟨its,_,⟨o,n,e1,c,_⟩,_⟩:=I.list q;rw[et] at e;exact s1o W.kitx_list I.kIn ⟨_,e1,c⟩ e (λ z=>nomatch z) h
 cases t with
 |non=>cases ht;cases rx;exact s1o W.kitx_none I.kIn jY e (λ z=>nomatch z) h
 |bl y=>cases ht;cases rx;exact s1o W.kitx_bool I.kIn jY e (λ z=>nomatch z) h
 |int i=>cases ht;obtain⟨t,rfl⟩:=rx;exact s1o W.kitx_int I.kIn jY e (λ z=>nomatch z) h
 |str i=>cases ht;obtain⟨t,rfl⟩:=rx;exact s1o W.kitx_str I.kIn jY e (λ z=>nomatch z) h
 |tup l=>
  obtain⟨a,vs,rfl,q,r⟩:=ht;cases rx;obtain⟨its,_,⟨o,e1,c,_⟩,_⟩:=I.tuple q;exact s1o W.kitx_tuple I.kIn ⟨_,e1,c⟩ e (λ z=>nomatch z) h
 |lst l=>obtain⟨a,vs,rfl,q,r⟩:=ht;exact lst rfl q.sq r rfl
 |bor l=>obtain⟨a,vs,rfl,q,r⟩:=ht;exact lst rfl q.sq r rfl
 |own l=>obtain⟨a,vs,rfl,q,r⟩:=ht;exact lst rfl q.sq r rfl
 |dct l=>exact ht.elim
def IY{K:FG}(f:BI)(h:f=.isI\/f=.isB\/f=.isT\/f=.isL\/f=.isS)(t:TV):W.kitOne K (.type (tyT t)) (.type (isN f))=some (qQ (tyT t) (isN f)):=by
 have m:tyT t="NoneType" \/ tyT t="bool" \/ tyT t="int" \/ tyT t="str" \/ tyT t="tuple" \/ tyT t="list" := by cases t<;>simp[tyT]
 generalize tyT t=y at *
 rcases m with rfl|rfl|rfl|rfl|rfl|rfl<;>rcases h with rfl|rfl|rfl|rfl|rfl<;>exact EM (by decide +kernel)
def IZ(f:BI)(h:f=.isI\/f=.isB\/f=.isT\/f=.isL\/f=.isS):bo X (.builtin "isinstance") (λ xs H1 Q=>∃x,xs=[x,.ty (isN f)]/\rL X J (biP f) [x] H1 Q):=by
 intro pins s σ H1 xs us Q I rs hh;obtain⟨x,rfl,F,H,F1,ts,g,r,p⟩:=hh;obtain⟨u,w',rfl,rx,ry⟩:=jL rs;cases (show w'=Value.type _ from ry)
 have n1:∃t,ts=[t]:=by
  cases r with
  |cons a b=>cases b;exact⟨_,rfl⟩
 obtain⟨t,rfl⟩:=n1;obtain⟨_,e0,rt⟩:=jo r;cases e0;refine IW I rt.top rx (IY f h t) λ tk=>⟨.bl _,H1,I.tok tk,fu,?_⟩;have e1:∀b,qQ (tyT t) (isN f)=b->(∀F' H' v,Grow J F H F' H'->Rr X.K H F' H' (.bl b) v->Q v H')->Q (.bl (qQ (tyT t) (isN f))) H1:=λ b e q=>by rw[e];exact q F1 H1 _ g rfl
 rcases h with rfl|rfl|rfl|rfl|rfl<;>cases t<;>first|exact p.elim|exact e1 true (by simp only[tyT,isN];decide +kernel) p|exact e1 false (by simp only[tyT,isN];decide +kernel) p
end
section
variable {K:FG}{J:Hp->Prop}
noncomputable def Vw(K:FG)(F:Fz)(H:Hp)(t:TV)(x:V):Prop:=match t.items with
 |some (true,l)=>∃a vs,x=.ref a/\SqT K H a vs/\RpL K F H l vs
 |some (false,l)=>∃a vs,x=.ref a/\SqL K H a vs/\RpL K F H l vs
 |none=>Rp K F H t x
def Vw.l{t:TV}{l:List TV}(h:Vw K F H t x)(e:t.items=some (false,l)):∃a vs,x=.ref a/\SqL K H a vs/\RpL K F H l vs:=by
 unfold Vw at h;rw[e] at h;exact h
def Vw.t{t:TV}{l:List TV}(h:Vw K F H t x)(e:t.items=some (true,l)):∃a vs,x=.ref a/\SqT K H a vs/\RpL K F H l vs:=by
 unfold Vw at h;rw[e] at h;exact h
def Rr.vw{H F1 H1}(h:Rr K H F1 H1 t x):Vw K F1 H1 t x:=by
 unfold Vw
 cases e:t.items with
 |none=>cases t<;>first|exact h|cases e
 |some p=>
  obtain⟨b,l⟩:=p;obtain⟨a,vs,rfl,r,q⟩:=h.sq e;cases b
  ·rcases q with ⟨z,_⟩|⟨_,q⟩
   ·cases z
   ·exact⟨a,vs,fu,q,r⟩
  ·rcases q with ⟨_,q⟩|⟨z,_⟩
   ·exact⟨a,vs,fu,q,r⟩
   ·cases z
def Rp.vw{F1 H1}{t:TV}(h:Rp K F1 H1 t.fz x):Vw K F1 H1 t x:=by
 cases t with
 |bor l=>obtain⟨a,vs,e,q,r⟩:=h;exact⟨a,vs,e,q.sq,r⟩
 |own l=>obtain⟨a,vs,e,q,r⟩:=h;exact⟨a,vs,e,q.sq,r⟩
 |lst l=>obtain⟨a,vs,e,q,r⟩:=h;exact⟨a,vs,e,q.sq,r⟩
 |_=>exact h
structure ItOk (K:FG)(J:Hp->Prop)(Jt:It)(its ts:List TV)(xs:List V):Prop where
 go:∀F H i,Wd J F H->Paired (Vw K F H) ts xs->i<its.length->Jt.go i H
 stop:∀F H,Wd J F H->Paired (Vw K F H) ts xs->Jt.stop its.length H
 yld:∀F H i x H',Wd J F H->Paired (Vw K F H) ts xs->i<its.length->Jt.yld i H x H'->∃t,its[i]?=some t/\Grow J F H F H'/\Rp K F H' t x
def gP{t:TV}{x:V}(h:Paired (Vw K F H) [t] [x]):Vw K F H t x:=by cases h with|cons r _=>exact r
def iI{α:Type}{l:List α}{i:Nat}(h:i<l.length):∃x,l[i]?=some x:=⟨_,aC h⟩
theorem Ja{t:TV}{l:List TV}(e:t.items=some (false,l)):ItOk K J (Itl K a) l [t] [.ref a] where
 go F H i w h hi:=by
  obtain⟨b,vs,eb,q,r⟩:=(gP h).l e;cases eb;obtain⟨x,ex⟩:=iI (l:=vs) (by rw[<- r.length];exact hi);exact⟨vs,x,q,ex⟩
 stop F H w h:=by
  obtain⟨b,vs,eb,q,r⟩:=(gP h).l e;cases eb;exact⟨vs,q,by rw[r.length];exact aj _⟩
 yld F H i x H' w h hi y:=by
  obtain⟨b,vs,eb,q,r⟩:=(gP h).l e;cases eb;obtain⟨rfl,y⟩:=y;obtain⟨t,et⟩:=iI hi;obtain⟨v,ev,rv⟩:=r.get et;have:=y vs q;rw[ev] at this;cases this;exact⟨t,et,.refl w,rv⟩
theorem Jb{t:TV}{l:List TV}(e:t.items=some (true,l)):ItOk K J (Itt K a) l [t] [.ref a] where
 go F H i w h hi:=by
  obtain⟨b,vs,eb,q,r⟩:=(gP h).t e;cases eb;obtain⟨x,ex⟩:=iI (l:=vs) (by rw[<- r.length];exact hi);exact⟨vs,x,q,ex⟩
 stop F H w h:=by
  obtain⟨b,vs,eb,q,r⟩:=(gP h).t e;cases eb;exact⟨vs,q,by rw[r.length];exact aj _⟩
 yld F H i x H' w h hi y:=by
  obtain⟨b,vs,eb,q,r⟩:=(gP h).t e;cases eb;obtain⟨rfl,y⟩:=y;obtain⟨t,et⟩:=iI hi;obtain⟨v,ev,rv⟩:=r.get et;have:=y vs q;rw[ev] at this;cases this;exact⟨t,et,.refl w,rv⟩
theorem Jc(lo:Int)(n:Nat):ItOk K J (Itr lo n) ((List.range n).map λ k=>.int (lo+(k:Nat))) ts xs where
 go F H i w h hi:=by show i<n;simpa using hi
 stop F H w h:=by show n<=_;simp
 yld F H i x H' w h hi y:=by
  obtain⟨rfl,rfl⟩:=y;have hi':i<n:=by simpa using hi
  exact⟨.int (lo+(i:Nat)),by rw[bc,iD hi'];rfl,.refl w,fu⟩
theorem Jd(lo st:Int)(n:Nat):ItOk K J (Its lo st n) ((List.range n).map λ k=>.int (lo+(k:Nat)*st)) ts xs where
 go F H i w h hi:=by show i<n;simpa using hi
 stop F H w h:=by show n<=_;simp
 yld F H i x H' w h hi y:=by
  obtain⟨rfl,rfl⟩:=y;have hi':i<n:=by simpa using hi
  exact⟨.int (lo+(i:Nat)*st),by rw[bc,iD hi'];rfl,.refl w,fu⟩
def Je{α:Type}{l:List α}{i:Nat}(h:i<l.length):l.reverse[i]?=l[l.length-1-i]?:=iY h
theorem Jf{t:TV}{l:List TV}{n:Nat}(e:t.items=some (true,l))(hn:n=l.length):ItOk K J (nY K a n) l.reverse [t] [.ref a] where
 go F H i w h hi:=by
  obtain⟨b,vs,eb,q,r⟩:=(gP h).t e;cases eb;exact⟨vs,q,by rw[<- r.length,hn],by rw[gQ] at hi;lia⟩
 stop F H w h:=by
  obtain⟨b,vs,eb,q,r⟩:=(gP h).t e;cases eb;exact⟨vs,q,by rw[<- r.length,hn],by rw[gQ,hn]⟩
 yld F H i x H' w h hi y:=by
  obtain⟨b,vs,eb,q,r⟩:=(gP h).t e;cases eb;obtain⟨rfl,y⟩:=y;rw[gQ] at hi;obtain⟨t,et⟩:=iI (l:=l) (i:=l.length-1-i) on;obtain⟨v,ev,rv⟩:=r.get et;have:=y vs q;rw[hn,ev] at this;cases this;exact⟨t,by rw[Je hi];exact et,.refl w,rv⟩
theorem Vw.b{t:TV}{b:Bool}{l:List TV}(h:Vw K F H t x)(e:t.items=some (b,l)):∃a vs,x=.ref a/\SqB K b H a vs/\RpL K F H l vs:=by
 cases b
 ·exact h.l e
 ·exact h.t e
theorem xZ{α β:Type}{R:α->β->Prop}{a:α}{b:β}:∀ {l:List α}{m:List β}{i:Nat},Paired R l m->l[i]?=some a->m[i]?=some b->R a b
 |_,_,0,.cons r _,e,e'=>by cases e;cases e';exact r
 |_,_,i+1,.cons _ h,e,e'=>xZ (i:=i) h (by simpa using e) (by simpa using e')
theorem ye:∀ {ts:List TV}{vs:List V},ts.length=vs.length->(∀(d:Nat) t v,ts[d]?=some t->vs[d]?=some v->Rp K F H t v)->RpL K F H ts vs
 |[],[],_,_=>rfl
 |_::_,_::_,l,h=>⟨_,_,rfl,h 0 _ _ rfl rfl,ye (by simpa using l) λ d t v a b=>h (d+1) t v (by simpa using a) (by simpa using b)⟩
theorem Jg(hJ:JS J){S:List (Bool×Addr)}{ts rows:List TV}{L:Nat->List TV}(ht:∀(d:Nat) (s:Bool×Addr),S[d]?=some s->∃t,ts[d]?=some t/\t.items=some (s.1,L d))
  (hs:∃e,e<S.length/\(L e).length<=rows.length/\∀d,d<e->rows.length<(L d).length) (hy:∀i,i<rows.length->∃tl,rows[i]?=some (.tup tl)/\tl.length=S.length/\∀d,d<S.length->i<(L d).length/\tl[d]?=(L d)[i]?) :
  ItOk K J (Itn K S) rows ts (S.map λ s=>V.ref s.2):=by
 have V:∀ {F:Fz}{H:Hp},Paired (Vw K F H) ts (S.map λ s=>V.ref s.2)->∀(d:Nat) (s:Bool×Addr),S[d]?=some s->∃vs,SqB K s.1 H s.2 vs/\RpL K F H (L d) vs:=λ {F H} h d s q=>by
  obtain⟨t,e,it⟩:=ht d s q;obtain⟨a,vs,ea,q,r⟩:=(xZ h e (b:=.ref s.2) (by rw[bc,q];rfl)).b it;cases ea;exact⟨vs,q,r⟩
 refine⟨λ F H i w h hi d s q=>?_,λ F H w h=>?_,λ F H i x H' w h hi y=>?_⟩
 ·obtain⟨vs,q1,r⟩:=V h d s q;obtain⟨tl,_,_,z⟩:=hy i hi;exact⟨vs,q1,r.length ▸ (z d (eX q)).1⟩
 ·obtain⟨e,le,l1,l2⟩:=hs;refine⟨e,le,λ d s q=>?_⟩;obtain⟨vs,q1,r⟩:=V h d s q;exact⟨vs,q1,λ z=>r.length ▸ l2 d z,λ z=>r.length ▸ z ▸ l1⟩
 ·obtain⟨T,vs,rfl,hT,rfl,lv,y⟩:=y;obtain⟨tl,er,lt,z⟩:=hy i hi;have g:Grow J F H F (upd H T (.tup vs)):=.new hJ w _ hT;refine⟨_,er,g,T,vs,fu,.of cT,ye (lt.trans lv.symm) λ d t v a b=>?_⟩;have hd:d<S.length:=lt ▸ eX a;obtain⟨ws,q1,r⟩:=V h d _ (aC hd);rw[(z d hd).2] at a;obtain⟨v',ev,rv⟩:=r.get a;rw[y d _ ws (aC hd) q1,ev] at b;cases b;exact rv.ke g.ke
def Jh(hJ:JS J){t u:TV}{l m:List TV}{a b:Addr}{c d:Bool}(e:t.items=some (c,l))(e':u.items=some (d,m)):ItOk K J (Itn K [(c,a),(d,b)]) (List.zipWith (λ x y=>.tup [x,y]) l m) [t,u] [.ref a,.ref b]:=by
 refine Jg hJ (L:=λ k=>if k=0 then l else m) (λ k s q=>?_) ?_ λ i hi=>?_
 ·match k,q with
  |0,rfl=>exact⟨t,rfl,e⟩
  |1,rfl=>exact⟨u,rfl,e'⟩
 ·rw[ph]
  rcases dz m.length l.length with q|q
  ·exact⟨1,Nat.le.refl,by simp;lia,λ k hk=>by rw[if_pos on];lia⟩
  ·exact⟨0,lU _,by simp;lia,λ k hk=>absurd hk (lX _)⟩
 ·rw[ph] at hi;have l1:i<l.length:=on;have l2:i<m.length:=on;refine⟨_,by rw[s1p,aC l1,aC l2],fu,λ k hk=>?_⟩
  rcases(show k=0\/k=1 by simp at hk;lia) with rfl|rfl<;>simp[l1,l2]
end
noncomputable def gl(nm:List (Str×NameKind))(x:Str):Bool:=decide (nm.lookup x=some .globalImplicit)
noncomputable def vs(nm:List (Str×NameKind))(x:Str):Bool:=decide (nm.lookup x=some .local) || decide (nm.lookup x=some .cell) || decide (nm.lookup x=some .free)
noncomputable def cf(nm:List (Str×NameKind))(x:Str):Bool:=decide (nm.lookup x=some .cell) || decide (nm.lookup x=some .free)
noncomputable def okN(x:Str):Bool:=!decide (x=("__debug__" : Str)) && !decide (x=("__classdict__" : Str)) && !decide (x=("__name__" : Str))
noncomputable def ckC:TV->Const->Bool
 |.int i,.int j=>decide (i=j)
 |.str x,.str y=>decide (x=y)
 |.bl x,.bool y=>decide (x=y)
 |.non,.none=>true
 |_,_=>false
def yf:Cd->Bool
 |.nil=>true|_=>false
def kD:Cd->Bool
 |.c .non=>true|_=>false
def aG:Expr->Bool
 |.Starred ..=>false|_=>true
def gR:Expr->Bool
 |.Set ..=>false|_=>true
noncomputable def gT:Expr->Bool
 |.Name ..=>true|.Constant (.int _) _ _=>true|.BinOp ..=>true|.Subscript ..=>true|.Call ..=>true|.UnaryOp ..=>true|_=>false
noncomputable def yg:BI->Bool
 |.isI=>true|.isB=>true|.isT=>true|.isL=>true|.isS=>true|_=>false
noncomputable def biN:BI->Option Str
 |.len=>some "len" |.tuple=>some "tuple" |.list=>some "list" |.sum=>some "sum" |.max=>some "max" |.min=>some "min" |.abs=>some "abs" |.int=>some "int"
 |.sorted=>some "sorted" |.any=>some "any" |_=>none
noncomputable def aZ(e:Expr)(k:Str->Pos->Bool):Bool:=match e with|.Name x p=>k x p|_=>false
@[elab_as_elim] theorem aT{motive:Expr->Prop}{e:Expr}{k:Str->Pos->Bool}(h:aZ e k=true)(f:∀x p,k x p=true->motive (.Name x p)):motive e:=by cases e<;>first|exact f _ _ h|exact Bool.noConfusion h
def Ji(h:aZ e k=true):∃x p,e=.Name x p/\k x p=true:=by cases e<;>first|exact⟨_,_,rfl,h⟩|exact Bool.noConfusion h
noncomputable def jp(e:Expr)(k:Const->Nat->Pos->Bool):Bool:=match e with|.Constant x p q=>k x p q|_=>false
@[elab_as_elim] theorem gU{motive:Expr->Prop}{e:Expr}{k:Const->Nat->Pos->Bool}(h:jp e k=true)(f:∀x p q,k x p q=true->motive (.Constant x p q)):motive e:=by cases e<;>first|exact f _ _ _ h|exact Bool.noConfusion h
noncomputable def yh(e:Expr)(k:Expr->Operator->Expr->Pos->Bool):Bool:=match e with|.BinOp x p q r=>k x p q r|_=>false
@[elab_as_elim] theorem Jj{motive:Expr->Prop}{e:Expr}{k:Expr->Operator->Expr->Pos->Bool}(h:yh e k=true)(f:∀x p q r,k x p q r=true->motive (.BinOp x p q r)):motive e:=by cases e<;>first|exact f _ _ _ _ h|exact Bool.noConfusion h
noncomputable def cUn(e:Expr)(k:UnaryOp->Expr->Pos->Bool):Bool:=match e with|.UnaryOp x p q=>k x p q|_=>false
@[elab_as_elim] theorem yi{motive:Expr->Prop}{e:Expr}{k:UnaryOp->Expr->Pos->Bool}(h:cUn e k=true)(f:∀x p q,k x p q=true->motive (.UnaryOp x p q)):motive e:=by cases e<;>first|exact f _ _ _ h|exact Bool.noConfusion h
noncomputable def yj(e:Expr)(k:Expr->List CmpOp->List Expr->Pos->Bool):Bool:=match e with|.Compare x p q r=>k x p q r|_=>false
@[elab_as_elim] theorem Jk{motive:Expr->Prop}{e:Expr}{k:Expr->List CmpOp->List Expr->Pos->Bool}(h:yj e k=true)(f:∀x p q r,k x p q r=true->motive (.Compare x p q r)):motive e:=by cases e<;>first|exact f _ _ _ _ h|exact Bool.noConfusion h
noncomputable def cBo(e:Expr)(k:BoolOp->List Expr->Pos->Bool):Bool:=match e with|.BoolOp x p q=>k x p q|_=>false
@[elab_as_elim] theorem yk{motive:Expr->Prop}{e:Expr}{k:BoolOp->List Expr->Pos->Bool}(h:cBo e k=true)(f:∀x p q,k x p q=true->motive (.BoolOp x p q)):motive e:=by cases e<;>first|exact f _ _ _ h|exact Bool.noConfusion h
def yl(h:cBo e k=true):∃x p q,e=.BoolOp x p q/\k x p q=true:=by cases e<;>first|exact⟨_,_,_,rfl,h⟩|exact Bool.noConfusion h
noncomputable def cIf(e:Expr)(k:Expr->Expr->Expr->Pos->Bool):Bool:=match e with|.IfExp x p q r=>k x p q r|_=>false
@[elab_as_elim] theorem Jl{motive:Expr->Prop}{e:Expr}{k:Expr->Expr->Expr->Pos->Bool}(h:cIf e k=true)(f:∀x p q r,k x p q r=true->motive (.IfExp x p q r)):motive e:=by cases e<;>first|exact f _ _ _ _ h|exact Bool.noConfusion h
noncomputable def kE(e:Expr)(k:List Expr->Nat->Pos->Bool):Bool:=match e with|.Tuple x p q=>k x p q|_=>false
@[elab_as_elim] theorem kF{motive:Expr->Prop}{e:Expr}{k:List Expr->Nat->Pos->Bool}(h:kE e k=true)(f:∀x p q,k x p q=true->motive (.Tuple x p q)):motive e:=by cases e<;>first|exact f _ _ _ h|exact Bool.noConfusion h
noncomputable def ym(e:Expr)(k:List Expr->Pos->Bool):Bool:=match e with|.List x p=>k x p|_=>false
@[elab_as_elim] theorem Jm{motive:Expr->Prop}{e:Expr}{k:List Expr->Pos->Bool}(h:ym e k=true)(f:∀x p,k x p=true->motive (.List x p)):motive e:=by cases e<;>first|exact f _ _ h|exact Bool.noConfusion h
noncomputable def kG(e:Expr)(k:Expr->Expr->Pos->Bool):Bool:=match e with|.Subscript x p q=>k x p q|_=>false
@[elab_as_elim] theorem mG{motive:Expr->Prop}{e:Expr}{k:Expr->Expr->Pos->Bool}(h:kG e k=true)(f:∀x p q,k x p q=true->motive (.Subscript x p q)):motive e:=by cases e<;>first|exact f _ _ _ h|exact Bool.noConfusion h
noncomputable def yn(e:Expr)(k:Option Expr->Option Expr->Option Expr->Pos->Bool):Bool:=match e with|.Slice x p q r=>k x p q r|_=>false
@[elab_as_elim] theorem Jn{motive:Expr->Prop}{e:Expr}{k:Option Expr->Option Expr->Option Expr->Pos->Bool}(h:yn e k=true)(f:∀x p q r,k x p q r=true->motive (.Slice x p q r)):motive e:=by cases e<;>first|exact f _ _ _ _ h|exact Bool.noConfusion h
noncomputable def bX(e:Expr)(k:Expr->List Expr->List Keyword->Pos->Bool):Bool:=match e with|.Call x p q r=>k x p q r|_=>false
@[elab_as_elim] theorem bY{motive:Expr->Prop}{e:Expr}{k:Expr->List Expr->List Keyword->Pos->Bool}(h:bX e k=true)(f:∀x p q r,k x p q r=true->motive (.Call x p q r)):motive e:=by cases e<;>first|exact f _ _ _ _ h|exact Bool.noConfusion h
noncomputable def tE(e:Expr)(k:Expr->Str->Pos->Bool):Bool:=match e with|.Attribute x p q=>k x p q|_=>false
@[elab_as_elim] theorem yq{motive:Expr->Prop}{e:Expr}{k:Expr->Str->Pos->Bool}(h:tE e k=true)(f:∀x p q,k x p q=true->motive (.Attribute x p q)):motive e:=by cases e<;>first|exact f _ _ _ h|exact Bool.noConfusion h
noncomputable def cLC(e:Expr)(k:Expr->List Comprehension->Scope->Pos->Bool):Bool:=match e with|.ListComp x p q r=>k x p q r|_=>false
def pj(h:cLC e k=true):∃x p q r,e=.ListComp x p q r/\k x p q r=true:=by cases e<;>first|exact⟨_,_,_,_,rfl,h⟩|exact Bool.noConfusion h
noncomputable def c1{α:Type}(l:List α)(k:α->Bool):Bool:=match l with|[x]=>k x|_=>false
noncomputable def c2{α:Type}(l:List α)(k:α->α->Bool):Bool:=match l with|[x,y]=>k x y|_=>false
noncomputable def c3{α:Type}(l:List α)(k:α->α->α->Bool):Bool:=match l with|[x,y,z]=>k x y z|_=>false
noncomputable def cC{α:Type}(l:List α)(k:α->List α->Bool):Bool:=match l with|x::r=>k x r|_=>false
section
variable {α:Type}{l:List α}{a b c d e f g h i:Bool}
@[elab_as_elim] theorem cB{motive:List α->Prop}{k:α->Bool}(h:c1 l k=true)(f:∀x,k x=true->motive ([x])):motive l:=by rcases l with _|⟨x,_|⟨_,_⟩⟩<;>first|exact f _ h|exact Bool.noConfusion h
def jq{k:α->Bool}(h:c1 l k=true):∃x,l=[x]/\k x=true:=by rcases l with _|⟨x,_|⟨_,_⟩⟩<;>first|exact⟨_,rfl,h⟩|exact Bool.noConfusion h
@[elab_as_elim] theorem mH{motive:List α->Prop}{k:α->α->Bool}(h:c2 l k=true)(f:∀x y,k x y=true->motive ([x,y])):motive l:=by rcases l with _|⟨x,_|⟨y,_|⟨_,_⟩⟩⟩<;>first|exact f _ _ h|exact Bool.noConfusion h
@[elab_as_elim] theorem Jo{motive:List α->Prop}{k:α->α->α->Bool}(h:c3 l k=true)(f:∀x y z,k x y z=true->motive ([x,y,z])):motive l:=by rcases l with _|⟨x,_|⟨y,_|⟨z,_|⟨_,_⟩⟩⟩⟩<;>first|exact f _ _ _ h|exact Bool.noConfusion h
@[elab_as_elim] theorem fg{motive:List α->Prop}{k:α->List α->Bool}(h:cC l k=true)(f:∀x r,k x r=true->motive (x::r)):motive l:=by rcases l with _|⟨x,r⟩<;>first|exact f _ _ h|exact Bool.noConfusion h
@[elab_as_elim] theorem bA{motive:List α->Prop}(h:l.isEmpty=true)(f:motive []):motive l:=by cases l<;>first|exact f|exact Bool.noConfusion h
def an{a b:Bool}(h:(a&&b)=true):a=true/\b=true:=mI.mp h
def a3(z:(a&&b&&c)=true):a=true/\b=true/\c=true:=let ⟨x,y⟩:=an z;⟨(an x).1,(an x).2,y⟩
def a4(z:(a&&b&&c&&d)=true):a=true/\b=true/\c=true/\d=true:=let ⟨x,y⟩:=an z;let ⟨p,q,r⟩:=a3 x;⟨p,q,r,y⟩
def a5(z:(a&&b&&c&&d&&e)=true):a=true/\b=true/\c=true/\d=true/\e=true:=let ⟨x,y⟩:=an z;let ⟨p,q,r,s⟩:=a4 x;⟨p,q,r,s,y⟩
def a6(z:(a&&b&&c&&d&&e&&f)=true):a=true/\b=true/\c=true/\d=true/\e=true/\f=true:=let ⟨x,y⟩:=an z;let ⟨p,q,r,s,t⟩:=a5 x;⟨p,q,r,s,t,y⟩
def a7(z:(a&&b&&c&&d&&e&&f&&g)=true):a=true/\b=true/\c=true/\d=true/\e=true/\f=true/\g=true:=let ⟨x,y⟩:=an z;let ⟨p,q,r,s,t,u⟩:=a6 x;⟨p,q,r,s,t,u,y⟩
def a8(z:(a&&b&&c&&d&&e&&f&&g&&h)=true):a=true/\b=true/\c=true/\d=true/\e=true/\f=true/\g=true/\h=true:=let ⟨x,y⟩:=an z;let ⟨p,q,r,s,t,u,v⟩:=a7 x;⟨p,q,r,s,t,u,v,y⟩
def a9(z:(a&&b&&c&&d&&e&&f&&g&&h&&i)=true):a=true/\b=true/\c=true/\d=true/\e=true/\f=true/\g=true/\h=true/\i=true:=let ⟨x,y⟩:=an z;let ⟨p,q,r,s,t,u,v,w⟩:=a8 x;⟨p,q,r,s,t,u,v,w,y⟩
end
noncomputable def ckT(cells:Bool)(N:List Str)(nm:List (Str×NameKind))(is:List Nat)(tg:Expr):Bool :=
 let one (i:Nat) (e:Expr):Bool:=aZ e λ x _=>decide (N[i]?=some x)&&(decide (nm.lookup x=some .local) || (cells&&decide (nm.lookup x=some .cell)))
 match is with
 |[i]=>one i tg
 |[i,j]=>kE tg λ es _ _=>c2 es λ a b=>one i a&&one j b
 |[i,j,k]=>kE tg λ es _ _=>c3 es λ a b c=>one i a&&one j b&&one k c
 |_=>false
noncomputable def tsE:Expr->Bool
 |.BoolOp ..=>false|.UnaryOp .Not ..=>false|.Compare ..=>false|.IfExp ..=>false|.NamedExpr ..=>false|.Constant ..=>false|_=>true
noncomputable def tB':Cd->Expr->Bool
 |.and ..,_=>true|.or ..,_=>true|.not ..,_=>true|.cmp ..,_=>true
 |_,e=>tsE e
def kH:Expr->Bool
 |.Tuple ..=>true|_=>false
noncomputable def ikN:IK->Option (Str×Nat)
 |.rng=>some ("range",0)|.rng3=>some ("range",2)|.zip _ _=>some ("zip",1)|.rev true=>some ("reversed",0)|_=>none
noncomputable def ikT:IK->Bool
 |.zip _ _=>true|.zip3=>true|.enum _=>true|_=>false
noncomputable def cN(nm names:List (Str×NameKind)):List (Str×NameKind):=names.map λ(x,k)=>if (k == .free&&nm.lookup x == some .cell) then (x,.cell) else (x,k)
noncomputable def ckS(N:List Str)(nm:List (Str×NameKind))(sc:Scope)(own fv:List Str)(js:List Nat):Bool :=
 decide (sc.kind=.function)&&sc.names.all (λ y=>!decide (y.2=.cell))&&sc.names.all (λ y=>!decide (y.2=.local) || decide (sc.names.lookup y.1=some .local))&&sc.names.all (λ y=>!decide (y.2=.free) || cf nm y.1)
  && decide (js.length=fv.length)&&(fv.zip js).all (λ p=>decide (N[p.2]?=some p.1)&&cf nm p.1&&cf (cN nm sc.names) p.1)&&decide (own++fv).Nodup
section
variable (fs gs:List Str)
mutual
def ck:Cd->List Str->List (Str×NameKind)->Expr->Bool
 |.v i,N,nm,e=>aZ e λ x _=>decide (N[i]?=some x)&&vs nm x&&okN x
 |.c t,_,_,e=>jp e λ k _ _=>ckC t k
 |.g k,_,nm,e=>aZ e λ x _=>decide (gs[k]?=some x)&&gl nm x&&okN x
 |.bin o a b,N,nm,e=>yh e λ l op r _=>decide (op=o)&&ck a N nm l&&ck b N nm r
 |.neg a,N,nm,e=>cUn e λ op x _=>decide (op=.USub)&&ck a N nm x
 |.not a,N,nm,e=>cUn e λ op x _=>decide (op=.Not)&&tB' a x&&ck a N nm x
 |.cmp o a b,N,nm,e=>yj e λ l os rs _=>c1 os λ op=>c1 rs λ r=>decide (op=o)&&ck a N nm l&&ck b N nm r&&gR r
 | .and a b,N,nm,e=>cBo e λ op es p=>decide (op=.And) && (match es with
   |[x,y]=>tB' a x&&tB' b y&&ck a N nm x&&ck b N nm y
   |x::y::z::r=>tB' a x&&ck a N nm x&&ck b N nm (.BoolOp .And (y::z::r) p)
   |_=>false)
 | .or a b,N,nm,e=>cBo e λ op es p=>decide (op=.Or) && (match es with
   |[x,y]=>tB' a x&&tB' b y&&ck a N nm x&&ck b N nm y
   |x::y::z::r=>tB' a x&&ck a N nm x&&ck b N nm (.BoolOp .Or (y::z::r) p)
   |_=>false)
 |.ite c a b,N,nm,e=>cIf e λ x y z _=>tB' c x&&ck c N nm x&&ck a N nm y&&ck b N nm z
 |.tup l,N,nm,e=>kE e λ es _ _=>ckL l N nm es
 |.lst l,N,nm,e=>ym e λ es _=>ckL l N nm es
 |.ix a b,N,nm,e=>kG e λ x y _=>gT y&&ck a N nm x&&ck b N nm y
 |.sl a lo hi,N,nm,e=>kG e λ x y _=>yn y λ l h s _=>s.isNone&&ck a N nm x&&(match l with|none=>kD lo|some l=>ck lo N nm l && !kD lo)&&(match h with|none=>kD hi|some h=>ck hi N nm h && !kD hi)
 |.call f l,N,nm,e=>bX e λ g as w _=>aZ g λ x _=>cC as λ a es=>w.isEmpty&&decide (fs[f]?=some x)&&gl nm x&&okN x&&ckL l N nm (a::es)
 |.bi f l,N,nm,e=>bX e λ g as w _=>aZ g λ x _=>cC as λ a es=>w.isEmpty&&decide (biN f=some x)&&gl nm x&&ckL l N nm (a::es)
 |.isi f a,N,nm,e=>bX e λ g as w _=>aZ g λ x _=>c2 as λ y u=>aZ u λ z _=>w.isEmpty&&decide (x="isinstance")&&gl nm x&&yg f&&decide (z=Str.ofString (isN f))&&gl nm z&&aG y&&ck a N nm y
 |.mxl a b,N,nm,e=>bX e λ g as w _=>aZ g λ x _=>c2 as λ y z=>c1 w λ k=>aZ k.value λ u _=>decide (x="max")&&gl nm x&&decide (k.arg=some (Str.ofString "key"))&&decide (u="len")&&gl nm u&&aG y&&aG z&&ck a N nm y&&ck b N nm z
 |.trev _ a,N,nm,e=>bX e λ g as w _=>aZ g λ x _=>c1 as λ u=>bX u λ g' as' w' _=>aZ g' λ y _=>c1 as' λ z=>w.isEmpty&&w'.isEmpty&&decide (x="tuple")&&gl nm x&&decide (y="reversed")&&gl nm y&&aG z&&ck a N nm z
 |.lrng k a,N,nm,e=>bX e λ g as w _=>aZ g λ x _=>c1 as λ u=>bX u λ g' as' w' _=>aZ g' λ y _=>c1 as' λ z=>(w.isEmpty && !k)&&w'.isEmpty&&decide (x=if k=true then "tuple" else "list")&&gl nm x&&decide (y="range")&&gl nm y&&aG z&&ck a N nm z
 |.ss _ a,N,nm,e=>bX e λ g as w _=>aZ g λ x _=>c1 as λ u=>bX u λ g' as' w' _=>aZ g' λ y _=>c1 as' λ z=>w.isEmpty&&w'.isEmpty&&decide (x="sorted")&&gl nm x&&decide (y="set")&&gl nm y&&aG z&&ck a N nm z
 |.di i b,N,nm,e=>kG e λ o y _=>aZ o λ x _=>decide (N[i]?=some x)&&vs nm x&&okN x&&gT y&&ck b N nm y
 |.dg i b,N,nm,e=>bX e λ g as w cp=>tE g λ o name ap=>aZ o λ x _=>c1 as λ y=>w.isEmpty&&decide (N[i]?=some x)&&vs nm x&&okN x&&decide (name="get")&&decide (ap.endLine=cp.line)&&aG y&&ck b N nm y
 |.dk k a,N,nm,e=>kG e λ o y _=>aZ o λ x _=>decide (gs[k]?=some x)&&gl nm x&&okN x&&gT y&&ck a N nm y
 |.comp own fv js tg k it e,N,nm,x=>cLC x λ elt gn sc _=>c1 gn λ g=>g.ifs.isEmpty&&decide (g.is_async=0)&&ckS N nm sc own fv js&&ckI it k g.target N nm g.iter&&ckT false (own++fv) (cN nm sc.names) tg g.target&&tg.all (λ i=>decide (i<own.length))&&ck e (own++fv) (cN nm sc.names) elt
 |.compI own fv js tg k it c e,N,nm,x=>cLC x λ elt gn sc _=>c1 gn λ g=>c1 g.ifs λ cnd=>decide (g.is_async=0)&&ckS N nm sc own fv js&&ckI it k g.target N nm g.iter&&ckT false (own++fv) (cN nm sc.names) tg g.target&&tg.all (λ i=>decide (i<own.length))&&tB' c cnd&&ck c (own++fv) (cN nm sc.names) cnd&&ck e (own++fv) (cN nm sc.names) elt
 |_,_,_,_=>false
def ckL:Cd->List Str->List (Str×NameKind)->List Expr->Bool
 |.nil,_,_,es=>(match es with|[]=>true|_=>false)
 |.cons a r,N,nm,es=>(match es with|e::es=>aG e&&ck a N nm e&&ckL r N nm es|[]=>false)
 |_,_,_,_=>false
def ckI:Cd->IK->Expr->List Str->List (Str×NameKind)->Expr->Bool
 | .cons a r,k,tg,N,nm,it=>(match k with
   |.seq=>gR it&&yf r&&ck a N nm it
   |.str=>false
   |k=>bX it λ g as w _=>aZ g λ x _=>cC as λ e es=>w.isEmpty&&decide (ikN k=some (x,es.length))&&gl nm x&&(!ikT k || kH tg)&&aG e&&ck a N nm e&&ckL r N nm es)
 |_,_,_,_,_,_=>false
end
end
section
variable {K:FG}{J:Hp->Prop}
noncomputable def Sr(K:FG)(F:Fz)(H:Hp)(t:TV)(v:V):Prop:=match t with
 |.own l=>Rr K H F H (.bor l) v
 |.dct l=>∃a,v=.ref a/\H a=some (dcO l)
 |t=>Rp K F H t v
structure EV (K:FG)(J:Hp->Prop)(F:Fz)(H:Hp)(σ:St)(ρ:En):Prop where
 w:Wd J F H
 sl:∀(i:Nat) t,ρ[i]?=some (some t)->∃v,σ[i]?=some (some v)/\Sr K F H t v
def Sr.grow(g:Grow J F H F' H')(h:Sr K F H t v):Sr K F' H' t v:=by
 cases t with
 |own l=>exact Rr.grow (t:=.bor l) (H:=H') g h
 |dct l=>obtain⟨a,e,q⟩:=h;exact⟨a,e,g.sm _ _ (λ ps z=>by cases z) q⟩
 |_=>exact Rp.ke g.ke h
def EV.grow(e:EV K J F H σ ρ)(g:Grow J F H F' H'):EV K J F' H' σ ρ :=
 ⟨g.w,λ i t h=>let ⟨v,q,r⟩:=e.sl i t h;⟨v,q,r.grow g⟩⟩
noncomputable def pSp(K:FG)(J:Hp->Prop)(S:PSp):Sp:=λ vs H Q _=>∃F ts P,Wd J F H/\RpL K F H ts vs/\S ts P/\∀t,P t->∀F' H' v,Grow J F H F' H'->Rp K F' H' t v->Q v H'
theorem iJ(g:Grow J F H F1 H1):∀ {ts:List TV}{vs:List V},RrL K H F1 H1 ts vs->ts.all TV.nb=true->∃F2,Grow J F H F2 H1/\(∀a,F1 a->F2 a)/\RpL K F2 H1 (ts.map TV.fz) vs
 |[],_,h,_=>by cases h;exact⟨F1,g,λ _ f=>f,rfl⟩
 |t::ts,_,h,n=>by
  cases h with
  |cons r q=>
   rw[cJ,bg] at n;obtain⟨F2,g2,u2,r2⟩:=iJ g q n.2
   cases t with
   |own l=>
    obtain⟨a,vs,e,na,f,qa,ra⟩:=r;refine⟨λ b=>F2 b\/b=a,g2.frz na (by rw[qa];simp),λ b f=>.inl (u2 b f),_,_,fu,⟨a,vs,e,.inl ⟨.inr rfl,.of qa⟩,ra.ke (.up λ b f=>.inl (u2 b f))⟩,r2.ke (.up λ b f=>.inl f)⟩
   |bor l=>cases n.1
   |_=>exact⟨F2,g2,u2,_,_,rfl,Rp.ke (.up u2) r,r2⟩
mutual
theorem LF.rp:∀ {t:TV}{v:V},LF t->Rp K F H t v->Rp K F' H t v
 |.non,_,_,h=>h
 |.bl _,_,_,h=>h
 |.int _,_,_,h=>h
 |.str _,_,_,h=>h
 |.tup l,_,f,⟨a,vs,e,q,r⟩=>⟨a,vs,e,q,LF.rpl (λ x hx=>by simp only[LF] at f;exact f x hx) r⟩
 |.lst _,_,f,_=>by simp[LF] at f
 |.bor _,_,f,_=>by simp[LF] at f
 |.own _,_,f,_=>by simp[LF] at f
 |.dct _,_,f,_=>by simp[LF] at f
theorem LF.rpl:∀ {ts:List TV}{vs:List V},(∀x∈ts,LF x)->RpL K F H ts vs->RpL K F' H ts vs
 |[],_,_,h=>h
 |t::ts,_,f,⟨v,r,e,h1,h2⟩=>⟨v,r,e,LF.rp (f t BT) h1,LF.rpl (λ x hx=>f x (by simp[hx])) h2⟩
end
end
noncomputable def BN:List Str:=["len","tuple","list","sum","max","min","abs","int","str","sorted","any","all","isinstance","bool","range","zip","enumerate","reversed","set","dict"]
noncomputable def DOk(P:Program)(w:World)(K:FG)(mg:SV)(x:Str)(l:List TV):Prop:=∃d kvs,mg x=some (.ref d)/\KTab P w K d kvs/\∀y t,dlk l y=some t->∃a,kvs.lookup y=some a/\∀F H,Rp K F H t (.ref a)
structure XOk (X:Cx)(J:Hp->Prop)(FT:List PSp)(GT:List TV)(fs gs:List Str):Prop where
 calm:X.calm=true
 units:X.A.units+20<cLine
 hJ:JS J
 fns:∀(f:Nat) x S,fs[f]?=some x->FT[f]?=some S->∃k ps,Room k X.A/\Callee X.prog X.w X.K X.mg X.base CX0 k x ps (pSp X.K J S)
 glb:∀(g:Nat) x t,gs[g]?=some x->GT[g]?=some t->t.nb=true->∃v u,X.mg x=some u/\RelV v u/\∀F H,Rp X.K F H t v
 dic:∀(g:Nat) x l,gs[g]?=some x->GT[g]?=some (.bor l)->DOk X.prog X.w X.K X.mg x l
 blt:∀x∈BN,X.mg x=none
 len:fs.length=FT.length
structure XS (X:Cx)(N:List Str)(nm:List (Str×NameKind)):Prop where
 N:X.N=N
 nm:X.env.scope.names=nm
section
variable {J:Hp->Prop}{FT:List PSp}{GT:List TV}{fs gs:List Str}
noncomputable def rE(K:FG)(J:Hp->Prop)(FT:List PSp)(GT:List TV)(c:Cd):TE:=λ σ H Q=>∃F ρ,EV K J F H σ ρ/\wE FT GT c ρ λ t=>∀F' H' v,Grow J F H F' H'->Rr K H F' H' t v->Q v H'
noncomputable def rT(K:FG)(J:Hp->Prop)(FT:List PSp)(GT:List TV)(c:Cd):TT:=λ σ H Q=>∃F ρ,EV K J F H σ ρ/\wE FT GT c ρ λ t=>b1 t λ b=>∀F' H',Grow J F H F' H'->Q b H'
noncomputable def rA(K:FG)(J:Hp->Prop)(FT:List PSp)(GT:List TV)(c:Cd):TA:=λ σ H Q=>∃F ρ,EV K J F H σ ρ/\wL FT GT c ρ λ ts=>∀F' H' vs,Grow J F H F' H'->RrL K H F' H' ts vs->Q vs H'
def PE.imp{t t':TE}(h:PE X e t)(i:∀σ H Q,t' σ H Q->t σ H Q):PE X e t':=λ pins s σ H Q I q=>h pins s σ H Q I (i σ H Q q)
def PT.imp{t t':TT}(h:PT X e t)(i:∀σ H Q,t' σ H Q->t σ H Q):PT X e t':=λ pins s σ H Q I q=>h pins s σ H Q I (i σ H Q q)
def PA.imp{t t':TA}(h:PA X e t)(i:∀σ H Q,t' σ H Q->t σ H Q):PA X e t':=λ pos pins s σ H Q I q=>h pos pins s σ H Q I (i σ H Q q)
def aU{es:List Expr}(h:aG e=true):starEach (e::es) env=(false,eval e env)::starEach es env:=by cases e<;>first|rfl|cases h
theorem tF:∀ {es:List Expr}{env:Env},es.all aG=true->(starEach es env).any (·.1)=false
 |[],_,_=>rfl
 |e::es,env,h=>by
  rw[cJ,bg] at h;rw[aU h.1,lH,tF h.2];rfl
def fZ{es:List Expr}(h:es.all aG=true):(backTo pos (starEach es env)).any (·.1)=false:=by
 unfold backTo;rw[List.any_map];exact tF h
def glX(xs:XS X N nm)(h:gl nm x=true):Gl X x:=by
 show X.env.scope.names.lookup x=_;rw[xs.nm];exact ax h
def mK(xs:XS X N nm)(h:vs nm x=true):Vis X.env.scope x:=by
 unfold vs at h;rw[jg,jg] at h;unfold Vis;rw[xs.nm]
 rcases h with (h|h)|h
 ·exact .inl (ax h)
 ·exact .inr (.inl (ax h))
 ·exact .inr (.inr (ax h))
def dO(h:okN x=true):(x == ("__debug__" : Str))=false/\(x == ("__classdict__" : Str))=false/\x ≠ "__name__" := by
 simp only[okN,bg,qO,s0k] at h;exact⟨by simpa using h.1.1,by simpa using h.1.2,h.2⟩
end
theorem tG{env:Env}:∀(l:List (Str×NameKind)) (cs:LA),(∀x,(x,NameKind.free)∈l->∃c,env.cells.lookup x=some c) ->
  ∃cl,(forIn l cs (λ(x:Str × NameKind) (r:LA)=>(match x with
   |(name,kind)=>if (kind == NameKind.free)=true then (do let y <- cellOf env name;pure (ForInStep.yield ((name,y)::r))) else pure (ForInStep.yield r):Sem (ForInStep (LA)))):Sem (LA))=pure cl /\
   (∀x c,cl.lookup x=some c->cs.lookup x=some c\/env.cells.lookup x=some c)/\(∀x,(x,NameKind.free)∈l\/(∃c,cs.lookup x=some c)->∃c,cl.lookup x=some c)
 | [],cs,_=>⟨cs,rfl,λ _ _ h=>.inl h,λ x h=>by
  rcases h with h|h
  ·cases h
  ·exact h⟩
 |(n,k)::l,cs,h=>by
  by_cases hk:k=.free
  ·subst hk;obtain⟨c,hc⟩:=h n BT;obtain⟨cl,e,q1,q2⟩:=tG l ((n,c)::cs) λ x hx=>h x (by simp[hx]);refine⟨cl,?_,λ x d hx=>?_,λ x hx=>?_⟩
   ·rw[List.forIn_cons];have:cellOf env n=pure c:=by unfold cellOf;rw[hc]
    simp only[this,fW,ef,pure_bind];exact e
   ·rcases q1 x d hx with z|z
    ·rw[iA] at z;split at z
     ·rename_i en;have:x=n:=by simpa using en
      subst this;cases z;exact .inr hc
     ·exact .inl z
    ·exact .inr z
   ·refine q2 x ?_
    rcases hx with hx|⟨d,hd⟩
    ·rcases aN.mp hx with z|z
     ·cases z;exact .inr ⟨c,by simp[iA]⟩
     ·exact .inl z
    ·by_cases en:x=n
     ·subst en;exact .inr ⟨c,by simp[iA]⟩
     ·have:(x == n)=false:=by simpa using en
      exact .inr ⟨d,by rw[iA,this];exact hd⟩
  ·obtain⟨cl,e,q1,q2⟩:=tG l cs λ x hx=>h x (by simp[hx]);refine⟨cl,?_,q1,λ x hx=>q2 x ?_⟩
   ·rw[List.forIn_cons];have:(k == NameKind.free)=false:=by simpa using hk
    simp only[this,jZ,s0e,pure_bind];exact e
   ·rcases hx with hx|hx
    ·rcases aN.mp hx with z|z
     ·cases z;exact absurd rfl hk
     ·exact .inl z
    ·exact .inr hx
theorem Jp{scope:Scope}{env:Env}(h:∀x,(x,NameKind.free)∈scope.names->∃c,env.cells.lookup x=some c) :
  ∃cl,closureFor scope env=pure cl/\(∀x c,cl.lookup x=some c->env.cells.lookup x=some c)/\∀x,(x,NameKind.free)∈scope.names->∃c,cl.lookup x=some c:=by
 obtain⟨cl,e,q1,q2⟩:=tG (env:=env) scope.names [] h;refine⟨cl,?_,λ x c hx=>?_,λ x hx=>q2 x (.inl hx)⟩
 ·unfold closureFor;simp only[bind_pure];exact e
 ·rcases q1 x c hx with z|z
  ·cases z
  ·exact z
section
variable {N:List Str}{nm:List (Str×NameKind)}{sc:Scope}{own fv:List Str}{js:List Nat}
def Jq{α β:Type} [BEq α] [LawfulBEq α] {l:List (α×β)}{x:α}{y:β}(h:l.lookup x=some y):(x,y)∈l:=by
 induction l with
 |nil=>cases h
 |cons p r ih=>
  obtain⟨a,b⟩:=p;rw[iA] at h;split at h
  ·rename_i e;have:x=a:=by simpa using e
   subst this;cases h;simp
  ·exact bO _ (ih h)
structure CSc (X:Cx)(N:List Str)(nm:List (Str×NameKind))(sc:Scope)(own fv:List Str)(js:List Nat)(cl:LA):Prop where
 clos:closureFor sc X.env=pure cl
 cell:∀y∈sc.names,y.2≠.cell
 kind:sc.kind=.function
 names:∀y∈sc.names,y.2=.local->sc.names.lookup y.1=some .local
 sub:∀x c,cl.lookup x=some c->X.env.cells.lookup x=some c
 has:∀x,((relabel sc X.env).names.lookup x=some .cell\/(relabel sc X.env).names.lookup x=some .free)->∃c,cl.lookup x=some c
 len:js.length=fv.length
 cap:∀(i:Nat) x j,fv[i]?=some x->js[i]?=some j->Cap X sc cl x j
 nd:(own++fv).Nodup
 rel:(relabel sc X.env).names=cN nm sc.names
def tH(h:cf nm x=true):nm.lookup x=some .cell\/nm.lookup x=some .free:=by
 unfold cf at h;rw[jg] at h;exact h.imp ax ax
def pq(ok:X.Ok)(xs:XS X N nm)(h:ckS N nm sc own fv js=true):∃cl,CSc X N nm sc own fv js cl:=by
 unfold ckS at h;simp only[bg] at h;obtain⟨⟨⟨⟨⟨⟨h1,h2⟩,h3⟩,h4⟩,h5⟩,h6⟩,h7⟩:=h
 have hfree:∀x,(x,NameKind.free)∈sc.names->nm.lookup x=some .cell\/nm.lookup x=some .free:=λ x hx=>by
  have:=gJ.mp h4 _ hx;simp only[decide_true,Bool.not_true,s3t] at this;exact tH this
 obtain⟨cl,e,s1,s2⟩:=Jp (scope:=sc) (env:=X.env) λ x hx=>ok.has x (by
  have:=hfree x hx;rw[<- xs.nm] at this
  exact this)
 have hcell:∀y∈sc.names,y.2≠.cell:=λ y hy=>by simpa using gJ.mp h2 y hy
 have hrel:(relabel sc X.env).names=cN nm sc.names:=by
  unfold relabel cN;rw[<- xs.nm];apply py;intro y hy;obtain⟨n,k⟩:=y;have:(X.env.scope.kind == ScopeKind.function)=true:=by rw[ok.kind];rfl
  simp only[this,Bool.and_true];rfl
 refine⟨cl,e,hcell,ax h1,λ y hy e=>?_,s1,λ x hx=>s2 x ?_,ax h5,λ i x j e1 e2=>?_,ax h7,hrel⟩
 ·have:=gJ.mp h3 y hy;simpa [e] using this
 ·have:∀k,(relabel sc X.env).names.lookup x=some k->k=.cell\/k=.free->(x,NameKind.free)∈sc.names:=λ k hk hz=>by
   have m:=Jq hk;obtain⟨⟨n,k0⟩,hm,he⟩:=aW.mp m;have he:(if (k0 == NameKind.free&&X.env.scope.kind == .function&&X.env.kindOf n == some .cell)=true then (n,NameKind.cell) else (n,k0))=(x,k):=he;split at he
   ·rename_i c;cases he;simp only[bg] at c;have:k0=.free:=by simpa using c.1.1
    subst this;exact hm
   ·cases he
    rcases hz with rfl|rfl
    ·exact absurd rfl (hcell _ hm)
    ·exact hm
  rcases hx with hx|hx
  ·exact this _ hx (.inl rfl)
  ·exact this _ hx (.inr rfl)
 ·have m:(x,j)∈fv.zip js:=by
   refine aK (i:=i) ?_;rw[oV];exact⟨e1,e2⟩
  have:=gJ.mp h6 _ m;simp only[bg] at this;refine⟨by rw[xs.N];exact ax this.1.1,?_,?_⟩
  ·rw[xs.nm];exact tH this.1.2
  ·rw[hrel];exact tH this.2
end
section
variable {K:FG}{J:Hp->Prop}{F:Fz}{H:Hp}{σ:St}{ρ:En}
def yr(h:Rp K F H t v):Sr K F H t v:=by cases t<;>first|exact h|exact h.elim
def EV.set{i:Nat}(e:EV K J F H σ ρ)(h:Rp K F H t v)(hi:i<σ.length):EV K J F H (σ.set i (some v)) (ρ.set i (some t)) :=
 ⟨e.w,λ j u hj=>by
  rw[dq] at hj;split at hj
  ·rename_i c;subst c;split at hj
   ·cases hj;exact⟨v,by rw[dq];simp[hi],yr h⟩
   ·cases hj
  ·rename_i c;obtain⟨w,e1,r⟩:=e.sl j u hj
   exact⟨w,by rw[dq,if_neg c];exact e1,r⟩⟩
def EV.any{i:Nat}(e:EV K J F H σ ρ)(h:∀t,ρ[i]?≠some (some t)):EV K J F H (σ.set i v) ρ :=
 ⟨e.w,λ j u hj=>by
  obtain⟨w,e1,r⟩:=e.sl j u hj;refine⟨w,?_,r⟩;rw[dq,if_neg (λ z=>by subst z;exact h u hj)]
  exact e1⟩
noncomputable def tgG(K:FG):List Nat->TG
 |[i]=>dE i
 |[i,j]=>qz K 2 (jG (dE i) (jG (dE j) qy))
 |[i,j,k]=>qz K 3 (jG (dE i) (jG (dE j) (jG (dE k) qy)))
 |_=>λ _ _ _ _=>False
theorem pA{Q:St->Hp->Prop}(h:stE ρ is t P)(e:EV K J F H σ ρ)(rt:Rp K F H t v)(hl:∀i∈is,i<σ.length)
  (fin:∀σ' ρ',P ρ'->EV K J F H σ' ρ'->σ'.length=σ.length->(∀ρ0,EV K J F H σ ρ0->(∀i∈is,∀u,ρ0[i]?≠some (some u))->EV K J F H σ' ρ0)->Q σ' H):tgG K is v σ H Q:=by
 match is,h with
 |[i],h=>exact fin _ _ h (e.set rt (hl i BT)) BT λ ρ0 e0 n=>e0.any (n i BT)
 |[i,j],h=>
  cases t with
  |tup l=>
   match l,h with
   |[x,y],h=>
    obtain⟨a,ws,rfl,q,v1,r1,rfl,h1,v2,r2,rfl,h2,rfl⟩:=rt;exact⟨a,_,fu,q,fu,v1,_,fu,v2,_,fu,fu,fin _ _ h ((e.set h1 (hl i BT)).set h2 (by simpa using hl j BT)) BT λ ρ0 e0 n=>(e0.any (n i BT)).any (n j BT)⟩
   |[],h=>exact h.elim
   |[_],h=>exact h.elim
   |_::_::_::_,h=>exact h.elim
  |_=>exact h.elim
 |[i,j,k],h=>
  cases t with
  |tup l=>
   match l,h with
   |[x,y,z],h=>
    obtain⟨a,ws,rfl,q,v1,r1,rfl,h1,v2,r2,rfl,h2,v3,r3,rfl,h3,rfl⟩:=rt;exact⟨a,_,fu,q,fu,v1,_,fu,v2,_,fu,v3,_,fu,fu,fin _ _ h (((e.set h1 (hl i BT)).set h2 (by simpa using hl j BT)).set h3 (by simpa using hl k BT)) BT λ ρ0 e0 n=>((e0.any (n i BT)).any (n j BT)).any (n k BT)⟩
   |[],h=>exact h.elim
   |[_],h=>exact h.elim
   |[_,_],h=>exact h.elim
   |_::_::_::_::_,h=>exact h.elim
  |_=>exact h.elim
 |[],h=>exact h.elim
 |_::_::_::_::_,h=>exact h.elim
end
section
variable {N:List Str}{nm:List (Str×NameKind)}
def kJ{cells:Bool}(hN:X.N.Nodup)(hc:X.calm=true)(xs:XS X N nm)(hf:cells=true->∀x,X.env.scope.names.lookup x=some .cell->X.fn x=true)(h:ckT cells N nm is tg=true):PG X tg (tgG X.K is)/\∀i∈is,i<N.length:=by
 have one:∀(i:Nat) (x:Str) (p:Pos),(decide (N[i]?=some x)&&(decide (nm.lookup x=some .local) || (cells&&decide (nm.lookup x=some .cell))))=true->PG X (.Name x p) (dE i)/\i<N.length:=λ i x p h=>by
  rw[bg,jg,bg] at h;obtain⟨h1,h2⟩:=h;have e:=ax h1;refine⟨?_,(br.mp e).1⟩
  rcases h2 with h2|⟨h2,h3⟩
  ·have k:X.env.scope.names.lookup x=some .local:=by rw[xs.nm];exact ax h2
   exact uV hN (by rw[xs.N];exact e) (.inl k) (.inr k)
  ·have k:X.env.scope.names.lookup x=some .cell:=by rw[xs.nm];exact ax h3
   exact uV hN (by rw[xs.N];exact e) (.inr k) (.inl (hf h2 x k))
 match is,h with
 |[i],h=>
  refine aT h λ x p g=>?_;obtain⟨a,b⟩:=one _ _ p g;exact⟨a,λ i hi=>by rw[bj.mp hi];exact b⟩
 |[i,j],h=>
  refine kF h λ es _ _ g=>?_;refine mH g λ e1 e2 g=>?_;refine aT (an g).1 λ x p g1=>?_;refine aT (an g).2 λ y q g2=>?_;obtain⟨a1,b1⟩:=one _ _ p g1;obtain⟨a2,b2⟩:=one _ _ q g2;refine⟨uX hc (lg a1 (lg a2 uW)),λ i hi=>?_⟩;simp only[aN,dJ,eW] at hi
  rcases hi with rfl|rfl<;>assumption
 |[i,j,k],h=>
  refine kF h λ es _ _ g=>?_;refine Jo g λ e1 e2 e3 g=>?_;obtain⟨g1,g2,g3⟩:=a3 g;refine aT g1 λ x p g1=>?_;refine aT g2 λ y q g2=>?_;refine aT g3 λ z r g3=>?_;obtain⟨a1,b1⟩:=one _ _ p g1;obtain⟨a2,b2⟩:=one _ _ q g2;obtain⟨a3,b3⟩:=one _ _ r g3;refine⟨uX hc (lg a1 (lg a2 (lg a3 uW))),λ i hi=>?_⟩;simp only[aN,dJ,eW] at hi
  rcases hi with rfl|rfl|rfl<;>assumption
 |[],h=>exact Bool.noConfusion h
 |_::_::_::_::_,h=>exact Bool.noConfusion h
end
section
variable {J:Hp->Prop}{FT:List PSp}{GT:List TV}{fs gs:List Str}{N:List Str}{nm:List (Str×NameKind)}
noncomputable def rW(K:FG)(J:Hp->Prop)(FT:List PSp)(GT:List TV)(k:IK)(c:Cd):TI:=λ σ H R=>∃F ρ,EV K J F H σ ρ/\wL FT GT c ρ λ ts=>itP k ts λ its=>∀F' H' xs Jt,Grow J F H F' H'->RrL K H F' H' ts xs->ItOk K J Jt its ts xs->R Jt H'
def PI.imp{t t':TI}(h:PI X tg e t)(i:∀σ H Q,t' σ H Q->t σ H Q):PI X tg e t':=λ pins s σ H Q I q=>h pins s σ H Q I (i σ H Q q)
def yt(h:gR e=true):behindInMarks op e=false:=by cases e<;>first|rfl|cases h
def mL(h:gR e=true):foldedSetIterable e env x=pure x:=by cases e<;>first|rfl|cases h
def tJ(h:gT e=true):vA e:=by
 intro o i
 cases e<;>first|rfl|(cases h;done)
def s_v(xs:XS X N nm)(h:ck fs gs (.v i) N nm e=true):PE X e (rE X.K J FT GT (.v i)):=by
 refine aT h λ x p h0=>?_;have h':=mI.mp h0;obtain⟨h1,h2⟩:=mI.mp h'.1;obtain⟨d1,d2,_⟩:=dO h'.2;refine(kZ (by rw[xs.N];exact ax h1) (mK xs h2) d1 d2).imp λ σ H Q q=>?_;obtain⟨F,ρ,ev,w⟩:=q;have w:rdV ρ[i]? _:=w
 rcases hs:ρ[i]? with _|_|t
 ·rw[hs] at w;exact w.elim
 ·rw[hs] at w;exact w.elim
 ·rw[hs] at w;obtain⟨v,e,r⟩:=ev.sl i t hs;unfold dC;rw[e]
  cases t with
  |bor l=>exact r.elim
  |dct l=>exact w.elim
  |_=>exact w F H v (.refl ev.w) r
def s_c(h:ck fs gs (.c t) N nm e=true):PE X e (rE X.K J FT GT (.c t)):=by
 refine gU h λ k _ _ h0=>?_;replace h:ckC t k=true:=h0
 cases t<;>cases k<;>first
  |exact Bool.noConfusion h
  |(cases ax h;exact pe_int.imp λ σ H Q ⟨F,ρ,ev,w⟩=>w F H _ (.refl ev.w) rfl)
  |(cases ax h;exact pe_str.imp λ σ H Q ⟨F,ρ,ev,w⟩=>w F H _ (.refl ev.w) rfl)
  |(cases ax h;exact pe_bl.imp λ σ H Q ⟨F,ρ,ev,w⟩=>w F H _ (.refl ev.w) rfl)
  |exact pe_non.imp λ σ H Q ⟨F,ρ,ev,w⟩=>w F H _ (.refl ev.w) rfl
def s_g(xo:XOk X J FT GT fs gs)(xs:XS X N nm)(h:ck fs gs (.g k) N nm e=true):PE X e (rE X.K J FT GT (.g k)):=by
 refine aT h λ x p h0=>?_;have h':=mI.mp h0;obtain⟨h1,h2⟩:=mI.mp h'.1;obtain⟨d1,_,_⟩:=dO h'.2
 cases et:GT[k]? with
 |none=>exact λ pins s σ H Q I ⟨F,ρ,ev,w⟩=>by have w:gtP GT[k]? _:=w;rw[et] at w;exact w.elim
 |some t=>
  cases nb:t.nb with
  |false=>
   intro pins s σ H Q I ⟨F,ρ,ev,w⟩;have w:gtP GT[k]? _:=w;rw[et] at w
   cases t<;>first|exact w.elim|exact Bool.noConfusion nb
  |true=>
   obtain⟨v,u,m,r,p⟩:=xo.glb k _ t (ax h1) et nb;refine(BU (glX xs h2) m r d1).imp λ σ H Q ⟨F,ρ,ev,w⟩=>?_;have w:gtP GT[k]? _:=w;rw[et] at w
   cases t with
   |bor l=>cases nb
   |_=>exact w F H v (.refl ev.w) (Rr.of (p F H))
def Jr{k:Nat}(xo:XOk X J FT GT fs gs)(xs:XS X N nm)(h1:gs[k]?=some x)(h2:gl nm x=true)(h3:okN x=true)(h4:gT y=true)(ha:PE X y (rE X.K J FT GT a)):PE X (.Subscript (.Name x p1) y p2) (rE X.K J FT GT (.dk k a)):=by
 intro pins s σ H Q I ⟨F,ρ,ev,w⟩;obtain⟨l,et,w⟩:=xS (show dcP GT[k]? _ from w);obtain⟨d,kvs,hm,T,look⟩:=xo.dic k x l h1 et;refine Gy (glX xs h2) hm T ha (tJ h4) (dO h3).1 pins s σ H Q I ⟨F,ρ,ev,av a (λ t w F1 H1 v g r=>?_) w⟩;obtain⟨z,rfl,t,el,w⟩:=xU w;cases r;obtain⟨b,eb,rp⟩:=look z t el;exact⟨z,b,fu,eb,w F1 H1 _ g (Rr.of (rp F1 H1))⟩
def Js(xo:XOk X J FT GT fs gs)(ha:PE X l (rE X.K J FT GT a))(hb:PE X r (rE X.K J FT GT b)):PE X (.BinOp l o r p) (rE X.K J FT GT (.bin o a b)) :=
 (CO (IJ xo.hJ o) ha hb).imp λ σ H Q ⟨F,ρ,ev,w⟩=>⟨F,ρ,ev,av a (λ x w F1 H1 v g1 r1=>⟨F1,ρ,ev.grow g1,av b (λ y w F2 H2 v2 g2 r2=>⟨F,H,F2,x,y,g1.trans g2,r1.grow g2,r2.late g1,w⟩) w⟩) w⟩
def Ju{o:CmpOp}(xo:XOk X J FT GT fs gs)(ha:PE X l (rE X.K J FT GT a))(hb:PE X r (rE X.K J FT GT b))(hs:gR r=true):PE X (.Compare l [o] [r] p) (rE X.K J FT GT (.cmp o a b)) :=
 (Dl (xX xo.units o) ha hb (yt hs)).imp λ σ H Q ⟨F,ρ,ev,w⟩=>⟨F,ρ,ev,av a (λ x w F1 H1 v g1 r1=>⟨F1,ρ,ev.grow g1,av b (λ y w F2 H2 v2 g2 r2=>⟨F,H,F2,x,y,g1.trans g2,r1.grow g2,r2.late g1,tj (λ z w v r=>w F2 H2 v (g1.trans g2) r) w⟩) w⟩) w⟩
def Jv(ha:PE X l (rE X.K J FT GT a))(hb:PE X r (rE X.K J FT GT b))(hs:gT r=true):PE X (.Subscript l r p) (rE X.K J FT GT (.ix a b)) :=
 (DM IQ ha hb (tJ hs)).imp λ σ H Q ⟨F,ρ,ev,w⟩=>⟨F,ρ,ev,av a (λ x w F1 H1 v g1 r1=>⟨F1,ρ,ev.grow g1,av b (λ y w F2 H2 v2 g2 r2=>⟨F,H,F2,x,y,g1.trans g2,r1.grow g2,r2.late g1,w⟩) w⟩) w⟩
def Jw(ha:PE X l (rE X.K J FT GT a)):PE X (.UnaryOp .USub l p) (rE X.K J FT GT (.neg a)) :=
 (CP Dc ha).imp λ σ H Q ⟨F,ρ,ev,w⟩=>⟨F,ρ,ev,av a (λ x w F1 H1 v g1 r1=>by
  obtain⟨i,rfl,w⟩:=eI w;cases r1
  exact w F1 H1 _ g1 rfl) w⟩
def Jx(ha:PE X l (rE X.K J FT GT a)):PE X (.UnaryOp .Not l p) (rE X.K J FT GT (.not a)) :=
 (Ck ha).imp λ σ H Q ⟨F,ρ,ev,w⟩=>⟨F,ρ,ev,av a (λ x w F1 H1 v g1 r1=>by
  obtain⟨i,rfl,w⟩:=mF w;cases r1
  exact⟨i,fu,w F1 H1 _ g1 rfl⟩) w⟩
def pE{Q:VK}(g:Grow J F H F1 H1)(w:∀F' H' v,Grow J F H F' H'->Rr X.K H F' H' t v->Q v H'):∀F' H' v,Grow J F1 H1 F' H'->Rr X.K H1 F' H' t v->Q v H':=λ F' H' v g' r=>w F' H' v (g.trans g') (r.late g)
def yu{l r:Expr}{rest:List Expr}(ha:PE X l (rE X.K J FT GT a))(hb:PE X (.BoolOp .And (r::rest) p) (rE X.K J FT GT b)):PE X (.BoolOp .And (l::r::rest) p) (rE X.K J FT GT (.and a b)) :=
 (Ci ha hb).imp λ σ H Q ⟨F,ρ,ev,w⟩=>⟨F,ρ,ev,av a (λ x w F1 H1 v g1 r1=>by
  obtain⟨k,ek,w2⟩:=mF w;subst ek;cases r1;show if k=true then _ else _;split at w2
  ·rw[if_pos (by assumption)];exact⟨F1,ρ,ev.grow g1,av b (λ y w=>pE g1 w) w2⟩
  ·rw[if_neg (by assumption)];exact w2 F1 H1 _ g1 rfl) w⟩
def yv{l r:Expr}{rest:List Expr}(ha:PE X l (rE X.K J FT GT a))(hb:PE X (.BoolOp .Or (r::rest) p) (rE X.K J FT GT b)):PE X (.BoolOp .Or (l::r::rest) p) (rE X.K J FT GT (.or a b)) :=
 (Cj ha hb).imp λ σ H Q ⟨F,ρ,ev,w⟩=>⟨F,ρ,ev,av a (λ x w F1 H1 v g1 r1=>by
  obtain⟨k,ek,w2⟩:=mF w;subst ek;cases r1;show if k=true then _ else _;split at w2
  ·rw[if_pos (by assumption)];exact w2 F1 H1 _ g1 rfl
  ·rw[if_neg (by assumption)];exact⟨F1,ρ,ev.grow g1,av b (λ y w=>pE g1 w) w2⟩) w⟩
def Jy(hc:PT X x (rT X.K J FT GT c))(ha:PE X y (rE X.K J FT GT a))(hb:PE X z (rE X.K J FT GT b)):PE X (.IfExp x y z p) (rE X.K J FT GT (.ite c a b)) :=
 (Cm hc ha hb).imp λ σ H Q ⟨F,ρ,ev,w⟩=>⟨F,ρ,ev,av c (λ x w=>cz (λ k w2 F1 H1 g1=>by
  split at w2
  ·rw[if_pos (by assumption)];exact⟨F1,ρ,ev.grow g1,av a (λ y w=>pE g1 w) w2⟩
  ·rw[if_neg (by assumption)];exact⟨F1,ρ,ev.grow g1,av b (λ y w=>pE g1 w) w2⟩) w) w⟩
def tK(ha:PE X e (rE X.K J FT GT a))(hr:PA X es (rA X.K J FT GT r))(hs:aG e=true):PA X (e::es) (rA X.K J FT GT (.cons a r)) :=
 (cj ha hr (aU hs)).imp λ σ H Q ⟨F,ρ,ev,w⟩=>⟨F,ρ,ev,av a (λ x w F1 H1 v g1 r1=>⟨F1,ρ,ev.grow g1,bP r (λ ts w F2 H2 vs g2 r2=>w F2 H2 _ (g1.trans g2) (.cons (r1.grow g2) (Paired.mapP r2 λ _ _ z=>z.late g1))) w⟩) w⟩
def Jz:PA X [] (rA X.K J FT GT .nil):=pa_nil.imp λ σ H Q ⟨F,ρ,ev,w⟩=>w F H _ (.refl ev.w) .nil
def JA(xo:XOk X J FT GT fs gs)(h:PA X es (rA X.K J FT GT l)):PE X (.Tuple es k p) (rE X.K J FT GT (.tup l)) :=
 (qC h).imp λ σ H Q ⟨F,ρ,ev,w⟩=>⟨F,ρ,ev,bP l (λ ts ⟨n,z,w⟩ F1 H1 vs g1 r1=>by
  obtain⟨F2,g2,_,r2⟩:=iJ g1 r1 n
  exact⟨by rw[<- r2.length,aq];exact z,kC xo.hJ g2 r2 w⟩) w⟩
def JB(xo:XOk X J FT GT fs gs)(h:PA X es (rA X.K J FT GT l)):PE X (.List es p) (rE X.K J FT GT (.lst l)) :=
 (Dw h).imp λ σ H Q ⟨F,ρ,ev,w⟩=>⟨F,ρ,ev,bP l (λ ts ⟨n,z,w⟩ F1 H1 vs g1 r1=>by
  obtain⟨F2,g2,_,r2⟩:=iJ g1 r1 n
  exact⟨by rw[<- r2.length,aq];exact z,eK xo.hJ g2 r2 w⟩) w⟩
theorem JC{a lo hi:Cd}(xo:XOk X J FT GT fs gs)(ha:PE X e (rE X.K J FT GT a))(hl:PO X l (λ σ H Q=>∃F ρ,EV X.K J F H σ ρ/\wE FT GT lo ρ λ t=>oI t λ o=>∀F' H',Grow J F H F' H'->Q o H'))(hh:PO X h (λ σ H Q=>∃F ρ,EV X.K J F H σ ρ/\wE FT GT hi ρ λ t=>oI t λ o=>∀F' H',Grow J F H F' H'->Q o H')) :
  PE X (.Subscript e (.Slice l h none p2) p) (rE X.K J FT GT (.sl a lo hi)) :=
 (DG (IR xo.hJ) ha hl hh).imp λ σ H Q ⟨F,ρ,ev,w⟩=>⟨F,ρ,ev,av a (λ x w F1 H1 v g1 r1=>⟨F1,ρ,ev.grow g1,av lo (λ y w=>pc (λ a w F2 H2 g2=>⟨F2,ρ,(ev.grow g1).grow g2,av hi (λ z w=>pc (λ b w F3 H3 g3=>⟨F,H,F3,x,(g1.trans g2).trans g3,(r1.grow g2).grow g3,w⟩) w) w⟩) w) w⟩) w⟩
end
section
variable {J:Hp->Prop}{FT:List PSp}{GT:List TV}{fs gs:List Str}{N:List Str}{nm:List (Str×NameKind)}
set_option tactic.hygienic true in
def yw{K:FG}{vs:List V}(w:Wd J F1 H1)(h:RrL K H F1 H1 ts vs):∃F2,Wd J F2 H1/\RpL K F2 H1 (ts.map TV.fz) vs:=by
 refine⟨λ b=>H1 b≠none,⟨w.j,λ a f=>f⟩,?_⟩;have up:∀a,F1 a->H1 a≠none:=w.d
 induction h with
 |nil=>rfl
 |cons r q ih=>
  refine⟨_,_,fu,?_,ih⟩;rename_i t v _ _
  cases t with
  |own l=>obtain⟨a,vs,e,_,_,qa,ra⟩:=r;exact⟨a,vs,e,(.inl ⟨(λ z=>by rw[qa] at z;cases z),.of qa⟩),ra.ke (.up up)⟩
  |bor l=>obtain⟨a,vs,e,_,qa,ra⟩:=r;exact⟨a,vs,e,(.inl ⟨(λ z=>by rw[qa] at z;cases z),.of qa⟩),ra.ke (.up up)⟩
  |_=>exact Rp.ke (.up up) r
theorem JD{f:Nat}{a:Expr}{es:List Expr}(xo:XOk X J FT GT fs gs)(hf:fs[f]?=some x)(hg:Gl X x)(hd:(x == ("__debug__" : Str))=false)(ha:PA X (a::es) (rA X.K J FT GT l))(hs:aG a=true)(hss:es.all aG=true) :
  PE X (.Call (.Name x p) (a::es) [] pos) (rE X.K J FT GT (.call f l)):=by
 obtain⟨S,eS⟩:∃S,FT[f]?=some S:=iI (by rw[<- xo.len];exact(br.mp hf).1);obtain⟨k,ps,hr,c⟩:=xo.fns f x S hf eS;refine(vQ c hr hg vK ha hd (aU hs) (fZ hss)).imp λ σ H Q ⟨F,ρ,ev,w⟩=>⟨F,ρ,ev,bP l (λ ts w F1 H1 vs g1 r1=>?_) w⟩;obtain⟨P,⟨S',e',sp⟩,w⟩:=w;rw[eS] at e';cases e';rw[eT]
 cases n:ts.all TV.nb with
 |true=>
  obtain⟨F2,g2,_,r2⟩:=iJ g1 r1 n;exact⟨F2,_,P,g2.w,r2,sp,λ t pt F' H' v g' r'=>(w t pt).2 F' H' v (g2.trans g') (Rr.of r')⟩
 |false=>
  obtain⟨F2,w2,r2⟩:=yw g1.w r1;refine⟨F2,_,P,w2,r2,sp,λ t pt F' H' v g' r'=>?_⟩;obtain⟨lf,w⟩:=w t pt;have gg:Grow J F1 H1 F1 H':=⟨g'.sm,g'.dm,λ _ h=>h,λ _ h=>.inl h,g'.w.j,λ b f=>g'.dm b (g1.w.d b f)⟩;exact w F1 H' v (g1.trans gg) (Rr.of ((lf n).rp r'))
theorem jr{a:Expr}{es:List Expr}{id:String}(hc:bo X (.builtin id) (rL X J (biP f)))(hg:Gl X x)(hm:X.mg x=none)(hv:bootBuiltins x=some (.builtin id))(hn:x ≠ "__name__")(hd:(x == ("__debug__" : Str))=false)(ha:PA X (a::es) (rA X.K J FT GT l))(hs:aG a=true)(hss:es.all aG=true) :
  PE X (.Call (.Name x p) (a::es) [] pos) (rE X.K J FT GT (.bi f l)) :=
 (nQ hc hg hm hv ha hn hd (aU hs) (fZ hss)).imp λ σ H Q ⟨F,ρ,ev,w⟩=>⟨F,ρ,ev,bP l (λ ts w F1 H1 vs g1 r1=>⟨F,H,F1,ts,g1,r1,w⟩) w⟩
theorem tL{a:Expr}{es:List Expr}{id:String}(hc:bo X (.type id) (rL X J (biP f)))(hg:Gl X x)(hm:X.mg x=none)(hv:bootBuiltins x=some (.type id))(hn:x ≠ "__name__")(hd:(x == ("__debug__" : Str))=false)(ha:PA X (a::es) (rA X.K J FT GT l))(hs:aG a=true)(hss:es.all aG=true) :
  PE X (.Call (.Name x p) (a::es) [] pos) (rE X.K J FT GT (.bi f l)) :=
 (jO hc hg hm hv ha hn hd (aU hs) (fZ hss)).imp λ σ H Q ⟨F,ρ,ev,w⟩=>⟨F,ρ,ev,bP l (λ ts w F1 H1 vs g1 r1=>⟨F,H,F1,ts,g1,r1,w⟩) w⟩
theorem JE{a:Expr}{es:List Expr}(xo:XOk X J FT GT fs gs)(hx:biN f=some x)(hg:Gl X x)(ha:PA X (a::es) (rA X.K J FT GT l))(hs:aG a=true)(hss:es.all aG=true) :
  PE X (.Call (.Name x p) (a::es) [] pos) (rE X.K J FT GT (.bi f l)):=by
 have bm:∀y,y∈BN->X.mg y=none:=xo.blt
 cases f with
 |len=>cases hx;exact jr (iH xo.hJ xo.calm .len BT) hg (bm _ pv) (by decide +kernel) pv pv ha hs hss
 |tuple=>cases hx;exact tL (iH xo.hJ xo.calm .tuple BT) hg (bm _ pv) (by decide +kernel) pv pv ha hs hss
 |list=>cases hx;exact tL (iH xo.hJ xo.calm .list BT) hg (bm _ pv) (by decide +kernel) pv pv ha hs hss
 |sum=>cases hx;exact jr (iH xo.hJ xo.calm .sum BT) hg (bm _ pv) (by decide +kernel) pv pv ha hs hss
 |max=>cases hx;exact jr (IU xo.calm) hg (bm _ pv) (by decide +kernel) pv pv ha hs hss
 |min=>cases hx;exact jr (IV xo.calm) hg (bm _ pv) (by decide +kernel) pv pv ha hs hss
 |abs=>cases hx;exact jr (iH xo.hJ xo.calm .abs BT) hg (bm _ pv) (by decide +kernel) pv pv ha hs hss
 |int=>cases hx;exact tL (iH xo.hJ xo.calm .int BT) hg (bm _ pv) (by decide +kernel) pv pv ha hs hss
 |sorted=>cases hx;exact jr (iH xo.hJ xo.calm .sorted BT) hg (bm _ pv) (by decide +kernel) pv pv ha hs hss
 |any=>cases hx;exact jr (iH xo.hJ xo.calm .any BT) hg (bm _ pv) (by decide +kernel) pv pv ha hs hss
 |_=>cases hx
theorem JF{f:BI}{z:Str}{p pos pz:Pos}(xo:XOk X J FT GT fs gs)(h:f=.isI\/f=.isB\/f=.isT\/f=.isL\/f=.isS)(hz:z=Str.ofString (isN f))(hg:Gl X "isinstance")(hgz:Gl X z)(hs:aG y=true)(hy:PE X y (rE X.K J FT GT b)) :
  PE X (.Call (.Name "isinstance" p) [y,.Name z pz] [] pos) (rE X.K J FT GT (.isi f b)):=by
 have bm:∀y,y∈BN->X.mg y=none:=xo.blt
 have hb:bootBuiltins z=some (.type (isN f))/\X.mg z=none/\z ≠ "__name__" /\ (z == ("__debug__" : Str))=false:=by
  subst hz
  rcases h with rfl|rfl|rfl|rfl|rfl<;>exact⟨by decide +kernel,bm _ pv,pv,pv⟩
 have ha:PA X [y,.Name z pz] (qB (rE X.K J FT GT b) (qB (tC (.ty (isN f))) vh)):=cj hy (cj (BV (v:=.ty (isN f)) hgz hb.2.1 hb.1 rfl hb.2.2.1 hb.2.2.2) pa_nil rfl) (aU hs);refine(nQ (IZ (J:=J) f h) hg (bm _ pv) (by decide +kernel) ha pv pv (aU hs) rfl).imp λ σ H Q ⟨F,ρ,ev,w⟩=>⟨F,ρ,ev,av b (λ t w F1 H1 v g1 r1=>?_) w⟩;exact⟨v,fu,F,H,F1,[t],g1,.cons r1 .nil,w⟩
theorem JG{p pos kp p2:Pos}(xo:XOk X J FT GT fs gs)(hg:Gl X "max")(hg2:Gl X "len")(hs:aG y=true)(hs2:aG z=true)(hy:PE X y (rE X.K J FT GT a))(hz:PE X z (rE X.K J FT GT b)) :
  PE X (.Call (.Name "max" p) [y,z] [⟨some (Str.ofString "key"),.Name "len" p2,kp⟩] pos) (rE X.K J FT GT (.mxl a b)):=by
 refine(IS xo.calm hg (xo.blt _ pv) hg2 (xo.blt _ pv) hy hz (aU hs) (aU hs2)).imp λ σ H Q ⟨F,ρ,ev,w⟩=>⟨F,ρ,ev,av a (λ t w F1 H1 v g1 r1=>⟨F1,ρ,ev.grow g1,av b (λ u w F2 H2 v2 g2 r2=>?_) w⟩) w⟩;have w:biP .maxlen [t,u] λ t=>∀F' H' v,Grow J F H F' H'->Rr X.K H F' H' t v->Q v H':=w
 cases t with
 |tup l=>
  cases u with
  |tup m=>
   obtain⟨A,xs,rfl,q1,s1⟩:=r1.grow g2;obtain⟨B,ys,rfl,q2,s2⟩:=r2;refine⟨A,B,xs,ys,fu,fu,q1,q2,λ z=>?_,λ z=>?_⟩
   ·have w:∀F' H' v,Grow J F H F' H'->Rr X.K H F' H' (.tup (if l.length<m.length then m else l)) v->Q v H':=w;rw[if_neg (by rw[s1.length,s2.length];lia)] at w;exact w F2 H2 _ (g1.trans g2) ⟨A,xs,fu,q1,s1⟩
   ·have w:∀F' H' v,Grow J F H F' H'->Rr X.K H F' H' (.tup (if l.length<m.length then m else l)) v->Q v H':=w;rw[if_pos (by rw[s1.length,s2.length];lia)] at w;exact w F2 H2 _ (g1.trans g2) ⟨B,ys,fu,q2,s2⟩
  |_=>exact w.elim
 |_=>cases u<;>exact w.elim
theorem JH{p pos p2 pos2:Pos}(xo:XOk X J FT GT fs gs)(hg:Gl X "tuple")(hg2:Gl X "reversed")(hs:aG y=true)(hy:PE X y (rE X.K J FT GT a)) :
  PE X (.Call (.Name "tuple" p) [.Call (.Name "reversed" p2) [y] [] pos2] [] pos) (rE X.K J FT GT (.trev k a)):=by
 cases k with
 |false=>
  refine(Fh xo.calm hg hg2 (xo.blt _ pv) (xo.blt _ pv) hy (aU hs)).imp λ σ H Q ⟨F,ρ,ev,w⟩=>⟨F,ρ,ev,av a (λ t w F1 H1 v g1 r1=>?_) w⟩;obtain⟨l,e,w⟩:=eJ (show l1 t λ l=>∀F' H' v,Grow J F H F' H'->Rr X.K H F' H' (.tup l.reverse) v->Q v H' from w);obtain⟨b,vs,rfl,r,q⟩:=r1.lq e;exact⟨b,vs,fu,q,kC xo.hJ g1 r.reverse w⟩
 |true=>
  refine(FS xo.calm hg hg2 (xo.blt _ pv) (xo.blt _ pv) hy (aU hs)).imp λ σ H Q ⟨F,ρ,ev,w⟩=>⟨F,ρ,ev,av a (λ t w F1 H1 v g1 r1=>?_) w⟩;have w:k1 true t λ l=>∀F' H' v,Grow J F H F' H'->Rr X.K H F' H' (.tup l.reverse) v->Q v H':=w
  cases t with
  |tup l=>obtain⟨b,vs,rfl,q,r⟩:=r1;exact⟨b,vs,rfl,q,kC xo.hJ g1 r.reverse w⟩
  |_=>exact w.elim
theorem JI{k:Bool}{p pos p2 pos2:Pos}(hk:(!k)=true)(xo:XOk X J FT GT fs gs)(hg:Gl X (Str.ofString (if k=true then "tuple" else "list")))(hg2:Gl X "range")(hs:aG y=true)(hy:PE X y (rE X.K J FT GT a)) :
  PE X (.Call (.Name (Str.ofString (if k=true then "tuple" else "list")) p) [.Call (.Name "range" p2) [y] [] pos2] [] pos) (rE X.K J FT GT (.lrng k a)):=by
 have hr:=jO (p:=p2) (pos:=pos2) Ga hg2 (xo.blt _ pv) (by decide +kernel) (cj hy pa_nil (aU hs)) pv pv (aU hs) rfl;have e:∀j:Int,(upL j.toNat).map TV.int=(List.range j.toNat).map λ i=>TV.int (i:Nat):=λ j=>by unfold upL;rw[bq];rfl
 cases k with
 |false=>
  refine(jO (Gb xo.calm) hg (xo.blt _ pv) (by decide +kernel) (cj hr pa_nil rfl) pv pv rfl rfl).imp λ σ H Q ⟨F,ρ,ev,w⟩=>⟨F,ρ,ev,av a (λ t w F1 H1 v g1 r1=>?_) w⟩;obtain⟨j,rfl,⟨c0,c1⟩,w⟩:=eI (show i1 t λ j=>(0<=j/\j<=1000)/\∀F' H' v,Grow J F H F' H'->Rr X.K H F' H' (.own ((List.range j.toNat).map λ i=>.int (i:Nat))) v->Q v H' from w);cases r1;refine⟨j,fu,λ r hr=>?_⟩;have g2:Grow J F1 H1 F1 (upd H1 r (.rng 0 j)):=.new xo.hJ g1.w _ hr;refine⟨r,j.toNat,fu,by rw[cT];congr 2;exact(jt c0).symm,on,λ l hl=>?_⟩;rw[<- e] at w;exact eK xo.hJ (g1.trans g2) (RpL.ofInts _) w l hl
 |true=>exact Bool.noConfusion hk
theorem TL.rp{K:FG}:∀ {ms:LL}{vs:List V},TL K H ms vs->RpL K F H (ms.map kT) vs
 |[],_,.nil=>rfl
 |_::_,_,.cons h r=>by obtain⟨c,rfl,q⟩:=h;exact⟨_,_,rfl,⟨c,_,rfl,q,RpL.ofInts _⟩,TL.rp r⟩
theorem TL.of{K:FG}:∀ {ms:LL}{vs:List V},RpL K F H (ms.map kT) vs->TL K H ms vs
 |[],_,h=>by cases h;exact .nil
 |_::_,_,⟨v,r,e,⟨c,us,e2,q,z⟩,h⟩=>by subst e;cases z.ints;exact .cons ⟨c,e2,q⟩ (TL.of h)
theorem JJ{p pos p2 pos2:Pos}(xo:XOk X J FT GT fs gs)(hg:Gl X "sorted")(hg2:Gl X "set")(hs:aG y=true)(hy:PE X y (rE X.K J FT GT a)) :
  PE X (.Call (.Name "sorted" p) [.Call (.Name "set" p2) [y] [] pos2] [] pos) (rE X.K J FT GT (.ss k a)):=by
 cases k with
 |false=>
  have hr:=jO (p:=p2) (pos:=pos2) (HF xo.calm) hg2 (xo.blt _ pv) (by decide +kernel) (cj hy pa_nil (aU hs)) pv pv (aU hs) rfl;refine(nQ (HG xo.calm) hg (xo.blt _ pv) (by decide +kernel) (cj hr pa_nil rfl) pv pv rfl rfl).imp λ σ H Q ⟨F,ρ,ev,w⟩=>⟨F,ρ,ev,av a (λ t w F1 H1 v g1 r1=>?_) w⟩;obtain⟨l,e,ns,rfl,⟨n10,n64⟩,w⟩:=eJ (show l1 t _ from w);obtain⟨b,vs,rfl,r,q⟩:=r1.lq e;cases r.ints;refine⟨b,ns,fu,q,n10,λ z hz=>?_⟩;have g2:Grow J F1 H1 F1 (upd H1 z (.ext (gI X.prog X.w (!byT X.w) ns z))):=.new xo.hJ g1.w _ hz;exact⟨z,ns,fu,cT,n64,λ ns' p1 p2 l hl=>eK xo.hJ (g1.trans g2) (RpL.ofInts ns') (w ns' p1 p2) l hl⟩
 |true=>
  have hr:=jO (p:=p2) (pos:=pos2) (Iv xo.calm (lL (Nat.add_le_add_left pv _) xo.units)) hg2 (xo.blt _ pv) (by decide +kernel) (cj hy pa_nil (aU hs)) pv pv (aU hs) rfl;refine(nQ (Iw xo.calm) hg (xo.blt _ pv) (by decide +kernel) (cj hr pa_nil rfl) pv pv rfl rfl).imp λ σ H Q ⟨F,ρ,ev,w⟩=>⟨F,ρ,ev,av a (λ t w F1 H1 v g1 r1=>?_) w⟩;obtain⟨l,e,ms,rfl,⟨n64,nn⟩,w⟩:=eJ (show l1 t _ from w);obtain⟨b,vs,rfl,r,q⟩:=r1.lq e;refine⟨b,vs,ms,fu,q,TL.of r,n64,λ z h0 hz=>?_⟩;have g2:Grow J F1 H1 F1 (upd H1 z (.ext (gM X.prog X.w h0 (λ c=>SqT X.K H1 c ((kP h0 (.ref c)).map V.int)) (!byT X.w) ms z))):=.new xo.hJ g1.w _ hz;exact⟨z,ms,h0,_,fu,cT,λ c h=>h.sm g2.sm,⟨n64,nn⟩,λ ms' vs' p1 p2 tl l hl=>eK xo.hJ (g1.trans g2) (TL.rp tl) (w ms' p1 p2) l hl⟩
end
section
variable {J:Hp->Prop}{FT:List PSp}{GT:List TV}{fs gs:List Str}{N:List Str}{nm:List (Str×NameKind)}{tg:Expr}
def JK(hy:PE X y (rE X.K J FT GT a)):PI X tg y (rW X.K J FT GT .seq (.cons a .nil)) :=
 (GC hy).imp λ σ H R ⟨F,ρ,ev,w⟩=>⟨F,ρ,ev,av a (λ t w F1 H1 v g r=>by
  obtain⟨b,l,e,w⟩:=kB (show s1 t λ its=>∀F' H' xs Jt,Grow J F H F' H'->RrL X.K H F' H' [t] xs->ItOk X.K J Jt its [t] xs->R Jt H' from w);obtain⟨p,vs,rfl,_,q⟩:=r.sq e
  rcases q with ⟨rfl,q⟩|⟨rfl,q⟩
  ·exact .inr ⟨p,fu,⟨vs,q⟩,w F1 H1 _ _ g (.cons r .nil) (Jb e)⟩
  ·exact .inl ⟨p,fu,⟨vs,q⟩,w F1 H1 _ _ g (.cons r .nil) (Ja e)⟩) w⟩
def JL(n:Nat):((List.range n).map λ k=>TV.int (0+(k:Nat)))=(List.range n).map λ k=>TV.int (k:Nat):=BT
def JM{p pos:Pos}(xo:XOk X J FT GT fs gs)(hg:Gl X "range")(hs:aG e=true)(he:PE X e (rE X.K J FT GT a)):PI X tg (.Call (.Name "range" p) [e] [] pos) (rW X.K J FT GT .rng (.cons a .nil)) :=
 (CI hg (xo.blt _ pv) (cj he pa_nil (aU hs)) (aU hs)).imp λ σ H R ⟨F,ρ,ev,w⟩=>⟨F,ρ,ev,av a (λ t w F1 H1 v g r=>by
  obtain⟨j,rfl,c,w⟩:=eI (show i1 t λ j=>(-(2 ^ 62)<=j/\j<2 ^ 62)/\∀F' H' xs Jt,Grow J F H F' H'->RrL X.K H F' H' [t] xs->ItOk X.K J Jt ((List.range j.toNat).map λ i=>.int (i:Nat)) [t] xs->R Jt H' from w);cases r
  exact⟨j,fu,c.1,c.2,w F1 H1 _ _ g (.cons rfl .nil) (by rw[<- JL];exact Jc 0 _)⟩) w⟩
def JN{K:FG}{t u z:TV}(h:RrL K H F1 H1 [t,u,z] xs):∃x y w,xs=[x,y,w]/\Rr K H F1 H1 t x/\Rr K H F1 H1 u y/\Rr K H F1 H1 z w:=by
 cases h with
 |cons r q=>obtain⟨y,w,rfl,r',r''⟩:=pf q;exact⟨_,y,w,rfl,r,r',r''⟩
def JO{p pos:Pos}(xo:XOk X J FT GT fs gs)(hg:Gl X "range")(hs:aG e=true)(hs2:aG e2=true)(hs3:aG e3=true)(hp:PA X [e,e2,e3] (rA X.K J FT GT l)):PI X tg (.Call (.Name "range" p) [e,e2,e3] [] pos) (rW X.K J FT GT .rng3 l) :=
 (Fs hg (xo.blt _ pv) hp (by rw[aU hs,aU hs2,aU hs3];rfl) (by rw[aU hs2,aU hs3];rfl)).imp λ σ H R ⟨F,ρ,ev,w⟩=>⟨F,ρ,ev,bP l (λ ts w F1 H1 vs g r=>by
  rcases ts with _|⟨t,_|⟨u,_|⟨z,_|⟨_,ts⟩⟩⟩⟩
  ·exact w.elim
  ·exact w.elim
  ·exact w.elim
  ·obtain⟨i,j,rfl,rfl,w⟩:=dA w;obtain⟨c,rfl,cc,w⟩:=eI w;have w:=w F1 H1 vs _ g r (Jd i c _);obtain⟨x,y,v,rfl,r1,r2,r3⟩:=JN r;cases r1;cases r2;cases r3;exact⟨i,j,c,fu,cc,w⟩
  ·exact w.elim) w⟩
def pF(h:k1 b t P):∃l,t.items=some (b,l)/\P l:=by
 cases b with
 |true=>cases t<;>first|exact⟨_,rfl,h⟩|exact h.elim
 |false=>exact eJ h
def Rr.sb{K:FG}{b:Bool}{l:List TV}(h:Rr K H F' H' t v)(e:t.items=some (b,l)):∃a vs,v=.ref a/\SqB K b H' a vs:=by
 obtain⟨a,vs,rfl,q,_⟩:=h.vw.b e;exact⟨a,vs,fu,q⟩
def JP{p pos:Pos}(xo:XOk X J FT GT fs gs)(hg:Gl X "zip")(hs:aG e=true)(hs2:aG e2=true)(hp:PA X [e,e2] (rA X.K J FT GT l)):PI X (.Tuple es x1 pp) (.Call (.Name "zip" p) [e,e2] [] pos) (rW X.K J FT GT (.zip c d) l) :=
 (Hf Hg hg (xo.blt _ pv) hp (aU hs) (by rw[aU hs2];rfl)).imp λ σ H R ⟨F,ρ,ev,w⟩=>⟨F,ρ,ev,bP l (λ ts w F1 H1 vs g r=>by
  rcases ts with _|⟨t,_|⟨u,_|⟨z,ts⟩⟩⟩
  ·exact w.elim
  ·exact w.elim
  ·obtain⟨l,e1,w⟩:=pF w;obtain⟨m,e2,w⟩:=pF w;obtain⟨x,y,rfl,r1,r2⟩:=pf r;obtain⟨A,vs,rfl,q⟩:=r1.sb e1;obtain⟨B,ws,rfl,q2⟩:=r2.sb e2
   exact⟨[(c,A),(d,B)],fu,fu,λ i s q'=>by
    match i,q' with
    |0,rfl=>exact⟨_,q⟩
    |1,rfl=>exact⟨_,q2⟩,w F1 H1 _ _ g r (Jh xo.hJ e1 e2)⟩
  ·exact w.elim) w⟩
def JQ{p pos:Pos}(xo:XOk X J FT GT fs gs)(hg:Gl X "reversed")(hs:aG e=true)(he:PE X e (rE X.K J FT GT a)):PI X tg (.Call (.Name "reversed" p) [e] [] pos) (rW X.K J FT GT (.rev true) (.cons a .nil)):=by
 exact(Fa hg (xo.blt _ pv) he (aU hs)).imp λ σ H R ⟨F,ρ,ev,w⟩=>⟨F,ρ,ev,av a (λ t w F1 H1 v g r=>by
   obtain⟨l,e1,w⟩:=pF (show k1 true t λ l=>∀F' H' xs Jt,Grow J F H F' H'->RrL X.K H F' H' [t] xs->ItOk X.K J Jt l.reverse [t] xs->R Jt H' from w);obtain⟨A,vs,rfl,q,rl⟩:=r.vw.t e1
   exact⟨A,vs,fu,q,w F1 H1 _ _ g (.cons r .nil) (Jf e1 rl.length.symm)⟩) w⟩
noncomputable def cEn(own:List Str)(js:List Nat)(ρ:En):En:=List.replicate own.length none++js.map λ j=>(ρ[j]?).join
def EV.comp{K:FG}{own:List Str}(e:EV K J F H σ ρ):EV K J F H (cV own.length js σ) (cEn own js ρ) :=
 ⟨e.w,λ i t h=>by
  unfold cEn at h;unfold cV;by_cases hi:i<own.length
  ·rw[dZ (by simpa using hi),lD] at h;split at h<;>cases h
  ·rw[dY (by simpa using hi),jN,bc] at h;rw[dY (by simpa using hi),jN,bc]
   cases ej:js[i-own.length]? with
   |none=>rw[ej] at h;cases h
   |some j=>
    rw[ej] at h;have h:(ρ[j]?).join=some t:=cv h
    have h2:ρ[j]?=some (some t):=by
     cases q:ρ[j]? with
     |none=>rw[q] at h;cases h
     |some o=>rw[q] at h;cases o<;>cases h;rfl
    obtain⟨v,e1,r⟩:=e.sl j t h2
    exact⟨v,by rw[Option.map_some,e1];rfl,r⟩⟩
def pG{own:List Str}{i:Nat}(h:i<own.length):∀u,(cEn own js ρ)[i]?≠some (some u):=λ u z=>by
 unfold cEn at z;rw[dZ (by simpa using h),lD] at z;split at z<;>cases z
theorem pH{K:PySem.W.Frag}{own:List Str}{js tgs:List Nat}{Q:VK}{tc:TT}{te:TE}
  (hJ:JS J) (g1:Grow J F H F1 H1) (rx:RrL K H F1 H1 ts xs) (ok:ItOk K J Jt its ts xs) (ev:EV K J F H σ ρ) (lt:∀i∈tgs,i<own.length) (hn:its.length<sizeLine) (b:TV->(List TV->Prop)->Prop)
  (hm:∀t K K',(∀y,K y->K' y)->b t K->b t K') (w:cmF b its λ ys=>∀F' H' v,Grow J F H F' H'->Rr K H F' H' (.own ys) v->Q v H')
  (st:∀t P x F' H' σ',b t P->EV K J F' H' σ' (cEn own js ρ)->σ'.length=(cV own.length js σ).length->Rp K F' H' t x ->
   ∀R:List V->St->Hp->Prop,(∀ys vs σ2 F2 H2,P ys->ys.length<=1->Grow J F' H' F2 H2->RpL K F2 H2 ys vs->EV K J F2 H2 σ2 (cEn own js ρ)->σ2.length=σ'.length->R vs σ2 H2) ->
    tgG K tgs x σ' H' λ σ3 H3=>tc σ3 H3 λ q H4=>if q=true then te σ3 H4 λ v H5=>R [v] σ3 H5 else R [] σ3 H4) :
  ∃W:Nat->Nat->List V->St->Hp->Prop,(∃m,W 0 m [] (cV own.length js σ) H1)/\∀i m ys σ' H',W i m ys σ' H' ->
   (Jt.stop i H'/\∀p,H' p=none->Q (.ref p) (upd H' p (.lst ys))) \/
   (Jt.go i H'/\ys.length < sizeLine/\∃N:List V->St->Hp->Prop,(∀zs σ2 H2,N zs σ2 H2->∃m',m' < m/\W (i+1) m' zs σ2 H2) /\
    ∀x H2,Jt.yld i H' x H2->tgG K tgs x σ' H2 λ σ3 H3=>tc σ3 H3 λ q H4=>if q=true then te σ3 H4 λ v H5=>N (ys++[v]) σ3 H5 else N ys σ3 H4):=by
 refine⟨λ i m ys σ' H'=>i≤its.length/\m=its.length - i/\∃F' zs,Grow J F1 H1 F' H'/\EV K J F' H' σ' (cEn own js ρ)/\σ'.length=(cV own.length js σ).length/\RpL K F' H' zs ys/\zs.length≤i/\cmF b (its.drop i) λ ws=>∀F' H' v,Grow J F H F' H'->Rr K H F' H' (.own (zs++ws)) v->Q v H',
  ⟨_,aX _,rfl,F1,[],.refl g1.w,(ev.grow g1).comp,rfl,rfl,aX _,w⟩,?_⟩
 rintro i m ys σ' H' ⟨hi,rfl,F',zs,g',ev',sl,rz,zl,w'⟩;have vw:Paired (Vw K F' H') ts xs:=Paired.mapP (rx.grow g') λ _ _ r=>r.vw;by_cases c:i<its.length
 ·refine .inr ⟨ok.go F' H' i g'.w vw c,by rw[← rz.length];lia,λ zs' σ2 H2=>∃F2 ws,Grow J F1 H1 F2 H2/\EV K J F2 H2 σ2 (cEn own js ρ)/\σ2.length=(cV own.length js σ).length/\RpL K F2 H2 ws zs'/\ws.length≤i+1/\cmF b (its.drop (i+1)) λ us=>∀F' H' v,Grow J F H F' H'->Rr K H F' H' (.own (ws++us)) v->Q v H',
   λ zs' σ2 H2 ⟨F2,ws,q⟩=>⟨_,on,c,rfl,F2,ws,q⟩,λ x H2 y=>?_⟩
  obtain⟨t,et,gy,rt⟩:=ok.yld F' H' i x H2 g'.w vw c y
  have ed:its.drop i=t::its.drop (i+1):=by
   rw[gH c]
   congr 1
   rw[aC c] at et;exact cv et
  rw[ed] at w'
  have z:=st t _ x F' H2 σ' w' (ev'.grow gy) sl rt (λ vs σ2 H3=>∃F2 ws,Grow J F1 H1 F2 H3/\EV K J F2 H3 σ2 (cEn own js ρ)/\σ2.length=(cV own.length js σ).length/\RpL K F2 H3 ws (ys++vs)/\ws.length<=i+1/\cmF b (its.drop (i+1)) λ us=>∀F' H' v,Grow J F H F' H'->Rr K H F' H' (.own (ws++us)) v->Q v H')
   (λ zs2 vs σ2 F2 H3 q l1 g2 r2 e2 s2=>⟨F2,zs++zs2,(g'.trans gy).trans g2,e2,s2.trans sl,(rz.ke (gy.trans g2).ke).append r2,by rw[aR];lia,by
    exact pd hm (λ us q=>by rw[dF];exact q) q⟩)
  simp only[eT] at z;exact z
 ·have e:i=its.length:=by lia
  subst e;rw[s0s] at w';have w':∀F' H' v,Grow J F H F' H'->Rr K H F' H' (.own (zs++[])) v->Q v H':=w';rw[eT] at w';exact .inl ⟨ok.stop F' H' g'.w vw,eK hJ (g1.trans g') rz w'⟩
end
section
variable {J:Hp->Prop}{FT:List PSp}{GT:List TV}{fs gs:List Str}{N:List Str}{nm:List (Str×NameKind)}
def kK{cl:LA}(xo:XOk X J FT GT fs gs):XOk (bp X N' sc cl C ex s H) J FT GT fs gs:=⟨xo.calm,xo.units,xo.hJ,xo.fns,xo.glb,xo.dic,xo.blt,xo.len⟩
theorem JR{own fv:List Str}{t iter elt:Expr}(xo:XOk X J FT GT fs gs)(xs:XS X N nm)(hS:ckS N nm sc own fv js=true)(hi:PI X t iter (rW X.K J FT GT k it))(hT:ckT false (own++fv) (cN nm sc.names) tgs t=true)(hl:tgs.all (λ i=>decide (i<own.length))=true)(hns:gR iter=true)
  (he:∀Y:Cx,XOk Y J FT GT fs gs->XS Y (own++fv) (cN nm sc.names)->PE Y elt (rE Y.K J FT GT e)):PE X (.ListComp elt [⟨t,iter,[],0⟩] sc pos) (rE X.K J FT GT (.comp own fv js tgs k it e)):=by
 intro pins s σ H Q I h;obtain⟨cl,S⟩:=pq I.ok xs hS;have yx:∀(C:Addr) (ex:List Addr) (s:Shared) (H:Hp),XS (bp X (own++fv) sc cl C ex s H) (own++fv) (cN nm sc.names):=λ C ex s H=>⟨rfl,S.rel⟩;have lt:∀i∈tgs,i<own.length:=λ i hi=>ax (gJ.mp hl i hi);refine Ey (g:=tgG X.K tgs) (te:=rE X.K J FT GT e) xo.calm hi S.clos S.cell S.kind S.names S.sub S.has S.len S.cap (λ C ex s H=>(kJ (X:=bp X (own++fv) sc cl C ex s H) S.nd xo.calm (yx C ex s H) (λ z=>by cases z) hT).1) (λ C ex s H=>he _ (kK xo) (yx C ex s H)) (λ x=>mL hns) pins s σ H Q I ?_;obtain⟨F,ρ,ev,w⟩:=h;refine⟨F,ρ,ev,bP it (λ ts w=>iG (λ its w F1 H1 xs Jt g1 rx ok=>?_) w) w⟩;obtain⟨hn,w⟩:=w
 have z:=pH (tc:=λ σ H Q=>Q true H) (te:=rE X.K J FT GT e) xo.hJ g1 rx ok ev lt hn (λ t K'=>stE (cEn own js ρ) tgs t λ ρ'=>wE FT GT e ρ' λ y=>(y.nb=true/\K' [y.fz])) (λ t K K' h q=>fc (λ ρ' q=>av e (λ y q=>⟨q.1,h _ q.2⟩) q) q) w
  (λ t P x F' H' σ' b ev' sl rt R fin=>pA b ev' rt (λ i hi=>by rw[sl];unfold cV;simp;have:=lt i hi;lia) λ σ2 ρ2 p ev2 sl2 keep=>by
   show if true=true then _ else _;rw[if_pos rfl];refine⟨F',ρ2,ev2,av e (λ y ⟨nb,p⟩ F2 H2 v g r=>?_) p⟩;obtain⟨F3,g3,_,_,rp⟩:=r.frz g nb
   exact fin [y.fz] [v] σ2 F3 H2 p (aj _) g3 ⟨v,[],fu,rp,fu⟩ ((keep _ ev' λ i hi u=>pG (lt i hi) u).grow g3) sl2)
 simpa only[ef] using z
theorem JT{own fv:List Str}{t iter elt cnd:Expr}(xo:XOk X J FT GT fs gs)(xs:XS X N nm)(hS:ckS N nm sc own fv js=true)(hi:PI X t iter (rW X.K J FT GT k it))(hT:ckT false (own++fv) (cN nm sc.names) tgs t=true)(hl:tgs.all (λ i=>decide (i<own.length))=true)(hns:gR iter=true)
  (hc:∀Y:Cx,XOk Y J FT GT fs gs->XS Y (own++fv) (cN nm sc.names)->PT Y cnd (rT Y.K J FT GT c)) (he:∀Y:Cx,XOk Y J FT GT fs gs->XS Y (own++fv) (cN nm sc.names)->PE Y elt (rE Y.K J FT GT e)):PE X (.ListComp elt [⟨t,iter,[cnd],0⟩] sc pos) (rE X.K J FT GT (.compI own fv js tgs k it c e)):=by
 intro pins s σ H Q I h;obtain⟨cl,S⟩:=pq I.ok xs hS;have yx:∀(C:Addr) (ex:List Addr) (s:Shared) (H:Hp),XS (bp X (own++fv) sc cl C ex s H) (own++fv) (cN nm sc.names):=λ C ex s H=>⟨rfl,S.rel⟩;have lt:∀i∈tgs,i<own.length:=λ i hi=>ax (gJ.mp hl i hi);refine Fv (g:=tgG X.K tgs) (tc:=rT X.K J FT GT c) (te:=rE X.K J FT GT e) xo.calm hi S.clos S.cell S.kind S.names S.sub S.has S.len S.cap (λ C ex s H=>(kJ (X:=bp X (own++fv) sc cl C ex s H) S.nd xo.calm (yx C ex s H) (λ z=>by cases z) hT).1) (λ C ex s H=>he _ (kK xo) (yx C ex s H)) (λ C ex s H=>hc _ (kK xo) (yx C ex s H)) (λ x=>mL hns) pins s σ H Q I ?_;obtain⟨F,ρ,ev,w⟩:=h;refine⟨F,ρ,ev,bP it (λ ts w=>iG (λ its w F1 H1 xs Jt g1 rx ok=>?_) w) w⟩;obtain⟨hn,w⟩:=w
 exact pH (tc:=rT X.K J FT GT c) (te:=rE X.K J FT GT e) xo.hJ g1 rx ok ev lt hn (λ t K'=>stE (cEn own js ρ) tgs t λ ρ'=>wE FT GT c ρ' λ x=>b1 x λ q=>if q=true then wE FT GT e ρ' λ y=>(y.nb=true/\K' [y.fz]) else K' []) (λ t K K' h q=>fc (λ ρ' q=>av c (λ x q=>cz (λ z q=>by
   split at q
   ·rw[if_pos (by assumption)];exact av e (λ y q=>⟨q.1,h _ q.2⟩) q
   ·rw[if_neg (by assumption)];exact h _ q) q) q) q) w
  (λ t P x F' H' σ' b ev' sl rt R fin=>pA b ev' rt (λ i hi=>by rw[sl];unfold cV;simp;have:=lt i hi;lia) λ σ2 ρ2 p ev2 sl2 keep=>by
   have kp:=keep _ ev' λ i hi u=>pG (own:=own) (js:=js) (ρ:=ρ) (lt i hi) u;refine⟨F',ρ2,ev2,av c (λ x w=>cz (λ q w2 F2 H2 g2=>?_) w) p⟩;split at w2
   ·rw[if_pos (by assumption)];refine⟨F2,ρ2,ev2.grow g2,av e (λ y ⟨nb,p⟩ F3 H3 v g r=>?_) w2⟩;obtain⟨F4,g4,_,_,rp⟩:=r.frz g nb;exact fin [y.fz] [v] σ2 F4 H3 p (aj _) (g2.trans g4) ⟨v,[],fu,rp,fu⟩ ((kp.grow g2).grow g4) sl2
   ·rw[if_neg (by assumption)]
    exact fin [] [] σ2 F2 H2 w2 (aX _) g2 rfl (kp.grow g2) sl2)
def JU{es:List Expr}(h:es.all aG=true):(backTo pos (starEach es env)).all (λ x=>!x.1)=true:=by
 unfold backTo;rw[List.all_map];have:=tF (env:=env) h;rw[List.all_eq_not_any_not];simpa using this
theorem pI{e:Expr}{es:List Expr}(h:(e::es).all aG=true)(hl:(e::es).length<20) :
  ((backTo cp (starEach (e::es) env)).all (λ x=>!x.1)&&(backToKw cp (keywordEach [] env)).all (λ x=>x.1.isSome)&&decide ((e::es).length+([]:List Keyword).length+(if ([]:List Keyword).isEmpty then 0 else 1)<30))=true:=by
 rw[JU h,bg,bg];refine⟨⟨fu,fu⟩,?_⟩;simp only[List.isEmpty_nil,ef,List.length_nil];exact bz on
def yz(h:dcR o P):∃l,o=some (some (.dct l))/\P l:=by
 rcases o with _|_|t
 ·exact h.elim
 ·exact h.elim
 ·cases t<;>first|exact⟨_,rfl,h⟩|exact h.elim
theorem tM(i:Int):∀l:List (Int×Int),fP (l.map λ q=>((Sum.inl q.1:Key),V.int q.2)) (Sum.inl i)=(l.lookup i).map V.int
 |[]=>rfl
 |(a,b)::r=>by
  rw[bw,iA];by_cases e:a=i
  ·subst e;rw[qZ rfl,fW];rfl
  ·rw[rc (λ z=>e (Sum.inl.inj z)),tM i r,show(i == a)=false from beq_false_of_ne (λ z=>e z.symm)]
def JV{i:Nat}(xo:XOk X J FT GT fs gs)(xs:XS X N nm)(h1:N[i]?=some x)(h2:vs nm x=true)(h3:okN x=true)(h4:gT y=true)(hb:PE X y (rE X.K J FT GT b)):PE X (.Subscript (.Name x p) y p2) (rE X.K J FT GT (.di i b)):=by
 intro pins s σ H Q I ⟨F,ρ,ev,w⟩;obtain⟨d1,d2,_⟩:=dO h3;obtain⟨l,hs,w⟩:=yz (show dcR ρ[i]? _ from w);obtain⟨v,e,a,rfl,ha⟩:=ev.sl i _ hs;refine Gn (by have:=xo.units;lia) (kZ (by rw[xs.N];exact h1) (mK xs h2) d1 d2) hb (tJ h4) pins s σ H Q I ?_;show dC i σ H _;unfold dC;rw[e];refine⟨F,ρ,ev,av b (λ u w F1 H1 v g r=>?_) w⟩;obtain⟨k,rfl,j,el,w⟩:=eI w;cases r;exact⟨a,.int j,fu,.inl ⟨_,Sum.inl k,.inl (g.sm _ _ (λ ps z=>by cases z) ha),fu,by rw[tM,el];rfl⟩,w F1 H1 _ g rfl⟩
def JW{i:Nat}{p ap cp:Pos}(xo:XOk X J FT GT fs gs)(xs:XS X N nm)(h1:N[i]?=some x)(h2:vs nm x=true)(h3:okN x=true)(hl:ap.endLine=cp.line)(st:aG y=true)(hb:PE X y (rE X.K J FT GT b)):PE X (.Call (.Attribute (.Name x p) "get" ap) [y] [] cp) (rE X.K J FT GT (.dg i b)):=by
 intro pins s σ H Q I ⟨F,ρ,ev,w⟩;obtain⟨d1,d2,_⟩:=dO h3;obtain⟨l,hs,w⟩:=yz (show dcR ρ[i]? _ from w);obtain⟨v,e,a,rfl,ha⟩:=ev.sl i _ hs;have fo:=pI (e:=y) (es:=[]) (env:=X.env) (cp:=cp) (by rw[cJ,st];rfl) (show 1<20 by decide);refine Gr (apos:=ap) (cpos:=cp) (by have:=xo.units;lia) (kZ (by rw[xs.N];exact h1) (mK xs h2) d1 d2) hb ⟨fu,fo,eV.mpr hl,by rw[aU st];rfl⟩ pins s σ H Q I ?_;show dC i σ H _;unfold dC;rw[e];refine⟨a,fu,.inl ⟨_,.inl ha⟩,F,ρ,ev,av b (λ u w F1 H1 v g r=>?_) w⟩;obtain⟨k,rfl,w⟩:=eI w;cases r;refine⟨_,.inl ⟨_,Sum.inl k,.inl (g.sm _ _ (λ ps z=>by cases z) ha),fu,fu⟩,?_⟩;rw[tM];have w:∀F' H' v,Grow J F H F' H'->Rr X.K H F' H' (match l.lookup k with|some j=>.int j|none=>.non) v->Q v H':=w
 cases el:l.lookup k with
 |none=>rw[el] at w;exact w F1 H1 _ g rfl
 |some j=>rw[el] at w;exact w F1 H1 _ g rfl
def JX(h:PE X e (rE X.K J FT GT c))(he:∀whole,isTrue e X.env whole=(do let v <- whole;standAt e.pos;holding [v] (truthy v))):PT X e (rT X.K J FT GT c) :=
 (BW h he).imp λ σ H Q ⟨F,ρ,ev,w⟩=>⟨F,ρ,ev,av c (λ t w F1 H1 v g r=>by
  obtain⟨b,e,w2⟩:=mF w;subst e;cases r
  exact w2 F1 H1 g) w⟩
def JY{o:CmpOp}(xo:XOk X J FT GT fs gs)(ha:PE X l (rE X.K J FT GT a))(hb:PE X r (rE X.K J FT GT b))(hs:gR r=true):PT X (.Compare l [o] [r] p) (rT X.K J FT GT (.cmp o a b)) :=
 (Do (xX xo.units o) ha hb (yt hs)).imp λ σ H Q ⟨F,ρ,ev,w⟩=>⟨F,ρ,ev,av a (λ x w F1 H1 v g1 r1=>⟨F1,ρ,ev.grow g1,av b (λ y w F2 H2 v2 g2 r2=>⟨F,H,F2,x,y,g1.trans g2,r1.grow g2,r2.late g1,tj (λ z w v r=>by
  obtain⟨b,e,w2⟩:=mF w;subst e;cases r
  exact w2 F2 H2 (g1.trans g2)) w⟩) w⟩) w⟩
def JZ(ha:PT X l (rT X.K J FT GT a)):PT X (.UnaryOp .Not l p) (rT X.K J FT GT (.not a)) :=
 (Ce ha).imp λ σ H Q ⟨F,ρ,ev,w⟩=>⟨F,ρ,ev,av a (λ x w=>cz (λ b w F1 H1 g=>w F1 H1 g) w) w⟩
def yA{l r:Expr}{rest:List Expr}(ha:PT X l (rT X.K J FT GT a))(hb:PW X (.BoolOp .And (r::rest) p) (rT X.K J FT GT b)):PW X (.BoolOp .And (l::r::rest) p) (rT X.K J FT GT (.and a b)):=by
 intro wh pins s σ H Q I q;refine Cb ha hb wh pins s σ H Q I ?_;obtain⟨F,ρ,ev,w⟩:=q;refine⟨F,ρ,ev,av a (λ x w=>cz (λ k w2 F1 H1 g1=>?_) w) w⟩;split at w2
 ·rw[if_pos (by assumption)];exact⟨F1,ρ,ev.grow g1,av b (λ y w=>cz (λ k w F2 H2 g2=>w F2 H2 (g1.trans g2)) w) w2⟩
 ·rw[if_neg (by assumption)];exact w2 F1 H1 g1
def yB{l r:Expr}{rest:List Expr}(ha:PT X l (rT X.K J FT GT a))(hb:PW X (.BoolOp .Or (r::rest) p) (rT X.K J FT GT b)):PW X (.BoolOp .Or (l::r::rest) p) (rT X.K J FT GT (.or a b)):=by
 intro wh pins s σ H Q I q;refine Cc ha hb wh pins s σ H Q I ?_;obtain⟨F,ρ,ev,w⟩:=q;refine⟨F,ρ,ev,av a (λ x w=>cz (λ k w2 F1 H1 g1=>?_) w) w⟩;split at w2
 ·rw[if_pos (by assumption)];exact w2 F1 H1 g1
 ·rw[if_neg (by assumption)];exact⟨F1,ρ,ev.grow g1,av b (λ y w=>cz (λ k w F2 H2 g2=>w F2 H2 (g1.trans g2)) w) w2⟩
def yC{lo:Cd}(h:kD lo=true):PO X none (λ σ H Q=>∃F ρ,EV X.K J F H σ ρ/\wE FT GT lo ρ λ t=>oI t λ o=>∀F' H',Grow J F H F' H'->Q o H'):=by
 intro pins s σ H Q I q;obtain⟨F,ρ,ev,w⟩:=q
 have e:lo=.c .non:=by unfold kD at h;split at h<;>first|rfl|cases h
 subst e;exact DF pins s σ H Q I (w F H (.refl ev.w))
def yD{lo:Cd}(he:PE X e (rE X.K J FT GT lo)):PO X (some e) (λ σ H Q=>∃F ρ,EV X.K J F H σ ρ/\wE FT GT lo ρ λ t=>oI t λ o=>∀F' H',Grow J F H F' H'->Q o H'):=by
 intro pins s σ H Q I q;obtain⟨F,ρ,ev,w⟩:=q;rw[evalPart_some];refine thn (he pins s σ H (λ x H1=>(x=.non/\Q none H1)\/∃i,x=.int i/\Q (some i) H1) I ⟨F,ρ,ev,av lo (λ t w F1 H1 v g r=>?_) w⟩) λ u s1 ⟨x,H1,I1,r1,q1⟩=>?_
 ·cases t with
  |non=>cases r;exact .inl ⟨rfl,w F1 H1 g⟩
  |int i=>cases r;exact .inr ⟨i,rfl,w F1 H1 g⟩
  |_=>exact w.elim
 ·rcases q1 with ⟨rfl,q⟩|⟨i,rfl,q⟩
  ·cases r1;exact⟨none,H1,I1,.none,q⟩
  ·obtain⟨tk,rfl⟩:=r1;exact⟨some i,H1,I1,.int _ _,q⟩
end
def Ka(h:yf c=true):c=.nil:=by cases c<;>first|rfl|exact Bool.noConfusion h
def yE(h:kH e=true):∃es k p,e=.Tuple es k p:=by cases e<;>first|exact⟨_,_,_,rfl⟩|exact Bool.noConfusion h
set_option tactic.hygienic true in
def Kb(h:tsE e=true)(whole:Sem Value):isTrue e env whole=(do let v <- whole;standAt e.pos;holding [v] (truthy v)):=by
 cases e<;>first|rfl|(exact Bool.noConfusion h)|skip
 rename_i op _ _
 cases op<;>first|rfl|exact Bool.noConfusion h
section
variable {fs gs:List Str}
def ju:∀ {r:Cd}{N:List Str}{nm:List (Str×NameKind)}{es:List Expr},ckL fs gs r N nm es=true->es.all aG=true:=λ {r}=>by
 induction r with
 |nil=>intro N nm es h;cases es with|nil=>rfl|cons e es=>exact Bool.noConfusion h
 |cons a r _ ih=>
  intro N nm es h
  cases es with
  |nil=>exact Bool.noConfusion h
  |cons e es=>
   obtain⟨h1,h2⟩:=an h;rw[cJ,(an h1).1,ih h2];rfl
 |_=>intro N nm es h;exact Bool.noConfusion h
def mM(h:ckI fs gs c k tg N nm it=true):gR it=true:=by
 cases c with
 |cons a r=>
  cases k with
  |seq=>exact(an (an h).1).1
  |str=>exact Bool.noConfusion h
  |_=>exact bY h λ _ _ _ _ _=>rfl
 |_=>exact Bool.noConfusion h
end
section
variable {J:Hp->Prop}{FT:List PSp}{GT:List TV}{fs gs:List Str}
structure SA (J:Hp->Prop)(FT:List PSp)(GT:List TV)(fs gs:List Str)(c:Cd):Prop where
 e:∀ {X:Cx}{N:List Str}{nm:List (Str×NameKind)}{e:Expr},XOk X J FT GT fs gs->XS X N nm->ck fs gs c N nm e=true->PE X e (rE X.K J FT GT c)
 l:∀ {X:Cx}{N:List Str}{nm:List (Str×NameKind)}{es:List Expr},XOk X J FT GT fs gs->XS X N nm->ckL fs gs c N nm es=true->PA X es (rA X.K J FT GT c)
 i:∀ {k:IK}{X:Cx}{N:List Str}{nm:List (Str×NameKind)}{tg it:Expr},XOk X J FT GT fs gs->XS X N nm->ckI fs gs c k tg N nm it=true->PI X tg it (rW X.K J FT GT k c)
 t:∀ {X:Cx}{N:List Str}{nm:List (Str×NameKind)}{e:Expr},XOk X J FT GT fs gs->XS X N nm->tB' c e=true->ck fs gs c N nm e=true->PT X e (rT X.K J FT GT c)
 w:∀ {X:Cx}{N:List Str}{nm:List (Str×NameKind)}{op:BoolOp}{es:List Expr}{p:Pos},XOk X J FT GT fs gs->XS X N nm->ck fs gs c N nm (.BoolOp op es p)=true->PW X (.BoolOp op es p) (rT X.K J FT GT c)
noncomputable abbrev EF(J:Hp->Prop)(FT:List PSp)(GT:List TV)(fs gs:List Str)(c:Cd):Prop:=∀ {X:Cx}{N:List Str}{nm:List (Str×NameKind)}{e:Expr},XOk X J FT GT fs gs->XS X N nm->ck fs gs c N nm e=true->PE X e (rE X.K J FT GT c)
def SA.val(E:EF J FT GT fs gs c)(t:∀e,tB' c e=tsE e:=by intro;rfl)(l:∀N nm es,ckL fs gs c N nm es=false:=by intros;rfl)(i:∀k tg N nm it,ckI fs gs c k tg N nm it=false:=by intros;rfl)(w:∀N nm op es p,ck fs gs c N nm (.BoolOp op es p)=false:=by intros;rfl):SA J FT GT fs gs c :=
 ⟨E,λ _ _ h=>by rw[l] at h;exact Bool.noConfusion h,λ _ _ h=>by rw[i] at h;exact Bool.noConfusion h,λ xo xs n h=>JX (E xo xs h) (Kb (by rw[<- t];exact n)),λ _ _ h=>by rw[w] at h;exact Bool.noConfusion h⟩
def SA.tst(E:EF J FT GT fs gs c)(T:∀ {X:Cx}{N:List Str}{nm:List (Str×NameKind)}{e:Expr},XOk X J FT GT fs gs->XS X N nm->ck fs gs c N nm e=true->PT X e (rT X.K J FT GT c))(l:∀N nm es,ckL fs gs c N nm es=false:=by intros;rfl)(i:∀k tg N nm it,ckI fs gs c k tg N nm it=false:=by intros;rfl)(w:∀N nm op es p,ck fs gs c N nm (.BoolOp op es p)=false:=by intros;rfl):SA J FT GT fs gs c :=
 ⟨E,λ _ _ h=>by rw[l] at h;exact Bool.noConfusion h,λ _ _ h=>by rw[i] at h;exact Bool.noConfusion h,λ xo xs _ h=>T xo xs h,λ _ _ h=>by rw[w] at h;exact Bool.noConfusion h⟩
def Kc(h:yg f=true):f=.isI\/f=.isB\/f=.isT\/f=.isL\/f=.isS:=by cases f<;>first|exact Bool.noConfusion h|simp
def sA(J:Hp->Prop)(FT:List PSp)(GT:List TV)(fs gs:List Str)(c:Cd):SA J FT GT fs gs c:=by
 induction c with
 |v i=>exact .val λ xo xs h=>s_v xs h
 |c t=>exact .val λ xo xs h=>s_c h
 |g k=>exact .val λ xo xs h=>s_g xo xs h
 |bin o a b ia ib=>
  refine .val λ {X N nm e} xo xs h=>?_;refine Jj h λ l op r p k1=>?_;obtain⟨g1,g2,g3⟩:=a3 k1;cases ax g1;exact Js xo (ia.e xo xs g2) (ib.e xo xs g3)
 |neg a ia=>
  refine .val λ {X N nm e} xo xs h=>?_;refine yi h λ op x p k1=>?_;cases ax (an k1).1;exact Jw (ia.e xo xs (an k1).2)
 |not a ia=>
  refine .tst (λ {X N nm e} xo xs h=>?_) (λ {X N nm e} xo xs h=>?_)
  all_goals
   refine yi h λ op x p k1=>?_;obtain⟨g1,g2,g3⟩:=a3 k1;cases ax g1
  ·exact Jx (ia.e xo xs g3)
  ·exact JZ (ia.t xo xs g2 g3)
 |cmp o a b ia ib=>
  refine .tst (λ {X N nm e} xo xs h=>?_) (λ {X N nm e} xo xs h=>?_)
  all_goals
   refine Jk h λ l os rs p k1=>?_;refine cB k1 λ op k2=>?_;refine cB k2 λ r k3=>?_;obtain⟨g1,g2,g3,g4⟩:=a4 k3;cases ax g1
  ·exact Ju xo (ia.e xo xs g2) (ib.e xo xs g3) g4
  ·exact JY xo (ia.e xo xs g2) (ib.e xo xs g3) g4
 |and a b ia ib=>
  have W:∀ {X:Cx}{N:List Str}{nm:List (Str×NameKind)}{op:BoolOp}{es:List Expr}{p:Pos},XOk X J FT GT fs gs->XS X N nm->ck fs gs (.and a b) N nm (.BoolOp op es p)=true->PW X (.BoolOp op es p) (rT X.K J FT GT (.and a b)):=by
   intro X N nm op es p xo xs h;obtain⟨g,g'⟩:=an h;cases ax g
   rcases es with _|⟨x,_|⟨y,_|⟨z,r⟩⟩⟩<;>try exact Bool.noConfusion g'
   ·obtain⟨h1,h2,h3,h4⟩:=a4 g';exact yA (ia.t xo xs h1 h3) (BZ (ib.t xo xs h2 h4))
   ·obtain⟨h1,h3,h4⟩:=a3 g';exact yA (ia.t xo xs h1 h3) (ib.w xo xs h4)
  refine⟨λ {X N nm e} xo xs h=>?_,λ _ _ h=>Bool.noConfusion h,λ _ _ h=>Bool.noConfusion h,λ {X N nm e} xo xs n h=>?_,W⟩
  ·refine yk h λ op es p g=>?_;obtain⟨g,g'⟩:=an g;cases ax g
   rcases es with _|⟨x,_|⟨y,_|⟨z,r⟩⟩⟩<;>try exact Bool.noConfusion g'
   ·obtain⟨h1,h2,h3,h4⟩:=a4 g';exact yu (ia.e xo xs h3) (uN (ib.e xo xs h4))
   ·obtain⟨h1,h3,h4⟩:=a3 g';exact yu (ia.e xo xs h3) (ib.e xo xs h4)
  ·obtain⟨op,es,p,rfl,g⟩:=yl h;exact(W xo xs h).pt
 |or a b ia ib=>
  have W:∀ {X:Cx}{N:List Str}{nm:List (Str×NameKind)}{op:BoolOp}{es:List Expr}{p:Pos},XOk X J FT GT fs gs->XS X N nm->ck fs gs (.or a b) N nm (.BoolOp op es p)=true->PW X (.BoolOp op es p) (rT X.K J FT GT (.or a b)):=by
   intro X N nm op es p xo xs h;obtain⟨g,g'⟩:=an h;cases ax g
   rcases es with _|⟨x,_|⟨y,_|⟨z,r⟩⟩⟩<;>try exact Bool.noConfusion g'
   ·obtain⟨h1,h2,h3,h4⟩:=a4 g';exact yB (ia.t xo xs h1 h3) (Ca (ib.t xo xs h2 h4))
   ·obtain⟨h1,h3,h4⟩:=a3 g';exact yB (ia.t xo xs h1 h3) (ib.w xo xs h4)
  refine⟨λ {X N nm e} xo xs h=>?_,λ _ _ h=>Bool.noConfusion h,λ _ _ h=>Bool.noConfusion h,λ {X N nm e} xo xs n h=>?_,W⟩
  ·refine yk h λ op es p g=>?_;obtain⟨g,g'⟩:=an g;cases ax g
   rcases es with _|⟨x,_|⟨y,_|⟨z,r⟩⟩⟩<;>try exact Bool.noConfusion g'
   ·obtain⟨h1,h2,h3,h4⟩:=a4 g';exact yv (ia.e xo xs h3) (uN (ib.e xo xs h4))
   ·obtain⟨h1,h3,h4⟩:=a3 g';exact yv (ia.e xo xs h3) (ib.e xo xs h4)
  ·obtain⟨op,es,p,rfl,g⟩:=yl h;exact(W xo xs h).pt
 |ite c a b ic ia ib=>
  refine .val λ {X N nm e} xo xs h=>?_;refine Jl h λ x y z p k1=>?_;obtain⟨g1,g2,g3,g4⟩:=a4 k1;exact Jy (ic.t xo xs g1 g2) (ia.e xo xs g3) (ib.e xo xs g4)
 |nil=>
  refine⟨λ _ _ h=>Bool.noConfusion h,λ {X N nm es} xo xs h=>?_,λ _ _ h=>Bool.noConfusion h,λ _ _ _ h=>Bool.noConfusion h,λ _ _ h=>Bool.noConfusion h⟩
  cases es with
  |nil=>exact Jz
  |cons e es=>exact Bool.noConfusion h
 |cons a r ia ir=>
  refine⟨λ _ _ h=>Bool.noConfusion h,λ {X N nm es} xo xs h=>?_,λ {k X N nm tg it} xo xs h=>?_,λ _ _ _ h=>Bool.noConfusion h,λ _ _ h=>Bool.noConfusion h⟩
  ·cases es with
   |nil=>exact Bool.noConfusion h
   |cons e es=>
    obtain⟨h1,h3⟩:=an h;obtain⟨h1,h2⟩:=an h1;exact tK (ia.e xo xs h2) (ir.l xo xs h3) h1
  ·have call:∀ {x:Str}{p:Pos}{e:Expr}{es:List Expr}{pos:Pos},decide (ikN k=some (x,es.length))=true->gl nm x=true->(!ikT k || kH tg)=true->aG e=true->ck fs gs a N nm e=true->ckL fs gs r N nm es=true->PI X tg (.Call (.Name x p) (e::es) [] pos) (rW X.K J FT GT k (.cons a r)):=by
    intro x p e es pos h1 h2 h3 h4 h5 h6;have hk:=ax h1;have he:=ia.e xo xs h5;have hr:=ir.l xo xs h6;have st:=ju h6;have g:=glX xs h2
    have n0:es=[]->r=.nil:=λ z=>by subst z;cases r<;>first|rfl|exact Bool.noConfusion h6
    cases k with
    |seq=>cases hk
    |str=>cases hk
    |rng=>
     simp only[ikN,pJ,s0l] at hk;obtain⟨rfl,hk⟩:=hk;cases mh hk.symm;cases n0 rfl;exact JM xo g h4 he
    |rng2=>cases hk
    |rng3=>
     simp only[ikN,pJ,s0l] at hk;obtain⟨rfl,hk⟩:=hk
     match es,hk with
     |[y,z],_=>exact JO xo g h4 (by simp at st;exact st.1) (by simp at st;exact st.2) (tK he hr h4)
    |zip c d=>
     simp only[ikN,pJ,s0l] at hk;obtain⟨rfl,hk⟩:=hk;obtain⟨tes,tk,tp,rfl⟩:=yE (show kH tg=true by simpa [ikT] using h3)
     match es,hk with
     |[y],_=>exact JP xo g h4 (by simpa using st) (tK he hr h4)
    |zip3=>cases hk
    |enum c=>cases hk
    |rev c=>
     cases c<;>try (cases hk;done)
     simp only[ikN,pJ,s0l] at hk;obtain⟨rfl,hk⟩:=hk;cases mh hk.symm;cases n0 rfl;exact JQ xo g h4 he
   have arg:(bX it λ g as w _=>aZ g λ x _=>cC as λ e es=>w.isEmpty&&decide (ikN k=some (x,es.length))&&gl nm x&&(!ikT k || kH tg)&&aG e&&ck fs gs a N nm e&&ckL fs gs r N nm es)=true->PI X tg it (rW X.K J FT GT k (.cons a r)):=λ h=>by
    refine bY h λ g as w pos k1=>?_;refine aT k1 λ x p k2=>?_;refine fg k2 λ e es k3=>?_;obtain⟨g0,g1,g2,g3,g4,g5,g6⟩:=a7 k3;refine bA g0 ?_;exact call g1 g2 g3 g4 g5 g6
   cases k with
   |seq=>
    obtain⟨h1,h3⟩:=an h;cases Ka (an h1).2;exact JK (ia.e xo xs h3)
   |str=>exact Bool.noConfusion h
   |_=>exact arg h
 |tup l il=>
  refine .val λ {X N nm e} xo xs h=>?_;refine kF h λ es _ _ k1=>?_;exact JA xo (il.l xo xs k1)
 |lst l il=>
  refine .val λ {X N nm e} xo xs h=>?_;refine Jm h λ es _ k1=>?_;exact JB xo (il.l xo xs k1)
 |ix a b ia ib=>
  refine .val λ {X N nm e} xo xs h=>?_;refine mG h λ x y p k1=>?_;obtain⟨g1,g2,g3⟩:=a3 k1;exact Jv (ia.e xo xs g2) (ib.e xo xs g3) g1
 |sl a lo hi ia il ih=>
  refine .val λ {X N nm e} xo xs h=>?_;refine mG h λ x y p k1=>?_;refine Jn k1 λ l u st q k2=>?_;obtain⟨g0,g1,g2,g3⟩:=a4 k2;cases jh.mp g0;refine JC xo (ia.e xo xs g1) ?_ ?_
  ·cases l with
   |none=>exact yC g2
   |some l=>exact yD (il.e xo xs (an g2).1)
  ·cases u with
   |none=>exact yC g3
   |some u=>exact yD (ih.e xo xs (an g3).1)
 |call f l il=>
  refine .val λ {X N nm e} xo xs h=>?_;refine bY h λ f' as w pos k1=>?_;refine aT k1 λ x p k2=>?_;refine fg k2 λ a es k3=>?_;obtain⟨g0,g1,g2,g3,g4⟩:=a5 k3;refine bA g0 ?_;have st:=ju g4;rw[cJ,bg] at st;exact JD xo (ax g1) (glX xs g2) (dO g3).1 (il.l xo xs g4) st.1 st.2
 |bi f l il=>
  refine .val λ {X N nm e} xo xs h=>?_;refine bY h λ f' as w pos k1=>?_;refine aT k1 λ x p k2=>?_;refine fg k2 λ a es k3=>?_;obtain⟨g0,g1,g2,g4⟩:=a4 k3;refine bA g0 ?_;have st:=ju g4;rw[cJ,bg] at st;exact JE xo (ax g1) (glX xs g2) (il.l xo xs g4) st.1 st.2
 |isi f a ia=>
  refine .val λ {X N nm e} xo xs h=>?_;refine bY h λ f' as w pos k1=>?_;refine aT k1 λ x p k2=>?_;refine mH k2 λ y u k3=>?_;refine aT k3 λ z _ k4=>?_;obtain⟨g0,g1,g2,g3,g4,g5,g6,g7⟩:=a8 k4;refine bA g0 ?_;cases ax g1;exact JF xo (Kc g3) (ax g4) (glX xs g2) (glX xs g5) g6 (ia.e xo xs g7)
 |mxl a b ia ib=>
  refine .val λ {X N nm e} xo xs h=>?_;refine bY h λ f' as w pos k1=>?_;refine aT k1 λ x p k2=>?_;refine mH k2 λ y z k3=>?_;obtain⟨⟨kx,kv,kp⟩,rfl,k4⟩:=jq k3;obtain⟨u,_,e1,k5⟩:=Ji k4;cases e1;obtain⟨g1,g2,g3,g4,g5,g6,g7,g8,g9⟩:=a9 k5;cases ax g1;cases ax g3;cases ax g4;exact JG xo (glX xs g2) (glX xs g5) g6 g7 (ia.e xo xs g8) (ib.e xo xs g9)
 |trev k a ia=>
  refine .val λ {X N nm e} xo xs h=>?_;refine bY h λ f' as w pos k1=>?_;refine aT k1 λ x p k2=>?_;refine cB k2 λ u k3=>?_;refine bY k3 λ f'' as' w' pos' k4=>?_;refine aT k4 λ y p' k5=>?_;refine cB k5 λ z k6=>?_;obtain⟨g0,g0',g1,g2,g3,g4,g5,g6⟩:=a8 k6;refine bA g0 ?_;refine bA g0' ?_;cases ax g1;cases ax g3;exact JH xo (glX xs g2) (glX xs g4) g5 (ia.e xo xs g6)
 |ss k a ia=>
  refine .val λ {X N nm e} xo xs h=>?_;refine bY h λ f' as w pos k1=>?_;refine aT k1 λ x p k2=>?_;refine cB k2 λ u k3=>?_;refine bY k3 λ f'' as' w' pos' k4=>?_;refine aT k4 λ y p' k5=>?_;refine cB k5 λ z k6=>?_;obtain⟨g0,g0',g1,g2,g3,g4,g5,g6⟩:=a8 k6;refine bA g0 ?_;refine bA g0' ?_;cases ax g1;cases ax g3;exact JJ xo (glX xs g2) (glX xs g4) g5 (ia.e xo xs g6)
 |di i b ib=>
  refine .val λ {X N nm e} xo xs h=>?_;refine mG h λ o y p k1=>?_;refine aT k1 λ x q k2=>?_;obtain⟨g1,g2,g3,g4,g5⟩:=a5 k2;exact JV xo xs (ax g1) g2 g3 g4 (ib.e xo xs g5)
 |dg i b ib=>
  refine .val λ {X N nm e} xo xs h=>?_;refine bY h λ f' as w cp k1=>?_;refine yq k1 λ o name ap k2=>?_;refine aT k2 λ x p k3=>?_;refine cB k3 λ y k4=>?_;obtain⟨g0,g1,g2,g3,g4,g5,g6,g7⟩:=a8 k4;refine bA g0 ?_;cases ax g4;exact JW xo xs (ax g1) g2 g3 (ax g5) g6 (ib.e xo xs g7)
 |lrng k a ia=>
  refine .val λ {X N nm e} xo xs h=>?_;refine bY h λ f' as w pos k1=>?_;refine aT k1 λ x p k2=>?_;refine cB k2 λ u k3=>?_;refine bY k3 λ f'' as' w' pos' k4=>?_;refine aT k4 λ y p' k5=>?_;refine cB k5 λ z k6=>?_;obtain⟨g0,g0',g1,g2,g3,g4,g5,g6⟩:=a8 k6;refine bA (an g0).1 ?_;refine bA g0' ?_;cases ax g1;cases ax g3;exact JI (k:=k) (an g0).2 xo (glX xs g2) (glX xs g4) g5 (ia.e xo xs g6)
 |dk k a ia=>
  refine .val λ {X N nm e} xo xs h=>?_;refine mG h λ o y p k1=>?_;refine aT k1 λ x q k2=>?_;obtain⟨g1,g2,g3,g4,g5⟩:=a5 k2;exact Jr xo xs (ax g1) g2 g3 g4 (ia.e xo xs g5)
 |comp own fv js tg k it e ii ie=>
  refine .val λ {X N nm x} xo xs h=>?_;obtain⟨elt,gn,sc,p,rfl,k1⟩:=pj h;obtain⟨⟨t,iter,ifs,z⟩,rfl,k2⟩:=jq k1;obtain⟨g0,g1,g2,g3,g4,g5,g6⟩:=a7 k2;cases (show ifs=[] from List.isEmpty_iff.mp g0);cases ax g1;exact JR xo xs g2 (ii.i xo xs g3) g4 g5 (mM g3) λ Y yo ys=>ie.e yo ys g6
 |compI own fv js tg k it c e ii ic ie=>
  refine .val λ {X N nm x} xo xs h=>?_;obtain⟨elt,gn,sc,p,rfl,k1⟩:=pj h;obtain⟨⟨t,iter,ifs,z⟩,rfl,k2⟩:=jq k1;obtain⟨cnd,e1,k3⟩:=jq k2;cases e1;obtain⟨g1,g2,g3,g4,g5,g6,g7,g8⟩:=a8 k3;cases ax g1;exact JT xo xs g2 (ii.i xo xs g3) g4 g5 (mM g3) (λ Y yo ys=>ic.t yo ys g6 g7) λ Y yo ys=>ie.e yo ys g8
def sE(c:Cd)(xo:XOk X J FT GT fs gs)(xs:XS X N nm)(h:ck fs gs c N nm e=true):PE X e (rE X.K J FT GT c):=(sA J FT GT fs gs c).e xo xs h
def sL(c:Cd)(xo:XOk X J FT GT fs gs)(xs:XS X N nm)(h:ckL fs gs c N nm es=true):PA X es (rA X.K J FT GT c):=(sA J FT GT fs gs c).l xo xs h
def sI(c:Cd)(k:IK)(xo:XOk X J FT GT fs gs)(xs:XS X N nm)(h:ckI fs gs c k tg N nm it=true):PI X tg it (rW X.K J FT GT k c):=(sA J FT GT fs gs c).i xo xs h
def sT(c:Cd)(xo:XOk X J FT GT fs gs)(xs:XS X N nm)(n:tB' c e=true)(h:ck fs gs c N nm e=true):PT X e (rT X.K J FT GT c):=(sA J FT GT fs gs c).t xo xs n h
end
inductive MM where
 |append|insert|extend (t:Bool)|pop
 deriving DecidableEq
inductive Ct where
 |nil|never|ret (c:Cd)|doc (r:Ct)
 |set (i:Nat) (c:Cd) (r:Ct)|sets (is:List Nat) (c:Cd) (r:Ct)|fz (i:Nat) (r:Ct)|ex (c:Cd) (r:Ct)|sd (i:Nat) (c:Cd) (r:Ct)
 |met (m:MM) (i:Nat) (l:Cd) (r:Ct)|put (i:Nat) (c d:Cd) (r:Ct)
 |ite (c:Cd) (a b r:Ct)|«for» (tg:List Nat) (k:IK) (it:Cd) (b r:Ct)
noncomputable def fzS(ρ:En)(i:Nat):En:=match ρ[i]? with|some (some (.own l))=>ρ.set i (some (.lst l))|_=>ρ
def fzC:Cd->En->En
 |.v i,ρ=>fzS ρ i
 |_,ρ=>ρ
def fzV:Cd->En->En
 |.cons a r,ρ=>fzV r (fzC a ρ)
 |_,ρ=>ρ
noncomputable def itF(b:TV->En->(En->Prop)->Prop):List TV->En->(En->Prop)->Prop
 |[],ρ,K=>K ρ
 |t::r,ρ,K=>b t ρ λ ρ'=>itF b r ρ' K
noncomputable def iK(s:Option (Option TV))(P:List TV->Prop):Prop:=match s with|some (some (.own l))=>P l|_=>False
noncomputable def mtP(m:MM)(l:List TV)(ts:List TV)(K:TV->List TV->Prop):Prop:=match m,ts with
 |.append,[t]=>t.nb=true/\l.length<sizeLine/\K .non (l++[t.fz])
 |.insert,[u,t]=>i1 u λ i=>t.nb=true/\(0<=i/\i<=l.length)/\l.length<sizeLine/\K .non (l.take i.toNat++t.fz::l.drop i.toNat)
 |.extend b,[t]=>t.nb=true/\k1 b t λ m=>l.length+m.length<=sizeLine/\K .non (l++m)
 |.pop,[]=>∃y,l[l.length-1]?=some y/\K y l.dropLast
 |.pop,[u]=>i1 u λ i=>(-(2 ^ 63)<=i/\i<2 ^ 63)/\∃k y,seqIndex? i l.length=some k/\l[k]?=some y/\K y (l.eraseIdx k)
 |_,_=>False
section
variable (FT:List PSp)(GT:List TV)
noncomputable def wS:Ct->En->(En->Prop)->(TV->Prop)->Prop
 |.nil,ρ,nx,_=>nx ρ
 |.never,_,_,_=>False
 |.ret c,ρ,_,rt=>wE FT GT c (fzC c ρ) λ t=>t.nb=true/\rt t.fz
 |.set i c r,ρ,nx,rt=>wE FT GT c (fzC c ρ) λ t=>t.nb=true/\wS r ((fzC c ρ).set i (some t)) nx rt
 |.sd i c r,ρ,nx,rt=>wE FT GT c ρ λ t=>dcQ t λ u=>wS r (ρ.set i (some u)) nx rt
 |.sets is c r,ρ,nx,rt=>wE FT GT c ρ λ t=>(match t with|.tup _=>stE ρ is t λ ρ'=>wS r ρ' nx rt|_=>False)
 |.fz i r,ρ,nx,rt=>wS r (fzS ρ i) nx rt
 |.doc r,ρ,nx,rt=>wS r ρ nx rt
 |.ex c r,ρ,nx,rt=>wE FT GT c ρ λ _=>wS r ρ nx rt
 |.met m i l r,ρ,nx,rt=>iK (fzV l ρ)[i]? λ xs=>wL FT GT l (fzV l ρ) λ ts=>mtP m xs ts λ _ ys=>wS r ((fzV l ρ).set i (some (.own ys))) nx rt
 |.put i c d r,ρ,nx,rt=>iK (fzC d ρ)[i]? λ xs=>wE FT GT d (fzC d ρ) λ t=>t.nb=true/\wE FT GT c (fzC d ρ) λ u=>i1 u λ k=>∃n,ixN xs.length k=some n/\wS r ((fzC d ρ).set i (some (.own (xs.set n t.fz)))) nx rt
 |.ite c a b r,ρ,nx,rt=>wE FT GT c ρ λ t=>b1 t λ k=>if k=true then wS a ρ (λ ρ'=>wS r ρ' nx rt) rt else wS b ρ (λ ρ'=>wS r ρ' nx rt) rt
 |.for tg k it b r,ρ,nx,rt=>wL FT GT it (fzV it ρ) λ ts=>ts.all TV.nb=true/\itP k ts λ its=>itF (λ t ρ K=>stE ρ tg t λ ρ'=>wS b ρ' K rt) its (fzV it ρ) λ ρ'=>wS r ρ' nx rt
end
def tN{P P':List TV->Prop}(h:∀l,P l->P' l)(q:iK s P):iK s P':=by
 unfold iK at *;split at q
 ·exact h _ q
 ·exact q.elim
def pK(q:iK s P):∃l,s=some (some (.own l))/\P l:=by
 unfold iK at q;split at q
 ·exact⟨_,fu,q⟩
 ·exact q.elim
def yF{K K':TV->List TV->Prop}(h:∀y ys,K y ys->K' y ys)(q:mtP m l ts K):mtP m l ts K':=by
 rcases ts with _|⟨t,_|⟨u,_|⟨w,r⟩⟩⟩
 ·cases m with
  |pop=>obtain⟨y,e,q⟩:=q;exact⟨y,e,h _ _ q⟩
  |_=>exact q.elim
 ·cases m with
  |append=>exact⟨q.1,q.2.1,h _ _ q.2.2⟩
  |extend b=>exact⟨q.1,gO (λ m q=>⟨q.1,h _ _ q.2⟩) q.2⟩
  |pop=>exact dN (λ i ⟨c,k,y,e,f,q⟩=>⟨c,k,y,e,f,h _ _ q⟩) q
  |_=>exact q.elim
 ·cases m with
  |insert=>exact dN (λ i ⟨a,b,c,q⟩=>⟨a,b,c,h _ _ q⟩) q
  |_=>exact q.elim
 ·cases m<;>exact q.elim
section
variable {FT:List PSp}{GT:List TV}
theorem bL:∀(c:Ct) {ρ:En}{nx nx':En->Prop}{rt rt':TV->Prop},(∀ρ,nx ρ->nx' ρ)->(∀t,rt t->rt' t)->wS FT GT c ρ nx rt->wS FT GT c ρ nx' rt'
 |.nil,_,_,_,_,_,h,_,q=>h _ q
 |.never,_,_,_,_,_,_,_,q=>q.elim
 |.ret c,_,_,_,_,_,_,g,q=>av c (λ t q=>⟨q.1,g _ q.2⟩) q
 |.set i c r,_,_,_,_,_,h,g,q=>av c (λ t q=>⟨q.1,bL r h g q.2⟩) q
 |.sd i c r,_,_,_,_,_,h,g,q=>av c (λ t q=>IF (λ u q=>bL r h g q) q) q
 | .sets is c r,_,_,_,_,_,h,g,q=>av c (λ t q=>by
   cases t with
   |tup l=>exact fc (λ ρ' q=>bL r h g q) q
   |_=>exact q.elim) q
 |.fz i r,ρ,nx,_,rt,_,h,g,q=>bL r h g (show wS FT GT r (fzS ρ i) nx rt from q)
 |.doc r,ρ,nx,_,rt,_,h,g,q=>bL r h g (show wS FT GT r ρ nx rt from q)
 |.ex c r,_,_,_,_,_,h,g,q=>av c (λ t q=>bL r h g q) q
 |.met m i l r,_,_,_,_,_,h,g,q=>tN (λ xs q=>bP l (λ ts q=>yF (λ y ys q=>bL r h g q) q) q) q
 |.put i c d r,_,_,_,_,_,h,g,q=>tN (λ xs q=>av d (λ t q=>⟨q.1,av c (λ u q=>dN (λ k ⟨n,e,q⟩=>⟨n,e,bL r h g q⟩) q) q.2⟩) q) q
 | .ite c a b r,_,_,_,_,_,h,g,q=>av c (λ t q=>cz (λ k q=>by
   split at q
   ·rw[if_pos (by assumption)];exact bL a (λ ρ q=>bL r h g q) g q
   ·rw[if_neg (by assumption)];exact bL b (λ ρ q=>bL r h g q) g q) q) q
 |.for tg k it b r,_,nx,nx',rt,rt',h,g,q=>by
   refine bP it (λ ts q=>⟨q.1,iG (λ its q=>?_) q.2⟩) q
   have e:∀(l:List TV) (ρ:En),itF (λ t ρ K=>stE ρ tg t λ ρ'=>wS FT GT b ρ' K rt) l ρ (λ ρ'=>wS FT GT r ρ' nx rt)->itF (λ t ρ K=>stE ρ tg t λ ρ'=>wS FT GT b ρ' K rt') l ρ (λ ρ'=>wS FT GT r ρ' nx' rt'):=by
    intro l
    induction l with
    |nil=>intro ρ q;exact bL r h g q
    |cons t l ih=>
     intro ρ q;have q:stE ρ tg t λ ρ'=>wS FT GT b ρ' (λ ρ''=>itF (λ t ρ K=>stE ρ tg t λ ρ'=>wS FT GT b ρ' K rt) l ρ'' λ ρ'=>wS FT GT r ρ' nx rt) rt:=q;exact fc (λ ρ' q=>bL b (λ ρ'' q=>ih ρ'' q) g q) q
   exact e _ _ q
end
structure ER (K:FG)(J:Hp->Prop)(F0:Fz)(H0:Hp)(PN:List (TV×V))(F:Fz)(H:Hp)(σ:St)(ρ:En):Prop where
 ev:EV K J F H σ ρ
 gr:Grow J F0 H0 F H
 nb:∀(i:Nat) l a,ρ[i]?=some (some (.own l))->σ[i]?=some (some (.ref a))->H0 a=none
 di:∀(i k:Nat) l l' v,ρ[i]?=some (some (.own l))->ρ[k]?=some (some (.own l'))->σ[i]?=some (some v)->σ[k]?=some (some v)->i=k
 pn:∀p∈PN,Rp K F H p.1 p.2
section
variable {K:FG}{J:Hp->Prop}{F0 F F':Fz}{H0 H H':Hp}{σ:St}{ρ:En}{PN:List (TV×V)}
def ER.grow(e:ER K J F0 H0 PN F H σ ρ)(g:Grow J F H F' H'):ER K J F0 H0 PN F' H' σ ρ:=⟨e.ev.grow g,e.gr.trans g,e.nb,e.di,λ p hp=>(e.pn p hp).ke g.ke⟩
def du{ρ:En}{i j:Nat}(h:(ρ.set i (some t))[j]?=some (some (.own l))):(i=j/\t=.own l)\/(i≠j/\ρ[j]?=some (some (.own l))):=by
 rw[dq] at h;split at h
 ·rename_i c;split at h
  ·cases h;exact .inl ⟨c,rfl⟩
  ·cases h
 ·rename_i c;exact .inr ⟨c,h⟩
def dP{σ:St}{i j:Nat}(n:i≠j):(σ.set i v)[j]?=σ[j]?:=by rw[dq,if_neg n]
def ER.set{i:Nat}(e:ER K J F0 H0 PN F H σ ρ)(h:Rp K F H t v)(hi:i<σ.length):ER K J F0 H0 PN F H (σ.set i (some v)) (ρ.set i (some t)):=by
 have no:∀l,t≠.own l:=λ l z=>by subst z;exact h.elim
 refine⟨e.ev.set h hi,e.gr,λ j l a h1 h2=>?_,λ j k l l' w h1 h2 h3 h4=>?_,e.pn⟩
 ·rcases du h1 with ⟨_,z⟩|⟨n,z⟩
  ·exact absurd z (no l)
  ·rw[dP n] at h2;exact e.nb j l a z h2
 ·rcases du h1 with ⟨_,z⟩|⟨n,z⟩
  ·exact absurd z (no l)
  ·rcases du h2 with ⟨_,z'⟩|⟨n',z'⟩
   ·exact absurd z' (no l')
   ·rw[dP n] at h3;rw[dP n'] at h4;exact e.di j k l l' w z z' h3 h4
def ER.setD{i:Nat}(e:ER K J F0 H0 PN F H σ ρ)(h:H a=some (dcO l))(hi:i<σ.length):ER K J F0 H0 PN F H (σ.set i (some (.ref a))) (ρ.set i (some (.dct l))):=by
 refine⟨⟨e.ev.w,λ j t hj=>?_⟩,e.gr,λ j l' a h1 h2=>?_,λ j k l1 l' w h1 h2 h3 h4=>?_,e.pn⟩
 ·rw[dq] at hj;split at hj
  ·rename_i c;subst c;split at hj
   ·cases hj;exact⟨.ref a,by rw[dq];simp[hi],a,fu,h⟩
   ·cases hj
  ·rename_i c;obtain⟨w,e1,z⟩:=e.ev.sl j t hj;exact⟨w,by rw[dP c];exact e1,z⟩
 ·rcases du h1 with ⟨_,z⟩|⟨n,z⟩
  ·cases z
  ·rw[dP n] at h2;exact e.nb j l' a z h2
 ·rcases du h1 with ⟨_,z⟩|⟨n,z⟩
  ·cases z
  ·rcases du h2 with ⟨_,z'⟩|⟨n',z'⟩
   ·cases z'
   ·rw[dP n] at h3;rw[dP n'] at h4;exact e.di j k l1 l' w z z' h3 h4
theorem yG{K:FG}:∀ {ps:List (Int×Int)}{vs:List V},RpL K F H (ps.map λ q=>.tup [.int q.1,.int q.2]) vs->Paired (λ(r:V) (q:Int×Int)=>∃c,r=.ref c/\SqT K H c [.int q.1,.int q.2]) vs ps
 |[],_,h=>by cases h;exact .nil
 |_::_,_,⟨v,r,e,⟨a,ws,e1,sq,⟨x,w1,e2,e3,⟨y,w2,e4,e5,e6⟩⟩⟩,h2⟩=>by
  subst e;refine .cons ⟨a,e1,?_⟩ (yG h2);cases e3;cases e5;cases e6;subst e4;subst e2;exact sq
def ER.own{i:Nat}(e:ER K J F0 H0 PN F H σ ρ)(g:Grow J F H F' H')(h:Rr K H F' H' (.own l) v)(hi:i<σ.length):ER K J F0 H0 PN F' H' (σ.set i (some v)) (ρ.set i (some (.own l))):=by
 obtain⟨a,vs,rfl,na,nf,q,r⟩:=h;have na0:H0 a=none:=e.gr.none na
 have old:∀(j:Nat) l',ρ[j]?=some (some (.own l'))->σ[j]?≠some (some (.ref a)):=λ j l' h1 h2=>by
  obtain⟨v,e1,b,ws,rfl,_,qb,_⟩:=e.ev.sl j _ h1;rw[h2] at e1;cases e1;rw[na] at qb;cases qb
 have eg:=e.grow g;refine⟨⟨eg.ev.w,λ j t hj=>?_⟩,eg.gr,λ j l' b h1 h2=>?_,λ j k l1 l2 w h1 h2 h3 h4=>?_,eg.pn⟩
 ·rw[dq] at hj;split at hj
  ·rename_i c;subst c;split at hj
   ·cases hj;exact⟨.ref a,by rw[dq];simp[hi],a,vs,fu,nf,q,r⟩
   ·cases hj
  ·rename_i c;obtain⟨w,e1,z⟩:=eg.ev.sl j t hj;exact⟨w,by rw[dP c];exact e1,z⟩
 ·rcases du h1 with ⟨rfl,_⟩|⟨n,z⟩
  ·rw[dq] at h2;simp[hi] at h2;subst h2;exact na0
  ·rw[dP n] at h2;exact e.nb j l' b z h2
 ·rcases du h1 with ⟨rfl,_⟩|⟨n,z⟩
  ·rcases du h2 with ⟨rfl,_⟩|⟨n',z'⟩
   ·rfl
   ·rw[dq] at h3;simp[hi] at h3;subst h3;rw[dP n'] at h4;exact absurd h4 (old k l2 z')
  ·rcases du h2 with ⟨rfl,_⟩|⟨n',z'⟩
   ·rw[dq] at h4;simp[hi] at h4;subst h4;rw[dP n] at h3;exact absurd h3 (old j l1 z)
   ·rw[dP n] at h3;rw[dP n'] at h4;exact e.di j k l1 l2 w z z' h3 h4
set_option tactic.hygienic true in
def ER.fz(e:ER K J F0 H0 PN F H σ ρ)(i:Nat):∃F',ER K J F0 H0 PN F' H σ (fzS ρ i)/\∀a,F a->F' a:=by
 unfold fzS;split
 ·rename_i l hl;obtain⟨v,ev,a,vs,rfl,nf,q,r⟩:=e.ev.sl i _ hl;have na:H0 a=none:=e.nb i l a hl ev;have up:Ke K F H (λ b=>F b\/b=a) H:=.up λ _ f=>.inl f;have ilt:i<σ.length:=(br.mp ev).1;refine⟨λ b=>F b\/b=a,⟨⟨⟨e.ev.w.j,λ b f=>?_⟩,λ j t hj=>?_⟩,e.gr.frz na (by rw[q];simp),λ j l' b h1 h2=>?_,λ j k l1 l2 w h1 h2 h3 h4=>?_,λ p hp=>(e.pn p hp).ke up⟩,λ _ f=>.inl f⟩
  ·rcases f with f|rfl
   ·exact e.ev.w.d b f
   ·rw[q];simp
  ·rw[dq] at hj;split at hj
   ·rename_i c;subst c;split at hj
    ·cases hj;exact⟨.ref a,ev,a,vs,rfl,.inl ⟨.inr rfl,.of q⟩,r.ke up⟩
    ·cases hj
   ·rename_i c;obtain⟨w,e1,z⟩:=e.ev.sl j t hj;refine⟨w,e1,?_⟩
    cases t with
    |own l'=>
     obtain⟨b,ws,rfl,nf',q',r'⟩:=z;refine⟨b,ws,fu,λ z=>?_,q',r'.ke up⟩
     rcases z with z|z
     ·exact nf' z
     ·subst z;exact c (e.di i j l l' _ hl hj ev e1)
    |dct l'=>exact z
    |_=>exact Rp.ke up z
  ·rcases du h1 with ⟨_,z⟩|⟨n,z⟩
   ·cases z
   ·exact e.nb j l' b z h2
  ·rcases du h1 with ⟨_,z⟩|⟨n,z⟩
   ·cases z
   ·rcases du h2 with ⟨_,z'⟩|⟨n',z'⟩
    ·cases z'
    ·exact e.di j k l1 l2 w z z' h3 h4
 ·exact⟨F,e,λ _ f=>f⟩
def ER.fzC(e:ER K J F0 H0 PN F H σ ρ)(c:Cd):∃F',ER K J F0 H0 PN F' H σ (fzC c ρ)/\∀a,F a->F' a:=by
 cases c<;>first|exact e.fz _|exact⟨F,e,λ _ f=>f⟩
def ER.fzV(c:Cd):∀ {F:Fz}{ρ:En},ER K J F0 H0 PN F H σ ρ->∃F',ER K J F0 H0 PN F' H σ (fzV c ρ)/\∀a,F a->F' a:=by
 induction c with
 |cons a r _ ih=>
  intro F ρ e;obtain⟨F1,e1,u1⟩:=e.fzC a;obtain⟨F2,e2,u2⟩:=ih e1;exact⟨F2,e2,λ b f=>u2 b (u1 b f)⟩
 |_=>intro F ρ e;exact⟨F,e,λ _ f=>f⟩
def ER.mut(hJ:JS J){i:Nat}(e:ER K J F0 H0 PN F H σ ρ)(h:ρ[i]?=some (some (.own l)))(hs:σ[i]?=some (some (.ref a)))(r:RpL K F H l' ws):ER K J F0 H0 PN F (upd H a (.lst ws)) σ (ρ.set i (some (.own l')))/\Ke K F H F (upd H a (.lst ws)):=by
 obtain⟨v,ev,b,vs,rfl,nf,q,_⟩:=e.ev.sl i _ h;rw[hs] at ev;cases ev;have na:H0 a=none:=e.nb i l a h hs
 have dom:∀b,H b≠none->upd H a (.lst ws) b≠none:=λ b hb=>by
  by_cases c:b=a
  ·subst c;rw[cT];simp
  ·rw[aF c];exact hb
 have rd:∀b u,(∀vs,u≠.lst vs)->Rd H b u->Rd (upd H a (.lst ws)) b u:=λ b u n h=>by
  rcases h with h|⟨o,h⟩
  ·exact .inl (by rw[aF (λ z=>by subst z;rw[q] at h;cases h;exact n _ rfl)];exact h)
  ·exact .inr ⟨o,by rw[aF (λ z=>by subst z;rw[q] at h;cases h)];exact h⟩
 have ke:Ke K F H F (upd H a (.lst ws)):=⟨λ b vs h=>by
  rcases h with h|h
  ·exact .inl (rd _ _ (λ _ z=>by cases z) h)
  ·exact .inr h,λ b vs h=>h.imp λ f h=>⟨f,by
  have ba:b≠a:=λ z=>by subst z;exact nf f
  rcases h with h|h
  ·refine .inl ?_
   rcases h with h|⟨o,h⟩
   ·exact .inl (by rw[aF ba];exact h)
   ·exact .inr ⟨o,by rw[aF ba];exact h⟩
  ·exact .inr h⟩⟩
 have ilt:i<ρ.length:=(br.mp h).1;refine⟨⟨⟨⟨hJ.mu H a vs ws q e.ev.w.j,λ b f=>dom b (e.ev.w.d b f)⟩,λ j t hj=>?_⟩,⟨λ b o n hb=>?_,λ b hb=>dom b (e.gr.dm b hb),e.gr.up,e.gr.nw,hJ.mu H a vs ws q e.ev.w.j,λ b f=>dom b (e.ev.w.d b f)⟩,λ j l1 b h1 h2=>?_,λ j k l1 l2 w h1 h2 h3 h4=>?_,λ p hp=>(e.pn p hp).ke ke⟩,ke⟩
 ·rw[dq] at hj;split at hj
  ·rename_i c;subst c;cases hj;exact⟨.ref a,hs,a,ws,fu,nf,cT,r.ke ke⟩
  ·rename_i c;obtain⟨w,e1,z⟩:=e.ev.sl j t hj;refine⟨w,e1,?_⟩
   cases t with
   |own l1=>
    obtain⟨b,us,rfl,nf',q',r'⟩:=z;have ba:b≠a:=λ z=>by subst z;exact c (e.di i j l l1 _ h hj hs e1)
    exact⟨b,us,fu,nf',by rw[aF ba];exact q',r'.ke ke⟩
   |dct l'=>obtain⟨b,e2,q'⟩:=z;exact⟨b,e2,by rw[aF (λ z=>by subst z;rw[q] at q';cases q')];exact q'⟩
   |_=>exact Rp.ke ke z
 ·rw[aF (λ z=>by subst z;rw[na] at hb;cases hb)];exact e.gr.sm b o n hb
 ·rcases du h1 with ⟨rfl,_⟩|⟨n,z⟩
  ·rw[hs] at h2;cases h2;exact na
  ·exact e.nb j l1 b z h2
 ·have f:∀(j:Nat) (l:List TV),(ρ.set i (some (TV.own l')))[j]?=some (some (TV.own l))->∃l,ρ[j]?=some (some (TV.own l)):=λ j l1 h1=>by
   rcases du h1 with ⟨rfl,_⟩|⟨n,z⟩
   ·exact⟨l,h⟩
   ·exact⟨l1,z⟩
  obtain⟨m1,z1⟩:=f j l1 h1;obtain⟨m2,z2⟩:=f k l2 h2;exact e.di j k m1 m2 w z1 z2 h3 h4
end
noncomputable def mmN:MM->Str
 |.append=> "append" |.insert=> "insert" |.extend _=> "__name__" |.pop=> "pop"
noncomputable def plE:Expr->Bool
 |.ListComp ..=>false|.SetComp ..=>false|.DictComp ..=>false|.Tuple ..=>false|.List ..=>false|_=>true
noncomputable def lcl(N:List Str)(nm:List (Str×NameKind))(i:Nat)(x:Str):Bool:=decide (N[i]?=some x)&&(decide (nm.lookup x=some .local) || decide (nm.lookup x=some .cell))
noncomputable def ckM(fs gs:List Str)(N:List Str)(nm:List (Str×NameKind))(m:MM)(i:Nat)(l:Cd)(e:Expr):Bool:=bX e λ g es w cp=>tE g λ o name ap=>aZ o λ x _=>w.isEmpty&&decide (N[i]?=some x)&&vs nm x&&okN x&&decide (name=mmN m)&&decide (name ≠ "__name__" /\ ap.endLine=cp.line/\es.length<20)&&ckL fs gs l N nm es
def yH:Const->Bool
 |.str _=>true|_=>false
noncomputable def qAs(l:List Stmt)(k:List Expr->Expr->Pos->List Stmt->Bool):Bool:=match l with|.Assign x p q::l=>k x p q l|_=>false
@[elab_as_elim] theorem iL{motive:List Stmt->Prop}{l:List Stmt}{k:List Expr->Expr->Pos->List Stmt->Bool}(h:qAs l k=true)(f:∀x p q t,k x p q t=true->motive (.Assign x p q::t)):motive l:=by
 cases l with
 |nil=>exact Bool.noConfusion h
 |cons a t=>cases a<;>first|exact f _ _ _ _ h|exact Bool.noConfusion h
noncomputable def qRe(l:List Stmt)(k:Option Expr->Pos->List Stmt->Bool):Bool:=match l with|.Return x p::l=>k x p l|_=>false
@[elab_as_elim] theorem pL{motive:List Stmt->Prop}{l:List Stmt}{k:Option Expr->Pos->List Stmt->Bool}(h:qRe l k=true)(f:∀x p t,k x p t=true->motive (.Return x p::t)):motive l:=by
 cases l with
 |nil=>exact Bool.noConfusion h
 |cons a t=>cases a<;>first|exact f _ _ _ h|exact Bool.noConfusion h
noncomputable def qEx(l:List Stmt)(k:Expr->Pos->List Stmt->Bool):Bool:=match l with|.Expr x p::l=>k x p l|_=>false
@[elab_as_elim] theorem mO{motive:List Stmt->Prop}{l:List Stmt}{k:Expr->Pos->List Stmt->Bool}(h:qEx l k=true)(f:∀x p t,k x p t=true->motive (.Expr x p::t)):motive l:=by
 cases l with
 |nil=>exact Bool.noConfusion h
 |cons a t=>cases a<;>first|exact f _ _ _ h|exact Bool.noConfusion h
noncomputable def qIf(l:List Stmt)(k:Expr->List Stmt->List Stmt->Pos->List Stmt->Bool):Bool:=match l with|.If x p q r::l=>k x p q r l|_=>false
@[elab_as_elim] theorem yI{motive:List Stmt->Prop}{l:List Stmt}{k:Expr->List Stmt->List Stmt->Pos->List Stmt->Bool}(h:qIf l k=true)(f:∀x p q r t,k x p q r t=true->motive (.If x p q r::t)):motive l:=by
 cases l with
 |nil=>exact Bool.noConfusion h
 |cons a t=>cases a<;>first|exact f _ _ _ _ _ h|exact Bool.noConfusion h
noncomputable def qFo(l:List Stmt)(k:Expr->Expr->List Stmt->List Stmt->Pos->List Stmt->Bool):Bool:=match l with|.For x p q r s::l=>k x p q r s l|_=>false
@[elab_as_elim] theorem Kd{motive:List Stmt->Prop}{l:List Stmt}{k:Expr->Expr->List Stmt->List Stmt->Pos->List Stmt->Bool}(h:qFo l k=true)(f:∀x p q r s t,k x p q r s t=true->motive (.For x p q r s::t)):motive l:=by
 cases l with
 |nil=>exact Bool.noConfusion h
 |cons a t=>cases a<;>first|exact f _ _ _ _ _ _ h|exact Bool.noConfusion h
noncomputable def qWh(l:List Stmt)(k:Expr->List Stmt->List Stmt->Pos->List Stmt->Bool):Bool:=match l with|.While x p q r::l=>k x p q r l|_=>false
@[elab_as_elim] theorem Ph{motive:List Stmt->Prop}{l:List Stmt}{k:Expr->List Stmt->List Stmt->Pos->List Stmt->Bool}(h:qWh l k=true)(f:∀x p q r t,k x p q r t=true->motive (.While x p q r::t)):motive l:=by
 cases l with
 |nil=>exact Bool.noConfusion h
 |cons a t=>cases a<;>first|exact f _ _ _ _ _ h|exact Bool.noConfusion h
noncomputable def qTr(l:List Stmt)(k:List Stmt->List ExceptHandler->List Stmt->List Stmt->Pos->List Stmt->Bool):Bool:=match l with|.Try x p q r s::l=>k x p q r s l|_=>false
def Kf(h:qTr l k=true):∃x p q r s t,l=.Try x p q r s::t/\k x p q r s t=true:=by
 cases l with
 |nil=>exact Bool.noConfusion h
 |cons a t=>cases a<;>first|exact⟨_,_,_,_,_,_,rfl,h⟩|exact Bool.noConfusion h
section
variable (fs gs:List Str)(N:List Str)(nm:List (Str×NameKind))
noncomputable def bM:Bool->Ct->List Stmt->Bool
 |_,.nil,sts=>sts.isEmpty
 |_,.never,_=>true
 |_,.ret c,sts=>qRe sts λ e _ _=>(match e with|some e=>ck fs gs c N nm e|none=>false)
 |lp,.set i c r,sts=>qAs sts λ ts e _ rest=>c1 ts λ t=>aZ t λ x _=>lcl N nm i x&&ck fs gs c N nm e&&bM lp r rest
 |lp,.sd i c r,sts=>qAs sts λ ts e _ rest=>c1 ts λ t=>aZ t λ x _=>bX e λ g as w _=>aZ g λ u _=>c1 as λ z=>lcl N nm i x&&w.isEmpty&&decide (u="dict")&&gl nm u&&aG z&&ck fs gs c N nm z&&bM lp r rest
 |lp,.sets is c r,sts=>qAs sts λ ts e _ rest=>c1 ts λ tg=>ckT true N nm is tg&&kH tg&&plE e&&ck fs gs c N nm e&&bM lp r rest
 |lp,.fz _ r,sts=>bM lp r sts
 |lp,.doc r,sts=>qEx sts λ e _ rest=>jp e λ k _ _=>yH k&&bM lp r rest
 |lp,.ex c r,sts=>qEx sts λ e _ rest=>plE e&&ck fs gs c N nm e&&bM lp r rest
 |lp,.met m i l r,sts=>qEx sts λ e _ rest=>ckM fs gs N nm m i l e&&bM lp r rest
 |lp,.put i c d r,sts=>qAs sts λ ts e _ rest=>c1 ts λ t=>kG t λ o y _=>aZ o λ x _=>decide (N[i]?=some x)&&vs nm x&&okN x&&gT y&&ck fs gs c N nm y&&ck fs gs d N nm e&&bM lp r rest
 |lp,.ite c a b r,sts=>qIf sts λ t x y _ rest=>tB' c t&&ck fs gs c N nm t&&bM lp a x&&bM lp b y&&bM lp r rest
 |lp,.for tg k it b r,sts=>qFo sts λ t iter body els _ rest=>els.isEmpty&&lp&&ckT true N nm tg t&&ckI fs gs it k t N nm iter&&bM lp b body&&bM lp r rest
end
section
variable {J:Hp->Prop}{FT:List PSp}{GT:List TV}{fs gs:List Str}{N:List Str}{nm:List (Str×NameKind)}{F0:Fz}{H0:Hp}{PN:List (TV×V)}
def PS.imp{st:Stmt}{t t':TS}(h:PS X st t)(i:∀D σ H,t' D σ H->t D σ H):PS X st t':=λ pins s σ H D I q=>h pins s σ H D I (i D σ H q)
def PSs.imp{st:List Stmt}{t t':TS}(h:PSs X st t)(i:∀D σ H,t' D σ H->t D σ H):PSs X st t':=λ pins s σ H D I q=>h pins s σ H D I (i D σ H q)
noncomputable def nxR(K:FG)(J:Hp->Prop)(F0:Fz)(H0:Hp)(PN:List (TV×V))(n:Nat)(P:St->Hp->Prop)(ρ:En):Prop:=∀F' H' σ',ER K J F0 H0 PN F' H' σ' ρ->σ'.length=n->P σ' H'
noncomputable def rtR(K:FG)(J:Hp->Prop)(F0:Fz)(H0:Hp)(P:VK)(t:TV):Prop:=∀F' H' v,Grow J F0 H0 F' H'->Rp K F' H' t v->P v H'
noncomputable def rS(K:FG)(J:Hp->Prop)(FT:List PSp)(GT:List TV)(n:Nat)(F0:Fz)(H0:Hp)(PN:List (TV×V))(c:Ct):TS:=λ D σ H=>∃F ρ,ER K J F0 H0 PN F H σ ρ/\σ.length=n/\wS FT GT c ρ (nxR K J F0 H0 PN n D.nx) (rtR K J F0 H0 D.rt)
def ER.rr{K:FG}{i:Nat}(e:ER K J F0 H0 PN F H σ ρ)(g:Grow J F H F' H')(h:Rr K H F' H' t v)(nb:t.nb=true)(hi:i<σ.length):ER K J F0 H0 PN F' H' (σ.set i (some v)) (ρ.set i (some t)):=by
 cases t with
 |own l=>exact e.own g h hi
 |bor l=>cases nb
 |_=>exact(e.grow g).set h hi
def kL{x:Str}(xs:XS X N nm)(hf:∀x,X.env.scope.names.lookup x=some .cell->X.fn x=true)(h:lcl N nm i x=true):X.N[i]?=some x/\Loc X.env.scope x/\(X.fn x=true\/X.env.scope.names.lookup x=some .local)/\i<N.length:=by
 unfold lcl at h;rw[bg,jg] at h;have e:=ax h.1;have lo:Loc X.env.scope x:=by unfold Loc;rw[xs.nm];exact h.2.imp ax ax
 exact⟨by rw[xs.N];exact e,lo,lo.elim .inr λ z=>.inl (hf x z),(br.mp e).1⟩
def kM(h:plE e=true):swapsWith e t n env=pure false:=by cases e<;>first|rfl|cases h
def Kg{own fv:List Str}{js tgs:List Nat}(hJ:JS J)(lt:∀i∈tgs,i<own.length)(h:rE X.K J FT GT (.comp own fv js tgs k it e) σ H Q):jU (rW X.K J FT GT k it) own.length js (tgG X.K tgs) (rE X.K J FT GT e) σ H Q:=by
 obtain⟨F,ρ,ev,w⟩:=h;refine⟨F,ρ,ev,bP it (λ ts w=>iG (λ its w F1 H1 xs Jt g1 rx ok=>?_) w) w⟩;obtain⟨hn,w⟩:=w
 have z:=pH (tc:=λ σ H Q=>Q true H) (te:=rE X.K J FT GT e) hJ g1 rx ok ev lt hn (λ t K'=>stE (cEn own js ρ) tgs t λ ρ'=>wE FT GT e ρ' λ y=>(y.nb=true/\K' [y.fz])) (λ t K K' h q=>fc (λ ρ' q=>av e (λ y q=>⟨q.1,h _ q.2⟩) q) q) w
  (λ t P x F' H' σ' b ev' sl rt R fin=>pA b ev' rt (λ i hi=>by rw[sl];unfold cV;simp;have:=lt i hi;lia) λ σ2 ρ2 p ev2 sl2 keep=>by
   show if true=true then _ else _;rw[if_pos rfl];refine⟨F',ρ2,ev2,av e (λ y ⟨nb,p⟩ F2 H2 v g r=>?_) p⟩;obtain⟨F3,g3,_,_,rp⟩:=r.frz g nb
   exact fin [y.fz] [v] σ2 F3 H2 p (aj _) g3 ⟨v,[],fu,rp,fu⟩ ((keep _ ev' λ i hi u=>pG (lt i hi) u).grow g3) sl2)
 simpa only[ef] using z
def Kh{own fv:List Str}{js tgs:List Nat}(hJ:JS J)(lt:∀i∈tgs,i<own.length)(h:rE X.K J FT GT (.compI own fv js tgs k it c e) σ H Q):iW (rW X.K J FT GT k it) own.length js (tgG X.K tgs) (rT X.K J FT GT c) (rE X.K J FT GT e) σ H Q:=by
 obtain⟨F,ρ,ev,w⟩:=h;refine⟨F,ρ,ev,bP it (λ ts w=>iG (λ its w F1 H1 xs Jt g1 rx ok=>?_) w) w⟩;obtain⟨hn,w⟩:=w
 exact pH (tc:=rT X.K J FT GT c) (te:=rE X.K J FT GT e) hJ g1 rx ok ev lt hn (λ t K'=>stE (cEn own js ρ) tgs t λ ρ'=>wE FT GT c ρ' λ x=>b1 x λ q=>if q=true then wE FT GT e ρ' λ y=>(y.nb=true/\K' [y.fz]) else K' []) (λ t K K' h q=>fc (λ ρ' q=>av c (λ x q=>cz (λ z q=>by
   split at q
   ·rw[if_pos (by assumption)];exact av e (λ y q=>⟨q.1,h _ q.2⟩) q
   ·rw[if_neg (by assumption)];exact h _ q) q) q) q) w
  (λ t P x F' H' σ' b ev' sl rt R fin=>pA b ev' rt (λ i hi=>by rw[sl];unfold cV;simp;have:=lt i hi;lia) λ σ2 ρ2 p ev2 sl2 keep=>by
   have kp:=keep _ ev' λ i hi u=>pG (own:=own) (js:=js) (ρ:=ρ) (lt i hi) u;refine⟨F',ρ2,ev2,av c (λ x w=>cz (λ q w2 F2 H2 g2=>?_) w) p⟩;split at w2
   ·rw[if_pos (by assumption)];refine⟨F2,ρ2,ev2.grow g2,av e (λ y ⟨nb,p⟩ F3 H3 v g r=>?_) w2⟩;obtain⟨F4,g4,_,_,rp⟩:=r.frz g nb;exact fin [y.fz] [v] σ2 F4 H3 p (aj _) (g2.trans g4) ⟨v,[],fu,rp,fu⟩ ((kp.grow g2).grow g4) sl2
   ·rw[if_neg (by assumption)]
    exact fin [] [] σ2 F2 H2 w2 (aX _) g2 rfl (kp.grow g2) sl2)
theorem yJ{i:Nat}(xo:XOk X J FT GT fs gs)(xs:XS X N nm)(hN:X.N.Nodup)(hi:X.N[i]?=some x)(hx:Loc X.env.scope x)(hf:X.fn x=true\/X.env.scope.names.lookup x=some .local)(h:ck fs gs c N nm e=true) :
  PS X (.Assign [.Name x p'] e pos) (jH (rE X.K J FT GT c) (dE i)):=by
 have plain:swapsWith e (some (.Name x p')) pos.line X.env=pure false->PS X (.Assign [.Name x p'] e pos) (jH (rE X.K J FT GT c) (dE i)):=λ hs=>nG hN hi hx (sE c xo xs h) hs hf
 cases e with
 |ListComp elt gens sc lp=>
  cases hb:(X.env.blockKind == .function&&X.env.kindOf x == some .local&&p'.line == (Expr.ListComp elt gens sc lp).pos.line && !(sc.names.any λ(n,k)=>n == x&&(k == .local || k == .cell))) with
  |false=>exact plain (by show(pure _:Sem Bool)=_;rw[<- hb])
  |true=>
   have hsw:swapsWith (.ListComp elt gens sc lp) (some (.Name x p')) pos.line X.env=pure true:=by show(pure _:Sem Bool)=_;rw[<- hb]
   cases c with
   |comp own fv js tgs k it e=>
    obtain⟨_,_,_,_,e1,g⟩:=pj h;cases e1;obtain⟨⟨t,iter,ifs,z⟩,rfl,g'⟩:=jq g;obtain⟨g0,g1,h1,h2,h3,h4,h5⟩:=a7 g';cases (show ifs=[] from List.isEmpty_iff.mp g0);cases ax g1;intro pins s σ H D I q;obtain⟨cl,S⟩:=pq I.ok xs h1;have yx:∀(C:Addr) (ex:List Addr) (s:Shared) (H:Hp),XS (bp X (own++fv) sc cl C ex s H) (own++fv) (cN nm sc.names):=λ C ex s H=>⟨rfl,S.rel⟩;have lt:∀i∈tgs,i<own.length:=λ i hi=>ax (gJ.mp h4 i hi);exact Gd (g:=tgG X.K tgs) (te:=rE X.K J FT GT e) hN hi hx hf xo.calm (sI it k xo xs h2) S.clos S.cell S.kind S.names S.sub S.has S.len S.cap (λ C ex s H=>(kJ (X:=bp X (own++fv) sc cl C ex s H) S.nd xo.calm (yx C ex s H) (λ z=>by cases z) h3).1) (λ C ex s H=>sE e (kK xo) (yx C ex s H) h5) hsw (λ x=>mL (mM h2)) pins s σ H D I (Kg xo.hJ lt q)
   |compI own fv js tgs k it c e=>
    obtain⟨_,_,_,_,e1,g⟩:=pj h;cases e1;obtain⟨⟨t,iter,ifs,z⟩,rfl,g'⟩:=jq g;obtain⟨cnd,e2,g⟩:=jq g';cases e2;obtain⟨g1,h1,h2,h3,h4,h7,h5,h6⟩:=a8 g;cases ax g1;intro pins s σ H D I q;obtain⟨cl,S⟩:=pq I.ok xs h1;have yx:∀(C:Addr) (ex:List Addr) (s:Shared) (H:Hp),XS (bp X (own++fv) sc cl C ex s H) (own++fv) (cN nm sc.names):=λ C ex s H=>⟨rfl,S.rel⟩;have lt:∀i∈tgs,i<own.length:=λ i hi=>ax (gJ.mp h4 i hi);exact GL (g:=tgG X.K tgs) (tc:=rT X.K J FT GT c) (te:=rE X.K J FT GT e) hN hi hx hf xo.calm (sI it k xo xs h2) S.clos S.cell S.kind S.names S.sub S.has S.len S.cap (λ C ex s H=>(kJ (X:=bp X (own++fv) sc cl C ex s H) S.nd xo.calm (yx C ex s H) (λ z=>by cases z) h3).1) (λ C ex s H=>sE e (kK xo) (yx C ex s H) h6) (λ C ex s H=>sT c (kK xo) (yx C ex s H) h7 h5) hsw (λ x=>mL (mM h2)) pins s σ H D I (Kh xo.hJ lt q)
   |_=>exact Bool.noConfusion h
 |SetComp=>cases c<;>exact Bool.noConfusion h
 |DictComp=>cases c<;>exact Bool.noConfusion h
 |_=>exact plain rfl
end
section
variable {J:Hp->Prop}{FT:List PSp}{GT:List TV}{fs gs:List Str}{N:List Str}{nm:List (Str×NameKind)}{F0:Fz}{H0:Hp}{PN:List (TV×V)}
noncomputable def rM(K:FG)(J:Hp->Prop)(FT:List PSp)(GT:List TV)(F0:Fz)(H0:Hp)(PN:List (TV×V))(m:MM)(i:Nat)(l:Cd):TE:=λ σ H Q=>∃F ρ,ER K J F0 H0 PN F H σ ρ/\iK ρ[i]? λ xs=>wL FT GT l ρ λ ts=>mtP m xs ts λ y ys=>∀F' H' v,ER K J F0 H0 PN F' H' σ (ρ.set i (some (.own ys)))->Rp K F' H' y v->Q v H'
def ER.at_{K:FG}{i:Nat}(e:ER K J F0 H0 PN F H σ ρ)(h:ρ[i]?=some (some (.own l))):∃a vs,σ[i]?=some (some (.ref a))/\H a=some (.lst vs)/\RpL K F H l vs:=by
 obtain⟨v,e1,a,vs,rfl,_,q,r⟩:=e.ev.sl i _ h;exact⟨a,vs,e1,q,r⟩
def rl2{K:FG}{t u:TV}{vs:List V}(h:RpL K F H [t,u] vs):∃x y,vs=[x,y]/\Rp K F H t x/\Rp K F H u y:=by
 obtain⟨x,r,rfl,h1,y,r',rfl,h2,rfl⟩:=h;exact⟨x,y,fu,h1,h2⟩
def rl1{K:FG}{t:TV}{vs:List V}(h:RpL K F H [t] vs):∃x,vs=[x]/\Rp K F H t x:=by
 obtain⟨x,r,rfl,h1,rfl⟩:=h;exact⟨x,fu,h1⟩
def RpL.dropLast{K:FG}{vs:List V}(h:RpL K F H l vs):RpL K F H l.dropLast vs.dropLast:=by
 rw[s1q,s1q,<- h.length];exact h.take _
def RpL.eraseIdx{K:FG}{vs:List V}(h:RpL K F H l vs)(k:Nat):RpL K F H (l.eraseIdx k) (vs.eraseIdx k):=by
 rw[jf,jf];exact(h.take k).append (h.drop _)
theorem Ki(hJ:JS J){i:Nat}{Q:VK}(e:ER X.K J F0 H0 PN F H σ ρ)(h:ρ[i]?=some (some (.own l)))(ha:σ[i]?=some (some (.ref a)))(g:Grow J F H F1 H1)(r:RrL X.K H F1 H1 ts ws)
  (w:mtP m l ts λ y ys=>∀F' H' v,ER X.K J F0 H0 PN F' H' σ (ρ.set i (some (.own ys)))->Rp X.K F' H' y v->Q v H') :
  (m=.append/\nS (.ref a) ws H1 Q)\/(m=.insert/\oz (.ref a) ws H1 Q)\/(∃b,m=.extend b/\∃c vs zs,ws=[.ref c]/\SqB X.K b H1 c zs/\H1 a=some (.lst vs)/\vs.length+zs.length<=sizeLine/\Q .non (upd H1 a (.lst (vs++zs))))\/(m=.pop/\nU (.ref a) ws H1 Q)\/(m=.pop/\lK (.ref a) ws H1 Q):=by
 rcases ts with _|⟨t,_|⟨u,_|⟨z,rr⟩⟩⟩
 ·cases m with
  |pop=>
   cases r;obtain⟨y,ey,w⟩:=w;have e1:=e.grow g;obtain⟨b,vs,eb,q,rl⟩:=e1.at_ h;rw[ha] at eb;cases eb;obtain⟨v,ev,rv⟩:=rl.get ey;obtain⟨em,ke⟩:=e1.mut hJ h ha rl.dropLast;exact .inr (.inr (.inr (.inl ⟨fu,a,vs,v,fu,fu,q,by rw[<- rl.length];exact ev,w _ _ _ em (rv.ke ke)⟩)))
  |_=>exact w.elim
 ·cases m with
  |append=>
   obtain⟨nb,lz,w⟩:=w;obtain⟨F2,g2,_,r2⟩:=iJ g r (by rw[cJ,nb];rfl);obtain⟨x,rfl,rx⟩:=rl1 r2;have e1:=e.grow g2;obtain⟨b,vs,eb,q,rl⟩:=e1.at_ h;rw[ha] at eb;cases eb;obtain⟨em,ke⟩:=e1.mut hJ h ha (rl.append (show RpL X.K F2 H1 [t.fz] [x] from ⟨x,[],rfl,rx,rfl⟩));exact .inl ⟨fu,a,vs,x,fu,fu,q,by rw[<- rl.length];exact lz,w _ _ _ em rfl⟩
  |extend bb=>
   obtain⟨nb,w⟩:=w;obtain⟨mm,em',lz,w⟩:=pF w;have e1:=e.grow g;obtain⟨b,vs,eb,q,rl⟩:=e1.at_ h;rw[ha] at eb;cases eb;obtain⟨x,rfl,rt⟩:=jo r;obtain⟨c,zs,rfl,qc,rz⟩:=rt.vw.b em';obtain⟨em,ke⟩:=e1.mut hJ h ha (rl.append rz);exact .inr (.inr (.inl ⟨bb,fu,c,vs,zs,fu,qc,q,by rw[<- rl.length,<- rz.length];exact lz,w _ _ _ em rfl⟩))
  |pop=>
   obtain⟨k,rfl,c,n,y,e2,ey,w⟩:=eI w;obtain⟨x,rfl,rt⟩:=jo r;cases rt;have e1:=e.grow g;obtain⟨b,vs,eb,q,rl⟩:=e1.at_ h;rw[ha] at eb;cases eb;obtain⟨v,ev,rv⟩:=rl.get ey;obtain⟨em,ke⟩:=e1.mut hJ h ha (rl.eraseIdx n);exact .inr (.inr (.inr (.inr ⟨fu,a,vs,k,n,v,fu,fu,q,c.1,c.2,by rw[<- rl.length];exact e2,ev,w _ _ _ em (rv.ke ke)⟩)))
  |_=>exact w.elim
 ·cases m with
  |insert=>
   obtain⟨k,rfl,nb,c,lz,w⟩:=eI w;obtain⟨F2,g2,_,r2⟩:=iJ g r (by rw[cJ,cJ,nb];rfl);obtain⟨x,y,rfl,rx,ry⟩:=rl2 r2;cases rx;have e1:=e.grow g2;obtain⟨b,vs,eb,q,rl⟩:=e1.at_ h;rw[ha] at eb;cases eb;obtain⟨em,ke⟩:=e1.mut hJ h ha ((rl.take k.toNat).append (show RpL X.K F2 H1 (u.fz::l.drop k.toNat) (y::vs.drop k.toNat) from ⟨y,_,rfl,ry,rl.drop _⟩));exact .inr (.inl ⟨fu,a,vs,k,y,fu,fu,q,c.1,by rw[<- rl.length];exact c.2,by rw[<- rl.length];exact lz,w _ _ _ em rfl⟩)
  |_=>exact w.elim
 ·cases m<;>exact w.elim
def Kj{i:Nat}{p ap cp:Pos}{es:List Expr}(xo:XOk X J FT GT fs gs)(xs:XS X N nm)(h1:N[i]?=some x)(h2:vs nm x=true)(h3:okN x=true)(h0:mmN m ≠ "__name__")(h5:ap.endLine=cp.line)(h6:es.length<20)(h7:ckL fs gs l N nm es=true):PE X (.Call (.Attribute (.Name x p) (mmN m) ap) es [] cp) (rM X.K J FT GT F0 H0 PN m i l):=by
 obtain⟨d1,d2,_⟩:=dO h3;have hv:PE X (.Name x p) (dC i):=kZ (by rw[xs.N];exact h1) (mK xs h2) d1 d2;have hl:=eV.mpr h5;have st:=ju h7;have ha:=sL l xo xs h7
 have rd:∀ {r:V->List V->Hp->VK->Prop}{σ:St}{H:Hp}{Q:VK},rM X.K J FT GT F0 H0 PN m i l σ H Q->(∀ {a ws H1},((m=.append/\nS (.ref a) ws H1 Q)\/(m=.insert/\oz (.ref a) ws H1 Q)\/(∃b,m=.extend b/\∃c vs zs,ws=[.ref c]/\SqB X.K b H1 c zs/\H1 a=some (.lst vs)/\vs.length+zs.length<=sizeLine/\Q .non (upd H1 a (.lst (vs++zs))))\/(m=.pop/\nU (.ref a) ws H1 Q)\/(m=.pop/\lK (.ref a) ws H1 Q))->r (.ref a) ws H1 Q) ->
   ∃a,σ[i]?=some (some (.ref a))/\(tyV X.K "list" (.ref a) H)/\rA X.K J FT GT l σ H λ ws H1=>r (.ref a) ws H1 Q:=λ {r σ H Q} ⟨F,ρ,e,w⟩ hr=>by
  obtain⟨ys,hy,w⟩:=pK w;obtain⟨a,vs,ea,q,_⟩:=e.at_ hy;exact⟨a,ea,.inl ⟨fu,vs,.of q⟩,F,ρ,e.ev,bP l (λ ts w F1 H1 ws g r=>hr (Ki xo.hJ e hy ea g r w)) w⟩
 have tv:∀ {σ:St}{H:Hp}{P:VK}{a:Addr},σ[i]?=some (some (.ref a))->P (.ref a) H->dC i σ H P:=λ {σ H P a} e p=>by unfold dC;rw[e];exact p
 cases es with
 |nil=>
  cases m with
  |pop=>
   refine(Ed (apos:=ap) (cpos:=cp) pM s1r s1s Eh hv rfl hl).imp λ σ H Q q=>?_
   have l0:l=.nil:=by cases l<;>first|rfl|exact Bool.noConfusion h7
   subst l0
   obtain⟨a,ea,ty,F,ρ,ev,w⟩:=rd (r:=λ x ws H Q=>ws=[]->nU x [] H Q) q (λ h z=>by
    subst z
    rcases h with ⟨z,_⟩|⟨z,_⟩|⟨_,z,_⟩|⟨_,h⟩|⟨_,h⟩
    ·cases z
    ·cases z
    ·cases z
    ·exact h
    ·obtain⟨_,_,_,_,_,_,z,_⟩:=h;cases z)
   exact tv ea ⟨ty,w F H [] (.refl ev.w) .nil rfl⟩
  |append=>
    intro pins s σ H Q I q
    have l0:l=.nil:=by cases l<;>first|rfl|exact Bool.noConfusion h7
    subst l0;obtain⟨F,ρ,e,w⟩:=q;obtain⟨_,_,w⟩:=pK w;exact w.elim
  |insert=>
    intro pins s σ H Q I q
    have l0:l=.nil:=by cases l<;>first|rfl|exact Bool.noConfusion h7
    subst l0;obtain⟨F,ρ,e,w⟩:=q;obtain⟨_,_,w⟩:=pK w;exact w.elim
  |extend b=>exact absurd rfl h0
 |cons y es=>
  have sy:aG y=true:=by rw[cJ,bg] at st;exact st.1
  have ss:es.all aG=true:=by rw[cJ,bg] at st;exact st.2
  cases m with
  |append=>
   refine(qK (apos:=ap) (cpos:=cp) pM PySem.F.slot_list_append PySem.F.type_list_append Eg hv ha rfl (pI st h6) hl (aU sy) (fZ ss)).imp λ σ H Q q=>?_
   obtain⟨a,ea,ty,w⟩:=rd (r:=nS) q (λ h=>by
    rcases h with ⟨_,h⟩|⟨z,_⟩|⟨_,z,_⟩|⟨z,_⟩|⟨z,_⟩
    ·exact h
    all_goals cases z)
   exact tv ea ⟨ty,w⟩
  |insert=>
   refine(qK (apos:=ap) (cpos:=cp) pM PySem.F.slot_list_insert PySem.F.type_list_insert GF hv ha rfl (pI st h6) hl (aU sy) (fZ ss)).imp λ σ H Q q=>?_
   obtain⟨a,ea,ty,w⟩:=rd (r:=oz) q (λ h=>by
    rcases h with ⟨z,_⟩|⟨_,h⟩|⟨_,z,_⟩|⟨z,_⟩|⟨z,_⟩
    ·cases z
    ·exact h
    all_goals cases z)
   exact tv ea ⟨ty,w⟩
  |pop=>
   refine(qK (apos:=ap) (cpos:=cp) pM s1r s1s Gc hv ha rfl (pI st h6) hl (aU sy) (fZ ss)).imp λ σ H Q q=>?_
   obtain⟨a,ea,ty,w⟩:=rd (r:=λ x ws H Q=>ws≠[]->lK x ws H Q) q (λ h n=>by
    rcases h with ⟨z,_⟩|⟨z,_⟩|⟨_,z,_⟩|⟨_,h⟩|⟨_,h⟩
    ·cases z
    ·cases z
    ·cases z
    ·obtain⟨_,_,_,_,z,_⟩:=h;exact absurd z n
    ·exact h)
   refine tv ea ⟨ty,?_⟩;obtain⟨F,ρ,ev,w⟩:=w;refine⟨F,ρ,ev,?_⟩
   cases l with
   |cons b r=>exact av b (λ t w=>bP r (λ ts w F' H' vs g rr=>w F' H' vs g rr (λ z=>by subst z;cases rr)) w) w
   |_=>exact Bool.noConfusion h7
  |extend b=>exact absurd rfl h0
def Kk(xo:XOk X J FT GT fs gs)(xs:XS X N nm)(h:ckM fs gs N nm m i l e=true):PE X e (rM X.K J FT GT F0 H0 PN m i l)/\plE e=true:=by
 refine bY h λ g es w cp k1=>?_;refine yq k1 λ o name ap k2=>?_;refine aT k2 λ x p k3=>?_;obtain⟨z0,h1,h2,h3,z1,z2,h7⟩:=a7 k3;refine bA z0 ?_;cases ax z1;obtain⟨h0,h5,h6⟩:=ax z2;exact⟨Kj xo xs (ax h1) h2 h3 h0 h5 h6 h7,fu⟩
end
section
variable {J:Hp->Prop}{FT:List PSp}{GT:List TV}{fs gs:List Str}{N:List Str}{nm:List (Str×NameKind)}{F0:Fz}{H0:Hp}
theorem Kl{K:PySem.W.Frag}{ts its:List TV}{n:Nat}{D:Ends}{tb:TS}(b:TV->En->(En->Prop)->Prop)(P:En->Prop)
  (e1:ER K J F0 H0 PN F1 H1 σ ρ) (sl:σ.length=n) (rx:RpL K F1 H1 (ts.map TV.fz) xs) (ok:ItOk K J Jt its ts xs) (w:itF b its ρ P) (fin:∀ρ',P ρ'->nxR K J F0 H0 PN n D.nx ρ')
  (st:∀t ρ' F' H' σ' x (Q:En->Prop) (D':Ends),b t ρ' Q->ER K J F0 H0 ((ts.map TV.fz).zip xs++PN) F' H' σ' ρ'->σ'.length=n->Rp K F' H' t x->D'.rt=D.rt->(∀ρ2,Q ρ2->nxR K J F0 H0 ((ts.map TV.fz).zip xs++PN) n D'.nx ρ2)->tgG K tgs x σ' H' λ σ2 H2=>tb D' σ2 H2) :
  ∃W:Nat->Nat->St->Hp->Prop,(∃m,W 0 m σ H1)/\∀i m σ H,W i m σ H ->
   (Jt.stop i H/\D.nx σ H)\/(Jt.go i H/\∃N:St->Hp->Prop,(∀σ' H',N σ' H'->∃m',m'<m/\W (i+1) m' σ' H')/\∀x H',Jt.yld i H x H'->tgG K tgs x σ H' λ σ2 H2=>tb { D with nx:=N,ct:=N,bk:=D.nx } σ2 H2):=by
 have zl:(ts.map TV.fz).length=xs.length:=rx.length
 have pin0:∀p∈(ts.map TV.fz).zip xs,Rp K F1 H1 p.1 p.2:=by
  intro p hp;obtain⟨i,hi⟩:=s2c hp;rw[oV] at hi;obtain⟨v,ev,rv⟩:=rx.get hi.1;rw[hi.2] at ev;cases ev;exact rv
 have vw:∀ {F:Fz}{H:Hp}{σ:St}{ρ:En},ER K J F0 H0 ((ts.map TV.fz).zip xs++PN) F H σ ρ->Paired (Vw K F H) ts xs:=λ {F H σ ρ} e=>by
  have f:=e.pn;clear rx ok w fin st pin0 e1
  revert xs
  induction ts with
  |nil=>intro xs zl e f;cases xs with|nil=>exact .nil|cons x xs=>simp at zl
  |cons t ts ih=>
   intro xs zl e f
   cases xs with
   |nil=>simp at zl
   |cons x xs=>
    refine .cons (Rp.vw (f (t.fz,x) BT)) (ih (by simpa using zl) ⟨e.ev,e.gr,e.nb,e.di,λ p hp=>f p (by
     rw[bw,kj,pN]
     exact bO _ hp)⟩ λ p hp=>f p (by
     rw[bw,kj,pN]
     exact bO _ hp))
 refine⟨λ i m σ H=>i≤its.length/\m=its.length - i/\∃F ρ,ER K J F0 H0 ((ts.map TV.fz).zip xs++PN) F H σ ρ/\σ.length=n/\itF b (its.drop i) ρ P,
  ⟨_,aX _,rfl,F1,ρ,⟨e1.ev,e1.gr,e1.nb,e1.di,λ p hp=>(bn.mp hp).elim (pin0 p) (e1.pn p)⟩,sl,w⟩,?_⟩
 rintro i m σ H ⟨hi,rfl,F,ρ,e,s,w⟩;have v:=vw e;by_cases c:i<its.length
 ·refine .inr ⟨ok.go F H i e.ev.w v c,λ σ' H'=>∃F ρ,ER K J F0 H0 ((ts.map TV.fz).zip xs++PN) F H' σ' ρ/\σ'.length=n/\itF b (its.drop (i+1)) ρ P,λ σ' H' q=>⟨_,on,c,fu,q⟩,λ x H' y=>?_⟩;obtain⟨t,et,gy,rt⟩:=ok.yld F H i x H' e.ev.w v c y
  have ed:its.drop i=t::its.drop (i+1):=by
   rw[gH c]
   congr 1
   rw[aC c] at et;exact cv et
  rw[ed] at w;exact st t ρ F H' σ x _ _ w (e.grow gy) s rt rfl λ ρ2 q F2 H2 σ2 e2 s2=>⟨F2,ρ2,e2,s2,q⟩
 ·have ei:i=its.length:=by lia
  subst ei;rw[s0s] at w;refine .inl ⟨ok.stop F H e.ev.w v,fin ρ w F H σ ⟨e.ev,e.gr,e.nb,e.di,λ p hp=>e.pn p (bK _ hp)⟩ s⟩
structure YOk (X:Cx)(J:Hp->Prop)(FT:List PSp)(GT:List TV)(fs gs N:List Str)(nm:List (Str×NameKind))(lp:Bool):Prop where
 xo:XOk X J FT GT fs gs
 xs:XS X N nm
 nd:N.Nodup
 fn:∀x,X.env.scope.names.lookup x=some .cell->X.fn x=true
 ps:lp=true->PassesOwn (model X.prog X.w) X.A X.env X.xe
theorem yK{K:FG}{Q:St->Hp->Prop}(h:stE ρ is t P)(e:ER K J F0 H0 PN F H σ ρ)(rt:Rp K F H t v)(hl:∀i∈is,i<σ.length)
  (fin:∀σ' ρ',P ρ'->ER K J F0 H0 PN F H σ' ρ'->σ'.length=σ.length->Q σ' H):tgG K is v σ H Q:=by
 match is,h with
 |[i],h=>exact fin _ _ h (e.set rt (hl i BT)) BT
 |[i,j],h=>
  cases t with
  |tup l=>
   match l,h with
   |[x,y],h=>
    obtain⟨a,ws,rfl,q,v1,r1,rfl,h1,v2,r2,rfl,h2,rfl⟩:=rt;exact⟨a,_,fu,q,fu,v1,_,fu,v2,_,fu,fu,fin _ _ h ((e.set h1 (hl i BT)).set h2 (by simpa using hl j BT)) BT⟩
   |[],h=>exact h.elim
   |[_],h=>exact h.elim
   |_::_::_::_,h=>exact h.elim
  |_=>exact h.elim
 |[i,j,k],h=>
  cases t with
  |tup l=>
   match l,h with
   |[x,y,z],h=>
    obtain⟨a,ws,rfl,q,v1,r1,rfl,h1,v2,r2,rfl,h2,v3,r3,rfl,h3,rfl⟩:=rt;exact⟨a,_,fu,q,fu,v1,_,fu,v2,_,fu,v3,_,fu,fu,fin _ _ h (((e.set h1 (hl i BT)).set h2 (by simpa using hl j BT)).set h3 (by simpa using hl k BT)) BT⟩
   |[],h=>exact h.elim
   |[_],h=>exact h.elim
   |[_,_],h=>exact h.elim
   |_::_::_::_::_,h=>exact h.elim
  |_=>exact h.elim
 |[],h=>exact h.elim
 |_::_::_::_::_,h=>exact h.elim
end
section
variable {J:Hp->Prop}{FT:List PSp}{GT:List TV}{fs gs:List Str}{N:List Str}{nm:List (Str×NameKind)}{F0:Fz}{H0:Hp}
def Km{tg e:Expr}(h:plE e=true):swapsWithSole [tg] e n env=pure false:=kM h
def Ko:swapsWithSole [.Subscript o i p] e n env=pure false:=by cases e<;>rfl
def Kp:swappedStores [.Subscript o i p] e env=pure none:=by cases e<;>rfl
def Kq{tg e:Expr}(h:plE e=true):swappedStores [tg] e env=pure none:=by
 cases tg<;>first|rfl|(cases e<;>first|rfl|cases h)
theorem Ks(h:gT i=true):∀v,assign (.Subscript o i p) env v=(do
   let ov <- holding [v] (eval o env)
   let iv <- holding [v,ov] (eval i env)
   standAt p
   holding [v,ov,iv] (setItem ov iv v)
   release [v,ov,iv] []):=by
 intro v
 cases i<;>first|rfl|(cases h;done)
theorem sS:∀(c:Ct) {X:Cx}{lp:Bool}{PN:List (TV×V)}{sts:List Stmt},YOk X J FT GT fs gs N nm lp->bM fs gs N nm lp c sts=true->PSs X sts (rS X.K J FT GT N.length F0 H0 PN c)
 |.nil,X,lp,PN,sts,y,h=>by
  refine bA h ?_;exact pss_nil.imp λ D σ H ⟨F,ρ,e,s,w⟩=>w F H σ e s
 |.never,X,lp,PN,sts,y,h=>pss_never.imp λ D σ H ⟨F,ρ,e,s,w⟩=>w.elim
 |.ret c,X,lp,PN,sts,y,h=>by
  refine pL h λ o _ _ g=>?_
  cases o with
  |none=>exact Bool.noConfusion g
  |some e=>
   refine(cg (qx (sE c y.xo y.xs g)) pss_never).imp λ D σ H ⟨F,ρ,e,s,w⟩=>?_;obtain⟨F',e',_⟩:=e.fzC c;refine⟨F',_,e'.ev,av c (λ t ⟨nb,w⟩ F1 H1 v g r=>?_) w⟩;obtain⟨F2,g2,_,_,rp⟩:=r.frz g nb;exact w F2 H1 v (e'.gr.trans g2) rp
 |.set i c r,X,lp,PN,sts,y,h=>by
  ·refine iL h λ ts e _ rest k1=>?_;refine cB k1 λ t k2=>?_;refine aT k2 λ x _ k3=>?_;obtain⟨h1,h2,h3⟩:=_L.a3 k3;obtain⟨a1,a2,a3,a4⟩:=kL y.xs y.fn h1;refine(cg (yJ y.xo y.xs (by rw[y.xs.N];exact y.nd) a1 a2 a3 h2) (sS r (PN:=PN) y h3)).imp λ D σ H ⟨F,ρ,e,s,w⟩=>?_;obtain⟨F',e',_⟩:=e.fzC c;exact⟨F',_,e'.ev,av c (λ t ⟨nb,w⟩ F1 H1 v g r=>⟨F1,_,e'.rr g r nb on,by rw[fG];exact s,w⟩) w⟩
 |.sd i c r,X,lp,PN,sts,y,h=>by
  ·refine iL h λ ts e _ rest k1=>?_;refine cB k1 λ t k2=>?_;refine aT k2 λ x _ k3=>?_;refine bY k3 λ f' as w cp k4=>?_;refine aT k4 λ u p k5=>?_;refine cB k5 λ z k6=>?_;obtain⟨h1,g0,g1,g2,g3,h2,h3⟩:=a7 k6;cases ax g1;obtain⟨a1,a2,a3,a4⟩:=kL y.xs y.fn h1;refine bA g0 ?_;have pe:=jO (p:=p) (pos:=cp) (HM y.xo.calm) (glX y.xs g2) (y.xo.blt _ pv) (by decide +kernel) (cj (sE c y.xo y.xs h2) pa_nil (aU g3)) pv pv (aU g3) rfl;refine(cg (nG (by rw[y.xs.N];exact y.nd) a1 a2 pe (kM rfl) a3) (sS r (PN:=PN) y h3)).imp λ D σ H ⟨F,ρ,e,s,w⟩=>?_;refine⟨F,ρ,e.ev,av c (λ t w F1 H1 v g rt=>?_) w⟩;obtain⟨l,et,ps,rfl,nd,w⟩:=eJ (show l1 t _ from w);obtain⟨b,vs,rfl,rl,q⟩:=rt.lq et;refine⟨b,vs,ps,fu,q,yG rl,nd,λ z hz=>?_⟩;have g2':Grow _ F1 H1 F1 (upd H1 z (dcO ps)):=.new y.xo.hJ g.w _ hz;exact⟨F1,_,(e.grow (g.trans g2')).setD cT on,by rw[fG];exact s,w⟩
 |.sets is c r,X,lp,PN,sts,y,h=>by
  ·refine iL h λ ts e _ rest k1=>?_;refine cB k1 λ tg k2=>?_;obtain⟨h1,h2,h3,h4,h5⟩:=a5 k2;obtain⟨pg,lt⟩:=kJ (X:=X) (by rw[y.xs.N];exact y.nd) y.xo.calm y.xs (λ _=>y.fn) h1;obtain⟨tes,tk,tp,rfl⟩:=yE h2;refine(cg (uY (sE c y.xo y.xs h4) pg (Km h3) (Kq h3) rfl) (sS r (PN:=PN) y h5)).imp λ D σ H ⟨F,ρ,e,s,w⟩=>?_;refine⟨F,ρ,e.ev,av c (λ t w F1 H1 v g rr=>?_) w⟩
   cases t with
   |tup l=>exact yK w (e.grow g) rr (λ i hi=>by rw[s];exact lt i hi) λ σ' ρ' p e' s'=>⟨F1,ρ',e',s'.trans s,p⟩
   |_=>exact w.elim
 |.fz i r,X,lp,PN,sts,y,h=>by
  refine(sS r (PN:=PN) y (show bM fs gs N nm lp r sts=true from h)).imp λ D σ H ⟨F,ρ,e,s,w⟩=>?_;obtain⟨F',e',_⟩:=e.fz i;exact⟨F',_,e',s,w⟩
 |.doc r,X,lp,PN,sts,y,h=>by
  refine mO h λ e _ rest k1=>?_;refine gU k1 λ k _ _ k2=>?_;obtain⟨h1,h2⟩:=an k2;cases k<;>try exact Bool.noConfusion h1
  exact(cg uR (sS r (PN:=PN) y h2)).imp λ D σ H ⟨F,ρ,e,s,w⟩=>⟨F,ρ,e,s,w⟩
 |.ex c r,X,lp,PN,sts,y,h=>by
  ·refine mO h λ e _ rest k1=>?_;obtain⟨h1,h2,h3⟩:=_L.a3 k1;exact(cg (nF (sE c y.xo y.xs h2) (kM h1)) (sS r (PN:=PN) y h3)).imp λ D σ H ⟨F,ρ,e,s,w⟩=>⟨F,ρ,e.ev,av c (λ t w F1 H1 v g rr=>⟨F1,ρ,e.grow g,s,w⟩) w⟩
 |.met m i l r,X,lp,PN,sts,y,h=>by
  ·refine mO h λ e _ rest k1=>?_;obtain⟨h1,h2⟩:=an k1;obtain⟨pe,pl⟩:=Kk (F0:=F0) (H0:=H0) (PN:=PN) (J:=J) (FT:=FT) (GT:=GT) y.xo y.xs h1;refine(cg (nF pe (kM pl)) (sS r (PN:=PN) y h2)).imp λ D σ H ⟨F,ρ,e,s,w⟩=>?_;obtain⟨F',e',_⟩:=ER.fzV l e;exact⟨F',_,e',tN (λ xs w=>bP l (λ ts w=>yF (λ y ys w F1 H1 v e1 _=>⟨F1,_,e1,s,w⟩) w) w) w⟩
 |.put i c d r,X,lp,PN,sts,y,h=>by
  ·refine iL h λ ts e _ rest k1=>?_;refine cB k1 λ t k2=>?_;refine mG k2 λ o yy _ k3=>?_;refine aT k3 λ x _ k4=>?_;obtain⟨h1,h2,h3,h4,h5,h6,h7⟩:=a7 k4;replace h1:=ax h1;obtain⟨d1,d2,_⟩:=dO h3;refine(cg (uY (sE d y.xo y.xs h6) (Cz (kZ (by rw[y.xs.N];exact h1) (mK y.xs h2) d1 d2) (sE c y.xo y.xs h5) DQ (Ks h4)) Ko Kp rfl) (sS r (PN:=PN) y h7)).imp λ D σ H ⟨F,ρ,e,s,w⟩=>?_;obtain⟨F',e',_⟩:=e.fzC d;obtain⟨xs,hx,w⟩:=pK w;refine⟨F',_,e'.ev,av d (λ t ⟨nb,w⟩ F1 H1 v g rr=>?_) w⟩;obtain⟨F2,g2,_,_,rp⟩:=rr.frz g nb;have e2:=e'.grow g2;obtain⟨a,vs,ea,q,_⟩:=e2.at_ hx;show dC i σ H1 _;unfold dC;rw[ea];refine⟨F2,_,e2.ev,av c (λ u w F3 H3 v3 g3 r3=>?_) w⟩;obtain⟨k,rfl,n,en,w⟩:=eI w;cases r3;have e3:=e2.grow g3;obtain⟨a',vs',ea',q',rl⟩:=e3.at_ hx;rw[ea] at ea';cases ea';obtain⟨em,_⟩:=e3.mut y.xo.hJ hx ea (rl.set (rp.ke g3.ke) n);exact⟨a,vs',k,n,fu,fu,q',by rw[<- rl.length];exact en,F3,_,em,s,w⟩
 |.ite c a b r,X,lp,PN,sts,y,h=>by
  ·refine yI h λ t x yy _ rest k1=>?_;obtain⟨h1,h2,h3,h4,h5⟩:=a5 k1;refine(cg (uS (sT c y.xo y.xs h1 h2) (sS a (PN:=PN) y h3) (sS b (PN:=PN) y h4)) (sS r (PN:=PN) y h5)).imp λ D σ H ⟨F,ρ,e,s,w⟩=>?_;refine⟨F,ρ,e.ev,av c (λ t w=>cz (λ k w F1 H1 g=>?_) w) w⟩;split at w
   ·rw[if_pos (by assumption)];exact⟨F1,ρ,e.grow g,s,bL a (λ ρ' w F' H' σ' e s=>⟨F',ρ',e,s,w⟩) (λ _ h=>h) w⟩
   ·rw[if_neg (by assumption)];exact⟨F1,ρ,e.grow g,s,bL b (λ ρ' w F' H' σ' e s=>⟨F',ρ',e,s,w⟩) (λ _ h=>h) w⟩
 |.for tg k it b r,X,lp,PN,sts,y,h=>by
  ·refine Kd h λ t iter body els _ rest k1=>?_;obtain⟨z0,h0,h1,h2,h3,h4⟩:=a6 k1;refine bA z0 ?_;obtain⟨pg,lt⟩:=kJ (X:=X) (by rw[y.xs.N];exact y.nd) y.xo.calm y.xs (λ _=>y.fn) h1;have hb:PSs X _ (λ D σ H=>∃PN,rS X.K J FT GT N.length F0 H0 PN b D σ H):=λ pins s σ H D I ⟨PN,q⟩=>sS b (PN:=PN) y h3 pins s σ H D I q;refine(cg (CL (y.ps h0) y.xo.calm (sI it k y.xo y.xs h2) pg hb (λ x=>mL (mM h2))) (sS r (PN:=PN) y h4)).imp λ D σ H ⟨F,ρ,e,s,w⟩=>?_;obtain⟨F',e',_⟩:=ER.fzV it e;refine⟨F',_,e'.ev,bP it (λ ts ⟨nb,w⟩=>iG (λ its w F1 H1 xs Jt g rx ok=>?_) w) w⟩;obtain⟨F2,g2,_,r2⟩:=iJ g rx nb;refine Kl (n:=N.length) (tb:=λ D σ H=>∃PN,rS X.K J FT GT N.length F0 H0 PN b D σ H) _ _ (e'.grow g2) s r2 ok w (λ ρ' w F3 H3 σ3 e3 s3=>⟨F3,ρ',e3,s3,w⟩) λ t ρ' F3 H3 σ3 x Q D' bt e3 s3 rt ert fin=>?_;exact yK bt e3 rt (λ i hi=>by rw[s3];exact lt i hi) λ σ4 ρ4 p e4 s4=>⟨_,F3,ρ4,e4,s4.trans s3,bL b (λ ρ5 q=>fin ρ5 q) (λ u hu=>by rw[ert];exact hu) p⟩
end
noncomputable def en0(n:Nat)(ts:List TV):En:=ts.map some++List.replicate (n-ts.length) none
section
variable {P:Program}{w:World}{K:FG}{mg:SV}{base:Heap}{J:Hp->Prop}{FT:List PSp}{GT:List TV}{fs gs:List Str}
structure MOk (P:Program)(w:World)(K:FG)(mg:SV)(J:Hp->Prop)(GT:List TV)(gs:List Str):Prop where
 hJ:JS J
 glb:∀(g:Nat) x t,gs[g]?=some x->GT[g]?=some t->t.nb=true->∃v u,mg x=some u/\RelV v u/\∀F H,Rp K F H t v
 dic:∀(g:Nat) x l,gs[g]?=some x->GT[g]?=some (.bor l)->DOk P w K mg x l
 blt:∀x∈BN,mg x=none
def er0{vs:List V}(wd:Wd J F H)(r:RpL K F H ts vs):ER K J F H [] F H (start N vs) (en0 N.length ts):=by
 have get:∀(i:Nat) t,(en0 N.length ts)[i]?=some (some t)->ts[i]?=some t:=λ i t h=>by
  unfold en0 at h;by_cases c:i<ts.length
  ·rw[dZ (by simpa using c),bc] at h
   cases q:ts[i]? with
   |none=>rw[q] at h;cases h
   |some u=>rw[q] at h;cases h;rfl
  ·rw[dY (by simpa using c),lD] at h;split at h<;>cases h
 have sl:∀(i:Nat) t,(en0 N.length ts)[i]?=some (some t)->∃v,(start N vs)[i]?=some (some v)/\Rp K F H t v:=λ i t h=>by
  obtain⟨v,ev,rv⟩:=r.get (get i t h);refine⟨v,?_,rv⟩;unfold start;rw[dZ (by simpa using (br.mp ev).1),bc,ev];rfl
 refine⟨⟨wd,λ i t h=>let ⟨v,e,q⟩:=sl i t h;⟨v,e,yr q⟩⟩,.refl wd,λ i l a h1 h2=>?_,λ i k l l' v h1 h2 h3 h4=>?_,λ p hp=>by cases hp⟩
 ·obtain⟨v,_,q⟩:=sl i _ h1;exact q.elim
 ·obtain⟨v,_,q⟩:=sl i _ h1;exact q.elim
theorem yL{st:Stmt}(code:Ct)(F:Fun K x qual st f fd)(sc:FnScope N ps (be st))(m:MOk P w K mg J GT gs)(hl:fs.length=FT.length)
  (fns:∀(f:Nat) x S,fs[f]?=some x->FT[f]?=some S->∃ps,Callee P w K mg base CX0 k x ps (pSp K J S))
  (hck:bM fs gs N (be st).names true code (cK st)=true) (hlen:∀ts Q,S ts Q->ts.length=ps.length)
  (hw:∀ts Q,S ts Q->wS FT GT code (en0 N.length ts) (λ _=>Q .non) Q):FnOk P w K mg base CX0 (k+1) f fd ps (pSp K J S):=by
 refine F.ok sc (λ vs H Q E ⟨F1,ts,P1,wd,r,s,_⟩=>by rw[<- r.length];exact hlen _ _ s) (λ cdv A outer s H vs Q E hr h=>?_);obtain⟨F1,ts,P1,wd,r,sp,fin⟩:=h
 have nl:vs.length<=N.length:=by
  have z:=bu List.length sc.pre;rw[aY] at z;have:=hlen _ _ sp;rw[<- r.length];lia
 have xo:XOk (cU CX0 P w K mg base N qual (be st) f cdv A outer s H E).nox J FT GT fs gs:=⟨rfl,by have:=hr.un;show(A.deeper _).units+20<cLine;lia,m.hJ,λ g y S h1 h2=>let ⟨ps,c⟩:=fns g y S h1 h2;⟨k,ps,hr,c⟩,m.glb,m.dic,m.blt,hl⟩;refine⟨_,sS (F0:=F1) (H0:=H) (PN:=[]) code (lp:=true) ⟨xo,⟨fu,fu⟩,sc.nd,λ _ _=>rfl,λ _=>PassesOwn.never⟩ hck,F1,en0 N.length ts,er0 wd r,?_,?_⟩
 ·unfold start;rw[aR,aq,jN];show vs.length+(N.length-vs.length)=N.length;lia
 ·exact bL code (λ ρ' q F' H' σ' e _=>fin .non q F' H' .non e.gr rfl) (λ t q F' H' v g r=>fin t q F' H' v g r) (hw ts P1 sp)
end
structure Gl' (K:FG)(x:Str)(st:Stmt)(f:Addr)(fd:FuncData):Prop where
 F:Fun K x x st f fd
 a:W.nsIn K mainGlobals x=some (some (.ref f))
def Gx(K:FG)(x:Str)(st:Stmt):Prop:=∃f fd,Gl' K x st f fd
section
variable {K:FG}{x:Str}{st:Stmt}{f:Addr}{oc:Value}{od an:OA}{osl:AV}{kV doc pm cdv ct:Value}
def gl_ex(a:W.nsIn K mainGlobals x=some (some (.ref f)))(l:K.lookup f=some ⟨oc,od,.func (W.fnOf x x (jT st) (cK st) (be st) .none kV doc pm an cdv ct),osl⟩)(c:W.codeIn K cdv x=true)(k:W.keepIn K (.ref f)=true):Gx K x st:=⟨_,_,Es l c k,a⟩
def gx_int(h:W.nsIn K mainGlobals x=some (some (.int i t))):∃t,W.nsIn K mainGlobals x=some (some (.int i t)):=⟨_,h⟩
end
abbrev DR:=Str×List Str×PSp
def dFs(L:List DR)(j:Nat):List Str:=(L.take j).map (·.1)
def dFT(L:List DR)(j:Nat):List PSp:=(L.take j).map (·.2.2)
section
variable {P:Program}{w:World}{K:FG}{mg:SV}{base:Heap}{J:Hp->Prop}{GT:List TV}{gs:List Str}{L:List DR}
noncomputable def Cal(P:Program)(w:World)(K:FG)(mg:SV)(base:Heap)(J:Hp->Prop)(L:List DR)(j:Nat):Prop:=∀x ps S,L[j]?=some (x,ps,S)->Callee P w K mg base CX0 (j+1) x ps (pSp K J S)
noncomputable def Cals(P:Program)(w:World)(K:FG)(mg:SV)(base:Heap)(J:Hp->Prop)(L:List DR)(j:Nat):Prop:=∀i,i<j->Cal P w K mg base J L i
def Cals.z:Cals P w K mg base J L 0:=λ i h=>absurd h (lX _)
def Cals.s(C:Cals P w K mg base J L j)(c:Cal P w K mg base J L j):Cals P w K mg base J L (j+1):=λ i h=>by
 by_cases e:i=j
 ·subst e;exact c
 ·exact C i on
def Cals.fns(C:Cals P w K mg base J L j):∀(f:Nat) x S,(dFs L j)[f]?=some x->(dFT L j)[f]?=some S->∃ps,Callee P w K mg base CX0 j x ps (pSp K J S):=λ f x S h1 h2=>by
 unfold dFs at h1;unfold dFT at h2;rw[bc] at h1 h2
 cases q:(L.take j)[f]? with
 |none=>rw[q] at h1;cases h1
 |some d=>
  rw[q] at h1 h2;cases h1;cases h2;have lt:f<j:=by have:=(br.mp q).1;rw[aY] at this;lia
  rw[pO,if_pos lt] at q;exact⟨_,(C f lt d.1 d.2.1 d.2.2 q).mono on⟩
def pP(j:Nat):(dFs L j).length=(dFT L j).length:=by unfold dFs dFT;rw[aq,aq]
theorem Kt{x:Str}{ps N:List Str}{st:Stmt}{S:PSp}(code:Ct)(C:Cals P w K mg base J L j)(m:MOk P w K mg J GT gs)(hm:∀ {x:Str}{v:Option Value},W.nsIn K mainGlobals x=some v->mg x=v)(e:L[j]?=some (x,ps,S))(g:Gx K x st)(sc:FnScope N ps (be st))
  (b:∀f fd,Fun K x x st f fd->Binds K fd ps []) (hck:bM (dFs L j) gs N (be st).names true code (cK st)=true) (hlen:∀ts Q,S ts Q->ts.length=ps.length)
  (hw:∀ts Q,S ts Q->wS (dFT L j) GT code (en0 N.length ts) (λ _=>Q .non) Q):Cals P w K mg base J L (j+1):=by
 refine C.s λ x' ps' S' e'=>?_;rw[e] at e';cases e';obtain⟨f,fd,gf⟩:=g;exact Callee.mk' gf.F (hm gf.a) (b f fd gf.F) (yL code gf.F sc m (pP j) C.fns hck hlen hw)
noncomputable def pQ:PSp:=λ ts Q=>∃ns:LI,ts=[.lst (ns.map .int)]/\ns.length<=63/\Q (.bl true)
noncomputable def kN(K:FG)(J:Hp->Prop):Sp:=λ vs H Q _=>∃(a:Addr) (ns:LI),vs=[.ref a]/\SqL K H a (ns.map V.int)/\ns.length<=63/\J H/\∀H',Q (.bl true) H'
def Ku(F:FnOk P w K mg base CX0 k f fd ps (pSp K J pQ)):FnOk P w K mg base CX0 k f fd ps (kN K J):=F.imp λ vs H Q E ⟨a,ns,e,sq,l,j,q⟩=>by
 subst e
 rcases sq with rd|kk
 ·have ha:H a≠none:=by rcases rd with h|⟨o,h⟩<;>rw[h]<;>simp
  exact⟨λ b=>b=a,[.lst (ns.map .int)],_,⟨j,λ b e=>by rw[show b=a from e];exact ha⟩,⟨_,_,fu,⟨a,_,fu,.inl ⟨fu,.inl rd⟩,RpL.ofInts ns⟩,fu⟩,⟨ns,fu,l,fu⟩,λ t e F' H' v _ r=>by subst e;cases r;exact q H'⟩
 ·exact⟨λ _=>False,[.lst (ns.map .int)],_,⟨j,λ b e=>e.elim⟩,⟨_,_,fu,⟨a,_,fu,.inr kk,RpL.ofInts ns⟩,fu⟩,⟨ns,fu,l,fu⟩,λ t e F' H' v _ r=>by subst e;cases r;exact q H'⟩
variable {FT:List PSp}
def cQ{its:List TV}{Kn:En->Prop}(I:Nat->En->Prop)(h0:I 0 ρ)(st:∀i t ρ,its[i]?=some t->I i ρ->stE ρ tg t λ ρ'=>wS FT GT c ρ' (I (i+1)) rt)(fin:∀ρ,I its.length ρ->Kn ρ):itF (λ t ρ K=>stE ρ tg t λ ρ'=>wS FT GT c ρ' K rt) its ρ Kn:=by
 have go:∀(r:List TV) (i:Nat) (ρ:En),its.drop i=r->i<=its.length->I i ρ->itF (λ t ρ K=>stE ρ tg t λ ρ'=>wS FT GT c ρ' K rt) r ρ Kn:=by
  intro r
  induction r with
  |nil=>
   intro i ρ e li h;have:i=its.length:=by have:=bu List.length e;rw[db] at this;simp at this;lia
   subst this;exact fin ρ h
  |cons t r ih=>
   intro i ρ e li h;have lt:i<its.length:=by have:=bu List.length e;rw[db] at this;simp at this;lia
   rw[gH lt] at e
   injection e with e1 e2
   have et:its[i]?=some t:=by rw[aC lt,e1]
   exact fc (λ ρ' q=>bL c (λ ρ'' q=>ih (i+1) ρ'' e2 on q) (λ _ q=>q) q) (st i t ρ et h)
 exact go its 0 ρ rfl (aX _) h0
end
end _L
namespace _L
open PySem PySem.Spec PyProof.Rows PySem.W PySem.Calls
section
variable {K:FG}{L:List (Addr×Pos×Str)}{F F1 F2 F':Fz}{H H1 H2 H':Hp}{cl:LA}{vcs:List V}
end
theorem yM(env:Env)(post:List Stmt):∀pre:List Stmt,execs (pre++post) env=(execs pre env >>= λ f=>match f with|.next=>execs post env|f=>pure f)
 |[]=>by
  rw[s1f];unfold execs;simp
 |st::pre=>by
  rw[pN];rw[execs,execs,yM env post pre];simp[bind_assoc]
  congr 1;funext f;cases f<;>simp
def Kv(h1:PSs X pre t)(h2:PSs X post u):PSs X (pre++post) (uP t u):=by
 intro pins s σ H D I h;rw[yM];refine ae (thn (h1 pins s σ H { D with nx:=u D } I h) λ f s1 q=>?_)
 cases f with
 |next=>obtain⟨σ',H',I',q⟩:=q;exact h2 pins s1 σ' H' D I' q
 |ret v=>exact ah q
 |brk=>exact ah q
 |cont=>exact ah q
section
variable {P:Program}{w:World}{K:FG}{mg:SV}{base:Heap}{L:List (Addr×Pos×Str)}
variable {FT:List PSp}{GT:List TV}{fs gs:List Str}{F F1:Fz}{Hm H2 H1:Hp}{cl:LA}{vcs:List V}{caps:List TV}{N ps fv:List Str}{fa c':Addr}{name qual:Str}{params:Arguments}{scope:Scope}{k:Nat}{a b:TV}{p:V}{Q:VK}
end
section
variable {P:Program}{w:World}{K:FG}{mg:SV}{base:Heap}{L:List (Addr×Pos×Str)}{FT FI:List PSp}{GT:List TV}{fs fi gs:List Str}
variable {x tb at_ ql:Str}{st:Stmt}{f c T:Addr}{fd:FuncData}{N ps pst N':List Str}{js:List Nat}{k kk:Nat}{S:PSp}{A:TV->List TV->Prop}{pre:List Stmt}{e:Expr}{params:Arguments}{scope:Scope}{pos p1 p2 p3 p4:Pos}
end
section
variable {P:Program}{w:World}{K:FG}{mg:SV}{base:Heap}{L:List (Addr×Pos×Str)}{FT:List PSp}{GT:List TV}{fs gs:List Str}
variable {X:Cx}{N:List Str}{nm:List (Str×NameKind)}{kk fA:Nat}{A:TV->List TV->Prop}{SA:PSp}
variable {sd nf at_ aa:Str}{st:Stmt}{f:Addr}{fd:FuncData}{k:Nat}{p1 p2 p3 p4 p5 p6 p7 p8 p9 p10 p11 p12 pos:Pos}{x1:Nat}{sc:Scope}
end
abbrev Cd.a1(a:Cd):Cd:=.cons a .nil
abbrev Cd.a2(a b:Cd):Cd:=.cons a (.cons b .nil)
noncomputable abbrev Cd.a3(a b c:Cd):Cd:=.cons a (.cons b (.cons c .nil))
abbrev Cd.n(i:Int):Cd:=.c (.int i)
abbrev Cd.w(x:Str):Cd:=.c (.str x)
abbrev Cd.eq(a b:Cd):Cd:=.cmp .Eq a b
abbrev dr(x:Str)(ps:List Str)(S:PSp):DR:=(x,ps,S)
section
variable {P:Program}{w:World}{K:FG}{mg:SV}{base:Heap}{J:Hp->Prop}{GT:List TV}{gs:List Str}{D:List DR}{L:List (Addr×Pos×Str)}
noncomputable def scB(s:Scope)(ps N:List Str):Bool:=decide (s.kind=.function/\s.isCoroutine=false/\s.isGenerator=false/\N.Nodup/\N.take ps.length=ps/\(∀x∈ps,s.names.lookup x=some .local\/s.names.lookup x=some .cell)/\∀y∈s.names,y.2≠.free)
def pR(h:scB s ps N=true):FnScope N ps s:=let h:=ax h;⟨h.1,h.2.1,h.2.2.1,h.2.2.2.1,h.2.2.2.2.1,h.2.2.2.2.2.1,h.2.2.2.2.2.2⟩
end
abbrev V0:Cd:=.v 0
abbrev V1:Cd:=.v 1
abbrev V2:Cd:=.v 2
abbrev V3:Cd:=.v 3
abbrev V4:Cd:=.v 4
abbrev V5:Cd:=.v 5
abbrev V6:Cd:=.v 6
abbrev V7:Cd:=.v 7
abbrev V8:Cd:=.v 8
abbrev V9:Cd:=.v 9
abbrev V10:Cd:=.v 10
abbrev V11:Cd:=.v 11
abbrev N0:Cd:=.c (.int 0)
abbrev N1:Cd:=.c (.int 1)
abbrev N2:Cd:=.c (.int 2)
abbrev N3:Cd:=.c (.int 3)
abbrev N4:Cd:=.c (.int 4)
abbrev N5:Cd:=.c (.int 5)
abbrev N6:Cd:=.c (.int 6)
abbrev N7:Cd:=.c (.int 7)
abbrev N8:Cd:=.c (.int 8)
abbrev N9:Cd:=.c (.int 9)
abbrev N10:Cd:=.c (.int 10)
abbrev N11:Cd:=.c (.int 11)
abbrev Cd.x(i:Nat)(j:Int):Cd:=.ix (.v i) (.c (.int j))
abbrev Cd.c1(f:Nat)(a:Cd):Cd:=.call f (.a1 a)
abbrev Cd.c2(f:Nat)(a b:Cd):Cd:=.call f (.a2 a b)
abbrev Cd.c3(f:Nat)(a b c:Cd):Cd:=.call f (.a3 a b c)
abbrev Cd.ln(a:Cd):Cd:=.bi .len (.a1 a)
abbrev Cd.b1(f:BI)(a:Cd):Cd:=.bi f (.a1 a)
abbrev Cd.b2(f:BI)(a b:Cd):Cd:=.bi f (.a2 a b)
abbrev Cd.st(a b:Cd):Cd:=.sl a (.c .non) b
abbrev Cd.sf(a b:Cd):Cd:=.sl a b (.c .non)
abbrev Cd.es(a:Cd)(x:Str):Cd:=.cmp .Eq a (.c (.str x))
abbrev Cd.t0:Cd:=.tup .nil
abbrev Cd.l0:Cd:=.lst .nil
abbrev Cd.t1(a:Cd):Cd:=.tup (.a1 a)
abbrev Cd.t2(a b:Cd):Cd:=.tup (.a2 a b)
abbrev Cd.t3(a b c:Cd):Cd:=.tup (.a3 a b c)
abbrev Ct.nv(c:Cd)(r:Ct):Ct:=.ite c .never .nil r
abbrev Ct.r(c x:Cd)(r:Ct):Ct:=.ite c (.ret x) .nil r
abbrev Ct.i(c:Cd)(a r:Ct):Ct:=.ite c a .nil r
abbrev Cd.ad(a b:Cd):Cd:=.bin .Add a b
abbrev Cd.sb(a b:Cd):Cd:=.bin .Sub a b
abbrev Cd.ml(a b:Cd):Cd:=.bin .Mult a b
abbrev Cd.dv(a b:Cd):Cd:=.bin .FloorDiv a b
abbrev Cd.md(a b:Cd):Cd:=.bin .Mod a b
abbrev Cd.lt(a b:Cd):Cd:=.cmp .Lt a b
abbrev Cd.gt(a b:Cd):Cd:=.cmp .Gt a b
abbrev Cd.ne(a b:Cd):Cd:=.cmp .NotEq a b
abbrev Cd.ge(a b:Cd):Cd:=.cmp .GtE a b
noncomputable def tO:Nat->(LV->Prop)->Prop
 |0,Q=>Q []
 |n+1,Q=>∀u,tO n λ l=>Q (u::l)
theorem yN:∀ {n:Nat}{Q:LV->Prop},tO n Q->∀us:LV,us.length=n->Q us
 |0,_,h,us,e=>by rw[mh e];exact h
 |_+1,_,h,_::us,e=>yN (h _) us (Nat.succ.inj e)
structure CM (P:Program)(w:World)(K:FG)(mg:SV)(base:Heap)(J:Hp->Prop)(GT:List TV)(gs:List Str)(D:List DR)(j:Nat):Prop where
 c:Cals P w K mg base J D j
 m:MOk P w K mg J GT gs
 hm:∀ {x:Str}{v:Option Value},W.nsIn K mainGlobals x=some v->mg x=v
noncomputable abbrev ZX'(D:List DR)(GT:List TV)(gs:List Str)(j:Nat)(st:Stmt)(N:List Str)(n p:Nat)(S:PSp)(c:Ct):Prop:=(bM (dFs D j) gs N (be st).names true c (cK st)&&scB (be st) (N.take p) N&&decide (p<=N.length/\N.length=n))=true/\∀ts Q,S ts Q->ts.length=p/\wS (dFT D j) GT c (en0 n ts) (λ _=>Q .non) Q
section
variable {P:Program}{w:World}{K:FG}{mg:SV}{base:Heap}{J:Hp->Prop}{GT:List TV}{gs:List Str}{D:List DR}{L:List (Addr×Pos×Str)}{j jj kk n n2 p i0:Nat}{x ql nn:Str}{N N' pst:List Str}{js:List Nat}{st:Stmt}{S:PSp}{code:Ct}{A:TV->List TV->Prop}{f c T:Addr}{fd:FuncData}
noncomputable abbrev Bds(x:Str)(st:Stmt)(ps:List Str)(p:Nat):Prop:=tO p λ us=>∀(kV doc pm:Value) (an:OA) (cdv ct:Value),bindArgs (W.fnOf x x (jT st) (cK st) (be st) .none kV doc pm an cdv ct) ⟨us,[]⟩=pure (ps.zip us)
def Bds.ok(h:Bds x st (N.take p) p)(l:p<=N.length)(f:Addr)(fd:FuncData)(F:Fun K x x st f fd):Binds K fd (N.take p) []:=F.binds λ kV doc pm an cdv ct us hl=>yN h us (by rw[hl,aY,gG l]) kV doc pm an cdv ct
def CM.d(C:CM P w K mg base J GT gs D j)(g:Gx K x st)(z:ZX' D GT gs j st N n p S code)(e:D[j]?=some (x,N.take p,S):=by rfl)(b:Bds x st (N.take p) p:=by repeat' (first|rfl|(refine λ _=>?_))):CM P w K mg base J GT gs D (j+1):=by
 obtain⟨z1,z2⟩:=z;simp only[bg,eZ] at z1;obtain⟨⟨k1,k2⟩,k3,rfl⟩:=z1;exact⟨Kt code C.c C.m C.hm e g (pR k2) (b.ok k3) k1 (λ ts Q h=>by rw[(z2 ts Q h).1,aY,gG k3]) λ ts Q h=>(z2 ts Q h).2,C.m,C.hm⟩
def CM.law(C:CM P w K mg base J GT gs D j)(g:Gl' K x st f fd)(z:ZX' D GT gs j st N n p pQ code):FnOk P w K mg base CX0 (j+1) f fd (N.take p) (kN K J):=by
 obtain⟨z1,z2⟩:=z;simp only[bg,eZ] at z1;obtain⟨⟨k1,k2⟩,k3,rfl⟩:=z1;exact Ku (yL code g.F (pR k2) C.m (pP j) C.c.fns k1 (λ ts Q h=>by rw[(z2 ts Q h).1,aY,gG k3]) λ ts Q h=>(z2 ts Q h).2)
end
inductive Cw where
 |no|call (f:Nat) (l:Cd)|fst (e:Cw)|or (a b:Cw)
inductive Cq where
 |nil|no|rs (k:Nat) (l:Cd)|rf (k:Nat) (a b:Cd)|rb (l:Cd)|ret (e:Cw)|sx (i:Nat) (e:Cw)|ex (e:Cw) (c:Cd) (r:Cq)|set (i:Nat) (c:Cd) (r:Cq)|ite (c:Cd) (a b r:Cq)|doc (r:Cq)
inductive XI where
 |c (k:Nat)|b (a:Int) (w:Str)
abbrev XSp:=List TV->(XI->Prop)->Prop
section
variable (FT:List PSp)(GT:List TV)(FX:List XSp)
noncomputable def wX:Cw->En->(XI->Prop)->Prop
 |.no,_,_=>False
 |.call f l,ρ,E=>wL FT GT l ρ λ ts=>∃P,(∃S,FX[f]?=some S/\S (ts.map .fz) P)/\∀n,P n->E n
 |.fst e,ρ,E=>wX e ρ E
 |.or a b,ρ,E=>wX a ρ E\/wX b ρ E
noncomputable def wR:Cq->En->(En->Prop)->(XI->En->Prop)->Prop
 |.nil,ρ,nx,_=>nx ρ
 |.no,_,_,_=>False
 |.rs k l,ρ,_,E=>wL FT GT l ρ λ ts=>ts.length<=sizeLine/\E (.c k) ρ
 |.rf k a b,ρ,_,E=>wE FT GT a ρ λ t=>∃x,t=.str x/\okS 1000 x/\wE FT GT b ρ λ u=>∃y,u=.str y/\okS 1000 y/\E (.c k) ρ
 |.rb l,ρ,_,E=>wL FT GT l ρ λ ts=>∃t a w,ts=[.str t,.int a,.str w]/\E (.b a w) ρ
 |.ret e,ρ,_,E=>wX FT GT FX e ρ λ n=>E n ρ
 |.sx _ e,ρ,_,E=>wX FT GT FX e ρ λ n=>E n ρ
 |.ex e c r,ρ,nx,E=>(wX FT GT FX e ρ λ n=>E n ρ)\/wE FT GT c ρ λ _=>wR r ρ nx E
 |.set i c r,ρ,nx,E=>wE FT GT c (fzC c ρ) λ t=>t.nb=true/\wR r ((fzC c ρ).set i (some t)) nx E
 |.ite c a b r,ρ,nx,E=>wE FT GT c ρ λ t=>b1 t λ k=>if k=true then wR a ρ (λ ρ'=>wR r ρ' nx E) E else wR b ρ (λ ρ'=>wR r ρ' nx E) E
 |.doc r,ρ,nx,E=>wR r ρ nx E
end
noncomputable def oS{α:Type}(o:Option α)(k:α->Bool):Bool:=match o with|some x=>k x|none=>false
@[elab_as_elim] theorem iM{α:Type}{motive:Option α->Prop}{o:Option α}{k:α->Bool}(h:oS o k=true)(f:∀x,k x=true->motive (some x)):motive o:=by
 cases o with
 |none=>exact Bool.noConfusion h
 |some x=>exact f x h
noncomputable def qRa(l:List Stmt)(k:Option Expr->Option Expr->Pos->List Stmt->Bool):Bool:=match l with|.Raise x p q::l=>k x p q l|_=>false
@[elab_as_elim] theorem tP{motive:List Stmt->Prop}{l:List Stmt}{k:Option Expr->Option Expr->Pos->List Stmt->Bool}(h:qRa l k=true)(f:∀x p q t,k x p q t=true->motive (.Raise x p q::t)):motive l:=by
 cases l with
 |nil=>exact Bool.noConfusion h
 |cons a t=>cases a<;>first|exact f _ _ _ _ h|exact Bool.noConfusion h
noncomputable def cJs(e:Expr)(k:List Expr->Bool):Bool:=match e with|.JoinedStr l _=>k l|_=>false
@[elab_as_elim] theorem Kw{motive:Expr->Prop}{e:Expr}{k:List Expr->Bool}(h:cJs e k=true)(f:∀l p,k l=true->motive (.JoinedStr l p)):motive e:=by
 cases e<;>first|exact f _ _ h|exact Bool.noConfusion h
noncomputable def cFv(e:Expr)(k:Expr->Bool):Bool:=match e with|.FormattedValue v n o _=>decide (n=114)&&o.isNone&&k v|_=>false
@[elab_as_elim] theorem Kx{motive:Expr->Prop}{e:Expr}{k:Expr->Bool}(h:cFv e k=true)(f:∀v p,k v=true->motive (.FormattedValue v 114 none p)):motive e:=by
 cases e<;>first|(obtain⟨a,b,c⟩:=a3 h;cases ax a;cases jh.mp b;exact f _ _ c)|exact Bool.noConfusion h
section
variable (fs gs cs:List Str)(tb:Bool)(N:List Str)(nm:List (Str×NameKind))
noncomputable def ckX:Cw->Expr->Bool
 |.no,_=>true
 |.call f l,e=>bX e λ g as w _=>aZ g λ x _=>cC as λ a es=>w.isEmpty&&decide (fs[f]?=some x)&&gl nm x&&okN x&&ckL fs gs l N nm (a::es)
 |.fst c,e=>(bX e λ g as w _=>aZ g λ x _=>cC as λ a es=>w.isEmpty&&decide (x∈fs)&&gl nm x&&okN x&&aG a&&es.all aG&&ckX c a) || kE e λ es _ _=>cC es λ a _=>aG a&&ckX c a
 |.or a b,e=>ckX a e&&ckX b e
noncomputable def ckR:Bool->Cq->List Stmt->Bool
 |_,.nil,sts=>sts.isEmpty
 |_,.no,_=>true
 |tp,.rs k l,sts=>qRa sts λ e c _ _=>oS e λ e=>bX e λ g as w _=>aZ g λ x _=>cC as λ a es=>w.isEmpty&&c.isNone&&tp&&decide (cs[k]?=some x)&&gl nm x&&okN x&&ckL fs gs l N nm (a::es)
 |tp,.rf k a b,sts=>qRa sts λ e c _ _=>oS e λ e=>bX e λ g as w _=>aZ g λ x _=>c1 as λ j=>cJs j λ l=>cC l λ u r=>c1 r λ v=>cFv v λ v=>w.isEmpty&&c.isNone&&tp&&decide (cs[k]?=some x)&&gl nm x&&okN x&&ck fs gs a N nm u&&ck fs gs b N nm v
 |_,.rb l,sts=>qRa sts λ e c _ _=>oS e λ e=>bX e λ g as w _=>aZ g λ x _=>cC as λ a es=>w.isEmpty&&c.isNone&&tb&&decide (x="BadStep")&&gl nm x&&ckL fs gs l N nm (a::es)
 |_,.ret c,sts=>qRe sts λ e _ _=>oS e λ e=>ckX fs gs N nm c e
 |_,.sx i c,sts=>qAs sts λ ts e _ _=>c1 ts λ t=>aZ t λ x _=>bX e λ _ _ _ _=>lcl N nm i x&&ckX fs gs N nm c e
 |tp,.ex d c r,sts=>qEx sts λ e _ rest=>plE e&&ckX fs gs N nm d e&&ck fs gs c N nm e&&ckR tp r rest
 |tp,.set i c r,sts=>qAs sts λ ts e _ rest=>c1 ts λ t=>aZ t λ x _=>lcl N nm i x&&ck fs gs c N nm e&&ckR tp r rest
 |tp,.ite c a b r,sts=>qIf sts λ t x y _ rest=>tB' c t&&ck fs gs c N nm t&&ckR tp a x&&ckR tp b y&&ckR tp r rest
 |tp,.doc r,sts=>qEx sts λ e _ rest=>jp e λ k _ _=>yH k&&ckR tp r rest
end
section
variable {FT:List PSp}{GT:List TV}{FX:List XSp}
theorem jv:∀(c:Cw) {ρ:En}{E E':XI->Prop},(∀n,E n->E' n)->wX FT GT FX c ρ E->wX FT GT FX c ρ E'
 |.no,_,_,_,_,q=>q.elim
 |.call f l,_,_,_,h,q=>bP l (λ ts ⟨P,a,b⟩=>⟨P,a,λ n p=>h n (b n p)⟩) q
 |.fst e,_,_,_,h,q=>by unfold wX at *;exact jv e h q
 |.or a b,_,_,_,h,q=>by unfold wX at *;exact q.imp (jv a h) (jv b h)
theorem eO:∀(c:Cq) {ρ:En}{nx nx':En->Prop}{E E':XI->En->Prop},(∀ρ,nx ρ->nx' ρ)->(∀n ρ,E n ρ->E' n ρ)->wR FT GT FX c ρ nx E->wR FT GT FX c ρ nx' E'
 |.nil,_,_,_,_,_,h,_,q=>h _ q
 |.no,_,_,_,_,_,_,_,q=>q.elim
 |.rs k l,_,_,_,_,_,_,g,q=>bP l (λ ts ⟨a,b⟩=>⟨a,g _ _ b⟩) q
 |.rf k a b,_,_,_,_,_,_,g,q=>av a (λ t ⟨x,e,o,q⟩=>⟨x,e,o,av b (λ u ⟨y,e',o',q⟩=>⟨y,e',o',g _ _ q⟩) q⟩) q
 |.rb l,_,_,_,_,_,_,g,q=>bP l (λ ts ⟨t,a,w,e,b⟩=>⟨t,a,w,e,g _ _ b⟩) q
 |.ret e,_,_,_,_,_,_,g,q=>jv e (λ n p=>g n _ p) q
 |.sx i e,_,_,_,_,_,_,g,q=>jv e (λ n p=>g n _ p) q
 |.ex e c r,_,_,_,_,_,h,g,q=>q.imp (jv e λ n p=>g n _ p) (av c λ t q=>eO r h g q)
 |.set i c r,_,_,_,_,_,h,g,q=>av c (λ t q=>⟨q.1,eO r h g q.2⟩) q
 | .ite c a b r,_,_,_,_,_,h,g,q=>av c (λ t q=>cz (λ k q=>by
   split at q
   ·rw[if_pos (by assumption)];exact eO a (λ ρ q=>eO r h g q) g q
   ·rw[if_neg (by assumption)];exact eO b (λ ρ q=>eO r h g q) g q) q) q
 |.doc r,_,_,_,_,_,h,g,q=>by unfold wR at *;exact eO r h g q
end
noncomputable def pS(x y:V):List (Str×V):=[(Str.ofString "at",x),(Str.ofString "why",y)]
noncomputable def xE(CA:Nat->Addr)(CB:Addr):XI->Hp->XK->Prop
 |.c k,H,E=>E (.ref (CA k)) none H
 |.b a w,H,E=>∀dx,H dx=some (oB dx (pS (.int a) (.str w)))->E (.ref CB) (some dx) H
noncomputable def xSp(K:FG)(J:Hp->Prop)(CA:Nat->Addr)(CB:Addr)(S:XSp):Sp:=λ vs H _ E=>∃F ts P,Wd J F H/\RpL K F H ts vs/\S ts P/\∀n,P n->∀F' H',Grow J F H F' H'->xE CA CB n H' E
noncomputable abbrev EXB:LV:=[.type "ValueError",.type "Exception",.type "BaseException",.type "object"]
noncomputable def Ky(K:FG):Sp:=λ vs H Q _=>∃(a C:Addr) (tx:Str) (x y:V),vs=[.ref a,.str tx,x,y]/\H a=some (iC a C none)/\oA K C EXB "ValueError.__new__"=true/\AtX K C/\nM K C (Str.ofString "at")/\nM K C (Str.ofString "why") /\
 ∀dx H',H dx=none->dx≠a->H' a=some (iC a C (some dx))->H' dx=some (oB dx (pS x y))->(∀b,b≠a->b≠dx->H' b=H b)->Q .non H'
structure BdOk (P:Program)(w:World)(K:FG)(mg:SV)(base:Heap)(CB:Addr):Prop where
 hm:mg "BadStep"=some (.ref CB)
 at_:AtX K CB
 n1:nM K CB (Str.ofString "at")
 n2:nM K CB (Str.ofString "why")
 mx:∃(f:Addr) (fd:FuncData),MkX K CB f EXB "ValueError.__new__" /\ FnOk P w K mg base CX0 7 f fd ["self","text","at","why"] (Ky K)/\Binds K fd ["self","text","at","why"] []
structure ZOk (CX:CXT)(X:Cx)(J:Hp->Prop)(FX:List XSp)(fs cs:List Str)(CA:Nat->Addr)(CB:Addr)(EE:St->XK)(tp tb:Bool):Prop where
 fx:∀(f:Nat) x S,fs[f]?=some x->FX[f]?=some S->∃k ps,Room k X.A/\Callee X.prog X.w X.K X.mg X.base CX k x ps (xSp X.K J CA CB S)
 pa:∀σ,lM CX X (EE σ) σ
 cl:∀(k:Nat) x,cs[k]?=some x->W.nsIn X.K mainGlobals x=some (some (.ref (CA k)))/\W.excIn X.K (CA k) EXB "ValueError.__new__"=true
 ra:tp=true->∃Ex:Value->Hp->Prop,qP X Ex/\∀σ c H,EE σ c none H->Ex c H
 rb:tb=true->BdOk X.prog X.w X.K X.mg X.base CB/\Room 8 X.A/\∃Ex:XK,ww X Ex/\∀σ c d H,EE σ c d H->Ex c d H
 ln:fs.length=FX.length
def yO:PA X es λ _ _ _=>False:=λ _ _ _ _ _ _ _ h=>h.elim
variable {X:Cx}
section
variable {J:Hp->Prop}{FT:List PSp}{GT:List TV}{FX:List XSp}{fs gs cs:List Str}{N:List Str}{nm:List (Str×NameKind)}{F0:Fz}{H0:Hp}{PN:List (TV×V)}{CX:CXT}{CA:Nat->Addr}{CB:Addr}{EE:St->XK}{tp tb:Bool}
noncomputable def rX(K:FG)(J:Hp->Prop)(FT:List PSp)(GT:List TV)(FX:List XSp)(CA:Nat->Addr)(CB:Addr)(EE:St->XK)(c:Cw):TE:=λ σ H _=>∃F ρ,EV K J F H σ ρ/\wX FT GT FX c ρ λ n=>∀F' H',Grow J F H F' H'->xE CA CB n H' (EE σ)
theorem sX(xo:XOk X J FT GT fs gs)(xs:XS X N nm)(z:ZOk CX X J FX fs cs CA CB EE tp tb):∀(c:Cw) {e:Expr},ckX fs gs N nm c e=true->PE X e (rX X.K J FT GT FX CA CB EE c)
 |.no,e,_=>λ _ _ _ _ _ _ ⟨_,_,_,w⟩=>w.elim
 |.or a b,e,h=>by
  replace h:=an h;intro pins s σ H Q I ⟨F,ρ,ev,w⟩;unfold wX at w
  rcases w with w|w
  ·exact sX xo xs z a h.1 pins s σ H Q I ⟨F,ρ,ev,w⟩
  ·exact sX xo xs z b h.2 pins s σ H Q I ⟨F,ρ,ev,w⟩
 |.fst c,e,h=>by
  rcases Bool.or_eq_true_iff.mp h with h|h
  ·refine bY h λ g as w _ k1=>?_;refine aT k1 λ x _ k2=>?_;refine fg k2 λ a es k3=>?_;obtain⟨h0,h1,h2,h3,h4,h5,h6⟩:=a7 k3;refine bA h0 ?_;obtain⟨f,hf⟩:=s2c (ax h1);obtain⟨S,eS⟩:∃S,FT[f]?=some S:=iI (by rw[<- xo.len];exact(br.mp hf).1);obtain⟨k,ps,hr,cc⟩:=xo.fns f _ S hf eS;exact(vQ cc hr (glX xs h2) vK (cj (sX xo xs z c h6) yO (aU h4)) (dO h3).1 (aU h4) (fZ h5)).imp λ σ H Q ⟨F,ρ,ev,w⟩=>⟨F,ρ,ev,by unfold wX at w;exact w⟩
  ·refine kF h λ es _ _ k1=>?_;refine fg k1 λ a es k2=>?_;exact(qC (cj (sX xo xs z c (an k2).2) yO (aU (an k2).1))).imp λ σ H Q ⟨F,ρ,ev,w⟩=>⟨F,ρ,ev,by unfold wX at w;exact w⟩
 |.call f l,e,h=>by
  ·refine bY h λ g as w _ k1=>?_;refine aT k1 λ x _ k2=>?_;refine fg k2 λ a es k3=>?_;obtain⟨h0,h1,h2,h3,h4⟩:=a5 k3;refine bA h0 ?_;have hf:=ax h1;obtain⟨S,eS⟩:∃S,FX[f]?=some S:=iI (by rw[<- z.ln];exact(br.mp hf).1);obtain⟨k,ps,hr,cc⟩:=z.fx f _ S hf eS;have st:=ju h4;rw[cJ,bg] at st;refine(EI cc hr (glX xs h2) z.pa (sL l xo xs h4) (dO h3).1 (aU st.1) (fZ st.2)).imp λ σ H Q ⟨F,ρ,ev,w⟩=>⟨F,ρ,ev,bP l (λ ts w F1 H1 vs g1 r1=>?_) w⟩;obtain⟨P,⟨S',e',sp⟩,w⟩:=w;rw[eS] at e';cases e';rw[eT]
   cases n:ts.all TV.nb with
   |true=>
    obtain⟨F2,g2,_,r2⟩:=iJ g1 r1 n;exact⟨F2,_,P,g2.w,r2,sp,λ n pn F' H' g'=>w n pn F' H' (g2.trans g')⟩
   |false=>
    obtain⟨F2,w2,r2⟩:=yw g1.w r1;refine⟨F2,_,P,w2,r2,sp,λ n pn F' H' g'=>?_⟩;have gg:Grow J F1 H1 F1 H':=⟨g'.sm,g'.dm,λ _ h=>h,λ _ h=>.inl h,g'.w.j,λ b f=>g'.dm b (g1.w.d b f)⟩;exact w n pn F1 H' (g1.trans gg)
noncomputable def xR(K:FG)(J:Hp->Prop)(F0:Fz)(H0:Hp)(PN:List (TV×V))(CA:Nat->Addr)(CB:Addr)(EE:St->XK)(m:Nat)(n:XI)(ρ:En):Prop:=∀F' H' σ',ER K J F0 H0 PN F' H' σ' ρ->σ'.length=m->xE CA CB n H' (EE σ')
noncomputable def rR(K:FG)(J:Hp->Prop)(FT:List PSp)(GT:List TV)(FX:List XSp)(CA:Nat->Addr)(CB:Addr)(EE:St->XK)(m:Nat)(F0:Fz)(H0:Hp)(PN:List (TV×V))(c:Cq):TS:=λ D σ H=>∃F ρ,ER K J F0 H0 PN F H σ ρ/\σ.length=m/\wR FT GT FX c ρ (nxR K J F0 H0 PN m D.nx) (xR K J F0 H0 PN CA CB EE m)
def tQ(e:ER X.K J F0 H0 PN F H σ ρ)(s:σ.length=N.length)(w:wX FT GT FX c ρ λ n=>xR X.K J F0 H0 PN CA CB EE N.length n ρ):rX X.K J FT GT FX CA CB EE c σ H Q:=⟨F,ρ,e.ev,jv c (λ n q F' H' g=>q F' H' σ (e.grow g) s) w⟩
theorem sR:∀(c:Cq) {lp:Bool}{sts:List Stmt},YOk X J FT GT fs gs N nm lp->ZOk CX X J FX fs cs CA CB EE tp tb->ckR fs gs cs tb N nm tp c sts=true->PSs X sts (rR X.K J FT GT FX CA CB EE N.length F0 H0 PN c)
 |.nil,lp,sts,y,z,h=>by
  refine bA h ?_;exact pss_nil.imp λ D σ H ⟨F,ρ,e,s,w⟩=>w F H σ e s
 |.no,lp,sts,y,z,h=>pss_never.imp λ D σ H ⟨F,ρ,e,s,w⟩=>w.elim
 |.rs k l,lp,sts,y,z,h=>by
  ·refine tP h λ o c _ rest k0=>?_;refine iM k0 λ e k1=>?_;refine bY k1 λ g as w _ k2=>?_;refine aT k2 λ x _ k3=>?_;refine fg k3 λ a es k4=>?_;obtain⟨z0,z1,h0,h1,h2,h3,h4⟩:=a7 k4;refine bA z0 ?_;cases jh.mp z1;obtain⟨hn,hq⟩:=z.cl k _ (ax h1);obtain⟨Ex,ra,up⟩:=z.ra h0;have st:=ju h4;rw[cJ,bg] at st;refine(cg (vO tR y.xo.calm (glX y.xs h2) hn hq ra (sL l y.xo y.xs h4) (aU st.1) (fZ st.2) (dO h3).1) pss_never).imp λ D σ H ⟨F,ρ,e,s,w⟩=>?_;exact⟨F,ρ,e.ev,bP l (λ ts ⟨a,b⟩ F1 H1 vs g r=>⟨by rw[<- kX r];exact a,up σ _ _ (b F1 H1 σ (e.grow g) s)⟩) w⟩
 |.rf k a b,lp,sts,y,z,h=>by
  ·refine tP h λ o c _ rest k0=>?_;refine iM k0 λ e k1=>?_;refine bY k1 λ g as w _ k2=>?_;refine aT k2 λ x _ k3=>?_;refine cB k3 λ j k4=>?_;refine Kw k4 λ l p k5=>?_;refine fg k5 λ u r k6=>?_;refine cB k6 λ v k7=>?_;refine Kx k7 λ v p2 k8=>?_;obtain⟨z0,z1,h0,h1,h2,h3,h4,h5⟩:=a8 k8;refine bA z0 ?_;cases jh.mp z1;obtain⟨hn,hq⟩:=z.cl k _ (ax h1);obtain⟨Ex,ra,up⟩:=z.ra h0;refine(cg (vO tR y.xo.calm (glX y.xs h2) hn hq ra (cj (FU (sE a y.xo y.xs h4) (sE b y.xo y.xs h5)) pa_nil) rfl rfl (dO h3).1) pss_never).imp λ D σ H ⟨F,ρ,e,s,w⟩=>?_
   exact⟨F,ρ,e.ev,av a (λ t ⟨x,et,ox,w⟩ F1 H1 v g r=>by
    subst et;cases r
    exact⟨x,fu,ox,F1,ρ,(e.grow g).ev,av b (λ u ⟨y,eu,oy,w⟩ F2 H2 v2 g2 r2=>by
     subst eu;cases r2
     exact⟨y,fu,oy,λ z=>⟨small BT,up σ _ _ (w F2 H2 σ ((e.grow g).grow g2) s)⟩⟩) w⟩) w⟩
 |.rb l,lp,sts,y,z,h=>by
  ·refine tP h λ o c _ rest k0=>?_;refine iM k0 λ e k1=>?_;refine bY k1 λ g as w _ k2=>?_;refine aT k2 λ x _ k3=>?_;refine fg k3 λ a es k4=>?_;obtain⟨z0,z1,h0,z2,h2,h4⟩:=a6 k4;refine bA z0 ?_;cases jh.mp z1;cases ax z2;obtain⟨B,hr,Ex,ra,up⟩:=z.rb h0;obtain⟨fi,fdi,M,Fi,bi⟩:=B.mx;have st:=ju h4;rw[cJ,bg] at st;refine(cg (GW tR y.xo.calm (glX y.xs h2) B.hm M Fi hr bi ra (sL l y.xo y.xs h4) pv (aU st.1) (fZ st.2)) pss_never).imp λ D σ H ⟨F,ρ,e,s,w⟩=>?_;refine⟨F,ρ,e.ev,bP l (λ ts ⟨t,a,wd,et,b⟩ F1 H1 vs g r=>?_) w⟩;subst et
   cases r with|cons r1 r=>cases r with|cons r2 r=>cases r with|cons r3 r=>cases r with|nil=>
   cases r1;cases r2;cases r3;refine⟨small BT,λ p hp=>⟨p,CB,t,.int a,.str wd,fu,cT,M.cls,B.at_,B.n1,B.n2,λ dx H' hd ne e1 e2 e3=>⟨fu,dx,e1,?_⟩⟩⟩;rw[aF ne] at hd
   have kp:∀c o,H1 c=some o->rm H' p c=some o:=λ c o q=>by
    have na:c≠p:=λ z=>by rw[z,hp] at q;cases q
    have nd:c≠dx:=λ z=>by rw[z,hd] at q;cases q
    rw[rF na,e3 c na nd,aF na];exact q
   have dm:∀c,H1 c≠none->rm H' p c≠none:=λ c n q=>by
    cases z:H1 c with
    |none=>exact n z
    |some o=>rw[kp c o z] at q;cases q
   have gg:Grow J F1 H1 F1 (rm H' p):=⟨λ c o _ q=>kp c o q,dm,λ _ f=>f,λ _ f=>.inl f,?_,λ c f=>dm c (g.w.d c f)⟩
   ·exact up σ _ _ _ (b F1 _ σ (e.grow (g.trans gg)) s dx (by rw[rF ne];exact e2))
   ·have j1:=y.xo.hJ.nw H1 dx (oB dx (pS (.int a) (.str wd))) hd g.w.j
    have eq:rm H' p=upd H1 dx (oB dx (pS (.int a) (.str wd))):=by
     funext c;by_cases c1:c=p
     ·subst c1;rw[GS,aF (bh ne),hp]
     ·rw[rF c1];by_cases c2:c=dx
      ·subst c2;rw[cT,e2]
      ·rw[e3 c c1 c2,aF c1,aF c2]
    rw[eq];exact j1
 |.ret c,lp,sts,y,z,h=>by
  ·refine pL h λ o _ _ k0=>?_;refine iM k0 λ e k1=>?_;exact(cg (qx (sX y.xo y.xs z c k1)) pss_never).imp λ D σ H ⟨F,ρ,e,s,w⟩=>tQ (N:=N) (Q:=λ _ _=>True) e s w
 |.sx i c,lp,sts,y,z,h=>by
  ·refine iL h λ ts e pos rest k1=>?_;refine cB k1 λ t k2=>?_;refine aT k2 λ x p k3=>?_;obtain⟨h1,h2⟩:=an (bY (motive:=λ _=>(lcl N nm i x&&ckX fs gs N nm c e)=true) k3 λ _ _ _ _ k=>k);have hs:∀n,swapsWith e (some (.Name x p)) n X.env=pure false:=bY k3 λ _ _ _ _ _ _=>rfl;obtain⟨a1,a2,a3,a4⟩:=kL y.xs y.fn h1;exact(cg (nG (by rw[y.xs.N];exact y.nd) a1 a2 (sX y.xo y.xs z c h2) (hs _) a3) pss_never).imp λ D σ H ⟨F,ρ,e,s,w⟩=>tQ (N:=N) (Q:=λ _ _=>True) e s w
 |.ex d c r,lp,sts,y,z,h=>by
  ·refine mO h λ e _ rest k1=>?_;obtain⟨h1,h2,h3,h4⟩:=a4 k1;intro pins st σ H D I ⟨F,ρ,e,s,w⟩;unfold wR at w
   rcases w with w|w
   ·exact cg (nF (sX y.xo y.xs z d h2) (kM h1)) pss_never pins st σ H D I (tQ (N:=N) (Q:=λ _ _=>True) e s w)
   ·exact cg (nF (sE c y.xo y.xs h3) (kM h1)) (sR r y z h4) pins st σ H D I ⟨F,ρ,e.ev,av c (λ t w F1 H1 v g rr=>⟨F1,ρ,e.grow g,s,w⟩) w⟩
 |.set i c r,lp,sts,y,z,h=>by
  ·refine iL h λ ts e _ rest k1=>?_;refine cB k1 λ t k2=>?_;refine aT k2 λ x _ k3=>?_;obtain⟨h1,h2,h3⟩:=_L.a3 k3;obtain⟨a1,a2,a3,a4⟩:=kL y.xs y.fn h1;refine(cg (yJ y.xo y.xs (by rw[y.xs.N];exact y.nd) a1 a2 a3 h2) (sR r y z h3)).imp λ D σ H ⟨F,ρ,e,s,w⟩=>?_;obtain⟨F',e',_⟩:=e.fzC c;exact⟨F',_,e'.ev,av c (λ t ⟨nb,w⟩ F1 H1 v g r=>⟨F1,_,e'.rr g r nb on,by rw[fG];exact s,w⟩) w⟩
 |.ite c a b r,lp,sts,y,z,h=>by
  ·refine yI h λ t x yy _ rest k1=>?_;obtain⟨h1,h2,h3,h4,h5⟩:=a5 k1;refine(cg (uS (sT c y.xo y.xs h1 h2) (sR a y z h3) (sR b y z h4)) (sR r y z h5)).imp λ D σ H ⟨F,ρ,e,s,w⟩=>?_;refine⟨F,ρ,e.ev,av c (λ t w=>cz (λ k w F1 H1 g=>?_) w) w⟩;split at w
   ·rw[if_pos (by assumption)];exact⟨F1,ρ,e.grow g,s,eO a (λ ρ' w F' H' σ' e s=>⟨F',ρ',e,s,w⟩) (λ _ _ h=>h) w⟩
   ·rw[if_neg (by assumption)];exact⟨F1,ρ,e.grow g,s,eO b (λ ρ' w F' H' σ' e s=>⟨F',ρ',e,s,w⟩) (λ _ _ h=>h) w⟩
 |.doc r,lp,sts,y,z,h=>by
  refine mO h λ e _ rest k1=>?_;refine gU k1 λ k _ _ k2=>?_;obtain⟨h1,h2⟩:=an k2;cases k<;>try exact Bool.noConfusion h1
  exact(cg uR (sR r y z h2)).imp λ D σ H ⟨F,ρ,e,s,w⟩=>⟨F,ρ,e,s,by unfold wR at w;exact w⟩
end
section
variable {P:Program}{w:World}{K:FG}{mg:SV}{base:Heap}{J:Hp->Prop}{FT:List PSp}{GT:List TV}{FX:List XSp}{fs gs cs:List Str}{CA:Nat->Addr}{CB:Addr}
def yP{N:List Str}{vs:List V}(h:vs.length<=N.length):(start N vs).length=N.length:=by
 unfold start;rw[aR,aq,jN];lia
theorem Kz{st:Stmt}(code:Cq)(F:Fun K x qual st f fd)(sc:FnScope N ps (be st))(m:MOk P w K mg J GT gs)(hl:fs.length=FT.length)(hl2:fs.length=FX.length)
  (fns:∀(f:Nat) x S,fs[f]?=some x->FT[f]?=some S->∃ps,Callee P w K mg base CX0 k x ps (pSp K J S)) (fx:∀(f:Nat) x S,fs[f]?=some x->FX[f]?=some S->∃ps,Callee P w K mg base (CX1 P w) k x ps (xSp K J CA CB S))
  (cl:∀(k:Nat) x,cs[k]?=some x->W.nsIn K mainGlobals x=some (some (.ref (CA k)))/\W.excIn K (CA k) EXB "ValueError.__new__"=true)
  (hck:ckR fs gs cs false N (be st).names true code (cK st)=true) (hlen:∀ts E,S ts E->ts.length=ps.length)
  (hw:∀ts E,S ts E->wR FT GT FX code (en0 N.length ts) (λ _=>False) (λ n _=>E n)):FnOk P w K mg base (CX1 P w) (k+1) f fd ps (xSp K J CA CB S):=by
 refine F.okX sc (λ vs H Q E ⟨F1,ts,P1,wd,r,s,_⟩=>by rw[<- r.length];exact hlen _ _ s) (λ cdv A outer s H vs Q E hr h=>?_);obtain⟨F1,ts,P1,wd,r,sp,fin⟩:=h
 have nl:vs.length<=N.length:=by
  have z:=bu List.length sc.pre;rw[aY] at z;have:=hlen _ _ sp;rw[<- r.length];lia
 have xo:XOk (cU (CX1 P w) P w K mg base N qual (be st) f cdv A outer s H E) J FT GT fs gs:=⟨rfl,by have:=hr.un;show(A.deeper _).units+20<cLine;lia,m.hJ,λ g y S h1 h2=>let ⟨ps,c⟩:=fns g y S h1 h2;⟨k,ps,hr,c⟩,m.glb,m.dic,m.blt,hl⟩;have zo:ZOk (CX1 P w) (cU (CX1 P w) P w K mg base N qual (be st) f cdv A outer s H E) J FX fs cs CA CB (λ _=>E) true false:=⟨λ g y S h1 h2=>let ⟨ps,c⟩:=fx g y S h1 h2;⟨k,ps,hr,c⟩,λ σ pins H s e s' I h=>EC pins σ H s e s' I h,cl,λ _=>⟨_,ED,λ _ _ _ h=>h⟩,(λ z=>by cases z),hl2⟩;exact⟨_,sR (F0:=F1) (H0:=H) (PN:=[]) code (lp:=false) ⟨xo,⟨fu,fu⟩,sc.nd,λ _ _=>rfl,λ z=>by cases z⟩ zo hck,F1,en0 N.length ts,er0 wd r,yP nl,eO code (λ ρ' q=>q.elim) (λ n ρ' q F' H' σ' e _=>fin n q F' H' e.gr) (hw ts P1 sp)⟩
def FnOk.upx(F:FnOk P w K mg base CX0 k f fd ps (pSp K J S)):FnOk P w K mg base CX k f fd ps (xSp K J CA CB λ _ _=>False) :=
 ⟨λ vs H Q E ⟨_,_,_,_,_,s,_⟩=>s.elim,λ A outer s H args us vs Q E h1 h2 h3 h4 ⟨_,_,_,_,_,s,_⟩=>s.elim⟩
end
inductive Cs where
 |set (i:Nat) (t:TV)|ret (t u:TV)
noncomputable def fv:TV->V
 |.bl b=>.bl b|.int i=>.int i|.str x=>.str x|_=>.non
noncomputable def tsS:Cs->TS
 |.set i t=>λ D σ H=>D.nx (σ.set i (some (fv t))) H
 |.ret t u=>λ D _ H=>∀p,H p=none->D.rt (.ref p) (upd H p (.tup [fv t,fv u]))
noncomputable def wU:Cs->En->(En->Prop)->(TV->Prop)->Prop
 |.set i t,ρ,nx,_=>nx (ρ.set i (some t))
 |.ret t u,_,_,rt=>rt (.tup [t,u])
noncomputable def wH(m:Nat)(isC:Nat->Nat->Bool):List (Nat×Cs)->Nat->En->(En->Prop)->(TV->Prop)->Prop
 |[],_,_,_,_=>False
 |(c,s)::r,k,ρ,nx,rt=>(c<=k/\k<m)/\if isC k c=true then wU s ρ nx rt else wH m isC r k ρ nx rt
noncomputable def ckU(N:List Str)(nm:List (Str×NameKind)):Cs->List Stmt->Bool
 |.set i t,sts=>qAs sts λ ts e _ rest=>c1 ts λ n=>aZ n λ x _=>jp e λ k _ _=>rest.isEmpty&&lcl N nm i x&&ckC t k
 |.ret t u,sts=>qRe sts λ e _ rest=>oS e λ e=>kE e λ es _ _=>c2 es λ a b=>jp a λ k _ _=>jp b λ k' _ _=>rest.isEmpty&&ckC t k&&ckC u k'
noncomputable def eH(h:ExceptHandler)(k:Option Expr->Option Str->List Stmt->Pos->Bool):Bool:=match h with|.ExceptHandler a b c d=>k a b c d
@[elab_as_elim] theorem yQ{motive:ExceptHandler->Prop}{h:ExceptHandler}{k:Option Expr->Option Str->List Stmt->Pos->Bool}(q:eH h k=true)(f:∀a b c d,k a b c d=true->motive (.ExceptHandler a b c d)):motive h:=by cases h;exact f _ _ _ _ q
noncomputable def ckH(cs N:List Str)(nm:List (Str×NameKind)):List (Nat×Cs)->List ExceptHandler->Bool
 |[],hs=>hs.isEmpty
 |(c,s)::r,hs=>cC hs λ h hr=>eH h λ t n b _=>oS t λ t=>aZ t λ x _=>n.isNone&&decide (cs[c]?=some x)&&gl nm x&&okN x&&ckU N nm s b&&ckH cs N nm r hr
section
variable {J:Hp->Prop}{FT:List PSp}{GT:List TV}{FX:List XSp}{fs gs cs:List Str}{N:List Str}{nm:List (Str×NameKind)}{F0:Fz}{H0:Hp}{CA:Nat->Addr}{CB:Addr}{K:FG}
def tS(h:ckC t k=true):PE X (.Constant k j pos) (tC (fv t)):=by
 cases t<;>cases k<;>try exact Bool.noConfusion h
 ·exact pe_non
 ·cases (ax h);exact pe_bl
 ·cases (ax h);exact pe_int
 ·cases (ax h);exact pe_str
def tT(h:ckC t k=true):Rp K F H t (fv t):=by
 cases t<;>cases k<;>first|exact Bool.noConfusion h|rfl
theorem KA(xs:XS X N nm)(nd:X.N.Nodup)(fn:∀x,X.env.scope.names.lookup x=some .cell->X.fn x=true):∀ {s:Cs}{sts:List Stmt},ckU N nm s sts=true->PSs X sts (tsS s)
 |.set i t,sts,h=>by
  refine iL h λ ts e _ rest k1=>?_;refine cB k1 λ n k2=>?_;refine aT k2 λ x _ k3=>?_;refine gU k3 λ k _ _ k4=>?_;obtain⟨h0,h1,h2⟩:=_L.a3 k4;refine bA h0 ?_;obtain⟨a1,a2,a3,a4⟩:=kL xs fn h1;exact uQ (nG nd a1 a2 (tS h2) (by rfl) a3)
 |.ret t u,sts,h=>by
  refine pL h λ o _ rest k1=>?_;refine iM k1 λ e k2=>?_;refine kF k2 λ es _ _ k3=>?_;refine mH k3 λ a b k4=>?_;refine gU k4 λ k _ _ k5=>?_;refine gU k5 λ k' _ _ k6=>?_;obtain⟨h0,h1,h2⟩:=_L.a3 k6;refine bA h0 ?_
  exact uQ (qx (qC (cj (tS h1) (cj (tS h2) pa_nil)))) |>.imp λ D σ H q=>⟨small BT,q⟩
abbrev Wn:=En->(En->Prop)->(TV->Prop)->Prop
noncomputable def rN(K:PySem.W.Frag)(J:Hp->Prop)(n:Nat)(F0:Fz)(H0:Hp)(W:Wn):TS:=λ D σ H=>∃F ρ,ER K J F0 H0 [] F H σ ρ/\σ.length=n/\W ρ (nxR K J F0 H0 [] n D.nx) (rtR K J F0 H0 D.rt)
noncomputable def tU(FT:List PSp)(GT:List TV)(FX:List XSp)(m:Nat)(isC:Nat->Nat->Bool)(b:Ct)(bx:Cq)(hs:List (Nat×Cs)):Wn:=λ ρ nx rt=>wS FT GT b ρ nx rt\/wR FT GT FX bx ρ nx λ n ρ'=>∃k,n=.c k/\wH m isC hs k ρ' nx rt
def KC{D:Ends}(hJ:JS J)(xs:XS X N nm)(fn:∀x,X.env.scope.names.lookup x=some .cell->X.fn x=true)(h:ckU N nm s sts=true)(e:ER K J F0 H0 [] F H σ ρ)(l:σ.length=N.length)(w:wU s ρ (nxR K J F0 H0 [] N.length D.nx) (rtR K J F0 H0 D.rt)):tsS s D σ H:=by
 cases s with
 |set i t=>
  refine iL h λ ts e' _ rest k1=>?_;refine cB k1 λ n k2=>?_;refine aT k2 λ x _ k3=>?_;refine gU k3 λ k _ _ k4=>?_;obtain⟨h0,h1,h2⟩:=_L.a3 k4;refine bA h0 ?_;obtain⟨a1,a2,a3,a4⟩:=kL xs fn h1;exact w F H _ (e.set (tT h2) on) (by rw[fG];exact l)
 |ret t u=>
  refine pL h λ o _ rest k1=>?_;refine iM k1 λ e' k2=>?_;refine kF k2 λ es _ _ k3=>?_;refine mH k3 λ a b k4=>?_;refine gU k4 λ k _ _ k5=>?_;refine gU k5 λ k' _ _ k6=>?_;obtain⟨h0,h1,h2⟩:=_L.a3 k6;intro p hp;have g:=Grow.new hJ e.ev.w (.tup [fv t,fv u]) hp;exact w F _ _ (e.gr.trans g) ⟨p,_,fu,.of cT,_,_,fu,tT h1,_,_,fu,tT h2,fu⟩
theorem yR(xs:XS X N nm)(nd:N.Nodup)(fn:∀x,X.env.scope.names.lookup x=some .cell->X.fn x=true)(cl:∀(k:Nat) x,cs[k]?=some x->W.nsIn X.K mainGlobals x=some (some (.ref (CA k)))):∀ {hs:List (Nat×Cs)}{hl:List ExceptHandler},ckH cs N nm hs hl=true->Clauses X hl (hs.map λ p=>(CA p.1,tsS p.2))
 |[],hl,h=>by
  refine bA h ?_;exact .nil
 |(c,s)::r,hl,h=>by
  ·refine fg h λ h hr k1=>?_;refine yQ k1 λ t n b _ k2=>?_;refine iM k2 λ t k3=>?_;refine aT k3 λ x _ k4=>?_;obtain⟨h0,h1,h2,h3,h4,h5⟩:=a6 k4;cases jh.mp h0
   have hne:∃b₀ r,b=b₀::r:=by
    cases b with
    |nil=>cases s<;>exact Bool.noConfusion h4
    |cons x r=>exact⟨x,r,rfl⟩
   obtain⟨b₀,rr,rfl⟩:=hne;exact .cons (glX xs h2) (cl c _ (ax h1)) (λ a pn=>KA (X:=X.suite a pn) ⟨xs.N,xs.nm⟩ (by show X.N.Nodup;rw[xs.N];exact nd) fn h4) (yR xs nd fn cl h5) (dO h3).1
theorem yS{m:Nat}{isC:Nat->Nat->Bool}(hJ:JS J)(xs:XS X N nm)(fn:∀x,X.env.scope.names.lookup x=some .cell->X.fn x=true)(ex:∀k c,c<=k->k<m->W.exmOne X.K (.ref (CA k)) (.ref (CA c))=some (isC k c)){D:Ends}(e:ER X.K J F0 H0 [] F H σ ρ)(l:σ.length=N.length) :
  ∀ {hs:List (Nat×Cs)}{hl:List ExceptHandler},ckH cs N nm hs hl=true->wH m isC hs k ρ (nxR X.K J F0 H0 [] N.length D.nx) (rtR X.K J F0 H0 D.rt)->lR X.K (hs.map λ p=>(CA p.1,tsS p.2)) (.ref (CA k)) λ ts=>ts D σ H
 |[],_,_,w=>w.elim
 |(c,s)::r,hl,h,⟨⟨k1,k2⟩,w⟩=>by
  ·refine fg h λ h hr q1=>?_;refine yQ q1 λ t n b _ q2=>?_;refine iM q2 λ t q3=>?_;refine aT q3 λ x _ q4=>?_;obtain⟨h0,h1,h2,h3,h4,h5⟩:=a6 q4;have z:=ex k c k1 k2;split at w
   ·rename_i c1;rw[c1] at z;exact .inl ⟨z,KC hJ xs fn h4 e l w⟩
   ·rename_i c1;rw[Bool.not_eq_true] at c1;rw[c1] at z;exact .inr ⟨z,yS hJ xs fn ex e l h5 w⟩
structure TOk (X:Cx)(J:Hp->Prop)(FX:List XSp)(fs cs:List Str)(CA:Nat->Addr)(CB:Addr)(CX:CXT):Prop where
 fx:∀(f:Nat) x S,fs[f]?=some x->FX[f]?=some S->∃k ps,Room k X.A/\Callee X.prog X.w X.K X.mg X.base CX k x ps (xSp X.K J CA CB S)
 cl:∀(k:Nat) x,cs[k]?=some x->W.nsIn X.K mainGlobals x=some (some (.ref (CA k)))/\W.excIn X.K (CA k) EXB "ValueError.__new__"=true
 ln:fs.length=FX.length
 sk:X.stack=X.env::X.outer/\X.env.frame=some X.env.locals
 xx:X.ex=[]
noncomputable def yT(fs gs cs N:List Str)(nm:List (Str×NameKind))(b:Ct)(bx:Cq)(hs:List (Nat×Cs))(st:Stmt):Bool:=qTr [st] λ body hl els fi _ _=>els.isEmpty&&fi.isEmpty && !hl.isEmpty&&bM fs gs N nm false b body&&ckR fs gs cs false N nm false bx body&&ckH cs N nm hs hl
def YOk.more(y:YOk X J FT GT fs gs N nm lp)(xe:VS)(pn:LO):YOk (X.more xe pn) J FT GT fs gs N nm false:=⟨⟨y.xo.calm,y.xo.units,y.xo.hJ,y.xo.fns,y.xo.glb,y.xo.dic,y.xo.blt,y.xo.len⟩,⟨y.xs.N,y.xs.nm⟩,y.nd,y.fn,λ z=>by cases z⟩
theorem KD{EE:St->XK}(y:YOk X J FT GT fs gs N nm lp)(t:TOk X J FX fs cs CA CB CX)(h1:bM fs gs N nm false b body=true)(h2:ckR fs gs cs false N nm false bx body=true)(pa:∀σ,lM CX (X.more xe pn) (EE σ) σ) :
  PSs (X.more xe pn) body λ D σ H=>rS X.K J FT GT N.length F0 H0 [] b D σ H\/rR X.K J FT GT FX CA CB EE N.length F0 H0 [] bx D σ H:=by
 intro pins s σ H D I q
 rcases q with q|q
 ·exact sS b (X:=X.more xe pn) (lp:=false) (y.more xe pn) h1 pins s σ H D I q
 ·exact sR bx (X:=X.more xe pn) (lp:=false) (y.more xe pn) ⟨t.fx,pa,t.cl,(λ z=>by cases z),(λ z=>by cases z),t.ln⟩ h2 pins s σ H D I q
theorem KE{m:Nat}{isC:Nat->Nat->Bool}{st:Stmt}(y:YOk X J FT GT fs gs N nm lp)(t:TOk X J FX fs cs CA CB (CX1 X.prog X.w))(ex:∀k c,c<=k->k<m->W.exmOne X.K (.ref (CA k)) (.ref (CA c))=some (isC k c))(h:yT fs gs cs N nm b bx hs st=true) :
  PS X st (rN X.K J N.length F0 H0 (tU FT GT FX m isC b bx hs)):=by
 ·obtain⟨body,hl,els,fi,_,_,e1,k1⟩:=Kf h;cases e1;obtain⟨z0,z1,z2,h1,h2,h3⟩:=a6 k1;refine bA z0 ?_;refine bA z1 ?_
  cases hl with
  |nil=>exact Bool.noConfusion z2
  |cons h0 hl=>
  refine(Fx t.sk (λ xe pn EE pa=>KD (F0:=F0) (H0:=H0) y t h1 h2 pa) (yR y.xs y.nd y.fn (λ k x e=>(t.cl k x e).1) h3)).imp λ D σ H ⟨F,ρ,e,s,w⟩=>?_
  rcases w with w|w
  ·exact .inl ⟨F,ρ,e,s,w⟩
  ·refine .inr ⟨F,ρ,e,s,eO bx (λ _ q=>q) (λ n ρ' ⟨k,en,q⟩ F' H' σ' e' s'=>?_) w⟩;subst en;exact yS (hs:=hs) y.xo.hJ y.xs y.fn ex e' s' h3 q
def seg(y:YOk X J FT GT fs gs N nm lp)(h:bM fs gs N nm lp c a=true)(hb:PSs X b (rN X.K J N.length F0 H0 W)):PSs X (a++b) (rN X.K J N.length F0 H0 λ ρ nx rt=>wS FT GT c ρ (λ ρ'=>W ρ' nx rt) rt) :=
 (Kv (sS c (PN:=[]) y h) hb).imp λ D σ H ⟨F,ρ,e,s,w⟩=>⟨F,ρ,e,s,bL c (λ ρ' w F' H' σ' e' s'=>⟨F',ρ',e',s',w⟩) (λ _ q=>q) w⟩
end
section
variable {J:Hp->Prop}{FT:List PSp}{GT:List TV}{FX:List XSp}{fs gs cs:List Str}{N:List Str}{nm:List (Str×NameKind)}{F0:Fz}{H0:Hp}{CA:Nat->Addr}{CB:Addr}{K:FG}{lp:Bool}{b:Ct}{bx:Cq}
end
noncomputable def Mn(W:Wn):Prop:=∀ρ nx nx' rt rt',(∀ρ,nx ρ->nx' ρ)->(∀t,rt t->rt' t)->W ρ nx rt->W ρ nx' rt'
section
variable {FT:List PSp}{GT:List TV}{FX:List XSp}{b:Ct}{bx:Cq}
def KF:Mn (wU s):=λ ρ nx nx' rt rt' h g q=>by cases s<;>first|exact h _ q|exact g _ q
theorem yU{isC:Nat->Nat->Bool}:∀ {hs:List (Nat×Cs)}{k:Nat},Mn (wH m isC hs k)
 |[],_,_,_,_,_,_,_,_,q=>q
 | (c,s)::r,k,ρ,nx,nx',rt,rt',h,g,⟨a,q⟩=>⟨a,by
  split at q
  ·rw[if_pos (by assumption)];exact KF _ _ _ _ _ h g q
  ·rw[if_neg (by assumption)];exact yU _ _ _ _ _ h g q⟩
def yV{isC:Nat->Nat->Bool}:Mn (tU FT GT FX m isC b bx hs):=λ ρ nx nx' rt rt' h g q=>q.imp (bL b h g) (eO bx h λ n ρ' ⟨k,e,q⟩=>⟨k,e,yU _ _ _ _ _ h g q⟩)
def mn0:Mn (λ ρ nx rt=>wS FT GT c ρ nx rt):=λ ρ nx nx' rt rt' h g q=>bL c h g q
def mn1{W V:Wn}(hW:Mn W)(hV:Mn V):Mn (λ ρ nx rt=>wS FT GT c ρ (λ ρ'=>W ρ' (λ ρ''=>V ρ'' nx rt) rt) rt):=λ ρ nx nx' rt rt' h g q=>bL c (λ ρ' q=>hW _ _ _ _ _ (λ ρ'' q=>hV _ _ _ _ _ h g q) g q) g q
end
section
variable {J:Hp->Prop}{FT:List PSp}{GT:List TV}{fs gs:List Str}{N:List Str}{nm:List (Str×NameKind)}{F0:Fz}{H0:Hp}{lp:Bool}
def sg0(y:YOk X J FT GT fs gs N nm lp)(h:bM fs gs N nm lp c a=true):PSs X a (rN X.K J N.length F0 H0 λ ρ nx rt=>wS FT GT c ρ nx rt):=sS c (PN:=[]) y h
theorem sg1{i:Nat}{l:List Stmt}{W V:Wn}(y:YOk X J FT GT fs gs N nm lp)(hi:decide (i<l.length)=true)(h:bM fs gs N nm lp c (l.take i)=true)(hm:Mn W)(ht:PS X (l.getD i (.Pass ⟨0,0,0,0⟩)) (rN X.K J N.length F0 H0 W))(hb:PSs X (l.drop (i+1)) (rN X.K J N.length F0 H0 V)) :
  PSs X l (rN X.K J N.length F0 H0 λ ρ nx rt=>wS FT GT c ρ (λ ρ'=>W ρ' (λ ρ''=>V ρ'' nx rt) rt) rt):=by
 have hi:=ax hi
 have e:l=l.take i++l.getD i (.Pass ⟨0,0,0,0⟩)::l.drop (i+1):=by
  rw[cw,aC hi];show l=l.take i++l[i]::l.drop (i+1);rw[<- gH hi,eY]
 have z:=seg (W:=λ ρ' nx rt=>W ρ' (λ ρ''=>V ρ'' nx rt) rt) y h ((cg ht hb).imp λ D σ H ⟨F,ρ,e,s,w⟩=>⟨F,ρ,e,s,hm _ _ _ _ _ (λ ρ' w F' H' σ' e' s'=>⟨F',ρ',e',s',w⟩) (λ _ q=>q) w⟩);rw[<- e] at z;exact z
end
abbrev noX:XSp:=λ _ _=>False
structure CN (P:Program)(w:World)(K:FG)(mg:SV)(base:Heap)(J:Hp->Prop)(GT:List TV)(gs:List Str)(D:List DR)(X1 X2:List XSp)(cs:List Str)(CA:Nat->Addr)(CB:Addr)(j:Nat):Prop where
 m:CM P w K mg base J GT gs D j
 x1:∀i,i<j->∀x ps S T,D[i]?=some (x,ps,S)->X1[i]?=some T->Callee P w K mg base (CX1 P w) (i+1) x ps (xSp K J CA CB T)
 x2:∀i,i<j->∀x ps S T,D[i]?=some (x,ps,S)->X2[i]?=some T->Callee P w K mg base (CX2 P w) (i+1) x ps (xSp K J CA CB T)
 cl:∀(k:Nat) x,cs[k]?=some x->W.nsIn K mainGlobals x=some (some (.ref (CA k)))/\W.excIn K (CA k) EXB "ValueError.__new__"=true
 l1:X1.length=D.length
 l2:X2.length=D.length
noncomputable abbrev ZR'(D:List DR)(GT:List TV)(gs:List Str)(X1:List XSp)(cs:List Str)(tp:Bool)(j:Nat)(st:Stmt)(N:List Str)(n p:Nat)(T:XSp)(c:Cq):Prop:=(ckR (dFs D j) gs cs (!tp) N (be st).names tp c (cK st)&&scB (be st) (N.take p) N&&decide (p<=N.length/\N.length=n))=true/\∀ts E,T ts E->ts.length=p/\wR (dFT D j) GT (X1.take j) c (en0 n ts) (λ _=>False) (λ n _=>E n)
section
variable {P:Program}{w:World}{K:PySem.W.Frag}{mg:SV}{base:Heap}{J:Hp->Prop}{GT:List TV}{gs:List Str}{D:List DR}{X1 X2:List XSp}{cs:List Str}{CA:Nat->Addr}{CB:Addr}{j n p:Nat}{x:Str}{N:List Str}{st:Stmt}{S:PSp}{T:XSp}{code:Ct}{cx:Cq}{f:Addr}{fd:FuncData}{W:Wn}
def Callee.upx(c:Callee P w K mg base CX0 k x ps (pSp K J S)):Callee P w K mg base CX k x ps (xSp K J CA CB noX):=let ⟨f,fd,ok,m,kp,b⟩:=c.has;⟨⟨f,fd,ok.upx,m,kp,b⟩⟩
theorem xup{XX:List XSp}(hl:XX.length=D.length)(h:∀i,i<j->∀x ps S T,D[i]?=some (x,ps,S)->XX[i]?=some T->Callee P w K mg base CX (i+1) x ps (xSp K J CA CB T)) :
  (∀(f:Nat) x S,(dFs D j)[f]?=some x->(XX.take j)[f]?=some S->∃ps,Callee P w K mg base CX j x ps (xSp K J CA CB S))/\(dFs D j).length=(XX.take j).length:=by
 refine⟨λ f x S h1 h2=>?_,by unfold dFs;rw[aq,aY,aY,hl]⟩;unfold dFs at h1;rw[bc] at h1
 cases q:(D.take j)[f]? with
 |none=>rw[q] at h1;cases h1
 |some d=>
  rw[q] at h1;cases h1;have lt:f<j:=by have:=(br.mp q).1;rw[aY] at this;lia
  rw[pO,if_pos lt] at q h2;exact⟨_,(h f lt d.1 d.2.1 d.2.2 S q h2).mono on⟩
theorem yW{XX:List XSp}(h:∀i,i<j->∀x ps S T,D[i]?=some (x,ps,S)->XX[i]?=some T->Callee P w K mg base CX (i+1) x ps (xSp K J CA CB T))(h2:∀x ps S T,D[j]?=some (x,ps,S)->XX[j]?=some T->Callee P w K mg base CX (j+1) x ps (xSp K J CA CB T)) :
  ∀i,i<j+1->∀x ps S T,D[i]?=some (x,ps,S)->XX[i]?=some T->Callee P w K mg base CX (i+1) x ps (xSp K J CA CB T):=λ i hi=>by
 by_cases e:i=j
 ·subst e;exact h2
 ·exact h i on
def CN.up(C:CN P w K mg base J GT gs D X1 X2 cs CA CB j)(M:CM P w K mg base J GT gs D (j+1))(h1:∀x ps S T,D[j]?=some (x,ps,S)->X1[j]?=some T->Callee P w K mg base (CX1 P w) (j+1) x ps (xSp K J CA CB T))(h2:∀x ps S T,D[j]?=some (x,ps,S)->X2[j]?=some T->Callee P w K mg base (CX2 P w) (j+1) x ps (xSp K J CA CB T)):CN P w K mg base J GT gs D X1 X2 cs CA CB (j+1) :=
 ⟨M,yW C.x1 h1,yW C.x2 h2,C.cl,C.l1,C.l2⟩
def mP{XX:List XSp}(M:CM P w K mg base J GT gs D (j+1))(e:XX[j]?=some noX):∀x ps S T,D[j]?=some (x,ps,S)->XX[j]?=some T->Callee P w K mg base CX (j+1) x ps (xSp K J CA CB T):=λ x ps S T h1 h2=>by
 rw[e] at h2;cases h2;exact(M.c j (eU j) x ps S h1).upx
def CN.d(C:CN P w K mg base J GT gs D X1 X2 cs CA CB j)(g:Gx K x st)(z:ZX' D GT gs j st N n p S code)(e1:X1[j]?=some noX:=by rfl)(e2:X2[j]?=some noX:=by rfl)(e:D[j]?=some (x,N.take p,S):=by rfl)(b:Bds x st (N.take p) p:=by repeat' (first|rfl|(refine λ _=>?_))):CN P w K mg base J GT gs D X1 X2 cs CA CB (j+1) :=
 C.up (C.m.d g z e b) (mP (C.m.d g z e b) e1) (mP (C.m.d g z e b) e2)
def CN.r(C:CN P w K mg base J GT gs D X1 X2 cs CA CB j)(g:Gx K x st)(z:ZX' D GT gs j st N n p S code)(zr:ZR' D GT gs X1 cs true j st N n p T cx)(e1:X1[j]?=some T:=by rfl)(e2:X2[j]?=some noX:=by rfl)(e:D[j]?=some (x,N.take p,S):=by rfl)(b:Bds x st (N.take p) p:=by repeat' (first|rfl|(refine λ _=>?_))):CN P w K mg base J GT gs D X1 X2 cs CA CB (j+1):=by
 refine C.up (C.m.d g z e b) (λ x' ps' S' T' h1 h2=>?_) (mP (C.m.d g z e b) e2);rw[e] at h1;cases h1;rw[e1] at h2;cases h2;obtain⟨z1,z2⟩:=zr;simp only[bg,eZ] at z1;obtain⟨⟨k1,k2⟩,k3,rfl⟩:=z1;obtain⟨f,fd,gf⟩:=g;obtain⟨u1,u2⟩:=xup C.l1 C.x1;exact Callee.mk' gf.F (C.m.hm gf.a) (b.ok k3 f fd gf.F) (Kz cx gf.F (pR k2) C.m.m (pP j) u2 C.m.c.fns u1 C.cl k1 (λ ts E h=>by rw[(z2 ts E h).1,aY,gG k3]) λ ts E h=>(z2 ts E h).2)
theorem CN.t(C:CN P w K mg base J GT gs D X1 X2 cs CA CB j)(g:Gx K x st)(k2:(scB (be st) (N.take p) N&&decide (p<=N.length/\N.length=n))=true)
  (hb:∀(X:Cx) (F0:Fz) (H0:Hp),X.prog=P->X.w=w->X.K=K->X.mg=mg->X.base=base->YOk X J (dFT D j) GT (dFs D j) gs N (be st).names true->TOk X J (X1.take j) (dFs D j) cs CA CB (CX1 X.prog X.w)->TOk X J (X2.take j) (dFs D j) cs CA CB (CX2 X.prog X.w)->PSs X (cK st) (rN X.K J N.length F0 H0 W))
  (z2:∀ts Q,S ts Q->ts.length=p/\W (en0 n ts) (λ _=>Q .non) Q) (mn:Mn W) (e1:X1[j]?=some noX:=by rfl) (e2:X2[j]?=some noX:=by rfl) (e:D[j]?=some (x,N.take p,S):=by rfl) (b:Bds x st (N.take p) p:=by repeat' (first|rfl|(refine λ _=>?_))):CN P w K mg base J GT gs D X1 X2 cs CA CB (j+1):=by
 simp only[bg,eZ] at k2;obtain⟨k2,k3,rfl⟩:=k2;have sc:=pR k2;have lp:(N.take p).length=p:=by rw[aY,gG k3]
 obtain⟨u1,v1⟩:=xup C.l1 C.x1;obtain⟨u2,v2⟩:=xup C.l2 C.x2
 have M:CM P w K mg base J GT gs D (j+1):=by
  refine⟨C.m.c.s λ x' ps' S' e'=>?_,C.m.m,C.m.hm⟩;rw[e] at e';cases e';obtain⟨f,fd,gf⟩:=g;refine Callee.mk' gf.F (C.m.hm gf.a) (b.ok k3 f fd gf.F) (gf.F.ok sc (λ vs H Q E ⟨F1,ts,P1,wd,r,s,_⟩=>by rw[<- r.length,(z2 _ _ s).1,lp]) (λ cdv A outer s H vs Q E hr h=>?_));obtain⟨F1,ts,P1,wd,r,sp,fin⟩:=h;have nl:vs.length<=N.length:=by rw[<- r.length,(z2 _ _ sp).1];exact k3
  have xo:XOk (cU CX0 P w K mg base N x (be st) f cdv A outer s H E).nox J (dFT D j) GT (dFs D j) gs:=⟨rfl,by have:=hr.un;show(A.deeper _).units+20<cLine;lia,C.m.m.hJ,λ g y S h1 h2=>let ⟨ps,c⟩:=C.m.c.fns g y S h1 h2;⟨j,ps,hr,c⟩,C.m.m.glb,C.m.m.dic,C.m.m.blt,pP j⟩;refine⟨_,hb (cU CX0 P w K mg base N x (be st) f cdv A outer s H E).nox F1 H rfl rfl rfl rfl rfl ⟨xo,⟨fu,fu⟩,sc.nd,λ _ _=>rfl,λ _=>PassesOwn.never⟩ ⟨λ g y S h1 h2=>let ⟨ps,c⟩:=u1 g y S h1 h2;⟨j,ps,hr,c⟩,C.cl,v1,⟨fu,fu⟩,fu⟩ ⟨λ g y S h1 h2=>let ⟨ps,c⟩:=u2 g y S h1 h2;⟨j,ps,hr,c⟩,C.cl,v2,⟨fu,fu⟩,fu⟩,F1,en0 N.length ts,er0 wd r,yP nl,?_⟩;exact mn _ _ _ _ _ (λ ρ' q F' H' σ' e _=>fin .non q F' H' .non e.gr rfl) (λ t q F' H' v g r=>fin t q F' H' v g r) (z2 ts P1 sp).2
 exact C.up M (mP M e1) (mP M e2)
def CN.law(C:CN P w K mg base J GT gs D X1 X2 cs CA CB j)(g:Gl' K x st f fd)(z:ZX' D GT gs j st N n p pQ code):FnOk P w K mg base CX0 (j+1) f fd (N.take p) (kN K J):=C.m.law g z
end
abbrev p0:Stmt:=.Pass ⟨0,0,0,0⟩
noncomputable abbrev ZT'(D:List DR)(GT:List TV)(gs:List Str)(X1:List XSp)(cs:List Str)(m:Nat)(isC:Nat->Nat->Bool)(j:Nat)(st:Stmt)(N:List Str)(n p i:Nat)(S:PSp)(c b:Ct)(bx:Cq)(hs:List (Nat×Cs))(r:Ct):Prop :=
 ((scB (be st) (N.take p) N&&decide (p<=N.length/\N.length=n))&&(decide (i<(cK st).length)&&bM (dFs D j) gs N (be st).names true c ((cK st).take i)&&yT (dFs D j) gs cs N (be st).names b bx hs ((cK st).getD i p0)&&bM (dFs D j) gs N (be st).names true r ((cK st).drop (i+1))))=true /\
 ∀ts Q,S ts Q->ts.length=p/\wS (dFT D j) GT c (en0 n ts) (λ ρ=>tU (dFT D j) GT (X1.take j) m isC b bx hs ρ (λ ρ'=>wS (dFT D j) GT r ρ' (λ _=>Q .non) Q) Q) Q
section
variable {P:Program}{w:World}{K:FG}{mg:SV}{base:Heap}{J:Hp->Prop}{GT:List TV}{gs:List Str}{D:List DR}{X1 X2:List XSp}{cs:List Str}{CA:Nat->Addr}{CB:Addr}{j n p i i' e f k:Nat}{x:Str}{N:List Str}{st:Stmt}{S:PSp}{c b c' r:Ct}{bx:Cq}{hs:List (Nat×Cs)}{s:Cs}{ks:List Nat}{m:Nat}{isC:Nat->Nat->Bool}
theorem CN.y(C:CN P w K mg base J GT gs D X1 X2 cs CA CB j)(ex:∀k c,c<=k->k<m->W.exmOne K (.ref (CA k)) (.ref (CA c))=some (isC k c))(g:Gx K x st)(z:ZT' D GT gs X1 cs m isC j st N n p i S c b bx hs r)(e1:X1[j]?=some noX:=by rfl)(e2:X2[j]?=some noX:=by rfl)(e:D[j]?=some (x,N.take p,S):=by rfl)(b:Bds x st (N.take p) p:=by repeat' (first|rfl|(refine λ _=>?_))):CN P w K mg base J GT gs D X1 X2 cs CA CB (j+1):=by
 obtain⟨z1,z2⟩:=z;obtain⟨k0,z1⟩:=an z1;obtain⟨k1,k2,k3,k4⟩:=_L.a4 z1;refine C.t g k0 (λ X F0 H0 q1 q2 q3 q4 q5 y t1 t2=>?_) z2 (mn1 yV mn0) e1 e2 e b;subst q3;exact sg1 y k1 k2 yV (KE y t1 ex k3) (sg0 y k4)
end
end _L
namespace _M
open PySem _L PyProof.Rows
noncomputable def formsL:List (Str×List (Str×Int)):=[("in",[("sides",1)]),("num",[("number",1)]),("count",[("small",2),("sides",1)]),("each",[("word",1),("step",2)]),("pair",[("word",1),("step",2),("step",3)]),("pick",[("step",1),("step",2),("step",3)]),("turn",[("step",1),("sides",2)]),("flip",[("step",1),("small",2)]),("cut",[("step",1),("small",2),("small",3),("small",4),("small",5)]),("spread",[("step",1),("small",2),("small",3)]),("lay",[("step",1),("sides",2)]),("join",[("step",1),("step",2),("small",3)]),("fetch",[("step",1),("step",2)]),("fold",[("word",1),("step",2),("small",3)]),("run",[("word",1),("step",2),("small",3)])]
noncomputable def tV(K:FG):List (Str×Int)->List V->Prop
 |[],[]=>True
 |f::fs,x::xs=>(∃a,x=.ref a/\KTup K a [.str f.1,.int f.2])/\tV K fs xs
 |_,_=>False
noncomputable def tW(K:FG):List (Str×List (Str×Int))->LA->Prop
 |[],[]=>True
 |f::fs,p::ps=>(p.1=f.1/\∃xs,KTup K p.2 xs/\tV K f.2 xs)/\tW K fs ps
 |_,_=>False
noncomputable def yX(P:Program)(w:World)(K:FG)(d:Addr):Prop:=∃kvs,KTab P w K d kvs/\tW K formsL kvs
def mQ{K:FG}{sl:AV}(h:K.lookup a=some ⟨.type "tuple",none,.seq its n,sl⟩)(z:its.size<=sizeLine)(v:Vals xs its.toList):KTup K a xs:=⟨_,its,n,h,rfl,rfl,rfl,z,v⟩
def af(ns:LI):Int:=ns.foldl (λ a b=>a*b) 1
def mR{ns:LI}{i:Nat}(h:ns[i]?=some x):af (ns.take (i+1))=af (ns.take i)*x:=by
 unfold af;rw[mf,h,List.foldl_append];rfl
def aE(ns:LI):Prop:=∀n∈ns,0<=n/\n<1000000000000000000
def ak(n:Int):Int:=if n=0 then 1 else n
def yY(h:aE ns):aE (ns.map ak):=by
 intro n hn;obtain⟨m,hm,rfl⟩:=aW.mp hn;have:=h m hm;unfold ak;split<;>lia
def stP(ns:LI)(j:Nat):Int:=af (ns.reverse.take j)
def stL(ns:LI)(i:Nat):LI:=(List.range i).map (stP ns)
def tX(ns:LI)(i:Nat):stL ns (i+1)=stL ns i++[stP ns i]:=by
 unfold stL;rw[oQ,bQ];rfl
def yZ{ns:LI}{i:Nat}(hi:i<ns.length)(h:ns[ns.length-1-i]?=some m):stP ns (i+1)=stP ns i*m:=by
 unfold stP;exact mR (by rw[iY hi];exact h)
def cR(ns:LI):Prop:=6<ns.length\/512<af (ns.map ak)
noncomputable def dB(ns ms:LI):Prop:=ms.length=ns.length/\∀(i:Nat) m n,ms[i]?=some m->ns[i]?=some n->0<=m/\m<n
noncomputable def bF(ms ss:LI):Int:=(List.zipWith (λ a b=>a*b) ms ss).sum
noncomputable def lfI(ns:LI)(place:Int):Nat->Int
 |0=>place
 |i+1=>lfI ns place i/ns.reverse.getD i 1
noncomputable def dgI(ns:LI)(place:Int)(i:Nat):Int:=lfI ns place i%ns.reverse.getD i 1
noncomputable def dgL(ns:LI)(place:Int)(i:Nat):LI:=(List.range i).map (dgI ns place)
def zb(ns:LI)(p:Int)(i:Nat):dgL ns p (i+1)=dgL ns p i++[dgI ns p i]:=by
 unfold dgL;rw[oQ,bQ];rfl
def pU{ns:LI}{i:Nat}(hi:i<ns.length)(h:ns[ns.length-1-i]?=some m):ns.reverse.getD i 1=m:=by
 rw[cw,iY hi,h];rfl
def tY(xs:LI)(y:Int):af (xs++[y])=af xs*y:=by unfold af;rw[List.foldl_append];rfl
def KG(xs:LI):∀a:Int,xs.foldl (λ a b=>a*b) a=a*af xs:=by
 induction xs with
 |nil=>intro a;show a=a*1;rw[s0d]
 |cons x xs ih=>intro a;show xs.foldl (λ a b=>a*b) (a*x)=a*(xs.foldl (λ a b=>a*b) (1*x));rw[ih,ih (1*x),s0m,iN]
def bN(x:Int)(xs:LI):af (x::xs)=x*af xs:=by
 show xs.foldl (λ a b=>a*b) (1*x)=_;rw[KG,s0m]
def KH(ns:LI):af ns.reverse=af ns:=by
 induction ns with
 |nil=>rfl
 |cons x xs ih=>rw[ip,tY,bN,ih,jw]
def tZ(h:af ns≠0):∀n∈ns,n≠0:=by
 induction ns with
 |nil=>intro n hn;cases hn
 |cons x xs ih=>
  rw[bN] at h;intro n hn
  rcases aN.mp hn with rfl|hn
  ·intro z;rw[z,s1t] at h;exact h rfl
  ·exact ih (λ z=>h (by rw[z,Int.mul_zero])) n hn
def ze(ns:LI):stP ns ns.length=af ns:=by
 unfold stP;rw[<- gQ,cX,KH]
def KJ{ns:LI}(h:∀n∈ns,0<=n):0<=af ns:=by
 induction ns with
 |nil=>decide
 |cons x xs ih=>rw[bN];exact s2n (h x (bJ ..)) (ih λ n hn=>h n (bO _ hn))
def zi(h:aE ns)(i:Nat):0<=stP ns i:=KJ λ n hn=>(h n (List.mem_reverse.mp (my hn))).1
noncomputable def iO(ns:LI)(pl:Int):Nat->Int
 |0=>0
 |i+1=>iO ns pl i+dgI ns pl i*stP ns i
def ua(ns:LI){i:Nat}(hi:i<ns.length):∃m,ns[ns.length-1-i]?=some m/\m∈ns:=by
 have z:ns.length-1-i<ns.length:=by omega
 exact⟨ns[ns.length-1-i],aC z,kg z⟩
theorem zj{ns:LI}:∀i,i<=ns.length->iO ns pl i+stP ns i*lfI ns pl i=pl
 |0,_=>by show 0+1*pl=pl;lia
 |i+1,h=>by
  obtain⟨m,hm,_⟩:=ua ns (i:=i) on;have ih:=zj (ns:=ns) (pl:=pl) i on;rw[yZ on hm];show iO ns pl i+dgI ns pl i*stP ns i+stP ns i*m*(lfI ns pl i/_)=pl;have rg:=pU on hm;unfold dgI;rw[rg];have e:=Int.mul_ediv_add_emod (lfI ns pl i) m;have e2:stP ns i*m*(lfI ns pl i/m)=stP ns i*(m*(lfI ns pl i/m)):=iN ..;have e3:stP ns i*(m*(lfI ns pl i/m))+stP ns i*(lfI ns pl i%m)=stP ns i*lfI ns pl i:=by rw[<- Int.mul_add,e]
  have e4:lfI ns pl i%m*stP ns i=stP ns i*(lfI ns pl i%m):=jw ..;lia
theorem zk{pl:Int}(h:aE ns)(h0:0<=pl):∀i,i<=ns.length->0<=lfI ns pl i
 |0,_=>h0
 |i+1,hi=>by
  obtain⟨m,hm,mm⟩:=ua ns (i:=i) on;show 0<=lfI ns pl i/_;rw[pU on hm];exact jX (zk h h0 i on) (h m mm).1
def zm{ns:LI}(nz:∀n∈ns,n≠0)(h:aE ns){i:Nat}(hi:i<ns.length)(hm:ns[ns.length-1-i]?=some m):0<=dgI ns pl i/\dgI ns pl i<m:=by
 unfold dgI;rw[pU hi hm];have mm:=aK hm;have m0:=(h m mm).1;have mz:=nz m mm;exact⟨cY _ mz,dj _ on⟩
theorem zn{ns:LI}(nz:∀n∈ns,n≠0)(h:aE ns):∀i,i<=ns.length->0<=iO ns pl i
 |0,_=>iB _
 |i+1,hi=>by
  obtain⟨m,hm,_⟩:=ua ns (i:=i) on;have a1:=zn (pl:=pl) nz h i on;have a2:=s2n (zm (pl:=pl) nz h on hm).1 (zi h i);show 0<=iO ns pl i+_;lia
def KL{pl:Int}(h:aE ns)(h0:0<=pl)(h1:pl<af ns):iO ns pl ns.length=pl:=by
 have nz:=tZ (ns:=ns) on;have e:=zj (ns:=ns) (pl:=pl) ns.length (aj _);have t:=zn (pl:=pl) nz h ns.length (aj _);have l:=zk h h0 ns.length (aj _)
 have z:lfI ns pl ns.length=0:=by
  refine Decidable.byContradiction λ nl=>?_;have g:=kO (show 1<=lfI ns pl ns.length by lia) (zi h ns.length);rw[ze] at g e;lia
 rw[z,Int.mul_zero] at e;lia
def KM{ns:LI}{k:Nat}(hk:k<ns.length):(dgL ns pl ns.length).reverse[k]?=some (dgI ns pl (ns.length-1-k)):=by
 have l:(dgL ns pl ns.length).length=ns.length:=by rw[dgL,aq,bd]
 have z:ns.length-1-k<ns.length:=on;rw[iY (by rw[l];exact hk),l,dgL,bc,iD z];rfl
theorem zq(ns:LI)(pl:Int):∀n,bF (dgL ns pl n).reverse (stL ns n).reverse=iO ns pl n
 |0=>rfl
 |n+1=>by
  rw[zb,tX,jx,jx];show dgI ns pl n*stP ns n+bF (dgL ns pl n).reverse (stL ns n).reverse=iO ns pl n+dgI ns pl n*stP ns n;rw[zq ns pl n,Int.add_comm]
def KN{ns:LI}(nz:∀n∈ns,n≠0)(h:aE ns):dB ns (dgL ns pl ns.length).reverse:=by
 refine⟨by rw[gQ,dgL,aq,bd],λ i m n hm hn=>?_⟩;have hi:=(br.mp hn).1;rw[KM hi] at hm;cases hm;exact zm nz h on (by rw[show ns.length-1-(ns.length-1-i)=i by lia];exact hn)
noncomputable def fit(ns:LI):Prop:=(∀n∈ns,0<=n/\n<=512)/\ns.length<=6/\1<=af (ns.map ak)/\af (ns.map ak)<=512
noncomputable def grow(ns:LI)(free:Int)(i:Nat):Prop:=(∀n∈ns,0<=n/\n<=512)/\ns.length=i/\1<=free/\free<=512/\1<=af (ns.map ak)/\free*af (ns.map ak)<=512
noncomputable def off(ns:LI)(side:Int):Prop:=side<0\/(ns.length:Int)<=side
noncomputable def bad(ns:LI)(side first many step:Int):Prop:=first<0\/many<0\/step<1\/(0<many/\ns.getD side.toNat 0<=first+(many-1)*step)
def jy(h:¬off ns side):∃k:Nat,side=k/\k<ns.length:=by
 unfold off at h;exact⟨side.toNat,on,on⟩
instance (ns:LI):Decidable (cR ns):=by unfold cR;infer_instance
noncomputable def agr(x y:LI):Prop:=∀k:Nat,k<x.length->k<y.length->x[k]?=y[k]?
def KO(x:LI):agr x x:=λ _ _ _=>rfl
def zu(h:agr x y):agr y x:=λ k a b=>(h k b a).symm
def uc{x y:LI}(h:x.length<=y.length):agr x y ↔ y.take x.length=x:=by
 constructor
 ·intro a;apply kc;intro k;by_cases c:k<x.length
  ·rw[qD c];exact(a k c on).symm
  ·rw[fV (by rw[aY];lia),fV on]
 ·intro e k hx hy;have z:=bu (λ l=>l[k]?) e;simp only[qD hx] at z;exact z.symm
noncomputable def cr(x y:LI):Prop:=if y.length<x.length then x.take y.length=y else y.take x.length=x
def bG(x y:LI):LI:=if y.length<x.length then x else y
def zw(x y:LI):cr x y ↔ agr x y:=by
 unfold cr;split
 ·rename_i h;exact(uc on).symm.trans ⟨zu,zu⟩
 ·rename_i h;exact(uc on).symm
def KP(h:agr x y)(l:x.length=y.length):x=y:=by
 have z:=(uc (x:=x) (y:=y) on).mp h;rw[l,cX] at z;exact z.symm
noncomputable def tups(H:Hp)(ps:List Addr)(L:LL):Prop:=ps.length=L.length/\∀(i:Nat) p m,ps[i]?=some p->L[i]?=some m->H p=some (.tup (m.map V.int))
def sm(ns:LI):Prop:=∀n∈ns,0<=n/\n<=1000000
def KQ(h:sm ns):aE ns:=λ n hn=>by have:=h n hn;lia
noncomputable def gW(ns ms:LI)(side:Int):LI:=ns.set side.toNat (ns.getD side.toNat 0+ms.getD side.toNat 0)
def KR{n k:Nat}(h:k<n):ixN n (k:Int)=some k:=by unfold ixN;rw[if_pos on];simp;lia
def getD_mem{ns:LI}{k:Nat}(h:k<ns.length):ns.getD k 0∈ns:=by rw[cw,aC h];exact kg h
def atD(ns:LI)(p:Int):LI:=(dgL ns p ns.length).reverse
def gX(ns:LI)(p:Int):(atD ns p).length=ns.length:=by simp[atD,dgL]
theorem zx(ns:LI)(n p:Int):∀i,lfI (ns++[n]) p (i+1)=lfI ns (p/n) i
 |0=>by
  show p/(ns++[n]).reverse.getD 0 1=p/n;rw[jx];rfl
 |i+1=>by
  show lfI (ns++[n]) p (i+1)/(ns++[n]).reverse.getD (i+1) 1=lfI ns (p/n) i/ns.reverse.getD i 1;rw[zx ns n p i,jx];rfl
def KS(ns:LI)(n p:Int)(i:Nat):dgI (ns++[n]) p (i+1)=dgI ns (p/n) i:=by
 unfold dgI;rw[zx,jx];rfl
def KU(ns:LI)(n p:Int):dgI (ns++[n]) p 0=p%n:=by
 show p%(ns++[n]).reverse.getD 0 1=p%n;rw[jx];rfl
def ud(ns:LI)(n p:Int):atD (ns++[n]) p=atD ns (p/n)++[p%n]:=by
 unfold atD dgL;rw[aR,fJ,s1a,bw,ip,KU,bq]
 congr 2
 exact py λ i _=>KS ns n p i
def zy{p B n:Int}(hn:0<n):p/(B*n)=p/n/B:=by
 rw[jw,Int.ediv_mul,if_neg on,Int.add_zero]
def KW{p B n:Int}(hn:0<n):p%(B*n)/n=p/n%B:=by
 have e:p%(B*n)=p+n*(-(B*(p/(B*n)))):=by
  rw[Int.emod_def,s3u,Int.mul_neg]
  congr 2
  rw[<- iN,jw n B]
 rw[e,Int.add_mul_ediv_left _ _ on,Int.emod_def (p/n) B,<- zy hn,s3u]
def mS(a:LI):∀b:LI,af (a++b)=af a*af b:=by
 induction a with
 |nil=>intro b;show af b=1*af b;rw[s0m]
 |cons x a ih=>intro b;rw[pN,bN,bN,ih,iN]
def KY{α:Type}{P:List α->Prop}(h0:P [])(h1:∀l x,P l->P (l++[x]))(l:List α):P l:=by
 have:∀l:List α,P l.reverse:=λ l=>by
  induction l with
  |nil=>exact h0
  |cons x l ih=>rw[ip];exact h1 _ _ ih
 rw[<- List.reverse_reverse l];exact this _
def zz(a:LI)(b:LI):(∀n∈b,0<n)->∀p:Int,atD (a++b) p=atD a (p/af b)++atD b (p%af b):=by
 refine KY (P:=λ b=>(∀n∈b,0<n)->∀p:Int,atD (a++b) p=atD a (p/af b)++atD b (p%af b)) ?_ ?_ b
 ·intro _ p;show atD (a++[]) p=atD a (p/1)++[];rw[eT,eT,s1c]
 ·intro b n ih h p;have hn:0<n:=h n BT;rw[<- dF,ud,ih (λ m hm=>h m (by simp[hm])),ud,tY,zy hn,KW hn,dF,Int.emod_emod_of_dvd p ⟨af b,jw _ _⟩]
def zA{ns:LI}(h:∀n∈ns,0<n):0<af ns:=by
 induction ns with
 |nil=>decide
 |cons x xs ih=>rw[bN];exact Int.mul_pos (h x (bJ ..)) (ih λ n hn=>h n (bO _ hn))
def plH(ns ms:LI):Int:=bF ms (stL ns ns.length).reverse
def kQ{p:Int}(h:aE ns)(h0:0<=p)(h1:p<af ns):plH ns (atD ns p)=p:=by
 unfold plH atD;rw[zq,KL h h0 h1]
def ue{p:Int}(h:aE ns)(h0:0<=p)(h1:p<af ns):∀n∈ns,0<n:=λ n hn=>by
 have a:=tZ (ns:=ns) on n hn;have b:=h n hn;lia
def mT{p:Int}(h:aE ns)(h0:0<=p)(h1:p<af ns):dB ns (atD ns p):=KN (λ n hn=>by have:=ue h h0 h1 n hn;lia) h
def zB(n:Int)(ns:LI){j:Nat}(h:j<=ns.length):stP (n::ns) j=stP ns j:=by
 unfold stP;rw[ip,uf (by simpa using h)]
def mU(n:Int)(ns:LI):(stL (n::ns) (n::ns).length).reverse=af ns::(stL ns ns.length).reverse:=by
 rw[List.length_cons,tX,jx,zB n ns (aj _),ze];show af ns::(stL (n::ns) ns.length).reverse=_
 congr 2
 unfold stL;exact py λ j hj=>zB n ns (cu (bU.mp hj))
def ug(n m:Int)(ns ms:LI):plH (n::ns) (m::ms)=m*af ns+plH ns ms:=by
 unfold plH;rw[mU];show(List.zipWith _ (m::ms) (af ns::_)).sum=_;rw[uh,List.sum_cons];rfl
noncomputable def mV(n:Int):Int:=if n%17=5 then [(-9223372036854775808:Int),9223372036854775807,-1,4611686018427387904].getD (n/17%4).toNat 0 else (n+9223372036854775808)%18446744073709551616-9223372036854775808
theorem mW:∀ {ns:LI},(∀n∈ns,0<=n)->0<=af ns/\af ns<=af (ns.map ak)
 |[],_=>by decide
 |n::ns,h=>by
  obtain⟨i0,i1⟩:=mW (ns:=ns) λ m hm=>h m (bO _ hm);have n0:=h n bJ;rw[bw,bN,bN];have o:n<=ak n/\0<=ak n:=by unfold ak;split<;>lia
  exact⟨s2n n0 i0,s2o o.1 i1 i0 o.2⟩
def pV{ns:LI}{k:Nat}(hk:k<ns.length):ns[k]?=some (ns.getD k 0):=by rw[cw,aC hk];rfl
noncomputable def jz(n:Int):Int:=(n+9223372036854775808)%18446744073709551616-9223372036854775808
def ui(x y:Int):Int:=if y=0 then 0 else jz (Int.fdiv x y)
def uj(x y:Int):Int:=if y=0 then x else Int.fmod x y
noncomputable def zD(w:Str)(x y:Int):Int :=
 if w="add" then jz (x+y) else if w="sub" then jz (x-y) else if w="mul" then jz (x*y) else if w="quo" then ui x y else if w="rest" then uj x y
 else if w="max" then (if x<y then y else x) else if w="min" then (if y<x then y else x) else if w="less" then (if x<y then 1 else 0) else if w="like" then (if x=y then 1 else 0)
 else if w="and" then Builtin.bitAnd x y else if w="or" then Builtin.bitOr x y else Builtin.bitXor x y
noncomputable def inB(x:Int):Prop:=-9223372036854775808<=x/\x<9223372036854775808
def KZ(n:Int):inB (mV n):=by
 unfold mV inB;split
 ·have h:n/17%4=0\/n/17%4=1\/n/17%4=2\/n/17%4=3:=by lia
  rcases h with h|h|h|h<;>rw[h]<;>exact⟨pv,pv⟩
 ·lia
def zE(x:Int):Int:=if x<0 then -x else x
noncomputable def zF(w:Str)(x:Int):Int:=if w="neg" then jz (-x) else if w="abs" then jz (zE x) else if w="sign" then (if x<0 then -1 else if 0<x then 1 else 0) else if x=0 then 1 else 0
def mX:List Str:=["neg","abs","sign","not"]
noncomputable def mY:List Str:=["add","sub","mul","quo","rest","max","min","less","like","and","or","xor"]
def uk(h:cr x y):(bG x y).take x.length=x/\(bG x y).take y.length=y:=by
 unfold cr at h;unfold bG;split at h
 ·rename_i c;rw[if_pos c];exact⟨cX,h⟩
 ·rename_i c;rw[if_neg c];exact⟨h,cX⟩
noncomputable abbrev fw:List Str:=["add","mul","max","min","and","or","xor"]
def isF(w:Str):Prop:=w∈fw
noncomputable def dw(w:Str):Int:=if w="mul" then 1 else if w="max" then -9223372036854775808 else if w="min" then 9223372036854775807 else if w="and" then -1 else 0
def La:dw "add"=0:=by unfold dw;rw[if_neg (by decide +kernel),if_neg (by decide +kernel),if_neg (by decide +kernel),if_neg (by decide +kernel)]
def Lb:dw "mul"=1:=by unfold dw;rw[if_pos rfl]
def Lc:dw "max"=-9223372036854775808:=by unfold dw;rw[if_neg (by decide +kernel),if_pos rfl]
def Ld:dw "min"=9223372036854775807:=by unfold dw;rw[if_neg (by decide +kernel),if_neg (by decide +kernel),if_pos rfl]
def Le:dw "and"=-1:=by unfold dw;rw[if_neg (by decide +kernel),if_neg (by decide +kernel),if_neg (by decide +kernel),if_pos rfl]
def Lf:dw "or"=0:=by unfold dw;rw[if_neg (by decide +kernel),if_neg (by decide +kernel),if_neg (by decide +kernel),if_neg (by decide +kernel)]
def Lg:dw "xor"=0:=by unfold dw;rw[if_neg (by decide +kernel),if_neg (by decide +kernel),if_neg (by decide +kernel),if_neg (by decide +kernel)]
noncomputable def kinds:List Str:=["in","num","count","each","pair","pick","turn","flip","cut","spread","lay","join","fetch","fold","run"]
def um(i:Nat):Str:=kinds.getD i ""
noncomputable def Lh(fs:List (Str×Int)):LI:=fs.filterMap λ f=>if f.1=("step" : Str) then some f.2 else none
def zG(i:Nat):LI:=Lh ((formsL.getD i ("",[])).2)
def mZ(n:Nat)(os:LI):Prop:=os.Perm (upL n)
def up_mem{n:Nat}{x:Int}:x∈upL n ↔ 0<=x/\x<n:=by
 unfold upL;constructor
 ·intro h;obtain⟨i,hi,rfl⟩:=aW.mp h;have:=bU.mp hi;lia
 ·intro h;exact aW.mpr ⟨x.toNat,bU.mpr on,on⟩
def fh(n:Nat):(upL n).length=n:=by simp[upL]
def Li(n:Nat):(upL n).Pairwise (·<=·):=by
 unfold upL;rw[rV];exact rY (λ h=>by lia) (oG (n:=n))
theorem zH:∀ {l1 l2:LI},l1.Perm l2->l1.Pairwise (·<=·)->l2.Pairwise (·<=·)->l1=l2
 |[],l2,p,_,_=>(List.nil_perm.mp p).symm
 |a::l1,l2,p,h1,h2=>by
  cases l2 with
  |nil=>exact List.perm_nil.mp p
  |cons b l2=>
   obtain⟨a1,a2⟩:=ma.mp h1;obtain⟨b1,b2⟩:=ma.mp h2
   have ab:a<=b:=by
    rcases aN.mp (p.symm.subset (bJ ..)) with e|e
    ·lia
    ·exact a1 b e
   have ba:b<=a:=by
    rcases aN.mp (p.subset (bJ ..)) with e|e
    ·lia
    ·exact b1 a e
   have e:a=b:=on;subst e;rw[zH (List.perm_cons a |>.mp p) a2 b2]
def Lj{os ss:LI}(p:ss.Perm os)(s:ss.Pairwise (·<=·)):ss=upL n ↔ mZ n os :=
 ⟨λ e=>p.symm.trans (by rw[e]),λ t=>zH (p.trans t) s (Li n)⟩
def jA(ns os:LI):LI:=os.map λ k=>ns.getD k.toNat 0
def bB(ns:LI)(k:Nat)(m:Int):LI:=ns.take k++[m]++ns.drop k
def pW(ns:LI)(side:Int):Prop:=side<0\/(ns.length:Int)<side
def zI(ns:LI)(k:Nat)(m:Int):(bB ns k m).length=ns.length+1:=by
 unfold bB;simp only[aR,aY,db,List.length_cons,List.length_nil];lia
def uo{ns:LI}{k:Nat}(h:k<ns.length):ns.getD k 0∈ns:=by rw[cw,aC h];exact kg h
def iP{n:Int}(h:0<=n):1<=ak n:=by unfold ak;split<;>lia
def uq{n:Int}(h:0<=n):(if n > 1 then n else 1)=ak n:=by unfold ak;split<;>split<;>lia
def nh{ns:LI}(h:∀n∈ns,0<=n):1<=af (ns.map ak):=by
 induction ns with
 |nil=>decide
 |cons n ns ih=>
  rw[bw,bN];have a:=iP (h n bJ);have b:=ih λ m hm=>h m (bO _ hm);exact fk pv (s2o a b pv on)
def ur{r d:Int}(h1:1<=d)(h2:d<=r):1<=r/d:=by
 have:=Int.ediv_le_ediv (a:=d) (b:=r) (c:=d) on h2;rw[Int.ediv_self on] at this;exact this
def Lk{ss:LI}{k:Nat}{x:Int}(kl:k<ss.length):ss.take k++[x]++ss.drop (k+1)=ss.set k x:=by
 rw[ut,if_pos kl,dF];rfl
def gY(h:fit ns):aE ns:=λ n hn=>by have:=h.1 n hn;exact⟨this.1,on⟩
def pX(h:fit ns):¬cR ns:=λ b=>b.elim (λ z=>by have:=h.2.1;lia) (λ z=>by have:=h.2.2.2;lia)
def Ll{cs:LI}{n:Nat}(h:cs.length=n):(List.range n).map (λ i=>cs.getD i 0)=cs:=by
 subst h;apply kc;intro k;by_cases c:k<cs.length
 ·rw[bc,iD c];exact(pV c).symm
 ·rw[fV (by simp;lia),fV on]
def pY{a b:LI}(h:a.Perm b):af a=af b:=by
 induction h with
 |nil=>rfl
 |cons x _ ih=>rw[bN,bN,ih]
 |swap x y l=>rw[bN,bN,bN,bN,<- iN,<- iN,jw x y]
 |trans _ _ h1 h2=>rw[h1,h2]
def Lm{ns os:LI}(t:mZ ns.length os):(jA ns os).Perm ns:=by
 have e:(upL ns.length).map (λ k:Int=>ns.getD k.toNat 0)=ns:=by
  unfold upL;rw[bq];exact Ll rfl
 have:=t.map (λ k:Int=>ns.getD k.toNat 0);rw[e] at this;exact this
inductive Stp where
 |inp (ms:LI)
 |num (n:Int)
 |count (ms:LI) (k:Int)
 |each (w:Str) (a:Nat)
 |pair (w:Str) (a b:Nat)
 |pick (a b c:Nat)
 |turn (a:Nat) (os:LI)
 |flip (a:Nat) (side:Int)
 |cut (a:Nat) (side f m g:Int)
 |spread (a:Nat) (side m:Int)
 |lay (a:Nat) (ms:LI)
 |join (a b:Nat) (side:Int)
 |fetch (a b:Nat)
 |fold (w:Str) (a:Nat) (side:Int)
 |run (w:Str) (a:Nat) (side:Int)
noncomputable def aA(mo:Int)(ns:LI):Prop:=(∀n∈ns,0<=n/\n<=mo)/\ns.length<=6/\1<=af (ns.map ak)/\af (ns.map ak)<=mo
def cO(mo:Int):Prop:=2<=mo/\mo<=512
def dQ{mo:Int}(h:aA mo ns)(m:cO mo):fit ns:=⟨λ n hn=>by have:=h.1 n hn;have:=m.2;lia,h.2.1,h.2.2.1,fk h.2.2.2 m.2⟩
def pZ{mo:Int}(m:cO mo):aA mo []:=⟨(λ n hn=>nomatch hn),pv,pv,by have:=m.1;show(1:Int)<=mo;lia⟩
def uu{mo n:Int}(h:aA mo ns)(l:ns.length<6)(n0:0<=n)(hn:n<=mo/af (ns.map ak)):aA mo (ns++[n]):=by
 have p:=h.2.2.1;have e:af ((ns++[n]).map ak)=af (ns.map ak)*ak n:=by rw[bQ];exact tY _ _
 have o1:=iP n0;have d1:1<=mo/af (ns.map ak):=ur p h.2.2.2;have le:mo/af (ns.map ak)<=mo:=qd _ (by have:=h.2.2.2;lia);have m2:af (ns.map ak)*(mo/af (ns.map ak))<=mo:=s2d on;generalize mo/af (ns.map ak)=q at *;have o2:ak n<=q:=by unfold ak;split<;>lia
 have m1:=kO o2 (show 0<=af (ns.map ak) by lia);refine⟨λ k hk=>?_,by rw[aR,fJ];lia,?_,?_⟩
 ·rcases bn.mp hk with z|z
  ·exact h.1 k z
  ·cases bj.mp z;lia
 ·rw[e];exact fk pv (s2o p o1 pv on)
 ·rw[e];lia
noncomputable def OkS(Ss:LL)(S:LI):Stp->Prop
 |.inp ms=>S=ms/\¬cR ms
 |.num n=>S=[]/\inB n
 |.count ms k=>S=ms/\¬cR ms/\¬off ms k
 |.each w a=>Ss[a]?=some S/\w∈mX
 |.pair w a b=>∃A B,Ss[a]?=some A/\Ss[b]?=some B/\w∈mY/\cr A B/\S=bG A B
 |.pick a b c=>∃A B C,Ss[a]?=some A/\Ss[b]?=some B/\Ss[c]?=some C/\cr A B/\cr (bG A B) C/\S=bG (bG A B) C
 |.turn a os=>∃A,Ss[a]?=some A/\mZ A.length os/\S=jA A os
 |.flip a side=>Ss[a]?=some S/\¬off S side
 |.cut a side f m g=>∃A,Ss[a]?=some A/\¬off A side/\¬bad A side f m g/\m<=512/\S=A.set side.toNat m
 |.spread a side m=>∃A,Ss[a]?=some A/\¬pW A side/\¬m<0/\m<=512/\¬cR (bB A side.toNat m)/\S=bB A side.toNat m
 |.lay a ms=>∃A,Ss[a]?=some A/\¬cR ms/\af A=af ms/\S=ms
 |.join a b side=>∃A B,Ss[a]?=some A/\Ss[b]?=some B/\A.length=B.length/\¬off A side/\A.eraseIdx side.toNat=B.eraseIdx side.toNat/\¬cR (gW A B side)/\S=gW A B side
 |.fetch a b=>∃n r B,Ss[a]?=some (n::r)/\n≠0/\Ss[b]?=some B/\¬cR (B++r)/\S=B++r
 |.fold w a side=>∃A,Ss[a]?=some A/\isF w/\¬off A side/\S=A.eraseIdx side.toNat
 |.run w a side=>Ss[a]?=some S/\isF w/\¬off S side
def gb{mo:Int}(h:aA mo ns):∀n∈ns,0<=n:=λ n hn=>(h.1 n hn).1
def Ln{n m:Int}(h:n<=m)(h1:1<=m):ak n<=m:=by unfold ak;split<;>lia
def Lo{mo:Int}(h:aA mo ns)(m:cO mo):aA mo [af ns]:=by
 have p:=mW (gb h);have b:=h.2.2.2;have o:=iP p.1;have e:af ([af ns].map ak)=ak (af ns):=by show af [ak (af ns)]=_;rw[bN];exact s0d _
 refine⟨λ n hn=>?_,jR (aX _),by rw[e];exact o,by rw[e];exact Ln on (by have:=m.1;lia)⟩;cases bj.mp hn;lia
def Lp{mo:Int}(h:aA mo ns)(m:cO mo)(l:ns.length<6):aA mo (1::ns):=by
 have e:af ((1::ns).map ak)=af (ns.map ak):=by rw[bw,bN];exact s0m _
 refine⟨λ n hn=>?_,by rw[List.length_cons];lia,by rw[e];exact h.2.2.1,by rw[e];exact h.2.2.2⟩
 rcases aN.mp hn with z|z
 ·have:=m.1;lia
 ·exact h.1 n z
def Lq{mo:Int}(h:aA mo ns)(m:cO mo)(c:af ns%2=0):aA mo [af ns/2,2]/\af [af ns/2,2]=af ns:=by
 have p:=mW (gb h);have b:=h.2.2.2;have m1:=m.1;have e:af ([af ns/2,2].map ak)=ak (af ns/2)*2:=by show af [ak (af ns/2),2]=_;rw[bN,bN];show _*(2*1)=_;rfl
 have e2:af [af ns/2,2]=af ns/2*2:=by rw[bN,bN];show _*(2*1)=_;rfl
 generalize af ns=P at *;have o:1<=ak (P/2)/\ak (P/2)*2<=mo:=by unfold ak;split<;>lia
 refine⟨⟨λ n hn=>?_,jR (jR (aX _)),by rw[e];lia,by rw[e];exact o.2⟩,by rw[e2];lia⟩
 rcases aN.mp hn with z|z
 ·lia
 ·cases bj.mp z;lia
def Lr{mo:Int}(h:aA mo ns):aA mo ns.reverse/\af ns.reverse=af ns:=by
 have p:=List.reverse_perm ns;have e:=pY (p.map ak);exact⟨⟨λ n hn=>h.1 n (List.mem_reverse.mp hn),by rw[gQ];exact h.2.1,by rw[e];exact h.2.2.1,by rw[e];exact h.2.2.2⟩,pY p⟩
def cZ{mo:Int}(h:aA mo ns)(m:cO mo):aE ns:=λ n hn=>by have:=h.1 n hn;have:=m.2;exact⟨on,on⟩
noncomputable def jB(ns:LI)(d:Int):LI:=if d%4=1 then [af ns] else if d%4=2/\ns.length<6 then 1::ns else if d%4=3/\af ns%2=0 then [af ns/2,2] else ns.reverse
def Lu{mo:Int}(h:aA mo ns)(m:cO mo):aA mo (jB ns d)/\af (jB ns d)=af ns:=by
 unfold jB;by_cases c1:d%4=1
 ·rw[if_pos c1];exact⟨Lo h m,by rw[bN];exact s0d _⟩
 rw[if_neg c1];by_cases c2:d%4=2/\ns.length<6
 ·rw[if_pos c2];exact⟨Lp h m c2.2,by rw[bN];exact s0m _⟩
 rw[if_neg c2];by_cases c3:d%4=3/\af ns%2=0
 ·rw[if_pos c3];exact Lq h m c3.2
 rw[if_neg c3];exact Lr h
noncomputable def eP(A B:LI)(k:Nat):LI:=if A.length=B.length/\A.eraseIdx k=B.eraseIdx k then gW A B k else []
def Lv(i:Nat):upL (i+1)=upL i++[(i:Int)]:=by unfold upL;rw[oQ,bQ];rfl
def Lw{os:LI}(h:os.Perm (upL i)):(os.take j++(i:Int)::os.drop j).Perm (upL (i+1)):=by
 rw[Lv];refine List.Perm.trans s0r ?_;rw[eY];exact(h.cons _).trans (sH _ _).symm
def Lx{mo:Int}{ns os:LI}(h:aA mo ns)(t:mZ ns.length os):aA mo (jA ns os):=by
 have p:=Lm t;have e:=pY (p.map ak);exact⟨λ n hn=>h.1 n (p.subset hn),by rw[p.length_eq];exact h.2.1,by rw[e];exact h.2.2.1,by rw[e];exact h.2.2.2⟩
def Ly{mo:Int}{A B:LI}(p:A.Perm B)(h:aA mo B):aA mo A:=by
 have e:=pY (p.map ak);exact⟨λ n hn=>h.1 n (p.subset hn),by rw[p.length_eq];exact h.2.1,by rw[e];exact h.2.2.1,by rw[e];exact h.2.2.2⟩
def Lz{mo x:Int}(h:aA mo A)(l:A.length<6)(x0:0<=x)(x1:x<=mo/af (A.map ak)):aA mo (bB A k x):=by
 refine Ly ?_ (uu h l x0 x1);unfold bB;rw[dF];refine List.Perm.trans s0r ?_;show(x::(A.take k++A.drop k)).Perm _;rw[eY];exact(sH _ _).symm
def iQ(x:Int)(xs:LI):af ((x::xs).map ak)=ak x*af (xs.map ak):=by rw[bw];exact bN _ _
def LB{ns:LI}(h:∀n∈ns,0<=n):∀n∈ns,n<=af (ns.map ak):=by
 induction ns with
 |nil=>exact λ n hn=>nomatch hn
 |cons x xs ih=>
  intro n hn;have hx:=h x (bJ ..);have ht:∀n∈xs,0<=n:=λ n hn=>h n (bO _ hn);have p:=nh ht;have o:=iP hx;rw[iQ]
  rcases aN.mp hn with e|hn
  ·rw[e];have le:x<=ak x:=by unfold ak;split<;>lia
   have:=kO p (show 0<=ak x by lia);lia
  ·have:=ih ht n hn;have:=ni o (show 0<=af (xs.map ak) by lia);lia
def LC{ns:LI}(h:∀n∈ns,0<=n):∀ {k:Nat}{m:Int},0<=m->m<=ns.getD k 0->af ((ns.set k m).map ak)<=af (ns.map ak):=by
 induction ns with
 |nil=>intro k m _ _;rw[List.set_nil];exact iB _
 |cons x xs ih=>
  intro k m m0 m1;have hx:=h x (bJ ..);have ht:∀n∈xs,0<=n:=λ n hn=>h n (bO _ hn);have p:=nh ht
  cases k with
  |zero=>
   have m1:m<=x:=m1;show af ((m::xs).map ak)<=_;rw[iQ,iQ];exact ni (by unfold ak;split<;>split<;>lia) on
  |succ k=>
   have m1:m<=xs.getD k 0:=m1;show af ((x::xs.set k m).map ak)<=_;rw[iQ,iQ];exact kO (ih ht m0 m1) (by have:=iP hx;lia)
def LD{ns:LI}(h:∀n∈ns,0<=n):∀ {k:Nat},af ((ns.eraseIdx k).map ak)<=af (ns.map ak):=by
 induction ns with
 |nil=>intro k;rw[List.eraseIdx_nil];exact iB _
 |cons x xs ih=>
  intro k;have hx:=h x (bJ ..);have ht:∀n∈xs,0<=n:=λ n hn=>h n (bO _ hn);have p:=nh ht
  cases k with
  |zero=>
   show af (xs.map ak)<=_;rw[iQ];have:=ni (iP hx) (show 0<=af (xs.map ak) by lia);lia
  |succ k=>
   show af ((x::xs.eraseIdx k).map ak)<=_;rw[iQ,iQ];exact kO (ih ht) (by have:=iP hx;lia)
def uv{mo:Int}{ns:LI}(nn:∀n∈ns,0<=n)(l:ns.length<=6)(w:af (ns.map ak)<=mo):aA mo ns:=⟨λ n hn=>⟨nn n hn,fk (LB nn n hn) w⟩,l,nh nn,w⟩
def LG{mo m:Int}(h:aA mo A)(m0:0<=m)(m1:m<=A.getD k 0):aA mo (A.set k m):=uv (λ n hn=>by rcases qe hn with z|z;exact gb h n z;rw[z];exact m0) (by rw[fG];exact h.2.1) (fk (LC (gb h) m0 m1) h.2.2.2)
def LH{mo:Int}(h:aA mo A):aA mo (A.eraseIdx k):=uv (λ n hn=>gb h n (uw hn)) (bH (List.length_eraseIdx_le ..) h.2.1) (fk (LD (gb h)) h.2.2.2)
def LJ{n f g e:Int}(n0:0<=n)(f0:0<=f)(g1:1<=g)(e0:0<=e):0<=(if (n-1-f).fdiv g+1-e > 0 then (n-1-f).fdiv g+1-e else 0)/\(if (n-1-f).fdiv g+1-e > 0 then (n-1-f).fdiv g+1-e else 0)<=n/\¬(0<(if (n-1-f).fdiv g+1-e > 0 then (n-1-f).fdiv g+1-e else 0)/\n<=f+((if (n-1-f).fdiv g+1-e > 0 then (n-1-f).fdiv g+1-e else 0)-1)*g):=by
 rw[lx _ on];have q1:g*((n-1-f)/g)<=n-1-f:=s2d on;generalize (n-1-f)/g=q at *;split
 ·rename_i c;have a1:=ni (show q+1-e-1<=q by lia) (show 0<=g by lia);rw[jw q g] at a1;have a2:=kO g1 (show 0<=q+1-e-1 by lia);generalize (q+1-e-1)*g=z at *;exact⟨on,on,λ y=>by lia⟩
 ·exact⟨on,n0,λ y=>by lia⟩
def zJ(A:LI):cr A A:=(zw A A).mpr (KO A)
def zK(h:cr x y)(l:y.length<=x.length):bG x y=x:=by
 unfold bG;split
 ·rfl
 ·exact(KP ((zw x y).mp h) on).symm
def zM{x y:LI}(l:x.length<y.length):bG x y=y:=by unfold bG;rw[if_neg on]
def zN{P:LI->Prop}(h:P x)(h2:P y):P (bG x y):=by unfold bG;split<;>assumption
def fq{k:Int}{n:Nat}(h:k∈upL n):∃a:Nat,k=a/\a<n:=⟨k.toNat,(jt (up_mem.mp h).1).symm,by have:=up_mem.mp h;lia⟩
def zO{a n:Nat}(h:a<n):(a:Int)∈upL n:=up_mem.mpr ⟨s3a _,Int.ofNat_lt.mpr h⟩
noncomputable def kR(mo:Int)(ds:List Stp)(Ss:LL):Prop:=ds.length=Ss.length/\(∀S∈Ss,aA mo S)/\∀(i:Nat) (d:Stp) (S:LI),ds[i]?=some d->Ss[i]?=some S->OkS (Ss.take i) S d
def zP{mo:Int}(h:kR mo ds Ss)(o:OkS Ss S d)(f:aA mo S):kR mo (ds++[d]) (Ss++[S]):=by
 refine⟨by rw[aR,aR,h.1];rfl,λ T hT=>?_,λ i d' S' e1 e2=>?_⟩
 ·rcases bn.mp hT with z|z
  ·exact h.2.1 T z
  ·cases bj.mp z;exact f
 ·by_cases c:i<ds.length
  ·rw[dZ c] at e1;have c':i<Ss.length:=by rw[<- h.1];exact c
   rw[dZ c'] at e2;rw[uf (cu c')];exact h.2.2 i d' S' e1 e2
  ·have jl:=(br.mp e1).1;rw[aR,fJ] at jl;have je:i=ds.length:=on;rw[je,dY (aj _),ji] at e1;rw[je,h.1,dY (aj _),ji] at e2;cases e1;cases e2;rw[je,h.1,uf (aj _),cX];exact o
def zQ(mo:Int):kR mo [] []:=⟨rfl,(λ _ h=>nomatch h),(λ _ _ _ h=>nomatch h)⟩
def zR(h:¬eP A B k=[]):A.length=B.length/\A.eraseIdx k=B.eraseIdx k/\eP A B k=gW A B k:=by
 unfold eP at h ⊢;split
 ·rename_i c;exact⟨c.1,c.2,rfl⟩
 ·rename_i c;rw[if_neg c] at h;exact absurd rfl h
def zT{ns:LI}{m:Int}(h:∀n∈ns,0<=n/\n<=m)(m0:0<=m)(k:Nat):0<=ns.getD k 0/\ns.getD k 0<=m:=by
 by_cases c:k<ns.length
 ·exact h _ (uo c)
 ·rw[cw,fV on];exact⟨iB _,m0⟩
noncomputable def Md(kd:Int)(A:LI)(k:Nat)(Ss Ms:LL):Prop:=(kd=11/\Ms=Ss.map (λ B=>eP A B k))\/(kd=12/\0<A.getD 0 0/\Ms=Ss.map (λ B=>B++A.drop 1))\/(¬kd=11/\¬0<A.getD 0 0/\Ms=[[]])
def LK(h:Md kd A k Ss Ms)(l:Ss.length<=40):Ms.length<=40:=by
 rcases h with ⟨_,rfl⟩|⟨_,_,rfl⟩|⟨_,_,rfl⟩
 ·rw[aq];exact l
 ·rw[aq];exact l
 ·exact jR (aX _)
def LM{kd mo:Int}(h:Md kd A k Ss Ms)(fA:aA mo A)(fS:∀S∈Ss,aA mo S)(m:cO mo):∀M∈Ms,∀n∈M,0<=n/\n<=1024:=by
 have m2:=m.2;have m1:=m.1
 rcases h with ⟨_,rfl⟩|⟨_,_,rfl⟩|⟨_,_,rfl⟩
 ·intro M hM n hn;obtain⟨B,hB,rfl⟩:=aW.mp hM;by_cases c:eP A B k=[]
  ·rw[c] at hn;exact nomatch hn
  ·rw[(zR c).2.2] at hn;unfold gW at hn
   rcases qe hn with z|z
   ·have:=fA.1 n z;lia
   ·have a1:=zT fA.1 (show 0<=mo by lia) (k:Int).toNat
    have a2:=zT (fS B hB).1 (show 0<=mo by lia) (k:Int).toNat
    lia
 ·intro M hM n hn;obtain⟨B,hB,rfl⟩:=aW.mp hM
  rcases bn.mp hn with z|z
  ·have:=(fS B hB).1 n z;lia
  ·have:=fA.1 n (gK z);lia
 ·intro M hM n hn;cases bj.mp hM;exact nomatch hn
def LN{M:LI}(h:∀n∈M,0<=n/\n<=1024):aE M:=λ n hn=>by have:=h n hn;exact⟨this.1,on⟩
def LP{M:LI}{mo:Int}(m:cO mo)(l:M.length<=6)(w:af (M.map ak)<=mo):¬cR M:=λ z=>z.elim on (by have:=m.2;lia)
def LQ{Ss:LL}{M:Int}(h:M∈Ss.map (λ S=>(S.length:Int)))(h0:0<M):∃S∈Ss,0<S.length:=by
 obtain⟨S,hS,rfl⟩:=aW.mp h;exact⟨S,hS,on⟩
noncomputable def kdN:Stp->Nat
 |.inp ..=>0|.num ..=>1|.count ..=>2|.each ..=>3|.pair ..=>4|.pick ..=>5|.turn ..=>6|.flip ..=>7|.cut ..=>8|.spread ..=>9|.lay ..=>10|.join ..=>11|.fetch ..=>12|.fold ..=>13|.run ..=>14
noncomputable def gh:Stp->List Nat
 |.inp ..=>[]|.num ..=>[]|.count ..=>[]
 |.each _ a=>[a]|.pair _ a b=>[a,b]|.pick a b c=>[a,b,c]
 |.turn a _=>[a]|.flip a _=>[a]|.cut a ..=>[a]|.spread a ..=>[a]|.lay a _=>[a]
 |.join a b _=>[a,b]|.fetch a b=>[a,b]|.fold _ a _=>[a]|.run _ a _=>[a]
noncomputable def zU:Stp->Prop
 |.each w _=>w∈mX|.pair w _ _=>w∈mY|.fold w _ _=>isF w|.run w _ _=>isF w|_=>True
def ux(h:OkS Ss S d):zU d:=by
 cases d with
 |each w a=>exact h.2
 |pair w a b=>obtain⟨A,B,_,_,z,_⟩:=h;exact z
 |fold w a s=>obtain⟨A,_,z,_⟩:=h;exact z
 |run w a s=>exact h.2.1
 |_=>trivial
noncomputable def LR(mo:Int)(ds:List Stp)(Ss:LL)(os:LI):Prop:=cO mo/\kR mo ds Ss/\0<ds.length/\ds.length<=40/\0<os.length/\os.length<=8/\∀o∈os,0<=o/\o<(ds.length:Int)
def zV(h:fit A):sm A:=λ n hn=>by have:=h.1 n hn;exact⟨on,on⟩
def LS(k:Nat)(g:dB ns ms):dB (ns.eraseIdx k) (ms.eraseIdx k):=by
 obtain⟨l,g⟩:=g;refine⟨by rw[dL,dL,l],λ i m n em en=>?_⟩;rw[List.getElem?_eraseIdx] at em en;split at em
 ·rename_i c;rw[if_pos c] at en;exact g i m n em en
 ·rename_i c;rw[if_neg c] at en;exact g (i+1) m n em en
def LU{ns:LI}{k:Nat}(h:k<=ns.length):(bB ns k m).eraseIdx k=ns:=by
 unfold bB;rw[dF,List.eraseIdx_append_of_length_le (by rw[aY];lia),aY,gG h,ji];show ns.take k++ns.drop k=ns;exact eY _ _
section
variable {band:Int->Int->Int}
variable (hv:∀x y,band x y=2*band (x/2) (y/2)+(if x%2=1/\y%2=1 then 1 else 0))
include hv
end
def vg{A:LI}{k:Nat}(hk:k<=A.length)(i:Nat):(bB A k y)[i]?=if i<k then A[i]? else if i=k then some y else A[i-1]?:=by
 unfold bB;have tl:(A.take k).length=k:=by rw[aY];lia
 split
 ·rename_i h;rw[dF,dZ on,pO,if_pos h]
 ·rename_i h;rw[dF,dY on,tl];split
  ·rename_i e;subst e;rw[ji];rfl
  ·rename_i e;obtain⟨m,hm⟩:∃m,i-k=m+1:=⟨i-k-1,on⟩;rw[hm];show(A.drop k)[m]?=_;rw[List.getElem?_drop];congr 1;lia
def LW{A:LI}{k:Nat}(hk:k<=A.length):(bB A k y).getD k 0=y:=by
 rw[cw,vg hk,if_neg on,if_pos rfl];rfl
theorem uy:∀ {ns:LI}{k:Nat},k<ns.length->(stL ns ns.length).reverse[k]?=some (af (ns.drop (k+1)))
 |[],_,h=>by simp at h
 |n::ns,0,_=>by rw[mU];rfl
 |n::ns,k+1,h=>by rw[mU];exact uy (ns:=ns) (k:=k) (by simpa using h)
def LX{ns:LI}{k:Nat}(hk:k<ns.length)(h:∀n∈ns,0<n):(atD ns p).getD k 0=p/af (ns.drop (k+1))%ns.getD k 0:=by
 have e1:=zz (ns.take (k+1)) (ns.drop (k+1)) (λ n hn=>h n (gK hn)) p;rw[eY,mf,pV hk] at e1;have e2:=ud (ns.take k) (ns.getD k 0) (p/af (ns.drop (k+1)));rw[show(some (ns.getD k 0)).toList=[ns.getD k 0] from rfl,e2] at e1;have tl:(atD (ns.take k) (p/af (ns.drop (k+1))/ns.getD k 0)).length=k:=by rw[gX,aY];lia
 rw[e1,dF,cw,dY on,tl,ji];rfl
noncomputable def zW(f:Nat->Nat):Stp->Stp
 |.inp ms=>.inp ms
 |.num n=>.num n
 |.count ms k=>.count ms k
 |.each w a=>.each w (f a)
 |.pair w a b=>.pair w (f a) (f b)
 |.pick a b c=>.pick (f a) (f b) (f c)
 |.turn a os=>.turn (f a) os
 |.flip a s=>.flip (f a) s
 |.cut a s g m h=>.cut (f a) s g m h
 |.spread a s m=>.spread (f a) s m
 |.lay a ms=>.lay (f a) ms
 |.join a b s=>.join (f a) (f b) s
 |.fetch a b=>.fetch (f a) (f b)
 |.fold w a s=>.fold w (f a) s
 |.run w a s=>.run w (f a) s
def LY{Ss Zs:LL}{f:Nat->Nat}(h:OkS Ss S d)(g:∀a∈gh d,∀A,Ss[a]?=some A->Zs[f a]?=some A):OkS Zs S (zW f d):=by
 cases d with
 |inp|num|count=>exact h
 |each|flip|run=>exact⟨g _ (.head _) _ h.1,h.2⟩
 |turn|cut|spread|lay|fold=>obtain⟨A,e,r⟩:=h;exact⟨A,g _ (.head _) _ e,r⟩
 |pair|join=>obtain⟨A,B,e1,e2,r⟩:=h;exact⟨A,B,g _ (.head _) _ e1,g _ (.tail _ (.head _)) _ e2,r⟩
 |fetch=>obtain⟨n,r,B,e1,n0,e2,z⟩:=h;exact⟨n,r,B,g _ (.head _) _ e1,n0,g _ (.tail _ (.head _)) _ e2,z⟩
 |pick=>obtain⟨A,B,C,e1,e2,e3,r⟩:=h;exact⟨A,B,C,g _ (.head _) _ e1,g _ (.tail _ (.head _)) _ e2,g _ (.tail _ (.tail _ (.head _))) _ e3,r⟩
end _M
structure PySem.W.Fast:Prop where(tw1394590563824810607 tw6986898299610665546 tw1429389303608997001 tw16327744175114876025 tw17871740801035796879 tw4267370388870782885 tw15496154687347949699 tw16583013001497095289 tw11855806156966109947 tw2708687732223848705 tw2337799615334193409 tw8619293340797820967 tw8988560458434806659 tw11311076296589636068 tw16957996069765358519 tw15160988342837767310 tw10909737426228568001 tw7824792569182222704 tw18280179871576028628 tw11146160487905247946 tw12443195001408958947 tw11818310849961670431 tw18190861271840349130 tw8045011920103685805 tw13693597098723889196 tw1887721133488311933 tw10788716106305395635 tw4508863174167751899 tw1808652929859514468 tw17148595457244537720 tw11410663747780769471 tw13726319241698941766 tw9143206646180906755 tw14689079119318463606 tw12543412236499191659 tw9255236100363128132 tw10033791632461952890 tw4432697466636456642 tw8795810059562039781 tw6173512831819840239 tw6235709124888420932 tw16018131473033676334 tw5503882679280194832 tw11557471464274266617 tw4022672000887235432 tw13438660557245248450 tw17161108435211069133 tw9367721120414475102 tw8764236717462928305 tw13256917602277048152 tw8623322587317500932 tw13615275548037005738 tw10463564805237930700 tw11272584010720569108 tw6608270330763513370 tw15499583354450038249 tw11438736927465170803 tw10498713663290845414 tw11287189114103021733 tw763175396702578519 tw1204950198739648104 tw17929637232627619588 tw2777132301890430119 tw7148917467748289456 tw16140826702484921743 tw7590441051834249298 tw3783899435593103161 tw14489218506973781793 tw10816196512497623051 tw9825244058844246771 tw13721055307293199276 tw7544423154853668802 tw13614895303114255241 tw1003385909646879312 tw17971270564792622559 tw9787073813123141702 tw2377367726015650666 tw8302396042147150726 tw3831919487699219261 tw11733058153478976678 tw172166531108248925 tw7982179224957886907 tw13580577646703077813 tw361568731806798470 tw1256440039285401348 tw968019295825744649 tw1824421160327168199 tw10651746339211097790 tw8744425655219637984 tw12403521677640167949 tw9554114184965407827 tw7829319612740035727 tw1322164504954808312 tw4654476183930426368 tw11741263107081532434 tw16897173616056270476 tw15106524104403862237 tw1757174832599868954 tw3526575356921216537 tw9915723941945518295 tw3916855621709686805 tw13259602995297731863 tw17073076461490576392 tw2237960839972515245 tw5261381657581583900 tw6910614206971504797 tw6254548101980316502 tw5804723597134276331 tw4766791391090142353 tw11922359663779674483 tw18436635057774415570 tw12235368640530005767 tw13779929741574256851 tw122062119044561728 tw14116658850482419296 tw7191157531604768362 tw12935909684364000159 tw5973865048625888153 tw14430860050635446010 tw304232884315024348 tw3685507913583226050 tw6060109932935413623 tw16947243921027415079 tw2524990991674433869 tw9652174837646352409 tw10231175121665240289 tw4881980710339797714 tw14239728595522633499 tw9280166442530653235 tw13377915423849881952 tw14531271610208306065 tw10883479531815952494 tw438757060628481547 tw11372763804307151199 tw7609947398274947510 tw9230304915297135344 tw17439498100141881994 tw2192804040277344236 tw8369461015351287998 tw17800364746534177150 tw4844716923618911711 tw17322014191808997422 tw9447861550627713161 tw9805983348602664079 tw5096889327189720939 tw4831159023025822589 tw780108961548070884 tw13401058083511301336 tw17675700511606713610 tw17069475768819882401 tw17499163653050871767 tw1220130861372740595 tw9785862655496377275 tw3657560096464966617 tw3204462267911853854 tw8598933723928927685 tw12152942254305882617 tw2740900047471444853 tw818159518829537294 tw17780102007401166952 tw10467064487614735612 tw18363028276477128626 tw2739754258226631723 tw18148698854621836915 tw12268435988050643865 tw10576127014728021084 tw10011361698880898792 tw8356335248142891986 tw5461206665534083868 tw6714207753293472966 tw3338313863593940974 tw1510089963195605861 tw15867308296789064231 tw9179133834685779007 tw14666799830283961079 tw8121843818715044423 tw6909667669180984305 tw845129379670387514 tw4200951953820603678 tw15551981722169837234 tw6181420296064976948 tw11811058402549666126 tw17475110257620756908 tw13445091812201340749 tw12769509400558682478 tw8108725352272241881 tw14656055194944455878 tw9206569086480236802 tw17585694807352136710 tw6693063177525290649 tw593804479180905978 tw18137487213035087999 tw6419837131915660403 tw16314155913633526021 tw6663428255889313260 tw11491800005509966233 tw4723338956068169300 tw910056836982861915 tw5862916200688560666 tw10901490054315134470 tw1222976779684419691 tw14197162802075492159 tw12880494390315867535 tw12088970252340191044 tw910198243062161791 tw1047844689552524591 tw11190415928876370563 tw254645152589480083 tw8245966988186252105 tw3522119159930102579 tw15775488285621360592 tw11553986276384232839 tw12730778411982277035 tw2096426100434658729 tw11444077121413095209 tw18275542568885091778 tw14799676030861184863 tw7924234304819529962 tw9183133849448314609 tw17406819821883821230 tw9912208772316803287 tw6978648460104679797:True)
namespace _M
open PySem _L PyProof.Rows
noncomputable def top(i:Nat):Stmt:=PySem.Challenge.pw_sideloom_k40_looks_of_what_is_reckoned.main.body.getD i (.Pass ⟨0,0,0,0⟩)
def tI(ns:LI):TV:=.tup (ns.map .int)
def lI(ns:LI):TV:=.lst (ns.map .int)
def kS{ns:LI}{i:Nat}(h:(ns.map TV.int)[i]?=some t):∃n,t=.int n/\ns[i]?=some n:=by
 rw[bc] at h
 cases q:ns[i]? with
 |none=>rw[q] at h;cases h
 |some n=>rw[q] at h;cases h;exact⟨n,rfl,rfl⟩
def ao(ns:LI):(ns.map TV.int).length=ns.length:=aq ..
def p64:lw 2 64:=⟨pv,pv,pv⟩
def p63:lw 2 63:=⟨pv,pv,pv⟩
def dR{i j:Int}(h0:-18446744073709551616<j)(h1:j<18446744073709551616):IntMulOk i j:=CMul.ok (.inr ⟨on,on⟩)
def nk{i j:Int}(h0:-18446744073709551616<i)(h1:i<18446744073709551616):IntMulOk i j:=CMul.ok (.inl ⟨on,on⟩)
def s2{a b:Prop}{P:Bool}(h1:P=true->a)(h2:P=false->b):if P=true then a else b:=by
 cases P
 ·exact h2 rfl
 ·exact h1 rfl
def sF{a b:Prop}{P:Bool}(h:P=false)(k:b):if P=true then a else b:=by rw[h];exact k
def sT{a b:Prop}{P:Bool}(h:P=true)(k:a):if P=true then a else b:=by rw[h];exact k
def cl{FT:List PSp}{f:Nat}{ts:List TV}{K:TV->Prop}(e:FT[f]?=some S)(h:S (ts.map .fz) K)(n:ts.all TV.nb=true):∃P,(∃S,FT[f]?=some S/\S (ts.map .fz) P)/\∀t,P t->(ts.all TV.nb=false->LF t)/\K t:=⟨K,⟨S,e,h⟩,λ t k=>⟨λ z=>(by rw[n] at z;cases z),k⟩⟩
theorem da{GT:List TV}{α:Type}(f g:α->TV):∀(l:List α) {Kn:List TV->Prop},(∀a∈l,stE ρ tg (f a) λ ρ'=>wE FT GT e ρ' λ y=>y.nb=true/\y.fz=g a)->Kn (l.map g)->cmF (λ t K'=>stE ρ tg t λ ρ'=>wE FT GT e ρ' λ y=>(y.nb=true/\K' [y.fz])) (l.map f) Kn
 |[],_,_,k=>k
 |a::l,Kn,h,k=>fc (λ ρ' q=>av e (λ y ⟨n,z⟩=>⟨n,by rw[z];exact da f g l (λ b hb=>h b (by simp[hb])) k⟩) q) (h a BT)
def zX{ns:LI}{i:Nat}(h:((ns.map TV.int).reverse)[i]?=some t):i<ns.length/\∃n,t=.int n/\ns[ns.length-1-i]?=some n:=by
 have hl:=(br.mp h).1;rw[gQ,ao] at hl;rw[iY (by rw[ao];exact hl),ao] at h;exact⟨hl,kS h⟩
def zY{ns ms:LI}{i:Nat}(h:(List.zipWith (λ x y=>TV.tup [x,y]) (ns.map TV.int) (ms.map TV.int))[i]?=some t):∃n m,t=.tup [.int n,.int m]/\ns[i]?=some n/\ms[i]?=some m:=by
 rw[s1p,bc,bc] at h
 cases a:ns[i]? with
 |none=>rw[a] at h;cases h
 |some n=>
  cases b:ms[i]? with
  |none=>rw[a,b] at h;cases h
  |some m=>rw[a,b] at h;cases h;exact⟨n,m,rfl,rfl,rfl⟩
def LZ{n:Int}(h:(!decide (n=0))=true):ak n=n:=by unfold ak;rw[if_neg (by simpa using h)]
def Ma{n:Int}(h:(!decide (n=0))=false):ak n=1:=by unfold ak;rw[if_pos (by simpa using h)]
def neF{a b:Int}(h:a=b):(!_L.eqT (TV.int a).fz (TV.int b).fz)=false:=by subst h;show(!decide (a=a))=false;rw[bz rfl];rfl
def qg{GT:List TV}{α:Type}{l:List α}{f:α->TV}{its:List TV}(h0:its=l.map f)(g:α->TV){Kn:List TV->Prop}(h:∀a∈l,stE ρ tg (f a) λ ρ'=>wE FT GT e ρ' λ y=>y.nb=true/\y.fz=g a)(k:Kn (l.map g)):cmF (λ t K'=>stE ρ tg t λ ρ'=>wE FT GT e ρ' λ y=>(y.nb=true/\K' [y.fz])) its Kn:=h0 ▸ da f g l h k
def zZ(ms ss:LI):List.zipWith (λ x y=>TV.tup [x,y]) (ms.map TV.int) (ss.map TV.int)=(ms.zip ss).map λ p=>TV.tup [.int p.1,.int p.2]:=by
 induction ms generalizing ss with
 |nil=>rfl
 |cons a ms ih=>cases ss with
  |nil=>rfl
  |cons b ss=>rw[bw,bw,uh,ih,kj,bw]
def Aa(ms ss:LI):((ms.zip ss).map λ p:Int×Int=>TV.int (p.1*p.2))=(List.zipWith (λ a b=>a*b) ms ss).map TV.int:=by
 induction ms generalizing ss with
 |nil=>rfl
 |cons a ms ih=>cases ss with
  |nil=>rfl
  |cons b ss=>rw[kj,bw,uh,bw,ih]
def cS{ns:LI}{k:Nat}(h:k<ns.length):atI (ns.map TV.int) (k:Int)=some (.int (ns.getD k 0)):=lE (by rw[bc,aC h,cw,aC h];rfl)
def nq{n i:Nat}(h:((List.range n).map f)[i]?=some a):i<n/\a=f i:=by
 have hi:=(br.mp h).1;rw[aq,bd] at hi;rw[bc,iD hi] at h;exact⟨hi,(cv h).symm⟩
def sE{a b:Prop}{x y:Str}(h1:x=y->a)(h2:x≠y->b):if _L.eqT (TV.str x).fz (TV.str y).fz=true then a else b:=by
 by_cases h:x=y
 ·rw[if_pos (show _L.eqT (TV.str x).fz (TV.str y).fz=true from bz h)];exact h1 h
 ·rw[if_neg (by rw[show _L.eqT (TV.str x).fz (TV.str y).fz=decide (x=y) from rfl];simpa using h)];exact h2 h
def sN{a b:Prop}{x y:Int}(h1:x=y->a)(h2:x≠y->b):if _L.eqT (TV.int x).fz (TV.int y).fz=true then a else b:=by
 by_cases h:x=y
 ·rw[if_pos (show _L.eqT (TV.int x).fz (TV.int y).fz=true from bz h)];exact h1 h
 ·rw[if_neg (by rw[show _L.eqT (TV.int x).fz (TV.int y).fz=decide (x=y) from rfl];simpa using h)];exact h2 h
def s3{a b:Prop}{P:Prop} [Decidable P] (h1:P->a)(h2:¬P->b):if decide P=true then a else b:=by
 by_cases h:P
 ·rw[if_pos (bz h)];exact h1 h
 ·rw[if_neg (by simpa using h)];exact h2 h
theorem uz:∀(l m:LI),_L.eqTL (l.map TV.int) (m.map TV.int)=decide (l=m)
 |[],[]=>rfl
 |[],_::_=>rfl
 |_::_,[]=>rfl
 |x::xs,y::ys=>by
  rw[bw,bw,_L.eqTL_c,uz xs ys,show _L.eqT (TV.int x) (TV.int y)=decide (x=y) from rfl,<- Bool.decide_and];exact ij.mpr (by rw[List.cons.injEq])
def nr(l m:LI):_L.eqT (TV.tup (l.map TV.int)) (TV.tup (m.map TV.int))=decide (l=m):=uz l m
def Mb(l m:LI):_L.eqT (TV.lst (l.map TV.int)) (TV.lst (m.map TV.int))=decide (l=m):=uz l m
def dpI(ns:LI):∀x∈ns.map TV.int,_L.dp 8 x:=λ x hx=>by obtain⟨n,_,rfl⟩:=aW.mp hx;trivial
def dpT(ns:LI):_L.dp 9 (TV.tup (ns.map TV.int)):=dpI ns
def dpL(ns:LI):_L.dp 9 (TV.lst (ns.map TV.int)):=dpI ns
def qh{ns:LI}{o:Int}(h0:0<=o)(h1:o<ns.length):atI (ns.map TV.int) o=some (.int (ns.getD o.toNat 0)):=by
 have z:=cS (ns:=ns) (k:=o.toNat) on
 rwa [show((o.toNat:Nat):Int)=o by lia] at z
def Ab(x:Int):aD x y=Int.fdiv x y:=by unfold aD;split<;>first|rfl|exact(lx _ on).symm
def Mc(x:Int):aB x y=Int.fmod x y:=by unfold aB;split<;>first|rfl|exact(uZ _ on).symm
noncomputable def stI:Stp->List TV
 |.inp ms=>[.str "in",tI ms]
 |.num n=>[.str "num",.int n]
 |.count ms k=>[.str "count",tI ms,.int k]
 |.each w a=>[.str "each",.str w,.int a]
 |.pair w a b=>[.str "pair",.str w,.int a,.int b]
 |.pick a b c=>[.str "pick",.int a,.int b,.int c]
 |.turn a os=>[.str "turn",.int a,tI os]
 |.flip a side=>[.str "flip",.int a,.int side]
 |.cut a side f m g=>[.str "cut",.int a,.int side,.int f,.int m,.int g]
 |.spread a side m=>[.str "spread",.int a,.int side,.int m]
 |.lay a ms=>[.str "lay",.int a,tI ms]
 |.join a b side=>[.str "join",.int a,.int b,.int side]
 |.fetch a b=>[.str "fetch",.int a,.int b]
 |.fold w a side=>[.str "fold",.str w,.int a,.int side]
 |.run w a side=>[.str "run",.str w,.int a,.int side]
def stT(d:Stp):TV:=.tup (stI d)
def fl2:∀x∈[TV.str "fold",TV.str "run"],flT x=true:=pv
def aQ{α:Type}{f:α->TV}{Ss:List α}{a:Nat}{A:α}(e:Ss[a]?=some A):atI (Ss.map f) (a:Int)=some (f A):=lE (by rw[bc,e];rfl)
def clB{FT:List PSp}{f:Nat}{ts:List TV}{K:TV->Prop}(e:FT[f]?=some S)(h:S (ts.map .fz) λ t=>LF t/\K t):∃P,(∃S,FT[f]?=some S/\S (ts.map .fz) P)/\∀t,P t->(ts.all TV.nb=false->LF t)/\K t:=⟨_,⟨S,e,h⟩,λ t k=>⟨λ _=>k.1,k.2⟩⟩
def sl3{n:Nat}(h:n<=3):n<sizeLine:=aP on
def LFI(ns:LI):LF (tI ns):=by unfold tI;simp only[LF];intro x hx;obtain⟨n,_,rfl⟩:=aW.mp hx;simp[LF]
def neT{a b:Int}(h:a≠b):(!_L.eqT (TV.int a).fz (TV.int b).fz)=true:=by rw[show _L.eqT (TV.int a).fz (TV.int b).fz=decide (a=b) from rfl];simp[h]
theorem jC{GT:List TV}{α:Type}(f g:α->TV)(p:α->Bool):∀(l:List α) {its:List TV}{Kn:List TV->Prop},its=l.map f->(∀a∈l,stE ρ tg (f a) λ ρ'=>wE FT GT c ρ' λ x=>x=.bl (p a)/\(p a=true->wE FT GT e ρ' λ y=>y.nb=true/\y.fz=g a))->Kn ((l.filter p).map g)->cmF (λ t K'=>stE ρ tg t λ ρ'=>wE FT GT c ρ' λ x=>b1 x λ q=>if q=true then wE FT GT e ρ' λ y=>(y.nb=true/\K' [y.fz]) else K' []) its Kn
 |[],_,_,h0,_,k=>by subst h0;exact k
 |a::l,_,Kn,h0,h,k=>by
  subst h0;show stE ρ tg (f a) λ ρ'=>wE FT GT c ρ' λ x=>b1 x λ q=>if q=true then wE FT GT e ρ' (λ y=>y.nb=true/\cmF _ (l.map f) λ ys=>Kn ([y.fz]++ys)) else cmF _ (l.map f) λ ys=>Kn ([]++ys);refine fc (λ ρ' q=>av c (λ x ⟨e1,q⟩=>?_) q) (h a BT);subst e1;have hr:=λ b hb=>h b (bO a hb);show if p a=true then _ else _;by_cases z:p a=true
  ·rw[if_pos z];rw[List.filter_cons_of_pos z,bw] at k;exact av e (λ y ⟨n,w⟩=>⟨n,by rw[w];exact jC f g p l rfl hr k⟩) (q z)
  ·rw[if_neg z];rw[List.filter_cons_of_neg z] at k;exact jC f g p l rfl hr k
def p62:lw 2 62:=⟨pv,pv,pv⟩
def Me{i:Int}(h0:0<=i)(h1:i<4):atI [TV.int (-(2 ^ (63:Int).toNat)),TV.int (2 ^ (63:Int).toNat-1),TV.int (-1),TV.int (2 ^ (62:Int).toNat)] i=some (.int ([(-9223372036854775808:Int),9223372036854775807,-1,4611686018427387904].getD i.toNat 0)):=by
 have:i=0\/i=1\/i=2\/i=3:=on
 rcases this with rfl|rfl|rfl|rfl<;>rfl
def bC{n:Nat}(h:n<=1000):n<=sizeLine:=cu (aP h)
def g0L:0<=sizeLine:=bC pv
def g1L:1<=sizeLine:=bC pv
def g2L:2<=sizeLine:=bC pv
def g3L:3<=sizeLine:=bC pv
def g4L:4<=sizeLine:=bC pv
def g6L:6<=sizeLine:=bC pv
def g7L:7<=sizeLine:=bC pv
def Mf:12<=sizeLine:=bC pv
def qi(ns:LI)(a b:Option Int):au (ns.map TV.int) a b=((ns.drop (_H.sIx ns.length 0 a)).take (_H.sIx ns.length ns.length b-_H.sIx ns.length 0 a)).map TV.int:=by
 unfold au;rw[aq,List.map_take,List.map_drop]
def dU(ns:LI)(k:Nat):au (ns.map TV.int) none (some (k:Int))=(ns.take k).map TV.int:=by
 rw[qi];simp only[_H.sIx,List.drop_zero,Nat.sub_zero];rw[if_neg on,Int.toNat_natCast,Nat.min_def];split
 ·rfl
 ·rw[lQ on,lQ on]
def eQ(ns:LI)(k:Nat):au (ns.map TV.int) (some (k:Int)) none=(ns.drop k).map TV.int:=by
 rw[qi];simp only[_H.sIx];rw[if_neg on,Int.toNat_natCast,Nat.min_def];split
 ·rw[lQ (by rw[db];lia)]
 ·rw[s0s,List.drop_of_length_le on];simp
noncomputable def Mg(i:Nat):LI:=[[],[],[],[2],[2,3],[1,2,3],[1],[1],[1],[1],[1],[1,2],[1,2],[2],[2]].getD i []
def Mh:∀i,i<15->zG i=Mg i:=by decide +kernel
def mdT(d:Stp)(S:LI):TV:=.tup [stT d,tI S]
def bR{i j:Int}(h:0<j):aB i j=i%j:=if_pos h
def Ac{i j:Int}(h:0<j):aD i j=i/j:=if_pos h
def Mi(k:Int)(h0:0<=k)(h1:k<7):∃x:Int,atI [TV.int 2,TV.int 3,TV.int 1,TV.int 4,TV.int 2,TV.int 3,TV.int 0] k=some (.int x)/\0<=x:=by
 have:k=0\/k=1\/k=2\/k=3\/k=4\/k=5\/k=6:=on
 rcases this with rfl|rfl|rfl|rfl|rfl|rfl|rfl<;>exact⟨_,rfl,pv⟩
def uA(ws:List Str){k:Int}(h0:0<=k)(h1:k<(ws.length:Int)):∃w,atI (ws.map TV.str) k=some (.str w)/\w∈ws:=by
 have l:k.toNat<ws.length:=on;refine⟨ws[k.toNat],?_,kg l⟩;have z:=lE (xs:=ws.map TV.str) (j:=k.toNat) (v:=.str ws[k.toNat]) (by rw[bc,aC l];rfl)
 rwa [jt h0] at z
def kU(ms:LI):_L.eqT (TV.tup (ms.map TV.int)).fz (TV.tup []).fz=decide (ms=[]):=nr ms []
def Mj(d:Stp):LF (stT d):=by
 unfold stT;simp only[LF];intro x hx
 cases d<;>simp only[stI,aN,dJ,eW] at hx<;>(try rcases hx with rfl|rfl|rfl|rfl|rfl|rfl)<;>(try rcases hx with rfl|rfl|rfl|rfl|rfl)<;>(try rcases hx with rfl|rfl|rfl|rfl)<;>(try rcases hx with rfl|rfl|rfl)<;>(try rcases hx with rfl|rfl)<;>first|exact LFI _|simp[LF]
def qj(d:Stp)(S:LI):LF (mdT d S):=by
 unfold mdT;simp only[LF];intro x hx;simp only[aN,dJ,eW] at hx
 rcases hx with rfl|rfl
 ·exact Mj d
 ·exact LFI S
def qk(n:Nat):((List.range (((n:Nat):Int)).toNat).map λ i:Nat=>TV.int (i:Nat))=(upL n).map TV.int:=by unfold upL;rw[bq];rfl
def mxT(h:cr A B):TV.tup (if (A.map TV.int).length<(B.map TV.int).length then B.map TV.int else A.map TV.int)=tI (bG A B):=by
 rw[ao,ao];by_cases c:A.length<B.length
 ·rw[if_pos c,zM c];rfl
 ·rw[if_neg c,zK h on];rfl
noncomputable def pB(Ss:LL)(A:LI)(k:Int):Bool:=@decide (cr A (Ss.getD k.toNat [])) (Classical.propDecidable _)
def qm:pB Ss A k=true ↔ cr A (Ss.getD k.toNat []):=by unfold pB;exact @decide_eq_true_iff _ (Classical.propDecidable _)
def Ad{a b:Bool}{p:Prop}(h1:a=true ↔ p)(h2:b=true ↔ p):a=b:=by
 cases a<;>cases b<;>simp_all
def eR{Ss:LL}{a:Nat}(h:a<Ss.length):Ss[a]?=some (Ss.getD a []):=by rw[cw,aC h];rfl
def or3{G N:Prop}{e1 e2 e3:Bool}(g:(e1=true\/e2=true/\e3=true)->G)(n:e1=false->N):if e1=true then G else True/\(if e2=true then (if e3=true then G else N) else N):=by
 cases e1
 ·refine⟨Cl,?_⟩;cases e2
  ·exact n rfl
  ·cases e3
   ·exact n rfl
   ·exact g (.inr ⟨fu,fu⟩)
 ·exact g (.inl rfl)
def Ml{A:LI}{k:Nat}:(au (A.map TV.int) none (some (k:Int))++[TV.int x])++au (A.map TV.int) (some (k:Int)) none=(bB A k x).map TV.int:=by rw[dU,eQ];unfold bB;simp
def Mm{A:LI}{k:Nat}(kl:k<A.length):(au (A.map TV.int) none (some (k:Int))++[TV.int x])++au (A.map TV.int) (some ((k:Int)+1)) none=(A.set k x).map TV.int:=by
 rw[show(k:Int)+1=((k+1:Nat):Int) by lia,dU,eQ,<- Lk kl];simp
def jD{A:LI}(h:A.length<=6):(au (A.map TV.int) a b).length<=6:=by
 rw[qi,ao,aY,db];lia
def uB{GT:List TV}(P:En->Prop)(h:wS FT GT (.ite c a b .nil) ρ P rt)(k:∀ρ',P ρ'->wS FT GT r ρ' nx rt):wS FT GT (.ite c a b r) ρ nx rt :=
 av c (λ t q=>cz (λ _ q=>mE (λ q=>bL a (λ ρ' p=>k ρ' p) (λ _ h=>h) q) (λ q=>bL b (λ ρ' p=>k ρ' p) (λ _ h=>h) q) q) q) h
def Ae{A:LI}(h:0<A.length):atI (A.map TV.int) 0=some (.int (A.getD 0 0)):=cS (k:=0) h
def Mp(k:Int)(h0:0<=k)(h1:k<6):∃x:Int,atI [TV.int 1,TV.int 2,TV.int 3,TV.int 2,TV.int 1,TV.int 8] k=some (.int x)/\1<=x/\x<=8:=by
 have:k=0\/k=1\/k=2\/k=3\/k=4\/k=5:=on
 rcases this with rfl|rfl|rfl|rfl|rfl|rfl<;>exact⟨_,rfl,pv,pv⟩
def Mq(ns:LI)(lo hi:Nat):∃ms:LI,au (ns.map TV.int) (some (lo:Int)) (some (hi:Int))=ms.map TV.int/\ms.length<=hi-lo/\ms.length<=ns.length:=by
 refine⟨_,qi ns _ _,?_,?_⟩
 ·rw[aY,db];simp only[_H.sIx];rw[if_neg (by omega),if_neg (by omega),Int.toNat_natCast,Int.toNat_natCast];omega
 ·rw[aY,db];omega
def Af(d:Stp):atI (stI d) 0=some (.str (um (kdN d))):=by cases d<;>rfl
abbrev aH(ns:LI):LI:=(stL ns ns.length).reverse
abbrev vwT(S:LI)(b:Int)(s:LI):TV:=.tup [tI S,.int b,tI s]
def ny(ns:LI):(aH ns).length=ns.length:=by simp[stL]
def Mr(l:LI)(m:Int):bB l l.length m=l++[m]:=by unfold bB;simp
theorem uC:∀ {ms ss:LI}{k:Nat},ms.length=ss.length->k<ss.length->bF ms ss=bF (ms.eraseIdx k) (ss.eraseIdx k)+ms.getD k 0*ss.getD k 0
 |[],[],_,_,h=>by simp at h
 |[],_::_,_,h,_=>by simp at h
 |_::_,[],_,h,_=>by simp at h
 |m::ms,s::ss,0,hl,_=>by
  unfold bF;simp;lia
 |m::ms,s::ss,k+1,hl,h=>by
  have ih:=uC (ms:=ms) (ss:=ss) (k:=k) (by simpa using hl) (by simpa using h);unfold bF at *;simp at *;lia
theorem uD:∀ {X x:LI}{Y y:LI},x.length=X.length->plH (X++Y) (x++y)=plH X x*af Y+plH Y y
 |[],[],Y,y,_=>by
  show plH Y y=0*af Y+plH Y y;rw[s1t,s4e]
 |[],_::_,_,_,h=>by simp at h
 |_::_,[],_,_,h=>by simp at h
 |n::X,m::x,Y,y,h=>by
  show plH (n::(X++Y)) (m::(x++y))=_;rw[ug,ug,uD (X:=X) (x:=x) (by simpa using h),mS,Int.add_mul,iN];lia
def uE{pl:Int}(sX:aE X)(sY:aE Y)(p0:0<=pl)(p1:pl<af (X++Y)):0<af Y/\0<=pl/af Y/\pl/af Y<af X/\0<=pl%af Y/\pl%af Y<af Y/\atD (X++Y) pl=atD X (pl/af Y)++atD Y (pl%af Y):=by
 have nz:=ue (ns:=X++Y) (λ n hn=>by rcases bn.mp hn with h|h;exact sX n h;exact sY n h) p0 p1;have yp:0<af Y:=zA λ n hn=>nz n (bK _ hn);rw[mS] at p1;exact⟨yp,jX p0 on,Int.ediv_lt_of_lt_mul yp p1,cY _ on,dj _ yp,zz X Y (λ n hn=>nz n (bK _ hn)) pl⟩
def Ag{A S:LI}{pl:Int}(hp:S.take A.length=A)(sd:aE S)(p0:0<=pl)(p1:pl<af S):dB A ((atD S pl).take A.length)/\plH A ((atD S pl).take A.length)=pl/(af S/af A)/\af A≠0/\af S/af A≠0:=by
 have e:S=A++S.drop A.length:=by have:=eY A.length S;rw[hp] at this;exact this.symm
 have sA:aE A:=λ n hn=>sd n (by rw[e];exact gz _ hn);have sY:aE (S.drop A.length):=λ n hn=>sd n (gK hn);generalize S.drop A.length=R at *;subst e;obtain⟨yp,h0,h1,h2,h3,e⟩:=uE sA sY p0 p1;have z:af A≠0:=on;have t:(atD (A++R) pl).take A.length=atD A (pl/af R):=by rw[e,s1u (gX _ _)]
 have q:af (A++R)/af A=af R:=by rw[mS,Int.mul_ediv_cancel_left _ z]
 rw[t,q];exact⟨mT sA h0 h1,kQ sA h0 h1,z,on⟩
theorem Ah{A:LI}{k:Nat}{pl:Int}(kl:k<A.length)(sd:aE A)(p0:0<=pl)(p1:pl<af (A.eraseIdx k)):dB (A.eraseIdx k) (atD (A.eraseIdx k) pl)/\0<af (A.drop (k+1)) /\
  bF (atD (A.eraseIdx k) pl) ((aH A).eraseIdx k)=pl/af (A.drop (k+1))*A.getD k 0*af (A.drop (k+1))+pl%af (A.drop (k+1)):=by
 have se:aE (A.eraseIdx k):=λ n hn=>sd n (uw hn);have gd:=mT se p0 p1;refine⟨gd,?_⟩;have sX:aE (A.take k):=λ n hn=>sd n (my hn);have sY:aE (A.drop (k+1)):=λ n hn=>sd n (gK hn)
 have eA:A=A.take k++([A.getD k 0]++A.drop (k+1)):=by
  have:=eY k A;rw[gH kl] at this;rw[show A.getD k 0=A[k] by simp[kl]];exact this.symm
 have ee:=jf A k;rw[ee] at p1;obtain⟨yp,h0,h1,h2,h3,e⟩:=uE sX sY p0 p1;refine⟨yp,?_⟩;have l1:(atD (A.eraseIdx k) pl).length=A.length-1:=by rw[gX,dL,if_pos kl]
 have d:=uC (ms:=bB (atD (A.eraseIdx k) pl) k 0) (ss:=aH A) (k:=k) (by rw[zI,l1,ny];lia) (by rw[ny];exact kl);rw[LU on,LW on,s1t,Int.add_zero] at d;rw[<- d];show plH A (bB (atD (A.eraseIdx k) pl) k 0)=_;have tl:(atD (A.take k) (pl/af (A.drop (k+1)))).length=k:=by rw[gX,aY];lia
 have ei:bB (atD (A.eraseIdx k) pl) k 0=atD (A.take k) (pl/af (A.drop (k+1)))++([0]++atD (A.drop (k+1)) (pl%af (A.drop (k+1)))):=by
  rw[ee,e];unfold bB;rw[s1u tl,List.drop_left' tl,dF]
 rw[ei];have e2:plH A (atD (A.take k) (pl/af (A.drop (k+1)))++([0]++atD (A.drop (k+1)) (pl%af (A.drop (k+1)))))=plH (A.take k++([A.getD k 0]++A.drop (k+1))) (atD (A.take k) (pl/af (A.drop (k+1)))++([0]++atD (A.drop (k+1)) (pl%af (A.drop (k+1))))):=bu (λ Z=>plH Z _) eA;rw[e2,uD (by rw[tl,aY];lia),uD (X:=[A.getD k 0]) (x:=[0]) rfl,kQ sX h0 h1,kQ sY h2 h3,mS];rw[show plH [A.getD k 0] [0]=0 by rw[ug];rfl,s1t,s4e,show af [A.getD k 0]=A.getD k 0 by rw[bN];exact s0d _,<- iN]
theorem Ai{A:LI}{k:Nat}{pl:Int}(kl:k<A.length)(sd:aE A)(p0:0<=pl)(p1:pl<af A):dB (A.eraseIdx k) ((atD A pl).eraseIdx k)/\0<af (A.drop (k+1))/\(atD A pl).getD k 0=pl/af (A.drop (k+1))%A.getD k 0/\0<=(atD A pl).getD k 0/\(atD A pl).getD k 0<A.getD k 0 /\
  bF ((atD A pl).eraseIdx k) ((aH A).eraseIdx k)=pl-(atD A pl).getD k 0*af (A.drop (k+1)):=by
 have nz:=ue sd p0 p1;have gd:=mT sd p0 p1;have gl:=gd.2 k _ _ (pV (by rw[gX];exact kl)) (pV kl);refine⟨LS k gd,zA λ n hn=>nz n (gK hn),LX kl nz,gl.1,gl.2,?_⟩;have d:=uC (ms:=atD A pl) (ss:=aH A) (k:=k) (by rw[gX,ny]) (by rw[ny];exact kl);have e:plH A (atD A pl)=pl:=kQ sd p0 p1;unfold plH at e;rw[show(aH A).getD k 0=af (A.drop (k+1)) by rw[cw,uy kl];rfl] at d;rw[show bF (atD A pl) (aH A)=pl from e] at d;lia
theorem Aj{n:Int}{pl:Int}(sr:aE r)(sB:aE B)(p0:0<=pl)(p1:pl<af (B++r)):0<af r/\dB B ((atD (B++r) pl).take B.length)/\dB r ((atD (B++r) pl).drop B.length)/\plH B ((atD (B++r) pl).take B.length)=pl/af r /\
  bF ((atD (B++r) pl).drop B.length) ((aH (n::r)).eraseIdx 0)=pl%af r/\(aH (n::r)).getD 0 0=af r:=by
 obtain⟨yp,h0,h1,h2,h3,e⟩:=uE sB sr p0 p1;rw[e,s1u (gX _ _),List.drop_left' (gX _ _)];refine⟨yp,mT sB h0 h1,mT sr h2 h3,kQ sB h0 h1,?_,by unfold aH;rw[mU];rfl⟩;unfold aH;rw[mU];exact kQ sr h2 h3
def Mt{mo mo':Int}(h:aA mo ns)(l:mo<=mo'):aA mo' ns:=⟨λ n hn=>by have:=h.1 n hn;lia,h.2.1,h.2.2.1,by have:=h.2.2.2;lia⟩
def bS:cO 40:=⟨pv,pv⟩
noncomputable def rkn:Stp->Prop
 |.turn ..=>False|.flip ..=>False|.cut ..=>False|.spread ..=>False|.lay ..=>False|.join ..=>False
 |_=>True
noncomputable def fD(Ss:LL)(sz pl:Int)(as:List Nat):LL:=as.map λ a:Nat=>[(a:Int),pl/(sz/af (Ss.getD a []))]
noncomputable def iR(A:LI)(k:Nat)(pl:Int)(a:Nat):LL:=(List.range (pl/af (A.drop (k+1))%A.getD k 0+1).toNat).map λ j:Nat=>[(a:Int),pl-(j:Int)*af (A.drop (k+1))]
noncomputable def jE(A:LI)(k:Nat)(pl:Int)(a:Nat):LL:=(List.range (A.getD k 0).toNat).map λ j:Nat=>[(a:Int),pl/af (A.drop (k+1))*A.getD k 0*af (A.drop (k+1))+pl%af (A.drop (k+1))+(j:Int)*af (A.drop (k+1))]
noncomputable def gp(A:LI)(pl:Int)(a b:Nat):LL:=((List.range (A.getD 0 0).toNat).map λ j:Nat=>[(a:Int),(j:Int)*af (A.drop 1)+pl%af (A.drop 1)])++[[(b:Int),pl/af (A.drop 1)]]
noncomputable def lkL(Ss:LL)(sz pl:Int):Stp->LL
 |.each _ a=>[[(a:Int),pl]]
 |.pair _ a b=>fD Ss sz pl [a,b]
 |.pick a b c=>fD Ss sz pl [a,b,c]
 |.fold _ a k=>jE (Ss.getD a []) k.toNat pl a
 |.run _ a k=>iR (Ss.getD a []) k.toNat pl a
 |.fetch a b=>gp (Ss.getD a []) pl a b
 |_=>[]
def qo:∀x∈[TV.str "turn",.str "flip",.str "cut",.str "spread"],flT x=true:=pv
def uF:∀x∈[TV.str "fold",.str "run"],flT x=true:=pv
def Mu:∀x∈[TV.str "turn",.str "flip",.str "cut",.str "spread",.str "lay",.str "join"],flT x=true:=pv
def Mv{a:Nat}{pl c st:Int}{z:LI}(c0:0<=c):z∈((List.range (c+1).toNat).map λ j:Nat=>[(a:Int),pl-c*st+(j:Int)*st]) ↔ z∈(List.range (c+1).toNat).map λ j:Nat=>[(a:Int),pl-(j:Int)*st]:=by
 rw[aW,aW];have f:∀j:Nat,j<(c+1).toNat->((c.toNat-j:Nat):Int)*st=c*st-(j:Int)*st:=λ j hj=>by rw[<- Int.sub_mul,show((c.toNat-j:Nat):Int)=c-j by lia]
 constructor
 ·rintro⟨j,hj,rfl⟩;have hj:=bU.mp hj;refine⟨c.toNat-j,bU.mpr on,?_⟩;rw[f j hj]
  congr 2
  lia
 ·rintro⟨j,hj,rfl⟩;have hj:=bU.mp hj;refine⟨c.toNat-j,bU.mpr on,?_⟩;rw[f j hj]
  congr 2
  lia
def Mw{a b:Nat}{n pl rest:Int}{z:LI}(er:rest=af r:=by rfl):z∈([(b:Int),pl/rest]::(List.range n.toNat).map λ j:Nat=>[(a:Int),pl%rest+(j:Int)*rest]) ↔ z∈gp (n::r) pl a b:=by
 subst er;unfold gp;show _ ↔ z∈((List.range n.toNat).map λ j:Nat=>[(a:Int),(j:Int)*af r+pl%af r])++[[(b:Int),pl/af r]];rw[bn,bj,aN,Or.comm];have e:(λ j:Nat=>[(a:Int),pl%af r+(j:Int)*af r])=λ j:Nat=>[(a:Int),(j:Int)*af r+pl%af r]:=by funext j;rw[Int.add_comm]
 rw[e]
noncomputable def six:Stp->Prop
 |.inp _=>True|.num _=>True|.count ..=>True|.each ..=>True|.pair ..=>True|.pick ..=>True
 |_=>False
def Ak{A B C:LI}(h:B.take A.length=A)(h2:C.take B.length=B):C.take A.length=A:=by
 have l:A.length<=B.length:=by rw[<- h,aY];lia
 have e:(C.take B.length).take A.length=C.take A.length:=by rw[List.take_take,gG l]
 rw[<- e,h2,h]
def Al(ok:OkS Ss S d)(h:six d):∀a∈gh d,∃A,Ss[a]?=some A/\S.take A.length=A:=by
 cases d with
 |inp=>intro a ha;cases ha
 |num=>intro a ha;cases ha
 |count=>intro a ha;cases ha
 |each w a=>intro b hb;cases bj.mp hb;exact⟨S,ok.1,cX⟩
 |pair w a b=>
  obtain⟨A,B,ea,eb,_,po,rfl⟩:=ok;have:=uk po;intro c hc
  rcases aN.mp hc with rfl|hc
  ·exact⟨A,ea,this.1⟩
  ·cases bj.mp hc;exact⟨B,eb,this.2⟩
 |pick a b c=>
  obtain⟨A,B,C,ea,eb,ec,po,po2,rfl⟩:=ok;have h1:=uk po;have h2:=uk po2;intro c' hc
  rcases aN.mp hc with rfl|hc
  ·exact⟨A,ea,Ak h1.1 h2.1⟩
  ·rcases aN.mp hc with rfl|hc
   ·exact⟨B,eb,Ak h1.2 h2.1⟩
   ·cases bj.mp hc;exact⟨C,ec,h2.2⟩
 |_=>exact h.elim
def Mx(ok:OkS Ss S d)(h:six d)(nz:af S≠0):lkL Ss (af S) pl d=fD Ss (af S) pl (gh d):=by
 cases d with
 |each w a=>
  show[[(a:Int),pl]]=[[(a:Int),pl/(af S/af (Ss.getD a []))]];rw[show Ss.getD a []=S by rw[cw,ok.1];rfl,Int.ediv_self nz,s1c]
 |_=>first|rfl|exact h.elim
def Mz{ns:LI}{j:Nat}(h:(ns.map TV.int)[j]?=some u):∃c,u=.int c/\ns[j]?=some c:=by
 rw[bc] at h;obtain⟨c,e,q⟩:=fQ.mp h;exact⟨c,q.symm,e⟩
def uG(A:LI)(k:Nat):TV.tup (au (A.map TV.int) (some ((k:Int)+1)) none)=tI (A.drop (k+1)):=by rw[show(k:Int)+1=((k+1:Nat):Int) by lia,eQ];rfl
def uH{ns:LI}(h:∀n∈ns,0<=n)(i:Nat):af (ns.drop i)<=af (ns.map ak):=by
 have a:=(mW (ns:=ns.drop i) λ n hn=>h n (gK hn));have b:1<=af ((ns.take i).map ak):=nh λ n hn=>h n (my hn);have c:af (ns.map ak)=af ((ns.take i).map ak)*af ((ns.drop i).map ak):=by rw[<- mS,<- bQ,eY]
 have d:1*af ((ns.drop i).map ak)<=af ((ns.take i).map ak)*af ((ns.drop i).map ak):=ni b on;lia
def uI(h:aA 40 ns):0<=af ns/\af ns<=40:=by have:=mW (gb h);have:=h.2.2.2;lia
def Am{pl:Int}(ok:OkS Ss S d)(h:six d)(fS:∀T∈Ss,aA 40 T)(fs:aA 40 S)(p0:0<=pl)(p1:pl<af S):∀a∈gh d,∃A,Ss[a]?=some A/\aE A/\0<af A/\af A<=40/\0<af S/af A:=λ a ha=>by
 obtain⟨A,ea,hp⟩:=Al ok h a ha;have fA:=fS A (aK ea);obtain⟨_,_,n1,n2⟩:=Ag hp (cZ fs bS) p0 p1;have a1:=uI fA;have:0<=af S/af A:=jX on a1.1;exact⟨A,ea,cZ fA bS,on,a1.2,on⟩
def MA(d:Stp):zW (λ a=>a) d=d:=by cases d<;>rfl
def MB(h:(!inT (TV.str (um (kdN d))) (List.map TV.fz [TV.str "turn",TV.str "flip",TV.str "cut",TV.str "spread",TV.str "lay",TV.str "join"]))=true):rkn d:=by
 generalize e:kdN d=i at h
 have h5:i≠kdN (.turn 0 [])/\i≠kdN (.flip 0 0)/\i≠kdN (.cut 0 0 0 0 0)/\i≠kdN (.spread 0 0 0)/\i≠kdN (.lay 0 [])/\i≠kdN (.join 0 0 0):=by
  refine⟨?_,?_,?_,?_,?_,?_⟩<;>(rintro rfl;exact absurd h (by decide +kernel))
 obtain⟨h1,h2,h3,h4,h5,h6⟩:=h5
 cases d<;>first|trivial|exact absurd e.symm h1|exact absurd e.symm h2|exact absurd e.symm h3|exact absurd e.symm h4|exact absurd e.symm h5|exact absurd e.symm h6
def MC{Ss:LL}{sz pl:Int}{m:LI}(h:m∈lkL Ss sz pl d):m.length=2:=by
 cases d with
 |each w a=>cases bj.mp h;rfl
 |fetch a b=>
  rcases bn.mp h with h|h
  ·obtain⟨j,_,rfl⟩:=aW.mp h;rfl
  ·cases bj.mp h;rfl
 |_=>first|(obtain⟨j,_,rfl⟩:=aW.mp h;rfl)|(cases h)
theorem Ao:∀ {ms ks:LL},ms.Pairwise (· < ·)->ks.Pairwise (· < ·)->(∀z,z∈ms ↔ z∈ks)->ms=ks
 |[],[],_,_,_=>rfl
 |[],k::_,_,_,h=>by have:=(h k).mpr bJ;cases this
 |m::_,[],_,_,h=>by have:=(h m).mp bJ;cases this
 |m::ms,k::ks,h1,h2,h=>by
  obtain⟨a1,a2⟩:=ma.mp h1;obtain⟨b1,b2⟩:=ma.mp h2
  have e:m=k:=by
   rcases aN.mp ((h m).mp bJ) with e|e
   ·exact e
   ·rcases aN.mp ((h k).mpr bJ) with q|q
    ·exact q.symm
    ·exact absurd (s3q (b1 m e) (a1 k q)) (mC _)
  subst e
  rw[Ao a2 b2 λ z=>⟨λ hz=>by
   rcases aN.mp ((h z).mp (bO _ hz)) with q|q
   ·subst q;exact absurd (a1 z hz) (mC _)
   ·exact q,λ hz=>by
   rcases aN.mp ((h z).mpr (bO _ hz)) with q|q
   ·subst q;exact absurd (b1 z hz) (mC _)
   ·exact q⟩]
def dpP(ms:LL):_L.dp 9 (TV.lst (ms.map kT)):=by
 intro x hx;obtain⟨m,_,rfl⟩:=aW.mp hx;intro y hy;obtain⟨n,_,rfl⟩:=aW.mp hy;trivial
def sm7{n:Nat}(h:n<=63):Builtin.Range.small 0 (if (n:Int) > 1 then (n:Int) else 1) 7=true:=by
 have z:∀m:Fin 64,Builtin.Range.small 0 (if ((m.val:Nat):Int) > 1 then ((m.val:Nat):Int) else 1) 7=true:=by decide +kernel
 exact z ⟨n,on⟩
def gS{Ss:LL}{a:Nat}(e:Ss[a]?=some A):Ss.getD a []=A:=by rw[cw,e];rfl
def stg{A:LI}{k:Nat}(kl:k<A.length):(aH A).getD k 0=af (A.drop (k+1)):=by rw[cw,uy kl];rfl
noncomputable def Ap:XSp:=λ ts E=>∃(ns:LI) (pl:Int),ts=[tI ns,.int pl]/\aE ns/\(pl<0\/af ns<=pl)/\E (.c 0)
noncomputable def Aq:XSp:=λ ts E=>∃(d:Stp) (S:LI) (Ss:LL) (pl:Int),ts=[stT d,.tup (Ss.map tI),.int pl]/\(∀T∈Ss,aA 40 T)/\OkS Ss S d/\aA 40 S/\(pl<0\/af S<=pl)/\E (.c 0)
def zp0:PSp:=λ ts Q=>∃n,ts=[.int n]/\Q (.int (jz n))
noncomputable def zc0:Ct:=(.ret (.ad (.md (.sb V0 (.g 0)) (.bin .Pow N2 (.n 64))) (.g 0)))
noncomputable def zp1:PSp:=λ ts Q=>∃n:Int,ts=[.int n]/\Q (.int (if n<0 then -1 else if 0<n then 1 else 0))
noncomputable def zc1:Ct:=(.r (.lt V0 N0) (.neg N1) (.ret (.ite (.gt V0 N0) N1 N0)))
noncomputable def zp2:PSp:=λ ts Q=>∃x y:Int,ts=[.int x,.int y]/\inB x/\inB y/\Q (.int (ui x y))
def zc2:Ct:=(.r (.eq V1 N0) N0 (.ret (.c1 0 (.dv V0 V1))))
noncomputable def zp3:PSp:=λ ts Q=>∃x y:Int,ts=[.int x,.int y]/\Q (.int (uj x y))
def zc3:Ct:=(.ret (.ite (.eq V1 N0) V0 (.md V0 V1)))
noncomputable def zp4:PSp:=λ ts Q=>∃(w:Str) (x:Int),ts=[.str w,.int x]/\w∈mX/\Q (.int (zF w x))
noncomputable def zc4:Ct:=(.r (.es V0 "neg") (.c1 0 (.neg V1)) (.r (.es V0 "abs") (.c1 0 (.b1 .abs V1)) (.r (.es V0 "sign") (.c1 1 V1) (.r (.es V0 "not") (.ite (.eq V1 N0) N1 N0) .never))))
noncomputable def zp5:PSp:=λ ts Q=>∃(w:Str) (x y:Int),ts=[.str w,.int x,.int y]/\inB x/\inB y/\w∈mY/\Q (.int (zD w x y))
noncomputable def zc5:Ct:=(.r (.es V0 "add") (.c1 0 (.ad V1 V2)) (.r (.es V0 "sub") (.c1 0 (.sb V1 V2)) (.r (.es V0 "mul") (.c1 0 (.ml V1 V2)) (.r (.es V0 "quo") (.c2 2 V1 V2) (.r (.es V0 "rest") (.c2 3 V1 V2) (.r (.es V0 "max") (.b2 .max V1 V2) (.r (.es V0 "min") (.b2 .min V1 V2) (.r (.es V0 "less") (.ite (.lt V1 V2) N1 N0) (.r (.es V0 "like") (.ite (.eq V1 V2) N1 N0) (.r (.es V0 "and") (.bin .BitAnd V1 V2) (.r (.es V0 "or") (.bin .BitOr V1 V2) (.r (.es V0 "xor") (.bin .BitXor V1 V2) .never))))))))))))
noncomputable def zp6:PSp:=λ ts Q=>∃(w:Str),ts=[.str w]/\isF w/\Q (.int (dw w))
noncomputable def zc6:Ct:=(.r (.cmp .In V0 (.t3 (.w "add") (.w "or") (.w "xor"))) N0 (.r (.es V0 "mul") N1 (.r (.es V0 "max") (.g 0) (.r (.es V0 "min") (.g 1) (.r (.es V0 "and") (.neg N1) .never)))))
noncomputable def zp7:PSp:=λ ts Q=>∃i:Nat,i<15/\ts=[.str (um i)]/\Q (.lst ((zG i).map .int))
noncomputable def zc7:Ct:=(.ret (.compI ["kind","place"] [] [] [0,1] .seq (.a1 (.dk 4 V0)) (.es V0 "step") V1))
noncomputable def zp8:PSp:=λ ts Q=>∃d:Stp,ts=[stT d]/\Q (tI ((gh d).map λ a:Nat=>(a:Int)))
noncomputable def zc8:Ct:=(.ret (.b1 .tuple (.comp ["place"] ["step"] [0] [0] .seq (.a1 (.c1 7 (.x 0 0))) (.ix V1 V0))))
noncomputable def zp9:PSp:=λ ts Q=>∃(t:TV),ts=[t]/\∃ns,(t=tI ns\/t=lI ns)/\aE ns/\Q (.int (af ns))
noncomputable def zc9:Ct:=(.set 1 N1 (.for [2] .seq (.a1 V0) (.set 1 (.ml V1 V2) .nil) (.ret V1)))
noncomputable def Ar:PSp:=λ ts Q=>∃ns,ts=[tI ns]/\aE ns/\ns.length<=63/\Q (.int (af (ns.map ak)))
noncomputable def MD:Ct:=(.ret (.c1 9 (.comp ["side"] [] [] [0] .seq (.a1 V0) (.ite (.ne V0 N0) V0 N1))))
noncomputable def As:PSp:=λ ts Q=>∃ns,ts=[tI ns]/\aE ns/\ns.length<=63/\¬cR ns/\Q (tI ns)
noncomputable def ME:Ct:=(.nv (.gt (.ln V0) (.g 2)) (.nv (.gt (.c1 10 V0) (.g 3)) (.ret V0)))
noncomputable def At:PSp:=λ ts Q=>∃ns,ts=[tI ns]/\aE ns/\ns.length<=63/\Q (tI (stL ns ns.length).reverse)
noncomputable def MF:Ct:=(.set 1 .l0 (.set 2 N1 (.for [3] (.rev true) (.a1 V0) (.met .append 1 (.a1 V2) (.set 2 (.ml V2 V3) .nil)) (.ret (.trev false V1)))))
noncomputable def Au:PSp:=λ ts Q=>∃(ns ms:LI),ts=[tI ns,tI ms]/\aE ns/\ns.length<=63/\dB ns ms/\Q (.int (plH ns ms))
noncomputable def MG:Ct:=(.nv (.ne (.ln V1) (.ln V0)) (.for [2,3] (.zip true true) (.a2 V0 V1) (.nv (.or (.lt V3 N0) (.ge V3 V2)) .nil) (.ret (.b1 .sum (.comp ["coordinate","stride"] [] [] [0,1] (.zip true true) (.a2 V1 (.c1 12 V0)) (.ml V0 V1))))))
noncomputable def Av:PSp:=λ ts Q=>∃(ns:LI) (pl:Int),ts=[tI ns,.int pl]/\aE ns/\ns.length<=63/\0<=pl/\pl<af ns/\Q (tI (atD ns pl))
noncomputable def MH:Ct:=(.nv (.or (.lt V1 N0) (.ge V1 (.c1 9 V0))) (.set 2 .l0 (.set 3 V1 (.for [4] (.rev true) (.a1 V0) (.met .append 2 (.a1 (.md V3 V4)) (.set 3 (.dv V3 V4) .nil)) (.ret (.trev false V2))))))
noncomputable def Aw:PSp:=λ ts Q=>∃(ns:LI) (k:Nat) (m:Int),ts=[tI ns,.int k,.int m]/\ns.length<=63/\k<ns.length/\Q (tI (ns.set k m))
noncomputable def MI:Ct:=(.ret (.ad (.ad (.st V0 V1) (.t1 V2)) (.sf V0 (.ad V1 N1))))
noncomputable def Ax:PSp:=λ ts Q=>∃(ns:LI) (k:Nat) (m:Int),ts=[tI ns,.int k,.int m]/\ns.length<=63/\Q (tI (bB ns k m))
noncomputable def MJ:Ct:=(.ret (.ad (.ad (.st V0 V1) (.t1 V2)) (.sf V0 V1)))
noncomputable def Ay:PSp:=λ ts Q=>∃(ns:LI) (k:Nat),ts=[tI ns,.int k]/\ns.length<=63/\k<ns.length/\Q (tI (ns.eraseIdx k))
def MK:Ct:=(.ret (.ad (.st V0 V1) (.sf V0 (.ad V1 N1))))
noncomputable def Az:PSp:=λ ts Q=>∃(ns:LI) (side:Int),ts=[tI ns,.int side]/\¬off ns side/\Q .non
def ML:Ct:=(.nv (.or (.lt V1 N0) (.ge V1 (.ln V0))) .nil)
noncomputable def AA:PSp:=λ ts Q=>∃(ns os:LI),ts=[tI ns,tI os]/\ns.length<=20/\os.length<=20/\mZ ns.length os/\Q (tI (jA ns os))
noncomputable def MN:Ct:=(.nv (.ne (.b1 .sorted V1) (.lrng false (.ln V0))) (.ret (.b1 .tuple (.comp ["side"] ["sides"] [0] [0] .seq (.a1 V1) (.ix V1 V0)))))
noncomputable def AB:PSp:=λ ts Q=>∃(ns:LI) (side:Int),ts=[tI ns,.int side]/\¬off ns side/\Q (tI ns)
def MO:Ct:=(.ex (.c2 18 V0 V1) (.ret V0))
noncomputable def AC:PSp:=λ ts Q=>∃(ns:LI) (side first many step:Int),ts=[tI ns,.int side,.int first,.int many,.int step]/\ns.length<=63/\-100<many/\many<1000000/\¬off ns side/\¬bad ns side first many step/\Q (tI (ns.set side.toNat many))
noncomputable def MP:Ct:=(.ex (.c2 18 V0 V1) (.nv (.or (.lt V2 N0) (.or (.lt V3 N0) (.lt V4 N1))) (.nv (.and (.gt V3 N0) (.ge (.ad V2 (.ml (.sb V3 N1) V4)) (.ix V0 V1))) (.ret (.c3 15 V0 V1 V3)))))
noncomputable def AD:PSp:=λ ts Q=>∃(ns:LI) (side many:Int),ts=[tI ns,.int side,.int many]/\aE ns/\ns.length<=20/\many<1000000/\¬pW ns side/\¬many<0/\¬cR (bB ns side.toNat many)/\Q (tI (bB ns side.toNat many))
noncomputable def MQ:Ct:=(.nv (.or (.lt V1 N0) (.gt V1 (.ln V0))) (.nv (.lt V2 N0) (.ret (.c1 11 (.c3 16 V0 V1 V2)))))
noncomputable def AE:PSp:=λ ts Q=>∃(ns ms:LI),ts=[tI ns,tI ms]/\aE ns/\aE ms/\ms.length<=20/\¬cR ms/\af ns=af ms/\Q (tI ms)
noncomputable def MR:Ct:=(.ex (.c1 11 V1) (.nv (.ne (.c1 9 V0) (.c1 9 V1)) (.ret V1)))
noncomputable def AF:PSp:=λ ts Q=>∃(ns ms:LI) (side:Int),ts=[tI ns,tI ms,.int side]/\sm ns/\sm ms/\ns.length<=20/\ns.length=ms.length/\¬off ns side/\ns.eraseIdx side.toNat=ms.eraseIdx side.toNat/\¬cR (gW ns ms side)/\Q (tI (gW ns ms side))
noncomputable def MS:Ct:=(.nv (.ne (.ln V0) (.ln V1)) (.ex (.c2 18 V0 V2) (.nv (.ne (.c2 17 V0 V2) (.c2 17 V1 V2)) (.ret (.c1 11 (.c3 15 V0 V2 (.ad (.ix V0 V2) (.ix V1 V2))))))))
noncomputable def AG:PSp:=λ ts Q=>∃(ns ms:LI),ts=[tI ns,tI ms]/\ms.take ns.length=ns/\Q (tI ms)
def MT:Ct:=(.nv (.ne (.st V1 (.ln V0)) V0) (.ret V1))
noncomputable def AH:PSp:=λ ts Q=>∃(ns ms:LI),ts=[tI ns,tI ms]/\cr ns ms/\Q (tI (bG ns ms))
noncomputable def MU:Ct:=(.r (.gt (.ln V0) (.ln V1)) (.c2 25 V1 V0) (.ret (.c2 25 V0 V1)))
noncomputable def AI:PSp:=λ ts Q=>∃(ns ms ks:LI),ts=[tI ns,tI ms,tI ks]/\cr ns ms/\cr (bG ns ms) ks/\Q (tI (bG (bG ns ms) ks))
def MV:Ct:=(.ret (.c2 26 (.c2 26 V0 V1) V2))
noncomputable def AJ:PSp:=λ ts Q=>∃(n:Int) (r ms:LI),ts=[tI (n::r),tI ms]/\aE (n::r)/\aE ms/\r.length<20/\ms.length<=20/\n≠0/\¬cR (ms++r)/\Q (tI (ms++r))
noncomputable def MW:Ct:=(.nv (.eq (.ln V0) N0) (.nv (.eq (.x 0 0) N0) (.ret (.c1 11 (.ad V1 (.sf V0 N1))))))
noncomputable def AK:PSp:=λ ts Q=>∃(ns:LI) (side:Int),ts=[tI ns,.int side]/\ns.length<=63/\¬off ns side/\Q (tI (ns.eraseIdx side.toNat))
def MX:Ct:=(.ex (.c2 18 V0 V1) (.ret (.c2 17 V0 V1)))
noncomputable def AL:PSp:=λ ts Q=>∃(ns:LI) (side:Int),ts=[tI ns,.int side]/\aE ns/\ns.length<=20/\¬cR ns/\¬off ns side/\Q (tI ns)
noncomputable def MY:Ct:=(.ex (.c1 11 V0) (.ex (.c2 18 V0 V1) (.ret V0)))
def AM:PSp:=λ ts Q=>∃d:Stp,ts=[stT d]/\zU d/\Q .non
noncomputable def MZ:Ct:=(.i (.es (.x 0 0) "each") (.ex (.c2 4 (.x 0 1) N0) .nil) (.i (.es (.x 0 0) "pair") (.ex (.c3 5 (.x 0 1) N0 N0) .nil) (.i (.cmp .In (.x 0 0) (.t2 (.w "fold") (.w "run"))) (.ex (.c1 6 (.x 0 1)) .nil) .nil)))
noncomputable def AN:PSp:=λ ts Q=>∃(d:Stp) (S:LI) (Ss:LL),ts=[stT d]/\kdN d<3/\OkS Ss S d/\fit S/\Q (tI S)
noncomputable def Na:Ct:=(.r (.es (.x 0 0) "in") (.c1 11 (.x 0 1)) (.r (.es (.x 0 0) "count") (.c2 30 (.x 0 1) (.x 0 2)) (.ret .t0)))
noncomputable def AO:PSp:=λ ts Q=>∃(d:Stp) (S A:LI) (Ss:LL) (a:Nat),ts=[stT d,tI A]/\gh d=[a]/\Ss[a]?=some A/\fit A/\OkS Ss S d/\fit S/\Q (tI S)
noncomputable def Nb:Ct:=(.set 2 (.x 0 0) (.r (.es V2 "turn") (.c2 19 V1 (.x 0 2)) (.r (.es V2 "flip") (.c2 20 V1 (.x 0 2)) (.r (.es V2 "cut") (.call 21 (.cons V1 (.cons (.x 0 2) (.cons (.x 0 3) (.cons (.x 0 4) (.cons (.x 0 5) .nil)))))) (.r (.es V2 "spread") (.c3 22 V1 (.x 0 2) (.x 0 3)) (.r (.es V2 "lay") (.c2 23 V1 (.x 0 2)) (.r (.es V2 "fold") (.c2 29 V1 (.x 0 3)) (.r (.es V2 "run") (.c2 20 V1 (.x 0 3)) (.ret V1)))))))))
noncomputable def AQ:PSp:=λ ts Q=>∃(t:TV) (d:Stp) (S:LI) (Ss:LL),ts=[stT d,t]/\t=.tup (Ss.map tI)/\(∀T∈Ss,fit T)/\OkS Ss S d/\fit S/\Q (tI S)
noncomputable def Nc:Ct:=(.ex (.c1 31 V0) (.set 2 (.comp ["number"] ["sides"] [1] [0] .seq (.a1 (.c1 8 V0)) (.ix V1 V0)) (.set 3 (.x 0 0) (.r (.eq (.ln V2) N0) (.c1 32 V0) (.r (.eq (.ln V2) N1) (.c2 33 V0 (.x 2 0)) (.r (.es V3 "pair") (.c2 26 (.x 2 0) (.x 2 1)) (.r (.es V3 "join") (.c3 24 (.x 2 0) (.x 2 1) (.x 0 3)) (.r (.es V3 "fetch") (.c2 28 (.x 2 0) (.x 2 1)) (.ret (.c3 27 (.x 2 0) (.x 2 1) (.x 2 2)))))))))))
noncomputable def AR:PSp:=λ ts Q=>∃ns,ts=[tI ns]/\aE ns/\ns.length<=63/\Q (vwT ns 0 (aH ns))
def Nd:Ct:=(.ret (.t3 V0 N0 (.c1 12 V0)))
def AS:PSp:=λ _ _=>False
noncomputable def Nf:Ct:=(.set 2 (.c2 19 (.x 0 0) V1) (.set 3 (.x 0 2) (.set 4 (.b1 .tuple (.comp ["side"] ["strides"] [3] [0] .seq (.a1 V1) (.ix V1 V0))) (.ret (.t3 V2 (.x 0 1) (.ad V4 (.sf V3 (.ln V2))))))))
def AT:PSp:=λ _ _=>False
noncomputable def Ng:Ct:=(.set 2 (.c2 20 (.x 0 0) V1) (.set 3 (.ix (.x 0 2) V1) (.set 4 (.ad (.x 0 1) (.ml (.sb (.ix V2 V1) N1) V3)) (.fz 4 (.ret (.t3 V2 V4 (.c3 15 (.x 0 2) V1 (.neg V3))))))))
def AU:PSp:=λ _ _=>False
noncomputable def Nh:Ct:=(.set 5 (.call 21 (.cons (.x 0 0) (.cons V1 (.cons V2 (.cons V3 (.cons V4 .nil)))))) (.set 6 (.ix (.x 0 2) V1) (.ret (.t3 V5 (.ad (.x 0 1) (.ml V2 V6)) (.c3 15 (.x 0 2) V1 (.ml V6 V4))))))
def AW:PSp:=λ _ _=>False
noncomputable def Ni:Ct:=(.set 3 (.c3 22 (.x 0 0) V1 V2) (.ret (.t3 V3 (.x 0 1) (.c3 16 (.x 0 2) V1 N0))))
noncomputable def AX:PSp:=λ ts Q=>∃(ns ss:LI) (k:Nat),ts=[vwT ns 0 ss,.int k]/\ns.length<=20/\ss.length=ns.length/\k<ns.length/\Q (vwT (ns.eraseIdx k) 0 (ss.eraseIdx k++[ss.getD k 0]))
noncomputable def Nj:Ct:=(.set 2 (.c2 29 (.x 0 0) V1) (.set 3 (.x 0 2) (.ret (.t3 V2 (.x 0 1) (.c3 16 (.c2 17 V3 V1) (.ln V2) (.ix V3 V1))))))
def AY:PSp:=λ _ _=>False
noncomputable def Nk:Ct:=(.r (.es (.x 0 0) "turn") (.c2 36 V1 (.x 0 2)) (.r (.es (.x 0 0) "flip") (.c2 37 V1 (.x 0 2)) (.r (.es (.x 0 0) "cut") (.call 38 (.cons V1 (.cons (.x 0 2) (.cons (.x 0 3) (.cons (.x 0 4) (.cons (.x 0 5) .nil)))))) (.ret (.c3 39 V1 (.x 0 2) (.x 0 3))))))
noncomputable def AZ:PSp:=λ ts Q=>∃(S ss ms:LI) (b:Int),ts=[vwT S b ss,tI ms]/\ms.length=ss.length/\ms.length<=20/\(∀m∈ms,-100000000<m/\m<100000000)/\(∀(i:Nat) m n,S[i]?=some n->ms[i]?=some m->0<=m/\m<n)/\Q (.int (b+bF ms ss))
noncomputable def Nl:Ct:=(.nv (.ne (.ln V1) (.ln (.x 0 2))) (.for [2,3] (.zip true true) (.a2 (.x 0 0) V1) (.nv (.or (.lt V3 N0) (.ge V3 V2)) .nil) (.ret (.ad (.x 0 1) (.b1 .sum (.comp ["coordinate","stride"] [] [] [0,1] (.zip true true) (.a2 V1 (.x 0 2)) (.ml V0 V1)))))))
noncomputable def Ba:PSp:=λ ts Q=>∃(ns ms:LI) (k many:Nat),ts=[tI ns,.int k,tI ms,.int many]/\aE ns/\ns.length<=6/\k<ns.length/\dB (ns.eraseIdx k) ms/\(∀n∈ns,n<=512)/\many<=512/\Q (.lst ((List.range many).map λ j:Nat=>.int (bF ms ((aH ns).eraseIdx k)+(j:Int)*(aH ns).getD k 0)))
noncomputable def Nm:Ct:=(.set 4 (.c2 40 (.c1 35 V0) V1) (.set 5 (.c2 42 V4 (.ad V2 (.t1 N0))) (.set 6 (.ix (.x 4 2) (.ln V2)) (.ret (.comp ["k"] ["first","stride"] [5,6] [0] .rng (.a1 V3) (.ad V1 (.ml V0 V2)))))))
def Bb:PSp:=λ _ _=>False
noncomputable def No:Ct:=(.set 3 (.x 0 3) (.set 4 (.ix (.ix V1 (.x 0 1)) V3) (.r (.lt (.ix V2 V3) V4) (.lst (.a1 (.t2 (.x 0 1) (.c2 13 (.ix V1 (.x 0 1)) V2)))) (.ret (.lst (.a1 (.t2 (.x 0 2) (.c2 13 (.ix V1 (.x 0 2)) (.c3 15 V2 V3 (.sb (.ix V2 V3) V4))))))))))
noncomputable def Bc:PSp:=λ ts Q=>∃(a b:Nat) (n:Int) (r B ms:LI) (Ss:LL),ts=[stT (.fetch a b),.tup (Ss.map tI),tI ms]/\Ss[a]?=some (n::r)/\Ss[b]?=some B/\fit (n::r)/\fit B/\dB B (ms.take B.length)/\dB r (ms.drop B.length)/\ms.length<=20/\Q (.lst (([(b:Int),plH B (ms.take B.length)]::(List.range n.toNat).map λ j:Nat=>[(a:Int),bF (ms.drop B.length) ((aH (n::r)).eraseIdx 0)+(j:Int)*(aH (n::r)).getD 0 0]).map kT))
noncomputable def Np:Ct:=(.set 3 (.ix V1 (.x 0 2)) (.set 4 (.t2 (.x 0 2) (.c2 13 V3 (.st V2 (.ln V3)))) (.set 5 (.call 43 (.cons (.ix V1 (.x 0 1)) (.cons N0 (.cons (.sf V2 (.ln V3)) (.cons (.ix (.ix V1 (.x 0 1)) N0) .nil))))) (.ret (.ad (.lst (.a1 V4)) (.comp ["place"] ["step"] [0] [0] .seq (.a1 V5) (.t2 (.x 1 1) V0)))))))
noncomputable def Bd:PSp:=λ ts Q=>∃(d:Stp) (w:Str) (a k m:Nat) (A ms ks:LI) (Ss:LL),ts=[stT d,.tup (Ss.map tI),tI ms]/\Ss[a]?=some A/\fit A/\k<A.length/\ms.length<=20/\((d=.fold w a k/\ks=ms/\(m:Int)=A.getD k 0)\/(d=.run w a k/\ks=ms.eraseIdx k/\ms.length=A.length/\(m:Int)=ms.getD k 0+1))/\m<=512/\dB (A.eraseIdx k) ks/\Q (.lst (((List.range m).map λ j:Nat=>[(a:Int),bF ks ((aH A).eraseIdx k)+(j:Int)*(aH A).getD k 0]).map kT))
noncomputable def Nq:Ct:=(.set 3 (.ix V1 (.x 0 2)) (.set 4 (.x 0 3) (.ite (.es (.x 0 0) "fold") (.set 5 (.call 43 (.cons V3 (.cons V4 (.cons V2 (.cons (.ix V3 V4) .nil))))) .nil) (.set 5 (.call 43 (.cons V3 (.cons V4 (.cons (.c2 17 V2 V4) (.cons (.ad (.ix V2 V4) N1) .nil))))) .nil) (.ret (.comp ["place"] ["step"] [0] [0] .seq (.a1 V5) (.t2 (.x 1 2) V0))))))
noncomputable def Be:PSp:=λ ts Q=>∃(d:Stp) (S:LI) (Ss:LL) (pl:Int),ts=[stT d,.tup (Ss.map tI),.int pl]/\(∀T∈Ss,aA 40 T)/\OkS Ss S d/\aA 40 S/\0<=pl/\pl<af S/\rkn d/\∀ms:LL,ms.Pairwise (· < ·)->(∀k,k∈ms ↔ k∈lkL Ss (af S) pl d)->Q (.lst (ms.map kT))
noncomputable def Nr:Ct:=(.set 3 (.c2 14 (.c2 34 V0 V1) V2) (.set 4 (.x 0 0) (.r (.es V4 "join") (.c3 44 V0 V1 V3) (.r (.es V4 "lay") (.lst (.a1 (.t2 (.x 0 1) V2))) (.r (.cmp .In V4 (.tup (.cons (.w "turn") (.cons (.w "flip") (.cons (.w "cut") (.cons (.w "spread") .nil)))))) (.lst (.a1 (.t2 (.x 0 1) (.c2 42 (.c2 41 V0 (.c1 35 (.ix V1 (.x 0 1)))) V3)))) (.ite (.es V4 "fetch") (.set 5 (.c3 45 V0 V1 V3) .nil) (.ite (.cmp .In V4 (.t2 (.w "fold") (.w "run"))) (.set 5 (.c3 46 V0 V1 V3) .nil) (.set 6 (.c1 8 V0) (.set 5 (.comp ["number"] ["sides","at"] [1,3] [0] .seq (.a1 V6) (.t2 V0 (.c2 13 (.ix V1 V0) (.st V2 (.ln (.ix V1 V0)))))) .nil)) .nil) (.ret (.ss true V5))))))))
noncomputable def Bf:PSp:=λ ts Q=>∃(t:TV) (ns:LI),ts=[t]/\(t=tI ns\/t=lI ns)/\aE ns/\Q (.int (af ns))
noncomputable def Nt:Ct:=(.set 1 N1 (.for [2] .seq (.a1 V0) (.set 1 (.ml V1 V2) .nil) (.ret V1)))
noncomputable def Bg:PSp:=λ ts Q=>∃ns:LI,ts=[tI ns]/\aE ns/\ns.length<=500/\Q (.int (af (ns.map ak)))
noncomputable def Nu:Ct:=(.ret (.c1 48 (.comp ["length"] [] [] [0] .seq (.a1 V0) (.b2 .max N1 V0))))
def Bh:PSp:=λ ts Q=>∃n:Int,ts=[.int n]/\Q (.int (mV n))
noncomputable def Nv:Ct:=(.r (.eq (.md V0 (.n 17)) N5) (.ix (.lst (.cons (.neg (.bin .Pow N2 (.n 63))) (.cons (.sb (.bin .Pow N2 (.n 63)) N1) (.cons (.neg N1) (.cons (.bin .Pow N2 (.n 62)) .nil))))) (.md (.dv V0 (.n 17)) N4)) (.ret (.sb (.md (.ad V0 (.bin .Pow N2 (.n 63))) (.bin .Pow N2 (.n 64))) (.bin .Pow N2 (.n 63)))))
noncomputable def Bi:PSp:=λ ts Q=>∃(ks:LI) (d:Int),ts=[lI ks,.int d]/\0<ks.length/\ks.length<1000000/\∀k∈ks,Q (.int k)
noncomputable def Nw:Ct:=(.r (.eq (.md V1 N3) N0) (.ix V0 (.md (.dv V1 N3) (.ln V0))) (.ret (.ix V0 (.sb (.sb (.ln V0) N1) (.md (.dv V1 N3) (.b2 .min N3 (.ln V0)))))))
noncomputable def Bj:PSp:=λ ts Q=>∃kd n cell mo:Int,ts=[.int kd,.int n,.int cell,.int mo]/\cO mo/\∀d S,(∀Ss,OkS Ss S d)->aA mo S->Q (mdT d S)
noncomputable def Nx:Ct:=(.r (.eq V0 N1) (.t2 (.t2 (.w "num") (.c1 50 V2)) .t0) (.set 4 .t0 (.set 5 (.dv V1 (.n 15)) (.for [6] .rng (.a1 (.md V5 N5)) (.set 5 (.dv V5 N5) (.set 7 (.dv V3 (.c1 49 V4)) (.set 8 (.b2 .min (.ix (.lst (.cons N2 (.cons N3 (.cons N1 (.cons N4 (.cons N2 (.cons N3 (.cons N0 .nil)))))))) (.md V5 N7)) V7) (.i (.eq (.md V5 N11) N10) (.set 8 V7 .nil) (.set 4 (.ad V4 (.t1 V8)) .nil))))) (.i (.eq V0 N0) (.fz 4 (.ret (.t2 (.t2 (.w "in") V4) V4))) (.i (.eq V4 .t0) (.set 4 (.t1 (.b2 .min N3 V3)) .nil) (.fz 4 (.ret (.t2 (.t3 (.w "count") V4 (.md (.dv V1 (.n 15)) (.ln V4))) V4)))))))))
noncomputable def Bk:PSp:=λ ts Q=>∃(ns ms:LI),ts=[tI ns,tI ms]/\∀b,(b=true ↔ cr ns ms)->Q (.bl b)
noncomputable def Ny:Ct:=(.set 2 (.b2 .min (.ln V0) (.ln V1)) (.ret (.eq (.st V0 V2) (.st V1 V2))))
noncomputable def Bl:PSp:=λ ts Q=>∃(kd d0 d1 d2 mo:Int) (Ss:LL),ts=[.int kd,lI [d0,d1,d2],.lst (Ss.map tI)]/\0<Ss.length/\Ss.length<=40/\(∀S∈Ss,aA mo S)/\∀d S,OkS Ss S d->aA mo S->Q (mdT d S)
noncomputable def Nz:Ct:=(.set 3 (.lrng false (.ln V2)) (.set 4 (.c2 51 V3 (.x 1 0)) (.r (.eq V0 N3) (.t2 (.t3 (.w "each") (.ix (.lst (.cons (.w "neg") (.cons (.w "abs") (.cons (.w "sign") (.cons (.w "not") .nil))))) (.md (.x 1 2) N4)) V4) (.ix V2 V4)) (.set 5 (.compI ["k"] ["sides","a"] [2,4] [0] .seq (.a1 V3) (.c2 53 (.ix V1 V2) (.ix V1 V0)) V0) (.set 6 (.c2 51 V5 (.x 1 1)) (.set 7 (.mxl (.ix V2 V4) (.ix V2 V6)) (.i (.eq V0 N4) (.set 8 (.lst (.cons (.w "add") (.cons (.w "sub") (.cons (.w "mul") (.cons (.w "quo") (.cons (.w "rest") (.cons (.w "max") (.cons (.w "min") (.cons (.w "less") (.cons (.w "like") (.cons (.w "and") (.cons (.w "or") (.cons (.w "xor") .nil))))))))))))) (.ret (.t2 (.tup (.cons (.w "pair") (.cons (.ix V8 (.md (.x 1 2) (.n 12))) (.cons V4 (.cons V6 .nil))))) V7))) (.set 5 (.compI ["k"] ["sides","b"] [2,6] [0] .seq (.a1 V5) (.c2 53 (.ix V1 V2) (.ix V1 V0)) V0) (.set 9 (.c2 51 V5 (.x 1 2)) (.ret (.t2 (.tup (.cons (.w "pick") (.cons V4 (.cons V6 (.cons V9 .nil))))) (.mxl V7 (.ix V2 V9)))))))))))))
noncomputable def Bm:PSp:=λ ts Q=>∃(ns:LI) (d mo:Int),ts=[tI ns,.int d]/\aA mo ns/\cO mo/\Q (tI (jB ns d))
noncomputable def NA:Ct:=(.set 2 (.c1 48 V0) (.r (.eq (.md V1 N4) N1) (.t1 V2) (.r (.and (.eq (.md V1 N4) N2) (.lt (.ln V0) N6)) (.ad (.t1 N1) V0) (.r (.and (.eq (.md V1 N4) N3) (.eq (.md V2 N2) N0)) (.t2 (.dv V2 N2) N2) (.ret (.trev true V0))))))
noncomputable def Bn:PSp:=λ ts Q=>∃(kd d0 d1 d2 mo:Int) (a:Nat) (A:LI) (Ss:LL),ts=[.int kd,lI [d0,d1,d2],.int a,tI A,.int mo]/\Ss[a]?=some A/\aA mo A/\cO mo/\∀d S,OkS Ss S d->aA mo S->Q (mdT d S)
noncomputable def NB:Ct:=(.i (.eq V0 N6) (.set 5 .l0 (.set 6 (.x 1 2) (.for [7] .rng (.a1 (.ln V3)) (.met .insert 5 (.a2 (.md V6 (.ad V7 N1)) V7) (.set 6 (.dv V6 (.ad V7 N1)) .nil)) (.ret (.t2 (.t3 (.w "turn") V2 (.b1 .tuple V5)) (.b1 .tuple (.comp ["k"] ["own"] [3] [0] .seq (.a1 V5) (.ix V1 V0)))))))) (.r (.eq V0 N10) (.t2 (.t3 (.w "lay") V2 (.c2 55 V3 (.x 1 2))) (.c2 55 V3 (.x 1 2))) (.i (.or (.eq V3 .t0) (.and (.eq V0 N9) (.lt (.ln V3) N6))) (.set 8 (.md (.x 1 1) (.ad (.ln V3) N1)) (.set 9 (.ad N1 (.md (.x 1 2) (.b2 .min N4 (.dv V4 (.c1 49 V3))))) (.i (.eq (.md (.x 1 2) N9) N8) (.set 9 N0 .nil) (.fz 9 (.fz 8 (.ret (.t2 (.tup (.cons (.w "spread") (.cons V2 (.cons V8 (.cons V9 .nil))))) (.ad (.ad (.st V3 V8) (.t1 V9)) (.sf V3 V8))))))))) (.set 10 (.md (.x 1 1) (.ln V3)) (.i (.ne V0 N8) (.fz 10 (.ret (.t2 (.t3 (.w "flip") V2 V10) V3))) (.set 11 (.ad N1 (.md (.x 1 2) N3)) (.set 12 (.md (.dv (.x 1 2) N3) (.b2 .max N1 (.ix V3 V10))) (.set 13 (.b2 .max N0 (.sb (.ad (.dv (.sb (.sb (.ix V3 V10) N1) (.v 12)) V11) N1) (.md (.dv (.x 1 2) (.n 300)) N3))) (.fz 11 (.fz 12 (.fz 10 (.ret (.t2 (.tup (.cons (.w "cut") (.cons V2 (.cons V10 (.cons (.v 12) (.cons (.v 13) (.cons V11 .nil))))))) (.ad (.ad (.st V3 V10) (.t1 (.v 13))) (.sf V3 (.ad V10 N1))))))))))))))))
noncomputable def Bo:PSp:=λ ts Q=>∃(A B:LI) (k:Nat),ts=[tI A,tI B,.int k]/\k<A.length/\A.length<=6/\B.length<=6/\Q (tI (eP A B k))
noncomputable def NC:Ct:=(.r (.or (.ne (.ln V0) (.ln V1)) (.ne (.ad (.st V0 V2) (.sf V0 (.ad V2 N1))) (.ad (.st V1 V2) (.sf V1 (.ad V2 N1))))) .t0 (.ret (.ad (.ad (.st V0 V2) (.t1 (.ad (.ix V0 V2) (.ix V1 V2)))) (.sf V0 (.ad V2 N1)))))
noncomputable def Bp:PSp:=λ ts Q=>∃(kd d0 d1 d2 mo:Int) (Ss:LL),ts=[.int kd,lI [d0,d1,d2],.lst (Ss.map tI),.int mo]/\(∃S∈Ss,0<S.length)/\11<=kd/\kd<=14/\Ss.length<=40/\(∀S∈Ss,aA mo S)/\cO mo/\∀d S,OkS Ss S d->aA mo S->Q (mdT d S)
noncomputable def ND:Ct:=(.set 4 (.compI ["k"] ["sides"] [2] [0] .rng (.a1 (.ln V2)) (.ne (.ix V1 V0) .t0) V0) (.set 5 (.c2 51 V4 (.x 1 0)) (.set 6 (.ix V2 V5) (.set 7 (.md (.x 1 1) (.ln V6)) (.set 8 (.lst (.cons (.w "add") (.cons (.w "mul") (.cons (.w "max") (.cons (.w "min") (.cons (.w "and") (.cons (.w "or") (.cons (.w "xor") .nil)))))))) (.i (.eq V0 (.n 13)) (.fz 7 (.ret (.t2 (.tup (.cons (.w "fold") (.cons (.ix V8 (.md (.x 1 2) N7)) (.cons V5 (.cons V7 .nil))))) (.ad (.st V6 V7) (.sf V6 (.ad V7 N1)))))) (.i (.eq V0 (.n 14)) (.fz 7 (.ret (.t2 (.tup (.cons (.w "run") (.cons (.ix V8 (.md (.x 1 2) N7)) (.cons V5 (.cons V7 .nil))))) V6))) (.set 9 (.lst (.a1 .t0)) (.ite (.eq V0 N11) (.set 9 (.comp ["other"] ["own","side"] [6,7] [0] .seq (.a1 V2) (.c3 57 V1 V0 V2)) .nil) (.i (.gt (.x 6 0) N0) (.set 9 (.comp ["other"] ["own"] [6] [0] .seq (.a1 V2) (.ad V0 (.sf V1 N1))) .nil) .nil) (.set 10 (.compI ["k"] ["kind","made","own"] [0,9,6] [0] .rng (.a1 (.ln V9)) (.or (.and (.eq V1 (.n 12)) (.gt (.x 3 0) N0)) (.ne (.ix V2 V0) .t0)) V0) (.set 10 (.compI ["k"] ["most","made"] [3,9] [0] .seq (.a1 V10) (.and (.cmp .LtE (.ln (.ix V2 V0)) N6) (.cmp .LtE (.c1 49 (.ix V2 V0)) V1)) V0) (.i (.eq (.ln V10) N0) (.fz 7 (.ret (.t2 (.t3 (.w "flip") V5 V7) V6))) (.set 11 (.c2 51 V10 (.x 1 2)) (.i (.eq V0 N11) (.fz 7 (.ret (.t2 (.tup (.cons (.w "join") (.cons V5 (.cons V11 (.cons V7 .nil))))) (.ix V9 V11)))) (.ret (.t2 (.t3 (.w "fetch") V5 V11) (.ix V9 V11)))))))))))))))))
noncomputable def Bq:PSp:=λ ts Q=>∃(cell mo:Int) (Ss:LL),ts=[.int cell,.lst (Ss.map tI),.int mo]/\Ss.length<=40/\(∀S∈Ss,aA mo S)/\cO mo/\∀d S,OkS Ss S d->aA mo S->Q (mdT d S)
noncomputable def NE:Ct:=(.set 3 (.md (.ml V0 (.n 48271)) (.n 2147483647)) (.set 4 (.md V3 (.n 15)) (.set 5 (.lst (.a3 (.md (.dv V3 (.n 15)) (.n 120)) (.md (.dv V3 (.n 1800)) (.n 120)) (.dv V3 (.n 216000)))) (.r (.or (.eq (.ln V1) N0) (.lt V4 N3)) (.call 52 (.cons (.md V4 N3) (.cons V3 (.cons V0 (.cons V2 .nil))))) (.r (.lt V4 N6) (.c3 54 V4 V5 V1) (.r (.and (.gt V4 N10) (.gt (.b1 .max (.comp ["own"] [] [] [0] .seq (.a1 V1) (.ln V0))) N0)) (.call 58 (.cons V4 (.cons V5 (.cons V1 (.cons V2 .nil))))) (.set 6 (.c2 51 (.lrng false (.ln V1)) (.x 5 0)) (.ret (.call 56 (.cons (.b2 .min V4 (.sb N10 (.b1 .int (.gt V4 N10)))) (.cons V5 (.cons V6 (.cons (.ix V1 V6) (.cons V2 .nil))))))))))))))
noncomputable def Br:PSp:=λ ts Q=>∃(cs:LI) (mo:Int),ts=[lI cs,.int mo]/\cs.length<=40/\cO mo/\∀ds Ss os,LR mo ds Ss os->Q (.tup [.tup (ds.map stT),tI os,.lst (Ss.map tI)])
noncomputable def NF:Ct:=(.set 2 .l0 (.set 3 .l0 (.for [4] .seq (.a1 V0) (.set 5 (.c3 59 V4 V3 V1) (.met .append 2 (.a1 (.x 5 0)) (.met .append 3 (.a1 (.x 5 1)) .nil))) (.i (.eq (.ln V2) N0) (.met .append 2 (.a1 (.t2 (.w "num") N0)) (.met .append 3 (.a1 .t0) .nil)) (.set 6 .l0 (.set 7 (.md (.ml (.b1 .sum V0) (.n 16807)) (.n 2147483647)) (.for [8] .rng (.a1 (.ix (.lst (.cons N1 (.cons N2 (.cons N3 (.cons N2 (.cons N1 (.cons N8 .nil))))))) (.md V7 N6))) (.set 7 (.md (.ad (.ml V7 (.n 48271)) N11) (.n 2147483647)) (.met .append 6 (.a1 (.md (.dv V7 (.n 16)) (.ln V2))) .nil)) (.put 6 (.md V7 (.ln V6)) (.sb (.ln V2) N1) (.fz 3 (.ret (.t3 (.b1 .tuple V2) (.b1 .tuple V6) V3)))))))))))
noncomputable def Bt:PSp:=λ ts Q=>∃ms:LL,ts=[.lst (ms.map kT)]/\(∀m∈ms,m.length=2)/\Q (.bl true)
noncomputable def NG:Ct:=(.r (.not (.isi .isL V0)) (.c (.bl false)) (.for [1] .seq (.a1 V0) (.r (.or (.not (.isi .isT V1)) (.ne (.ln V1) N2)) (.c (.bl false)) (.for [2] .seq (.a1 V1) (.r (.or (.not (.isi .isI V2)) (.isi .isB V2)) (.c (.bl false)) .nil) .nil)) (.ret (.c (.bl true)))))
noncomputable def Bu:PSp:=λ ts Q=>∃(d:Stp) (S:LI) (Ss:LL) (pl:Int),ts=[stT d,.tup (Ss.map tI),.int pl]/\(∀T∈Ss,aA 40 T)/\OkS Ss S d/\aA 40 S/\(pl<0\/af S<=pl)/\Q (.bl true)
def NH:Ct:=(.set 3 (.c (.bl false)) .nil)
def NI:Ct:=(.ex (.c3 47 V0 V1 V2) .nil)
noncomputable def NJ:Cq:=(.ex (.call 47 (.a3 (.v 0) (.v 1) (.v 2))) (.call 47 (.a3 (.v 0) (.v 1) (.v 2))) .nil)
def NK:List (Nat×Cs):=[(0,.set 3 (.bl true))]
def NL:Ct:=(.ret V3)
noncomputable def Bv:PSp:=λ ts Q=>∃(d:Stp) (w:Str) (a k:Nat) (A:LI) (Ss:LL) (pl:Int),ts=[stT d,.tup (Ss.map tI),.int pl]/\Ss[a]?=some A/\aA 40 A/\k<A.length/\(0<af (A.drop (k+1))/\af (A.drop (k+1))<=40)/\(0<=pl/\pl<=40)/\((d=.fold w a k/\Q (.lst ((jE A k pl a).map kT)))\/(d=.run w a k/\0<A.getD k 0/\Q (.lst ((iR A k pl a).map kT))))
noncomputable def NM:Ct:=(.set 3 (.ix V1 (.x 0 2)) (.set 4 (.c1 48 (.sf V3 (.ad (.x 0 3) N1))) (.r (.es (.x 0 0) "run") (.comp ["k"] ["step","place","stride"] [0,2,4] [0] .rng (.a1 (.ad (.md (.dv V2 V4) (.ix V3 (.x 0 3))) N1)) (.t2 (.x 1 2) (.sb V2 (.ml V0 V3)))) (.set 5 (.ad (.ml (.ml (.dv V2 V4) (.ix V3 (.x 0 3))) V4) (.md V2 V4)) (.ret (.comp ["k"] ["step","first","stride"] [0,5,4] [0] .rng (.a1 (.ix V3 (.x 0 3))) (.t2 (.x 1 2) (.ad V2 (.ml V0 V3)))))))))
noncomputable def Bw:PSp:=λ ts Q=>∃(a b:Nat) (n:Int) (r:LI) (Ss:LL) (pl:Int),ts=[stT (.fetch a b),.tup (Ss.map tI),.int pl]/\Ss[a]?=some (n::r)/\aA 40 (n::r)/\(0<af r/\af r<=40)/\(0<=pl/\pl<=40)/\Q (.lst ((gp (n::r) pl a b).map kT))
noncomputable def NN:Ct:=(.set 3 (.c1 48 (.sf (.ix V1 (.x 0 1)) N1)) (.set 4 (.comp ["k"] ["step","rest","place"] [0,3,2] [0] .rng (.a1 (.ix (.ix V1 (.x 0 1)) N0)) (.t2 (.x 1 1) (.ad (.ml V0 V2) (.md V3 V2)))) (.ret (.ad V4 (.lst (.a1 (.t2 (.x 0 2) (.dv V2 V3))))))))
noncomputable def Bx:PSp:=λ ts Q=>∃(as:List Nat) (Ss:LL) (sz pl:Int),ts=[tI (as.map λ a:Nat=>(a:Int)),.tup (Ss.map tI),.int sz,.int pl]/\as.length<=3/\(0<=sz/\sz<=40)/\(0<=pl/\pl<=40)/\(∀a∈as,∃A,Ss[a]?=some A/\aE A/\0<af A/\af A<=40/\0<sz/af A)/\Q (.lst ((fD Ss sz pl as).map kT))
noncomputable def NO:Ct:=(.ret (.comp ["a"] ["place","size","sides"] [3,2,1] [0] .seq (.a1 V0) (.t2 V0 (.dv V1 (.dv V2 (.c1 48 (.ix V3 V0)))))))
noncomputable def By:PSp:=λ ts Q=>∃(d:Stp) (S:LI) (Ss:LL) (pl:Int),ts=[stT d,.tup (Ss.map tI),.int (af S),.int pl]/\(∀T∈Ss,aA 40 T)/\OkS Ss S d/\aA 40 S/\0<=pl/\pl<af S/\rkn d/\∀ms:LL,ms.Pairwise (· < ·)->(∀k,k∈ms ↔ k∈lkL Ss (af S) pl d)->Q (.lst (ms.map kT))
noncomputable def NP:Ct:=(.set 4 .l0 (.i (.es (.x 0 0) "each") (.set 4 (.lst (.a1 (.t2 (.x 0 2) V3))) .nil) (.i (.es (.x 0 0) "pair") (.set 4 (.call 65 (.cons (.sf V0 N2) (.cons V1 (.cons V2 (.cons V3 .nil))))) .nil) (.i (.es (.x 0 0) "pick") (.set 4 (.call 65 (.cons (.sf V0 N1) (.cons V1 (.cons V2 (.cons V3 .nil))))) .nil) (.i (.or (.es (.x 0 0) "fold") (.es (.x 0 0) "run")) (.set 4 (.c3 63 V0 V1 V3) .nil) (.i (.es (.x 0 0) "fetch") (.set 4 (.c3 64 V0 V1 V3) .nil) (.ret (.ss true V4))))))))
noncomputable def Bz:PSp:=λ ts Q=>∃(cs:LI) (mo:Int),ts=[lI cs,.int mo]/\cs.length<=40/\(2<=mo/\mo<=40)/\Q (.bl true)
noncomputable def NQ:Ct:=(.set 2 (.c2 60 V0 V1) (.set 3 (.b1 .tuple (.x 2 2)) (.for [4] .rng (.a1 (.ln V3)) (.set 5 (.ix (.x 2 0) V4) (.set 6 (.c1 48 (.ix V3 V4)) (.i (.cmp .NotIn (.x 5 0) (.tup (.cons (.w "turn") (.cons (.w "flip") (.cons (.w "cut") (.cons (.w "spread") (.cons (.w "lay") (.cons (.w "join") .nil)))))))) (.for [7] .rng (.a1 V6) (.set 8 (.c3 47 V5 V3 V7) (.r (.or (.not (.c1 61 V8)) (.ne V8 (.call 66 (.cons V5 (.cons V3 (.cons V6 (.cons V7 .nil))))))) (.c (.bl false)) .nil)) (.r (.or (.not (.c3 62 V5 V3 (.neg N1))) (.not (.c3 62 V5 V3 V6))) (.c (.bl false)) .nil)) .nil))) (.ret (.c (.bl true))))))
def BA:PSp:=pQ
noncomputable def NR:Ct:=(.set 1 N10 (.i (.eq (.md (.b1 .sum V0) N8) N3) (.set 1 (.n 40) .nil) (.for [2] .rng3 (.a3 N0 (.b2 .max N1 (.ln V0)) N7) (.r (.not (.c2 67 (.sl V0 V2 (.ad V2 N7)) V1)) (.c (.bl false)) .nil) (.ret (.c (.bl true))))))
noncomputable def DL:List DR:=[dr "wrapped" ["n"] zp0,dr "sign_of" ["x"] zp1,dr "quotient" ["x","y"] zp2,dr "remainder" ["x","y"] zp3,dr "once" ["word","x"] zp4,dr "twice" ["word","x","y"] zp5,dr "neutral" ["word"] zp6,dr "arg_places" ["form"] zp7,dr "args_of" ["step"] zp8,dr "amount" ["sides"] zp9,dr "breadth" ["sides"] Ar,dr "allowed" ["sides"] As,dr "strides_of" ["sides"] At,dr "place_of" ["sides","at"] Au,dr "at_of" ["sides","place"] Av,dr "changed_at" ["row","k","number"] Aw,dr "added_at" ["row","k","number"] Ax,dr "dropped_at" ["row","k"] Ay,dr "ask_side" ["sides","side"] Az,dr "turned_sides" ["sides","order"] AA,dr "flipped_sides" ["sides","side"] AB,dr "cut_sides" ["sides","side","first","many","step"] AC,dr "spread_sides" ["sides","side","many"] AD,dr "laid_sides" ["sides","others"] AE,dr "joined_sides" ["sides","others","side"] AF,dr "led_sides" ["sides","others"] AG,dr "paired_sides" ["sides","others"] AH,dr "picked_sides" ["marks","sides","others"] AI,dr "fetched_sides" ["sides","others"] AJ,dr "folded_sides" ["sides","side"] AK,dr "counted_sides" ["sides","side"] AL,dr "ask_word" ["step"] AM,dr "first_sides" ["step"] AN,dr "moved_sides" ["step","sides"] AO,dr "step_sides" ["step","sides"] AQ,dr "plain_view" ["sides"] AR,dr "turned_view" ["view","order"] AS,dr "flipped_view" ["view","side"] AT,dr "cut_view" ["view","side","first","many","step"] AU,dr "spread_view" ["view","side","many"] AW,dr "inner_view" ["view","side"] AX,dr "moved_view" ["step","view"] AY,dr "spot_of" ["view","at"] AZ,dr "places_along" ["sides","side","at","many"] Ba,dr "joined_looks" ["step","sides","at"] Bb,dr "fetched_looks" ["step","sides","at"] Bc,dr "put_together_looks" ["step","sides","at"] Bd,dr "looks_in" ["step","sides","place"] Be,dr "_law_size" ["sides"] Bf,dr "_law_wide" ["sides"] Bg,dr "_law_number" ["n"] Bh,dr "_law_recent" ["pool","d"] Bi,dr "_law_begun" ["kind","n","cell","most"] Bj,dr "_law_led" ["one","other"] Bk,dr "_law_lifted" ["kind","d","sides"] Bl,dr "_law_laid" ["own","d"] Bm,dr "_law_moved" ["kind","d","a","own","most"] Bn,dr "_law_both" ["own","other","side"] Bo,dr "_law_met" ["kind","d","sides","most"] Bp,dr "_law_step" ["cell","sides","most"] Bq,dr "_law_program" ["cells","most"] Br,dr "_law_pairs" ["found"] Bt,dr "_law_refused" ["step","sides","place"] Bu,dr "_law_along" ["step","sides","place"] Bv,dr "_law_fetched" ["step","sides","place"] Bw,dr "_law_led_to" ["args","sides","size","place"] Bx,dr "_law_looks" ["step","sides","size","place"] By,dr "_law_all" ["cells","most"] Bz,dr "law" ["script"] BA]
noncomputable def gs:List Str:=["LOW","HIGH","MOST_SIDES","MOST_BREADTH","PARTS"]
noncomputable def GT:List TV:=[.int (-9223372036854775808),.int 9223372036854775807,.int 6,.int 512,.bor [.tup [.str "in",.tup [.tup [.str "sides",.int 1]]],.tup [.str "num",.tup [.tup [.str "number",.int 1]]],.tup [.str "count",.tup [.tup [.str "small",.int 2],.tup [.str "sides",.int 1]]],.tup [.str "each",.tup [.tup [.str "word",.int 1],.tup [.str "step",.int 2]]],.tup [.str "pair",.tup [.tup [.str "word",.int 1],.tup [.str "step",.int 2],.tup [.str "step",.int 3]]],.tup [.str "pick",.tup [.tup [.str "step",.int 1],.tup [.str "step",.int 2],.tup [.str "step",.int 3]]],.tup [.str "turn",.tup [.tup [.str "step",.int 1],.tup [.str "sides",.int 2]]],.tup [.str "flip",.tup [.tup [.str "step",.int 1],.tup [.str "small",.int 2]]],.tup [.str "cut",.tup [.tup [.str "step",.int 1],.tup [.str "small",.int 2],.tup [.str "small",.int 3],.tup [.str "small",.int 4],.tup [.str "small",.int 5]]],.tup [.str "spread",.tup [.tup [.str "step",.int 1],.tup [.str "small",.int 2],.tup [.str "small",.int 3]]],.tup [.str "lay",.tup [.tup [.str "step",.int 1],.tup [.str "sides",.int 2]]],.tup [.str "join",.tup [.tup [.str "step",.int 1],.tup [.str "step",.int 2],.tup [.str "small",.int 3]]],.tup [.str "fetch",.tup [.tup [.str "step",.int 1],.tup [.str "step",.int 2]]],.tup [.str "fold",.tup [.tup [.str "word",.int 1],.tup [.str "step",.int 2],.tup [.str "small",.int 3]]],.tup [.str "run",.tup [.tup [.str "word",.int 1],.tup [.str "step",.int 2],.tup [.str "small",.int 3]]]]]
noncomputable abbrev ZX(j i:Nat)(N:List Str)(n p:Nat)(S:PSp)(c:Ct):Prop:=ZX' DL GT gs j (top i) N n p S c
noncomputable def NS:Cq:=(.ite (.or (.cmp .Lt (.v 1) (.n 0)) (.cmp .GtE (.v 1) (.call 9 (.a1 (.v 0))))) (.rs 0 (.a1 (.w "a place that is no cell's"))) .nil (.set 2 (.lst .nil) (.set 3 (.v 1) .no)))
noncomputable def NT:Cq:=(.sx 3 (.or (.call 14 (.a2 (.call 34 (.a2 (.v 0) (.v 1))) (.v 2))) (.fst (.call 34 (.a2 (.v 0) (.v 1))))))
noncomputable def X1L:List XSp:=[noX,noX,noX,noX,noX,noX,noX,noX,noX,noX,noX,noX,noX,noX,Ap,noX,noX,noX,noX,noX,noX,noX,noX,noX,noX,noX,noX,noX,noX,noX,noX,noX,noX,noX,noX,noX,noX,noX,noX,noX,noX,noX,noX,noX,noX,noX,noX,Aq,noX,noX,noX,noX,noX,noX,noX,noX,noX,noX,noX,noX,noX,noX,noX,noX,noX,noX,noX,noX,noX]
noncomputable def X2L:List XSp:=[noX,noX,noX,noX,noX,noX,noX,noX,noX,noX,noX,noX,noX,noX,noX,noX,noX,noX,noX,noX,noX,noX,noX,noX,noX,noX,noX,noX,noX,noX,noX,noX,noX,noX,noX,noX,noX,noX,noX,noX,noX,noX,noX,noX,noX,noX,noX,noX,noX,noX,noX,noX,noX,noX,noX,noX,noX,noX,noX,noX,noX,noX,noX,noX,noX,noX,noX,noX,noX]
def CSL:List Str:=["NoPlace","LoomError"]
def isC(k c:Nat):Bool:=decide (k=c)
noncomputable abbrev ZT(j i:Nat)(N:List Str)(n p q:Nat)(S:PSp)(c b:Ct)(bx:Cq)(hs:List (Nat×Cs))(r:Ct):Prop:=ZT' DL GT gs X1L CSL 1 isC j (top i) N n p q S c b bx hs r
noncomputable abbrev ZR(tp:Bool)(j i:Nat)(N:List Str)(n p:Nat)(T:XSp)(c:Cq):Prop:=ZR' DL GT gs (if tp=true then X1L else X2L) CSL tp j (top i) N n p T c
def zw0:ZX 0 11 ["n"] 1 1 zp0 zc0:=by
 refine⟨by kernel_rfl,?_⟩;rintro ts Q ⟨n,rfl,q⟩;refine⟨fu,?_⟩;exact⟨p64,pv,fu,q⟩
def zw1:ZX 1 12 ["x"] 1 1 zp1 zc1:=by
 refine⟨by kernel_rfl,?_⟩;rintro ts Q ⟨n,rfl,q⟩;refine⟨fu,?_⟩;exact s3 (λ h=>⟨fu,by rw[if_pos h] at q;exact q⟩) (λ h=>s3 (λ h2=>⟨fu,by rw[if_neg h,if_pos h2] at q;exact q⟩) (λ h2=>⟨fu,by rw[if_neg h,if_neg h2] at q;exact q⟩))
def zw2:ZX 2 13 ["x","y"] 2 2 zp2 zc2:=by
 refine⟨by kernel_rfl,?_⟩;rintro ts Q ⟨x,y,rfl,hx,hy,q⟩;refine⟨fu,?_⟩;unfold inB at hx hy;unfold ui at q;exact⟨Cl,sN (λ h=>⟨fu,by rw[if_pos h] at q;exact q⟩) (λ h=>⟨⟨h,on,on⟩,cl rfl ⟨_,fu,fu,by rw[if_neg h] at q;rw[Ab];exact q⟩ rfl⟩)⟩
def zw3:ZX 3 14 ["x","y"] 2 2 zp3 zc3:=by
 refine⟨by kernel_rfl,?_⟩;rintro ts Q ⟨x,y,rfl,q⟩;refine⟨fu,?_⟩;unfold uj at q;exact⟨Cl,sN (λ h=>⟨fu,by rw[if_pos h] at q;exact q⟩) (λ h=>⟨h,fu,by rw[if_neg h,<- Mc] at q;exact q⟩)⟩
def zw4:ZX 4 15 ["word","x"] 2 2 zp4 zc4:=by
 refine⟨by kernel_rfl,?_⟩;rintro ts Q ⟨wd,x,rfl,hw,q⟩;refine⟨fu,?_⟩;unfold zF zE at q;refine⟨Cl,sE (λ c=>?_) (λ c0=>?_)⟩
 ·rw[if_pos c] at q;exact cl rfl ⟨_,rfl,rfl,q⟩ rfl
 rw[if_neg c0] at q;refine⟨Cl,sE (λ c=>?_) (λ c1=>?_)⟩
 ·rw[if_pos c] at q;exact cl rfl ⟨_,rfl,rfl,q⟩ rfl
 rw[if_neg c1] at q;refine⟨Cl,sE (λ c=>?_) (λ c2=>?_)⟩
 ·rw[if_pos c] at q;exact cl rfl ⟨_,rfl,rfl,q⟩ rfl
 rw[if_neg c2] at q;refine⟨Cl,sE (λ c=>?_) (λ c3=>?_)⟩
 ·exact⟨Cl,sN (λ h=>⟨fu,by rw[if_pos h] at q;exact q⟩) (λ h=>⟨fu,by rw[if_neg h] at q;exact q⟩)⟩
 simp only[mX,aN,dJ,eW] at hw;exact absurd hw (by simp only[c0,c1,c2,c3,or_self,not_false_eq_true])
def zw5:ZX 5 16 ["word","x","y"] 3 3 zp5 zc5:=by
 refine⟨by kernel_rfl,?_⟩;rintro ts Q ⟨wd,x,y,rfl,hx,hy,hw,q⟩;refine⟨fu,?_⟩;unfold zD at q;have hx':=hx;unfold inB at hx';refine⟨Cl,sE (λ c=>?_) (λ c0=>?_)⟩
 ·rw[if_pos c] at q;exact cl rfl ⟨_,rfl,rfl,q⟩ rfl
 rw[if_neg c0] at q;refine⟨Cl,sE (λ c=>?_) (λ c1=>?_)⟩
 ·rw[if_pos c] at q;exact cl rfl ⟨_,rfl,rfl,q⟩ rfl
 rw[if_neg c1] at q;refine⟨Cl,sE (λ c=>?_) (λ c2=>?_)⟩
 ·rw[if_pos c] at q;exact⟨nk on on,cl rfl ⟨_,rfl,rfl,q⟩ rfl⟩
 rw[if_neg c2] at q;refine⟨Cl,sE (λ c=>?_) (λ c3=>?_)⟩
 ·rw[if_pos c] at q;exact cl rfl ⟨x,y,rfl,hx,hy,rfl,q⟩ rfl
 rw[if_neg c3] at q;refine⟨Cl,sE (λ c=>?_) (λ c4=>?_)⟩
 ·rw[if_pos c] at q;exact cl rfl ⟨x,y,rfl,rfl,q⟩ rfl
 rw[if_neg c4] at q;refine⟨Cl,sE (λ c=>?_) (λ c5=>?_)⟩
 ·rw[if_pos c] at q;exact⟨rfl,q⟩
 rw[if_neg c5] at q;refine⟨Cl,sE (λ c=>?_) (λ c6=>?_)⟩
 ·rw[if_pos c] at q;exact⟨rfl,q⟩
 rw[if_neg c6] at q;refine⟨Cl,sE (λ c=>?_) (λ c7=>?_)⟩
 ·rw[if_pos c] at q;exact s3 (λ h=>⟨rfl,by rw[if_pos h] at q;exact q⟩) (λ h=>⟨rfl,by rw[if_neg h] at q;exact q⟩)
 rw[if_neg c7] at q;refine⟨Cl,sE (λ c=>?_) (λ c8=>?_)⟩
 ·rw[if_pos c] at q;exact⟨trivial,sN (λ h=>⟨rfl,by rw[if_pos h] at q;exact q⟩) (λ h=>⟨rfl,by rw[if_neg h] at q;exact q⟩)⟩
 rw[if_neg c8] at q;refine⟨Cl,sE (λ c=>?_) (λ c9=>?_)⟩
 ·rw[if_pos c] at q;exact⟨rfl,q⟩
 rw[if_neg c9] at q;refine⟨Cl,sE (λ c=>?_) (λ c10=>?_)⟩
 ·rw[if_pos c] at q;exact⟨rfl,q⟩
 rw[if_neg c10] at q;refine⟨Cl,sE (λ c=>?_) (λ c11=>?_)⟩
 ·exact⟨fu,q⟩
 simp only[mY,aN,dJ,eW] at hw;exact absurd hw (by simp only[c0,c1,c2,c3,c4,c5,c6,c7,c8,c9,c10,c11,or_self,not_false_eq_true])
def zw6:ZX 6 17 ["word"] 1 1 zp6 zc6:=by
 refine⟨by kernel_rfl,?_⟩;rintro ts Q ⟨wd,rfl,hw,q⟩;refine⟨fu,?_⟩;have fl:∀x∈[TV.str "add",TV.str "or",TV.str "xor"],flT x=true:=pv;unfold isF at hw;simp only[fw,aN,dJ,eW] at hw;refine⟨fu,g3L,fu,fl,s2 (λ h=>⟨fu,?_⟩) (λ h=>⟨Cl,sE (λ c=>⟨fu,?_⟩) (λ c0=>⟨Cl,sE (λ c=>⟨fu,?_⟩) (λ c1=>⟨Cl,sE (λ c=>⟨fu,?_⟩) (λ c2=>⟨Cl,sE (λ c=>⟨fu,?_⟩) (λ c3=>?_)⟩)⟩)⟩)⟩)⟩
 ·have h:(decide (Str.ofString "add"=wd) || (decide (Str.ofString "or"=wd) || (decide (Str.ofString "xor"=wd) || false)))=true:=h;simp only[jg,eZ,jZ,eW] at h
  rcases h with rfl|rfl|rfl
  ·rw[La] at q;exact q
  ·rw[Lf] at q;exact q
  ·rw[Lg] at q;exact q
 ·subst c;rw[Lb] at q;exact q
 ·subst c;rw[Lc] at q;exact q
 ·subst c;rw[Ld] at q;exact q
 ·subst c;rw[Le] at q;exact q
 ·have h:(decide (Str.ofString "add"=wd) || (decide (Str.ofString "or"=wd) || (decide (Str.ofString "xor"=wd) || false)))=false:=h;simp only[Bool.or_eq_false_iff,s0k,and_true] at h
  rcases hw with z|z|z|z|z|z|z
  ·exact absurd z.symm h.1
  ·exact absurd z c0
  ·exact absurd z c1
  ·exact absurd z c2
  ·exact absurd z c3
  ·exact absurd z.symm h.2.1
  ·exact absurd z.symm h.2.2
def zw7:ZX 7 20 ["form"] 1 1 zp7 zc7:=by
 refine⟨by kernel_rfl,?_⟩;rintro ts Q ⟨i,hi,rfl,q⟩;refine⟨fu,?_⟩;have sl:∀n:Nat,n<=9->n<sizeLine:=λ n h=>aP on
 match i,hi with
 |0,_=>exact⟨_,rfl,sl 1 pv,trivial,rfl,q⟩
 |1,_=>exact⟨_,rfl,sl 1 pv,trivial,rfl,q⟩
 |2,_=>exact⟨_,rfl,sl 2 pv,trivial,trivial,rfl,q⟩
 |3,_=>exact⟨_,rfl,sl 2 pv,trivial,trivial,rfl,rfl,q⟩
 |4,_=>exact⟨_,rfl,sl 3 pv,trivial,trivial,rfl,trivial,rfl,rfl,q⟩
 |5,_=>exact⟨_,rfl,sl 3 pv,trivial,rfl,trivial,rfl,trivial,rfl,rfl,q⟩
 |6,_=>exact⟨_,rfl,sl 2 pv,trivial,rfl,trivial,rfl,q⟩
 |7,_=>exact⟨_,rfl,sl 2 pv,trivial,rfl,trivial,rfl,q⟩
 |8,_=>exact⟨_,rfl,sl 5 pv,trivial,rfl,trivial,trivial,trivial,trivial,rfl,q⟩
 |9,_=>exact⟨_,rfl,sl 3 pv,trivial,rfl,trivial,trivial,rfl,q⟩
 |10,_=>exact⟨_,rfl,sl 2 pv,trivial,rfl,trivial,rfl,q⟩
 |11,_=>exact⟨_,rfl,sl 3 pv,trivial,rfl,trivial,rfl,trivial,rfl,q⟩
 |12,_=>exact⟨_,rfl,sl 2 pv,trivial,rfl,trivial,rfl,rfl,q⟩
 |13,_=>exact⟨_,rfl,sl 3 pv,trivial,trivial,rfl,trivial,rfl,q⟩
 |14,_=>exact⟨_,rfl,sl 3 pv,trivial,trivial,rfl,trivial,rfl,q⟩
 |i+15,h=>lia
def zw8:ZX 8 21 ["step"] 1 1 zp8 zc8:=by
 refine⟨by kernel_rfl,?_⟩;rintro ts Q ⟨d,rfl,q⟩;refine⟨fu,?_⟩;have sl:∀n:Nat,n<=3->n<sizeLine:=λ n h=>aP on;have k15:kdN d<15:=by cases d<;>exact gZ rfl
 refine⟨_,Af d,cl rfl ⟨kdN d,k15,fu,?_⟩ rfl⟩;rw[Mh _ k15]
 cases d<;>first|exact⟨sl 0 pv,rfl,q⟩|exact⟨sl 1 pv,_,rfl,rfl,rfl,q⟩|exact⟨sl 2 pv,_,rfl,rfl,_,rfl,rfl,rfl,q⟩|exact⟨sl 3 pv,_,rfl,rfl,_,rfl,rfl,_,rfl,rfl,rfl,q⟩
def zw9:ZX 9 25 ["sides","product","side"] 3 1 zp9 zc9:=by
 refine⟨by kernel_rfl,?_⟩;rintro ts Q ⟨t,rfl,ns,ht,sd,q⟩;refine⟨fu,?_⟩
 rcases ht with rfl|rfl
 ·refine⟨fu,fu,cQ (λ i ρ=>∃y,ρ=[some (tI ns),some (.int (af (ns.take i))),y]) ⟨_,fu⟩ (λ i u ρ hu ⟨y,e⟩=>?_) (λ ρ ⟨y,e⟩=>?_)⟩
  ·subst e;obtain⟨n,rfl,hn⟩:=kS hu;have b:=sd n (aK hn);exact⟨dR on on,fu,some (.int n),by rw[mR hn];rfl⟩
  ·subst e;rw[ao,cX];exact⟨fu,q⟩
 ·refine⟨fu,fu,cQ (λ i ρ=>∃y,ρ=[some (lI ns),some (.int (af (ns.take i))),y]) ⟨_,fu⟩ (λ i u ρ hu ⟨y,e⟩=>?_) (λ ρ ⟨y,e⟩=>?_)⟩
  ·subst e;obtain⟨n,rfl,hn⟩:=kS hu;have b:=sd n (aK hn);exact⟨dR on on,fu,some (.int n),by rw[mR hn];rfl⟩
  ·subst e;rw[ao,cX];exact⟨fu,q⟩
def NU:ZX 10 26 ["sides"] 1 1 Ar MD:=by
 refine⟨by kernel_rfl,?_⟩;rintro ts Q ⟨ns,rfl,sd,l,q⟩;refine⟨fu,?_⟩;refine⟨by rw[ao];exact aP on,da .int (λ n=>.int (ak n)) ns (λ n _=>?_) (cl rfl ⟨_,fu,ns.map ak,.inr (by unfold lI;rw[bq];rfl),yY sd,fu,q⟩ rfl)⟩;refine⟨Cl,s2 (λ h=>⟨fu,?_⟩) (λ h=>⟨fu,?_⟩)⟩
 ·rw[LZ h];rfl
 ·rw[Ma h];rfl
def NV:ZX 11 27 ["sides"] 1 1 As ME:=by
 refine⟨by kernel_rfl,?_⟩;rintro ts Q ⟨ns,rfl,sd,l,nb,q⟩;refine⟨fu,?_⟩;unfold cR at nb;exact sF (aO (show ¬((6:Int)<((ns.map TV.int).length:Nat)) by rw[ao];lia)) (cl rfl ⟨ns,fu,sd,l,sF (aO (show ¬((512:Int)<af (ns.map ak)) by lia)) ⟨fu,q⟩⟩ rfl)
def NW:ZX 12 28 ["sides","strides","stride","side"] 4 1 At MF:=by
 refine⟨by kernel_rfl,?_⟩;rintro ts Q ⟨ns,rfl,sd,l,q⟩;refine⟨fu,?_⟩;refine⟨fu,aX _,fu,fu,fu,?_⟩;refine cQ (λ i ρ=>∃y,ρ=[some (tI ns),some (.own ((stL ns i).map .int)),some (.int (stP ns i)),y]) ⟨_,fu⟩ (λ i u ρ hu ⟨y,e⟩=>?_) (λ ρ ⟨y,e⟩=>?_)
 ·subst e;obtain⟨hi,n,rfl,hn⟩:=zX hu;have b:=sd n (aK hn);refine⟨fu,by rw[ao,stL,aq,bd];exact aP on,dR on on,fu,some (.int n),?_⟩;rw[yZ hi hn,tX,bQ];rfl
 ·subst e;rw[gQ,ao];refine⟨fu,?_⟩;show Q (.tup ((stL ns ns.length).map TV.int).reverse);rw[<- s0t];exact q
def NX:ZX 13 29 ["sides","at","side","coordinate"] 4 2 Au MG:=by
 refine⟨by kernel_rfl,?_⟩;rintro ts Q ⟨ns,ms,rfl,sd,l,g,q⟩;refine⟨fu,?_⟩;have hl:=g.1;refine⟨Cl,sF (neF (by rw[ao,ao,hl])) ⟨fu,?_⟩⟩;refine cQ (λ i ρ=>∃y2 y3,ρ=[some (tI ns),some (tI ms),y2,y3]) ⟨_,_,fu⟩ (λ i u ρ hu ⟨y2,y3,e⟩=>?_) (λ ρ ⟨y2,y3,e⟩=>?_)
 ·subst e;obtain⟨n,m,rfl,hn,hm⟩:=zY hu;have b:=g.2 i m n hm hn;refine sF (aO (show ¬m<0 by lia)) (sF (aO (show ¬n<=m by lia)) ⟨_,_,fu⟩)
 ·subst e;refine cl rfl ⟨ns,fu,sd,l,by rw[ph,ao,ao];exact aP on,qg (zZ ms _) (λ p:Int×Int=>.int (p.1*p.2)) (λ p hp=>?_) ⟨_,Aa _ _,?_⟩⟩ rfl
  ·obtain⟨i,ei⟩:=oP.mp hp;obtain⟨e1,e2⟩:=oV.mp ei;obtain⟨n,hn⟩:∃n,ns[i]?=some n:=⟨ns[i]'(by have:=(br.mp e1).1;lia),aC _⟩;have mb:=g.2 i p.1 n e1 hn;have nb:=sd n (aK hn);exact⟨nk on on,fu,fu⟩
  ·exact⟨fu,q⟩
def NY:ZR true 14 30 ["sides","place","at","left","side"] 5 2 Ap NS:=by
 refine⟨by kernel_rfl,?_⟩;rintro ts E ⟨ns,pl,rfl,sd,h,q⟩;refine⟨fu,?_⟩;refine s3 (λ c=>⟨g1L,q⟩) (λ c=>?_);exact cl rfl ⟨_,fu,ns,.inl rfl,sd,sT (bz (show af ns<=pl by lia)) ⟨g1L,q⟩⟩ rfl
def NZ:ZX 14 30 ["sides","place","at","left","side"] 5 2 Av MH:=by
 refine⟨by kernel_rfl,?_⟩;rintro ts Q ⟨ns,pl,rfl,sd,l,p0,p1,q⟩;refine⟨fu,?_⟩;have nz:=tZ (ns:=ns) on;refine sF (aO (show ¬pl<0 by lia)) (cl rfl ⟨_,fu,ns,.inl rfl,sd,sF (aO (show ¬af ns<=pl by lia)) ⟨fu,aX _,fu,fu,fu,?_⟩⟩ rfl);refine cQ (λ i ρ=>∃y,ρ=[some (tI ns),some (.int pl),some (.own ((dgL ns pl i).map .int)),some (.int (lfI ns pl i)),y]) ⟨_,fu⟩ (λ i u ρ hu ⟨y,e⟩=>?_) (λ ρ ⟨y,e⟩=>?_)
 ·subst e;obtain⟨hi,n,rfl,hn⟩:=zX hu;have b:=sd n (aK hn);have mz:=nz n (aK hn);have rg:=pU hi hn;have d1:dgI ns pl i=lfI ns pl i%n:=by unfold dgI;rw[rg]
  have l1:lfI ns pl (i+1)=lfI ns pl i/n:=by show lfI ns pl i/_=_;rw[rg]
  have fd:(lfI ns pl i).fdiv n=lfI ns pl i/n:=lx _ b.1;refine⟨mz,fu,by rw[ao,dgL,aq,bd];exact aP on,⟨mz,on,on⟩,fu,some (.int n),?_⟩;have m1:aB (lfI ns pl i) n=lfI ns pl i%n:=if_pos on;have v1:aD (lfI ns pl i) n=lfI ns pl i/n:=if_pos on;rw[zb,bQ,d1,l1,<- m1,<- v1];rfl
 ·subst e;rw[gQ,ao];refine⟨fu,?_⟩;show Q (.tup ((dgL ns pl ns.length).map TV.int).reverse);rw[<- s0t];exact q
def Oa:ZX 15 31 ["row","k","number"] 3 3 Aw MI:=by
 refine⟨by kernel_rfl,?_⟩;rintro ts Q ⟨ns,k,m,rfl,l,kl,q⟩;refine⟨fu,?_⟩;have e1:=dU ns k;have e2:au (ns.map TV.int) (some ((k:Int)+1)) none=(ns.drop (k+1)).map TV.int:=by rw[show(k:Int)+1=((k+1:Nat):Int) by lia];exact eQ ns (k+1)
 have e3:(au (ns.map TV.int) none (some (k:Int))++[TV.int m])++au (ns.map TV.int) (some ((k:Int)+1)) none=(ns.set k m).map TV.int:=by rw[e1,e2,ut,if_pos kl];simp
 have l1:(au (ns.map TV.int) none (some (k:Int))).length<=63:=by rw[e1,ao,aY];lia
 have l2:(au (ns.map TV.int) (some ((k:Int)+1)) none).length<=63:=by rw[e2,ao,db];lia
 unfold tI at q;rw[<- e3] at q;exact⟨fu,g1L,bC (show(au (ns.map TV.int) none (some (k:Int))).length+1<=1000 by lia),bC (show(au (ns.map TV.int) none (some (k:Int))++[TV.int m]).length+(au (ns.map TV.int) (some ((k:Int)+1)) none).length<=1000 by rw[aR,fJ];lia),fu,q⟩
def Ob:ZX 16 32 ["row","k","number"] 3 3 Ax MJ:=by
 refine⟨by kernel_rfl,?_⟩;rintro ts Q ⟨ns,k,m,rfl,l,q⟩;refine⟨fu,?_⟩;have e1:=dU ns k;have e2:=eQ ns k;have e3:(au (ns.map TV.int) none (some (k:Int))++[TV.int m])++au (ns.map TV.int) (some (k:Int)) none=(bB ns k m).map TV.int:=by rw[e1,e2];unfold bB;simp
 have l1:(au (ns.map TV.int) none (some (k:Int))).length<=63:=by rw[e1,ao,aY];lia
 have l2:(au (ns.map TV.int) (some (k:Int)) none).length<=63:=by rw[e2,ao,db];lia
 unfold tI at q;rw[<- e3] at q;exact⟨fu,g1L,bC (show(au (ns.map TV.int) none (some (k:Int))).length+1<=1000 by lia),bC (show(au (ns.map TV.int) none (some (k:Int))++[TV.int m]).length+(au (ns.map TV.int) (some (k:Int)) none).length<=1000 by rw[aR,fJ];lia),fu,q⟩
def Oc:ZX 17 33 ["row","k"] 2 2 Ay MK:=by
 refine⟨by kernel_rfl,?_⟩;rintro ts Q ⟨ns,k,rfl,l,kl,q⟩;refine⟨fu,?_⟩;have e1:=dU ns k;have e2:au (ns.map TV.int) (some ((k:Int)+1)) none=(ns.drop (k+1)).map TV.int:=by rw[show(k:Int)+1=((k+1:Nat):Int) by lia];exact eQ ns (k+1)
 have e3:au (ns.map TV.int) none (some (k:Int))++au (ns.map TV.int) (some ((k:Int)+1)) none=(ns.eraseIdx k).map TV.int:=by rw[e1,e2,jf,bQ]
 have l1:(au (ns.map TV.int) none (some (k:Int))).length<=63:=by rw[e1,ao,aY];lia
 have l2:(au (ns.map TV.int) (some ((k:Int)+1)) none).length<=63:=by rw[e2,ao,db];lia
 unfold tI at q;rw[<- e3] at q;exact⟨bC (show(au (ns.map TV.int) none (some (k:Int))).length+(au (ns.map TV.int) (some ((k:Int)+1)) none).length<=1000 by lia),fu,q⟩
def Od:ZX 18 35 ["sides","side"] 2 2 Az ML:=by
 refine⟨by kernel_rfl,?_⟩;rintro ts Q ⟨ns,side,rfl,no,q⟩;refine⟨fu,?_⟩;unfold off at no;exact sF (aO (show ¬side<0 by lia)) (sF (aO (show ¬((ns.map TV.int).length:Int)<=side by rw[ao];lia)) q)
def Oe:ZX 19 36 ["sides","order"] 2 2 AA MN:=by
 refine⟨by kernel_rfl,?_⟩;rintro ts Q ⟨ns,os,rfl,l1,l2,tk,q⟩;refine⟨fu,?_⟩;refine⟨os,fu,on,λ ss pm pw=>?_⟩;have c:=(Lj (n:=ns.length) pm pw).mpr tk;refine⟨⟨on,by rw[ao];lia⟩,dpL _,sF ?_ ?_⟩
 ·show(!_L.eqT (TV.lst (ss.map TV.int)) (TV.lst ((List.range (((ns.map TV.int).length:Nat):Int).toNat).map λ i:Nat=>TV.int (i:Nat))))=false;rw[show((List.range (((ns.map TV.int).length:Nat):Int).toNat).map λ i:Nat=>TV.int (i:Nat))=(upL ns.length).map TV.int by rw[ao];unfold upL;rw[bq];rfl,Mb,c];simp
 ·refine⟨by rw[ao];exact aP on,da .int (λ o:Int=>.int (ns.getD o.toNat 0)) os (λ o ho=>?_) ⟨fu,by unfold tI jA at q;rw[bq] at q;exact q⟩⟩;have om:=up_mem.mp (tk.subset ho);exact⟨_,qh om.1 om.2,fu,fu⟩
def Of:ZX 20 37 ["sides","side"] 2 2 AB MO:=by
 refine⟨by kernel_rfl,?_⟩;rintro ts Q ⟨ns,side,rfl,no,q⟩;refine⟨fu,?_⟩;exact cl rfl ⟨ns,side,fu,no,fu,q⟩ rfl
def Og:ZX 21 38 ["sides","side","first","many","step"] 5 5 AC MP:=by
 refine⟨by kernel_rfl,?_⟩;rintro ts Q ⟨ns,side,f,m,g,rfl,l,m0,m1,no,nb,q⟩;refine⟨fu,?_⟩;refine cl rfl ⟨ns,side,fu,no,?_⟩ rfl;obtain⟨k,rfl,hk⟩:=jy no;unfold bad at nb;simp only[Int.toNat_natCast] at nb q;refine sF (aO λ z=>nb (.inl z)) (sF (aO λ z=>nb (.inr (.inl z))) (sF (aO λ z=>nb (.inr (.inr (.inl z)))) ?_));refine s3 (λ c=>?_) (λ c=>cl rfl ⟨ns,k,m,fu,l,hk,fu,q⟩ rfl);exact⟨nk on on,_,cS hk,sF (aO λ z=>nb (.inr (.inr (.inr ⟨c,z⟩)))) (cl rfl ⟨ns,k,m,fu,l,hk,fu,q⟩ rfl)⟩
def Oh:ZX 22 39 ["sides","side","many"] 3 3 AD MQ:=by
 refine⟨by kernel_rfl,?_⟩;rintro ts Q ⟨ns,side,m,rfl,sd,l,m1,no,mn,nb,q⟩;refine⟨fu,?_⟩;unfold pW at no;obtain⟨k,rfl⟩:∃k:Nat,side=k:=⟨side.toNat,on⟩;simp only[Int.toNat_natCast] at nb q;have il:=zI ns k m;refine sF (aO (show ¬((ns.map TV.int).length:Int)<k by rw[ao];lia)) (sF (aO mn) (cl rfl ⟨ns,k,m,fu,on,cl rfl ⟨bB ns k m,fu,λ n hn=>?_,on,nb,fu,q⟩ rfl⟩ rfl));unfold bB at hn;simp only[bn,bj] at hn
 rcases hn with (h|h)|h
 ·exact sd n (my h)
 ·lia
 ·exact sd n (gK h)
def Oi:ZX 23 40 ["sides","others"] 2 2 AE MR:=by
 refine⟨by kernel_rfl,?_⟩;rintro ts Q ⟨ns,ms,rfl,sd,sm',l,nb,e,q⟩;refine⟨fu,?_⟩;exact cl rfl ⟨ms,fu,sm',on,nb,cl rfl ⟨_,fu,ns,.inl rfl,sd,cl rfl ⟨_,fu,ms,.inl rfl,sm',Cl,sF (neF e) ⟨fu,q⟩⟩ rfl⟩ rfl⟩ rfl
def Oj:ZX 24 41 ["sides","others","side"] 3 3 AF MS:=by
 refine⟨by kernel_rfl,?_⟩;rintro ts Q ⟨ns,ms,side,rfl,hn,hm,l,ll,no,c,nb,q⟩;refine⟨fu,?_⟩;refine⟨Cl,sF (neF (by rw[ao,ao,ll])) (cl rfl ⟨ns,side,fu,no,?_⟩ rfl)⟩;obtain⟨k,rfl,hk⟩:=jy no;simp only[Int.toNat_natCast] at c;have n1:=hn _ (getD_mem hk);have n2:=hm _ (getD_mem (ns:=ms) (k:=k) on);refine cl rfl ⟨ns,k,fu,on,hk,cl rfl ⟨ms,k,fu,on,on,dpT _,sF ?_ ?_⟩ rfl⟩ rfl
 ·show(!_L.eqT (TV.tup ((ns.eraseIdx k).map TV.int)) (TV.tup ((ms.eraseIdx k).map TV.int)))=false;rw[nr,c];simp
 ·refine⟨_,cS hk,_,cS (ns:=ms) on,cl rfl ⟨ns,k,_,fu,on,hk,cl rfl ⟨_,fu,λ n hn'=>?_,by rw[fG];lia,nb,fu,q⟩ rfl⟩ rfl⟩
  rcases qe hn' with z|z
  ·exact KQ hn n z
  ·lia
def Ol:ZX 25 42 ["sides","others"] 2 2 AG MT:=by
 refine⟨by kernel_rfl,?_⟩;rintro ts Q ⟨ns,ms,rfl,c,q⟩;refine⟨fu,?_⟩;have e1:au (ms.map TV.int) none (some (((ns.map TV.int).length:Nat):Int))=ns.map TV.int:=by rw[ao,dU,c]
 exact⟨by show _L.dp 9 (TV.tup (au (ms.map TV.int) none (some (((ns.map TV.int).length:Nat):Int))));rw[e1];exact dpT ns,sF (by show(!_L.eqT (TV.tup (au (ms.map TV.int) none (some (((ns.map TV.int).length:Nat):Int)))) (TV.tup (ns.map TV.int)))=false;rw[e1,nr];simp) ⟨fu,q⟩⟩
def Om:ZX 26 43 ["sides","others"] 2 2 AH MU:=by
 refine⟨by kernel_rfl,?_⟩;rintro ts Q ⟨ns,ms,rfl,c,q⟩;refine⟨fu,?_⟩;unfold cr at c;unfold bG at q;refine s2 (λ h=>?_) (λ h=>?_)
 ·have h:(((ms.map TV.int).length:Nat):Int)<((ns.map TV.int).length:Nat):=ax h;rw[ao,ao] at h;rw[if_pos on] at c q;exact cl rfl ⟨ms,ns,fu,c,fu,q⟩ rfl
 ·have h:¬(((ms.map TV.int).length:Nat):Int)<((ns.map TV.int).length:Nat):=kW h;rw[ao,ao] at h;rw[if_neg on] at c q;exact cl rfl ⟨ns,ms,fu,c,fu,q⟩ rfl
def On:ZX 27 44 ["marks","sides","others"] 3 3 AI MV:=by
 refine⟨by kernel_rfl,?_⟩;rintro ts Q ⟨ns,ms,ks,rfl,c1,c2,q⟩;refine⟨fu,?_⟩;exact cl rfl ⟨ns,ms,fu,c1,cl rfl ⟨_,ks,fu,c2,fu,q⟩ rfl⟩ rfl
def Oo:ZX 28 45 ["sides","others"] 2 2 AJ MW:=by
 refine⟨by kernel_rfl,?_⟩;rintro ts Q ⟨n,r,ms,rfl,sd,sm',l1,l2,n0,nb,q⟩;refine⟨fu,?_⟩;have e1:au ((n::r).map TV.int) (some 1) none=r.map TV.int:=eQ (n::r) 1;have lc:(au ((n::r).map TV.int) (some 1) none).length<=20:=by rw[e1,ao];lia
 refine⟨Cl,.int n,lE (j:=0) rfl,Cl,sN (λ h=>absurd h n0) (λ _=>⟨bC (show(ms.map TV.int).length+(au ((n::r).map TV.int) (some 1) none).length<=1000 by rw[ao];lia),cl rfl ⟨ms++r,?_,λ x hx=>?_,by rw[aR];lia,nb,fu,q⟩ rfl⟩)⟩
 ·show[TV.tup (ms.map TV.int++au ((n::r).map TV.int) (some 1) none)]=[tI (ms++r)];rw[e1,<- bQ];rfl
 ·rcases bn.mp hx with h|h
  ·exact sm' x h
  ·exact sd x (bO _ h)
def Op:ZX 29 46 ["sides","side"] 2 2 AK MX:=by
 refine⟨by kernel_rfl,?_⟩;rintro ts Q ⟨ns,side,rfl,l,no,q⟩;refine⟨fu,?_⟩;refine cl rfl ⟨ns,side,fu,no,?_⟩ rfl;obtain⟨k,rfl,hk⟩:=jy no;simp only[Int.toNat_natCast] at q;exact cl rfl ⟨ns,k,fu,l,hk,fu,q⟩ rfl
def Oq:ZX 30 47 ["sides","side"] 2 2 AL MY:=by
 refine⟨by kernel_rfl,?_⟩;rintro ts Q ⟨ns,side,rfl,sd,l,nb,no,q⟩;refine⟨fu,?_⟩;exact cl rfl ⟨ns,fu,sd,on,nb,cl rfl ⟨ns,side,fu,no,fu,q⟩ rfl⟩ rfl
def Os:ZX 31 49 ["step"] 1 1 AM MZ:=by
 refine⟨by kernel_rfl,?_⟩;rintro ts Q ⟨d,rfl,hw,q⟩;refine⟨fu,?_⟩
 cases d with
 |each w a=>exact⟨_,rfl,trivial,_,rfl,cl rfl ⟨w,0,rfl,hw,_,rfl,trivial,_,rfl,rfl,g2L,rfl,fl2,q⟩ rfl⟩
 |pair w a b=>exact⟨_,rfl,trivial,_,rfl,trivial,_,rfl,cl rfl ⟨w,0,0,rfl,⟨pv,pv⟩,⟨pv,pv⟩,hw,_,rfl,rfl,g2L,rfl,fl2,q⟩ rfl⟩
 |fold w a s=>exact⟨_,rfl,trivial,_,rfl,trivial,_,rfl,rfl,g2L,rfl,fl2,_,rfl,cl rfl ⟨w,rfl,hw,q⟩ rfl⟩
 |run w a s=>exact⟨_,rfl,trivial,_,rfl,trivial,_,rfl,rfl,g2L,rfl,fl2,_,rfl,cl rfl ⟨w,rfl,hw,q⟩ rfl⟩
 |_=>exact⟨_,rfl,trivial,_,rfl,trivial,_,rfl,rfl,g2L,rfl,fl2,q⟩
def Ot:ZX 32 50 ["step"] 1 1 AN Na:=by
 refine⟨by kernel_rfl,?_⟩;rintro ts Q ⟨d,S,Ss,rfl,k3,ok,fs,q⟩;refine⟨fu,?_⟩;have sd:=gY fs;have s6:=fs.2.1
 cases d with
 |inp ms=>obtain⟨rfl,nb⟩:=ok;exact⟨_,rfl,trivial,_,rfl,cl rfl ⟨S,rfl,sd,on,nb,rfl,q⟩ rfl⟩
 |count ms k=>obtain⟨rfl,nb,no⟩:=ok;exact⟨_,rfl,trivial,_,rfl,trivial,_,rfl,_,rfl,cl rfl ⟨S,k,rfl,sd,on,nb,no,rfl,q⟩ rfl⟩
 |num n=>obtain⟨rfl,_⟩:=ok;exact⟨_,rfl,trivial,_,rfl,trivial,rfl,g0L,rfl,q⟩
 |_=>exact absurd k3 (kW rfl)
def Ou:ZX 33 51 ["step","sides","form"] 3 2 AO Nb:=by
 refine⟨by kernel_rfl,?_⟩;rintro ts Q ⟨d,S,A,Ss,a,rfl,ha,ea,fA,ok,fs,q⟩;refine⟨fu,?_⟩;have sd:=gY fs;have sdA:=gY fA;have s6:=fs.2.1;have a6:=fA.2.1
 cases d with
 |each w a=>
  cases ha;cases ok.1.symm.trans ea;exact⟨_,fu,fu,Cl,Cl,Cl,Cl,Cl,Cl,Cl,fu,q⟩
 |turn a os=>
  cases ha;obtain⟨A',ea',tk,rfl⟩:=ok;cases ea'.symm.trans ea;exact⟨_,fu,fu,Cl,_,fu,cl rfl ⟨A,os,fu,on,by rw[tk.length_eq,fh];lia,tk,fu,q⟩ rfl⟩
 |flip a s=>
  cases ha;obtain⟨ea',no⟩:=ok;cases ea'.symm.trans ea;exact⟨_,fu,fu,Cl,Cl,_,fu,cl rfl ⟨S,s,fu,no,fu,q⟩ rfl⟩
 |cut a s f m g=>
  cases ha;obtain⟨A',ea',no,nb,m5,rfl⟩:=ok;cases ea'.symm.trans ea;exact⟨_,fu,fu,Cl,Cl,Cl,_,fu,_,fu,_,fu,_,fu,cl rfl ⟨A,s,f,m,g,fu,on,by unfold bad at nb;lia,on,no,nb,fu,q⟩ rfl⟩
 |spread a s m=>
  cases ha;obtain⟨A',ea',no,nm,m5,nb,rfl⟩:=ok;cases ea'.symm.trans ea;exact⟨_,fu,fu,Cl,Cl,Cl,Cl,_,fu,_,fu,cl rfl ⟨A,s,m,fu,sdA,on,on,no,nm,nb,fu,q⟩ rfl⟩
 |lay a ms=>
  cases ha;obtain⟨A',ea',nb,e,rfl⟩:=ok;cases ea'.symm.trans ea;exact⟨_,fu,fu,Cl,Cl,Cl,Cl,Cl,_,fu,cl rfl ⟨A,S,fu,sdA,sd,on,nb,e,fu,q⟩ rfl⟩
 |fold w a s=>
  cases ha;obtain⟨A',ea',hw,no,rfl⟩:=ok;cases ea'.symm.trans ea;exact⟨_,fu,fu,Cl,Cl,Cl,Cl,Cl,Cl,_,fu,cl rfl ⟨A,s,fu,on,no,fu,q⟩ rfl⟩
 |run w a s=>
  cases ha;obtain⟨ea',hw,no⟩:=ok;cases ea'.symm.trans ea;exact⟨_,fu,fu,Cl,Cl,Cl,Cl,Cl,Cl,Cl,_,fu,cl rfl ⟨S,s,fu,no,fu,q⟩ rfl⟩
 |_=>cases ha
def Ov:ZX 34 52 ["step","sides","used","form"] 4 2 AQ Nc:=by
 refine⟨by kernel_rfl,?_⟩;rintro ts Q ⟨t,d,S,Ss,rfl,ht,fS,ok,fs,q⟩;refine⟨fu,?_⟩;subst ht
 cases d with
 |pair w a b=>
  obtain⟨A,B,ea,eb,hw,po,rfl⟩:=ok;exact cl rfl ⟨(Stp.pair w a b),fu,hw,cl rfl ⟨(Stp.pair w a b),fu,sl3 (gZ rfl),tI A,aQ ea,fu,tI B,aQ eb,fu,fu,_,fu,fu,Cl,Cl,Cl,_,fu,_,fu,cl rfl ⟨A,B,fu,po,fu,q⟩ rfl⟩ rfl⟩ rfl
 |join a b s=>
  obtain⟨A,B,ea,eb,ll,no,ee,nb,rfl⟩:=ok;have fA:=fS _ (aK ea);have fB:=fS _ (aK eb);have a6:=fA.2.1;exact cl rfl ⟨(Stp.join a b s),fu,Cl,cl rfl ⟨(Stp.join a b s),fu,sl3 (gZ rfl),tI A,aQ ea,fu,tI B,aQ eb,fu,fu,_,fu,fu,Cl,Cl,Cl,Cl,_,fu,_,fu,_,fu,cl rfl ⟨A,B,s,fu,zV fA,zV fB,on,ll,no,ee,nb,fu,q⟩ rfl⟩ rfl⟩ rfl
 |fetch a b=>
  obtain⟨n,r,B,ea,n0,eb,nb,rfl⟩:=ok;have fA:=fS _ (aK ea);have fB:=fS _ (aK eb);have a6:=fA.2.1;have b6:=fB.2.1;rw[List.length_cons] at a6;exact cl rfl ⟨(Stp.fetch a b),fu,Cl,cl rfl ⟨(Stp.fetch a b),fu,sl3 (gZ rfl),tI (n::r),aQ ea,fu,tI B,aQ eb,fu,fu,_,fu,fu,Cl,Cl,Cl,Cl,Cl,_,fu,_,fu,cl rfl ⟨n,r,B,fu,gY fA,gY fB,on,on,n0,nb,fu,q⟩ rfl⟩ rfl⟩ rfl
 |pick a b c=>
  obtain⟨A,B,C,ea,eb,ec,p1,p2,rfl⟩:=ok;exact cl rfl ⟨(Stp.pick a b c),fu,Cl,cl rfl ⟨(Stp.pick a b c),fu,sl3 (gZ rfl),tI A,aQ ea,fu,tI B,aQ eb,fu,tI C,aQ ec,fu,fu,_,fu,fu,Cl,Cl,Cl,Cl,Cl,_,fu,_,fu,_,fu,cl rfl ⟨A,B,C,fu,p1,p2,fu,q⟩ rfl⟩ rfl⟩ rfl
 |_=>first|exact cl rfl ⟨_,rfl,ux ok,cl rfl ⟨_,rfl,sl3 (gZ rfl),rfl,_,rfl,rfl,trivial,cl rfl ⟨_,S,Ss,rfl,gZ rfl,ok,fs,rfl,q⟩ rfl⟩ rfl⟩ rfl|exact cl rfl ⟨_,rfl,ux ok,cl rfl ⟨_,rfl,sl3 (gZ rfl),tI S,aQ ok.1,rfl,rfl,_,rfl,rfl,trivial,trivial,_,rfl,cl rfl ⟨_,S,S,Ss,_,rfl,rfl,ok.1,fS _ (aK ok.1),ok,fs,rfl,q⟩ rfl⟩ rfl⟩ rfl|(obtain⟨A,ea,_⟩:=id ok;exact cl rfl ⟨_,rfl,ux ok,cl rfl ⟨_,rfl,sl3 (gZ rfl),tI A,aQ ea,rfl,rfl,_,rfl,rfl,trivial,trivial,_,rfl,cl rfl ⟨_,S,A,Ss,_,rfl,rfl,ea,fS _ (aK ea),ok,fs,rfl,q⟩ rfl⟩ rfl⟩ rfl)
def Ow:ZX 35 54 ["sides"] 1 1 AR Nd:=by
 refine⟨by kernel_rfl,?_⟩;rintro ts Q ⟨ns,rfl,sd,l,q⟩;refine⟨fu,?_⟩;exact cl rfl ⟨ns,fu,sd,l,fu,g3L,fu,q⟩ rfl
def Ox:ZX 36 55 ["view","order","sides","strides","own"] 5 2 AS Nf:=by
 refine⟨by kernel_rfl,?_⟩;exact λ _ _ h=>h.elim
def Oy:ZX 37 56 ["view","side","sides","stride","start"] 5 2 AT Ng:=by
 refine⟨by kernel_rfl,?_⟩;exact λ _ _ h=>h.elim
def Oz:ZX 38 57 ["view","side","first","many","step","sides","stride"] 7 5 AU Nh:=by
 refine⟨by kernel_rfl,?_⟩;exact λ _ _ h=>h.elim
def OB:ZX 39 58 ["view","side","many","sides"] 4 3 AW Ni:=by
 refine⟨by kernel_rfl,?_⟩;exact λ _ _ h=>h.elim
def OC:ZX 40 59 ["view","side","sides","strides"] 4 2 AX Nj:=by
 refine⟨by kernel_rfl,?_⟩;rintro ts Q ⟨ns,ss,k,rfl,l,sl,kl,q⟩;refine⟨fu,?_⟩;have el:(ss.eraseIdx k).length=(ns.eraseIdx k).length:=by rw[dL,dL,sl]
 rw[<- Mr,el] at q;refine⟨_,fu,cl rfl ⟨ns,(k:Int),fu,on,by unfold off;lia,?_⟩ rfl⟩;rw[Int.toNat_natCast];refine⟨fu,_,fu,fu,_,fu,cl rfl ⟨ss,k,fu,on,on,?_⟩ rfl⟩;exact⟨.int (ss.getD k 0),cS on,cl rfl ⟨ss.eraseIdx k,(ns.eraseIdx k).length,_,by rw[ao];rfl,by rw[dL];split<;>lia,fu,g3L,fu,q⟩ rfl⟩
def OD:ZX 41 60 ["step","view"] 2 2 AY Nk:=by
 refine⟨by kernel_rfl,?_⟩;exact λ _ _ h=>h.elim
def OE:ZX 42 61 ["view","at","side","coordinate"] 4 2 AZ Nl:=by
 refine⟨by kernel_rfl,?_⟩;rintro ts Q ⟨S,ss,ms,b,rfl,hl,l,mb,g,q⟩;refine⟨fu,?_⟩;refine⟨_,fu,Cl,sF (neF (by rw[ao,ao,hl])) ⟨_,fu,fu,?_⟩⟩;refine cQ (λ i ρ=>∃y2 y3,ρ=[some (vwT S b ss),some (tI ms),y2,y3]) ⟨_,_,fu⟩ (λ i u ρ hu ⟨y2,y3,e⟩=>?_) (λ ρ ⟨y2,y3,e⟩=>?_)
 ·subst e;obtain⟨n,m,rfl,hn,hm⟩:=zY hu;have b:=g i m n hn hm;refine sF (aO (show ¬m<0 by lia)) (sF (aO (show ¬n<=m by lia)) ⟨_,_,fu⟩)
 ·subst e;refine⟨_,fu,_,fu,by rw[ph,ao,ao];exact aP on,qg (zZ ms _) (λ p:Int×Int=>.int (p.1*p.2)) (λ p hp=>?_) ⟨_,Aa _ _,?_⟩⟩
  ·have m1:=mb p.1 (nP (a:=p.1) (b:=p.2) hp).1;exact⟨nk on on,fu,fu⟩
  ·exact⟨fu,q⟩
def OF:ZX 43 63 ["sides","side","at","many","view","first","stride"] 7 4 Ba Nm:=by
 refine⟨by kernel_rfl,?_⟩;rintro ts Q ⟨ns,ms,k,many,rfl,sd,l,kl,g,b5,m5,q⟩;refine⟨fu,?_⟩;have sl:=ny ns;have ml:ms.length=ns.length-1:=by rw[g.1,dL,if_pos kl]
 refine cl rfl ⟨ns,fu,sd,on,cl rfl ⟨ns,aH ns,k,fu,on,sl,kl,?_⟩ rfl⟩ rfl
 have e1:bF (ms++[0]) ((aH ns).eraseIdx k++[(aH ns).getD k 0])=bF ms ((aH ns).eraseIdx k):=by
  have hl:ms.length=((aH ns).eraseIdx k).length:=by rw[dL,sl,if_pos kl,ml]
  unfold bF;rw[List.zipWith_append hl,List.sum_append];simp
 refine⟨fu,fu,g1L,bC (show(ms.map TV.int).length+1<=1000 by rw[ao];lia),cl rfl ⟨ns.eraseIdx k,(aH ns).eraseIdx k++[(aH ns).getD k 0],ms++[0],0,?_,?_,?_,?_,?_,?_⟩ rfl⟩
 ·show[vwT _ _ _,TV.tup (ms.map TV.int++[TV.int 0])]=_;unfold tI;rw[bQ];rfl
 ·rw[aR,aR,dL,sl,if_pos kl,ml];rfl
 ·rw[aR];show ms.length+1<=20;lia
 ·intro m hm
  rcases bn.mp hm with h|h
  ·obtain⟨i,ei⟩:=oP.mp h;obtain⟨n,hn⟩:∃n,(ns.eraseIdx k)[i]?=some n:=⟨_,aC (by rw[<- g.1];exact(br.mp ei).1)⟩;have:=g.2 i m n ei hn;have:=b5 n (uw (aK hn));lia
  ·cases bj.mp h;lia
 ·intro i m n hn hm;have il:=(br.mp hn).1;rw[dZ (by rw[g.1];exact il)] at hm;exact g.2 i m n hm hn
 ·rw[e1,s4e]
  have e2:atI (((aH ns).eraseIdx k++[(aH ns).getD k 0]).map TV.int) ((ms.length:Nat):Int)=some (.int ((aH ns).getD k 0)):=by
   refine lE ?_;rw[bc,dY (by rw[dL,sl,if_pos kl,ml];exact aj _),dL,sl,if_pos kl,ml,ji];rfl
  refine⟨fu,_,fu,.int ((aH ns).getD k 0),by show atI _ (((ms.map TV.int).length:Nat):Int)=_;rw[ao];exact e2,fu,⟨on,on⟩,by rw[aq,bd];exact aP on,da (λ i:Nat=>.int (i:Nat)) (λ j:Nat=>.int (bF ms ((aH ns).eraseIdx k)+(j:Int)*(aH ns).getD k 0)) (List.range many) (λ i hi=>?_) ⟨fu,q⟩⟩;have:=bU.mp hi;exact⟨nk on on,fu,fu⟩
def OG:ZX 44 64 ["step","sides","at","side","length"] 5 3 Bb No:=by
 refine⟨by kernel_rfl,?_⟩;exact λ _ _ h=>h.elim
def OH:ZX 45 65 ["step","sides","at","asked","told_by","rows"] 6 3 Bc Np:=by
 refine⟨by kernel_rfl,?_⟩;rintro ts Q ⟨a,b,n,r,B,ms,Ss,rfl,ea,eb,fa,fb,gB,gr,ml,q⟩;refine⟨fu,?_⟩;have n5:=fa.1 n bJ;have sa:=gY fa;have sb:=gY fb;have l6:(n::r).length<=6:=fa.2.1;have lB:=fb.2.1;refine⟨_,fu,tI B,aQ eb,fu,_,fu,cl rfl ⟨B,ms.take B.length,by show[tI B,TV.tup (au (ms.map TV.int) none (some (((B.map TV.int).length:Nat):Int)))]=_;rw[ao,dU];rfl,sb,on,gB,fu,g2L,fu,?_⟩ rfl⟩;refine⟨_,fu,tI (n::r),aQ ea,_,fu,tI (n::r),aQ ea,.int n,cS (ns:=n::r) (k:=0) BT,cl rfl ⟨n::r,ms.drop B.length,0,n.toNat,?_,sa,l6,BT,gr,λ x hx=>(fa.1 x hx).2,on,fu,?_⟩ rfl⟩
 ·show[tI (n::r),TV.int 0,TV.tup (au (ms.map TV.int) (some (((B.map TV.int).length:Nat):Int)) none),TV.int n]=_;rw[ao,eQ,show n=((n.toNat:Nat):Int) by lia];rfl
 ·refine⟨fu,g1L,by rw[aq,bd];exact aP on,da (λ j:Nat=>.int (bF (ms.drop B.length) ((aH (n::r)).eraseIdx 0)+(j:Int)*(aH (n::r)).getD 0 0)) (λ j:Nat=>kT [(a:Int),bF (ms.drop B.length) ((aH (n::r)).eraseIdx 0)+(j:Int)*(aH (n::r)).getD 0 0]) (List.range n.toNat) (λ j hj=>⟨_,fu,fu,g2L,fu,fu⟩) ?_⟩;have ll:((List.range n.toNat).map λ j:Nat=>kT [(a:Int),bF (ms.drop B.length) ((aH (n::r)).eraseIdx 0)+(j:Int)*(aH (n::r)).getD 0 0]).length=n.toNat:=by rw[aq,bd]
  refine⟨bC (by rw[ll];show 1+n.toNat<=1000;lia),fu,?_⟩;show Q (.lst _);rw[bw,bq] at q;exact q
def OI:ZX 46 66 ["step","sides","at","used","side","places"] 6 3 Bd Nq:=by
 refine⟨by kernel_rfl,?_⟩;rintro ts Q ⟨d,w,a,k,m,A,ms,ks,Ss,rfl,ea,fa,kl,ml,hd,m5,g,q⟩;refine⟨fu,?_⟩;have sa:=gY fa;have l6:=fa.2.1;rw[bq] at q
 rcases hd with ⟨rfl,rfl,hm⟩|⟨rfl,rfl,hl,hm⟩
 ·refine⟨_,fu,tI A,aQ ea,fu,_,fu,fu,_,fu,Cl,.int (A.getD k 0),cS kl,cl rfl ⟨A,ks,k,m,by rw[<- hm];rfl,sa,l6,kl,g,λ x hx=>(fa.1 x hx).2,m5,fu,?_⟩ rfl⟩;exact⟨by rw[aq,bd];exact aP on,da (λ j:Nat=>.int (bF ks ((aH A).eraseIdx k)+(j:Int)*(aH A).getD k 0)) (λ j:Nat=>kT [(a:Int),bF ks ((aH A).eraseIdx k)+(j:Int)*(aH A).getD k 0]) (List.range m) (λ j hj=>⟨_,fu,fu,g2L,fu,fu⟩) ⟨fu,q⟩⟩
 ·refine⟨_,fu,tI A,aQ ea,fu,_,fu,fu,_,fu,Cl,cl rfl ⟨ms,k,fu,on,on,.int (ms.getD k 0),cS on,cl rfl ⟨A,ms.eraseIdx k,k,m,by rw[hm];rfl,sa,l6,kl,g,λ x hx=>(fa.1 x hx).2,m5,fu,?_⟩ rfl⟩ rfl⟩;exact⟨by rw[aq,bd];exact aP on,da (λ j:Nat=>.int (bF (ms.eraseIdx k) ((aH A).eraseIdx k)+(j:Int)*(aH A).getD k 0)) (λ j:Nat=>kT [(a:Int),bF (ms.eraseIdx k) ((aH A).eraseIdx k)+(j:Int)*(aH A).getD k 0]) (List.range m) (λ j hj=>⟨_,fu,fu,g2L,fu,fu⟩) ⟨fu,q⟩⟩
def OJ:ZR true 47 67 ["step","sides","place","at","form","pairs","used"] 7 3 Aq NT:=by
 refine⟨by kernel_rfl,?_⟩;rintro ts E ⟨d,S,Ss,pl,rfl,fS,ok,fs,h,q⟩;refine⟨fu,?_⟩;exact .inl (cl rfl ⟨_,d,S,Ss,fu,fu,λ T hT=>dQ (fS T hT) bS,ok,dQ fs bS,_,⟨_,fu,S,pl,fu,cZ fs bS,h,fu⟩,λ n h=>h ▸ q⟩ rfl)
def OL:ZX 47 67 ["step","sides","place","at","form","pairs","used"] 7 3 Be Nr:=by
 refine⟨by kernel_rfl,?_⟩;rintro ts Q ⟨d,S,Ss,pl,rfl,fS,ok,fs,p0,p1,rk,q⟩;refine⟨fu,?_⟩;have sd:=cZ fs bS;have sl:=fs.2.1;have al:=gX S pl;refine cl rfl ⟨_,d,S,Ss,fu,fu,λ T hT=>dQ (fS T hT) bS,ok,dQ fs bS,cl rfl ⟨S,pl,fu,sd,on,p0,p1,fu,?_⟩ rfl⟩ rfl
 cases d with
 |fold w a side=>
  obtain⟨A,ea,hw,no,rfl⟩:=ok;obtain⟨k,rfl,kl⟩:=jy no;simp only[Int.toNat_natCast] at *;have fA:=fS A (aK ea);have sA:=cZ fA bS;obtain⟨g1,yp,e1⟩:=Ah kl sA p0 p1;have b1:=fA.1 (A.getD k 0) (getD_mem kl);refine⟨_,fu,fu,Cl,Cl,fu,g4L,fu,qo,Cl,fu,g2L,fu,uF,?_⟩;refine cl rfl ⟨.fold w a (k:Nat),w,a,k,(A.getD k 0).toNat,A,_,_,Ss,fu,ea,dQ fA bS,kl,on,.inl ⟨fu,fu,on⟩,on,g1,fu,?_⟩ rfl;refine⟨_,rfl,⟨by rw[aq,bd];lia,λ z hz=>by obtain⟨j,_,rfl⟩:=aW.mp hz;simp⟩,λ ms s1 s2=>⟨rfl,q ms s1 λ z=>(s2 z).trans ?_⟩⟩;rw[e1,stg kl];show _ ↔ z∈jE (Ss.getD a []) k pl a;rw[gS ea];exact .rfl
 |run w a side=>
  obtain⟨ea,hw,no⟩:=ok;obtain⟨k,rfl,kl⟩:=jy no;obtain⟨g1,yp,e0,a0,a1,e1⟩:=Ai kl sd p0 p1;have b1:=fs.1 (S.getD k 0) (getD_mem kl);refine⟨_,fu,fu,Cl,Cl,fu,g4L,fu,qo,Cl,fu,g2L,fu,uF,?_⟩;refine cl rfl ⟨.run w a (k:Nat),w,a,k,((atD S pl).getD k 0+1).toNat,S,_,_,Ss,fu,ea,dQ fs bS,kl,on,.inr ⟨fu,fu,al,on⟩,on,g1,fu,?_⟩ rfl;refine⟨_,rfl,⟨by rw[aq,bd];lia,λ z hz=>by obtain⟨j,_,rfl⟩:=aW.mp hz;simp⟩,λ ms s1 s2=>⟨rfl,q ms s1 λ z=>(s2 z).trans ?_⟩⟩;rw[e1,stg kl];show _ ↔ z∈iR (Ss.getD a []) k pl a;rw[gS ea];unfold iR;rw[<- e0];exact Mv a0
 |fetch a b=>
  obtain⟨n,r,B,ea,n0,eb,nb,rfl⟩:=ok;have fA:=fS _ (aK ea);have fB:=fS _ (aK eb);have sA:=cZ fA bS;obtain⟨yp,g1,g2,e1,e2,e3⟩:=Aj (n:=n) (λ x hx=>sA x (bO _ hx)) (cZ fB bS) p0 p1;have b1:=fA.1 n bJ;refine⟨_,fu,fu,Cl,Cl,fu,g4L,fu,qo,Cl,?_⟩;refine cl rfl ⟨a,b,n,r,B,_,Ss,fu,ea,eb,dQ fA bS,dQ fB bS,g1,g2,on,fu,?_⟩ rfl;refine⟨_,rfl,⟨by rw[List.length_cons,aq,bd];lia,λ z hz=>(aN.mp hz).elim (λ e=>by rw[e];simp) λ h=>by obtain⟨j,_,rfl⟩:=aW.mp h;simp⟩,λ ms s1 s2=>⟨rfl,q ms s1 λ z=>(s2 z).trans ?_⟩⟩;rw[e1,e2,e3];show _ ↔ z∈gp (Ss.getD a []) pl a b;rw[gS ea];exact Mw
 | _=>first | exact rk.elim | (
   have hA:=Al ok trivial
   have hq:=Mx (pl:=pl) ok trivial (show af S≠0 by lia);refine⟨_,fu,fu,Cl,Cl,fu,g4L,fu,qo,Cl,fu,g2L,fu,uF,cl rfl ⟨_,fu,fu,?_,qg (l:=gh _) (f:=λ a:Nat=>TV.int (a:Int)) (by rw[bq];rfl) (λ a:Nat=>kT [(a:Int),pl/(af S/af (Ss.getD a []))]) (λ a ha=>?_) ⟨fu,fD Ss (af S) pl (gh _),by unfold fD;rw[bq];rfl,⟨?_,?_⟩,λ ms s1 s2=>⟨fu,q ms s1 λ z=>(s2 z).trans (by rw[hq])⟩⟩⟩ rfl⟩
   ·exact aP (by simp[gh])
   ·obtain⟨A,ea,hp⟩:=hA a ha;have fA:=fS A (aK ea);obtain⟨g1,e1,_,_⟩:=Ag hp sd p0 p1;refine⟨tI A,aQ ea,tI A,aQ ea,cl rfl ⟨A,(atD S pl).take A.length,by show[tI A,TV.tup (au ((atD S pl).map TV.int) none (some (((A.map TV.int).length:Nat):Int)))]=_;rw[ao,dU];rfl,cZ fA bS,by have:=fA.2.1;lia,g1,fu,g2L,fu,?_⟩ rfl⟩;rw[e1,gS ea];rfl
   ·unfold fD;rw[aq];simp[gh]
   ·intro z hz;unfold fD at hz;obtain⟨j,_,rfl⟩:=aW.mp hz;simp)
def OM:ZX 48 69 ["sides","size","length"] 3 1 Bf Nt:=by
 refine⟨by kernel_rfl,?_⟩;rintro ts Q ⟨t,ns,rfl,ht,sd,q⟩;refine⟨fu,?_⟩
 rcases ht with rfl|rfl
 ·refine⟨fu,fu,cQ (λ i ρ=>∃y,ρ=[some (tI ns),some (.int (af (ns.take i))),y]) ⟨_,fu⟩ (λ i u ρ hu ⟨y,e⟩=>?_) (λ ρ ⟨y,e⟩=>?_)⟩
  ·subst e;obtain⟨n,rfl,hn⟩:=kS hu;have b:=sd n (aK hn);exact⟨dR on on,fu,some (.int n),by rw[mR hn];rfl⟩
  ·subst e;rw[ao,cX];exact⟨fu,q⟩
 ·refine⟨fu,fu,cQ (λ i ρ=>∃y,ρ=[some (lI ns),some (.int (af (ns.take i))),y]) ⟨_,fu⟩ (λ i u ρ hu ⟨y,e⟩=>?_) (λ ρ ⟨y,e⟩=>?_)⟩
  ·subst e;obtain⟨n,rfl,hn⟩:=kS hu;have b:=sd n (aK hn);exact⟨dR on on,fu,some (.int n),by rw[mR hn];rfl⟩
  ·subst e;rw[ao,cX];exact⟨fu,q⟩
def ON:ZX 49 70 ["sides"] 1 1 Bg Nu:=by
 refine⟨by kernel_rfl,?_⟩;rintro ts Q ⟨ns,rfl,sd,l,q⟩;refine⟨fu,?_⟩;refine⟨by rw[ao];exact aP on,da .int (λ n=>.int (ak n)) ns (λ n hn=>⟨fu,?_⟩) (cl rfl ⟨_,ns.map ak,fu,.inr (by unfold lI;rw[bq];rfl),yY sd,fu,q⟩ rfl)⟩;rw[<- uq (sd n hn).1];rfl
def OO:ZX 50 71 ["n"] 1 1 Bh Nv:=by
 refine⟨by kernel_rfl,?_⟩;rintro ts Q ⟨n,rfl,q⟩;refine⟨fu,?_⟩;have m17:aB n 17=n%17:=if_pos pv;unfold mV at q;refine⟨pv,Cl,sN (λ h=>?_) (λ h=>?_)⟩
 ·rw[m17] at h;rw[if_pos h] at q;have e:aB (aD n 17) 4=n/17%4:=by rw[show aD n 17=n/17 from if_pos pv];exact if_pos pv
  exact⟨p63,p63,p62,fu,g4L,⟨pv,pv,pv⟩,pv,.int _,(by rw[e];exact Me on on),fu,q⟩
 ·rw[m17] at h;rw[if_neg h] at q;exact⟨p63,p64,pv,p63,fu,q⟩
def OP:ZX 51 72 ["pool","d"] 2 2 Bi Nw:=by
 refine⟨by kernel_rfl,?_⟩;rintro ts Q ⟨ks,d,rfl,l,l2,q⟩;refine⟨fu,?_⟩;have in1:∀i:Int,0<=i->i<ks.length->Q (.int (ks.getD i.toNat 0)):=λ i h0 h1=>q _ (getD_mem on);have d3:aD d 3=d/3:=if_pos pv;refine⟨pv,Cl,sN (λ h=>?_) (λ h=>?_)⟩
 ·have m1:aB (aD d 3) (((ks.map TV.int).length:Nat):Int)=d/3%(ks.length:Int):=by rw[ao,d3];exact if_pos on
  have a0:=cY (d/3) (show(ks.length:Int)≠0 by lia);have a1:=dj (d/3) (show(0:Int)<ks.length by lia);exact⟨⟨pv,pv,pv⟩,by rw[ao];lia,.int (ks.getD (d/3%(ks.length:Int)).toNat 0),by rw[m1];exact qh a0 a1,fu,in1 _ a0 a1⟩
 ·have m1:aB (aD d 3) (if (((ks.map TV.int).length:Nat):Int)<3 then (((ks.map TV.int).length:Nat):Int) else 3)=d/3%(if (ks.length:Int)<3 then (ks.length:Int) else 3):=by rw[ao,d3];exact if_pos (by split<;>lia)
  have a0:=cY (d/3) (show(if (ks.length:Int)<3 then (ks.length:Int) else 3)≠0 by split<;>lia);have a1:=dj (d/3) (show(0:Int)<(if (ks.length:Int)<3 then (ks.length:Int) else 3) by split<;>lia);have a2:(if (ks.length:Int)<3 then (ks.length:Int) else 3)<=ks.length:=by split<;>lia
  exact⟨⟨pv,pv,pv⟩,by rw[ao];split<;>lia,.int (ks.getD ((ks.length:Int)-1-d/3%(if (ks.length:Int)<3 then (ks.length:Int) else 3)).toNat 0),by rw[m1,ao];exact qh on on,fu,in1 _ on on⟩
def OQ:ZX 52 73 ["kind","n","cell","most","made","part","k","free","length"] 9 4 Bj Nx:=by
 refine⟨by kernel_rfl,?_⟩;rintro ts Q ⟨kd,n,cell,mo,rfl,hmo,q⟩;refine⟨fu,?_⟩;have m2:=hmo.1;have m3:=hmo.2;refine⟨Cl,sN (λ c=>cl rfl ⟨cell,fu,fu,g2L,fu,g0L,fu,g2L,fu,q (.num (mV cell)) [] (λ _=>⟨fu,KZ cell⟩) (pZ hmo)⟩ rfl) (λ c=>?_)⟩;have b5:0<=aB (aD n 15) 5/\aB (aD n 15) 5<5:=by rw[bR pv];lia
 refine⟨fu,g0L,fu,⟨pv,pv,pv⟩,fu,pv,fu,⟨on,on⟩,?_⟩;refine cQ (λ i ρ=>∃(ms:LI) (pt:Int) (y6 y7 y8:Option TV),aA mo ms/\ms.length=i/\ρ=[some (.int kd),some (.int n),some (.int cell),some (.int mo),some (tI ms),some (.int pt),y6,y7,y8]) ⟨[],_,_,_,_,pZ hmo,fu,fu⟩ (λ i t ρ ht h=>?_) (λ ρ h=>?_)
 ·obtain⟨ms,pt,y6,y7,y8,hf,ml,rfl⟩:=h;obtain⟨il,rfl⟩:=nq ht;have sdm:aE ms:=λ n hn=>by have:=hf.1 n hn;exact⟨on,on⟩
  have pb:=hf.2.2;have d1:1<=mo/af (ms.map ak):=ur pb.1 pb.2;have dv:aD mo (af (ms.map ak))=mo/af (ms.map ak):=Ac on;have fs:=λ n=>uu (n:=n) hf on;obtain⟨x,hx,x0⟩:=Mi (aB (aD pt 5) 7) (by rw[bR pv];lia) (by rw[bR pv];lia);refine⟨⟨pv,pv,pv⟩,fu,cl rfl ⟨ms,fu,sdm,on,⟨on,on,on⟩,fu,fu,g7L,pv,.int x,hx,fu,?_⟩ rfl⟩;rw[dv];generalize mo/af (ms.map ak)=fr at *
  have fin:∀x:Int,0<=x->x<=fr->(ms.map TV.int).length + [TV.int x].length<=sizeLine/\(TV.tup (ms.map TV.int++[TV.int x])).nb=true/\∃(ms':LI) (pt':Int) (y6 y7 y8:Option TV),aA mo ms'/\ms'.length=i+1/\[some (TV.int kd),some (.int n),some (.int cell),some (.int mo),some (TV.tup (ms.map TV.int++[TV.int x])),some (.int (aD pt 5)),some (.int (i:Nat)),some (.int fr),some (.int x)]=[some (.int kd),some (.int n),some (.int cell),some (.int mo),some (tI ms'),some (.int pt'),y6,y7,y8]:=λ x x0 x1=>
   ⟨bC (show(ms.map TV.int).length+1<=1000 by rw[ao];lia),rfl,ms++[x],_,_,_,_,fs x x0 x1,by rw[aR,ml];rfl,by unfold tI;rw[bQ];rfl⟩
  exact⟨pv,Cl,sN (λ _=>⟨fu,fu,g1L,fin fr on (iB _)⟩) (λ _=>⟨fu,g1L,fin _ (by split<;>lia) (by split<;>lia)⟩)⟩
 ·obtain⟨ms,pt,y6,y7,y8,hf,ml,rfl⟩:=h;refine⟨Cl,sN (λ _=>⟨fu,g2L,fu,g2L,fu,q (.inp ms) ms (λ _=>⟨fu,pX (dQ hf hmo)⟩) hf⟩) (λ _=>⟨fu,g0L,dpT ms,?_⟩)⟩
  have fin:∀ns:LI,aA mo ns->0<ns.length->((15:Int)≠0/\-18446744073709551616<(15:Int)/\(15:Int)<1606938044258990275541962092341162602522202993782792835301376)/\(((ns.map TV.int).length:Nat):Int)≠0/\[TV.str "count",tI ns,TV.int (aB (aD n 15) ((ns.map TV.int).length:Nat))].all TV.nb=true/\3<=sizeLine/\[TV.tup [TV.str "count",tI ns,TV.int (aB (aD n 15) ((ns.map TV.int).length:Nat))],tI ns].all TV.nb=true/\2<=sizeLine/\true=true/\Q (.tup [TV.tup [TV.str "count",tI ns,TV.int (aB (aD n 15) ((ns.map TV.int).length:Nat))],tI ns]):=λ ns hf l0=>by
   refine⟨⟨pv,pv,pv⟩,by rw[ao];lia,fu,g3L,fu,g2L,fu,?_⟩;rw[ao,bR on];have f0:=cY (aD n 15) (show(ns.length:Int)≠0 by lia);have f1:=dj (aD n 15) (show(0:Int)<ns.length by lia);exact q (.count ns (aD n 15%ns.length)) ns (λ _=>⟨fu,pX (dQ hf hmo),λ z=>by unfold off at z;lia⟩) hf
  by_cases c0:ms=[]
  ·have x0:0<=(if mo<3 then mo else 3)/\(if mo<3 then mo else 3)<=mo:=by split<;>lia
   exact sT ((kU ms).trans (bz c0)) ⟨fu,g1L,fu,fin [if mo<3 then mo else 3] (uu (ns:=[]) (pZ hmo) pv x0.1 (by show _<=mo/1;rw[s1c];exact x0.2)) (lU _)⟩
  ·exact sF ((kU ms).trans (aO c0)) (fin ms hf (ka.mpr c0))
def OR:ZX 53 74 ["one","other","least"] 3 2 Bk Ny:=by
 refine⟨by kernel_rfl,?_⟩;rintro ts Q ⟨ns,ms,rfl,q⟩;refine⟨fu,?_⟩;have hm:(if (((ms.map TV.int).length:Nat):Int)<(((ns.map TV.int).length:Nat):Int) then (((ms.map TV.int).length:Nat):Int) else (((ns.map TV.int).length:Nat):Int))=((if ms.length<ns.length then ms.length else ns.length:Nat):Int):=by rw[ao,ao];split<;>split<;>lia
 refine⟨fu,?_⟩;rw[hm];generalize hL:(if ms.length<ns.length then ms.length else ns.length)=L;have e1:=dU ns L;have e2:=dU ms L;refine⟨by show _L.dp 9 (TV.tup (au (ns.map TV.int) none (some (L:Int))));rw[e1];exact dpT _,fu,?_⟩;show Q (.bl (_L.eqT (TV.tup (au (ns.map TV.int) none (some (L:Int)))) (TV.tup (au (ms.map TV.int) none (some (L:Int))))));rw[e1,e2,nr];refine q _ ?_;rw[eZ];unfold cr;subst hL;by_cases c:ms.length<ns.length
 ·rw[if_pos c,if_pos c,cX]
 ·rw[if_neg c,if_neg c,cX];exact eq_comm
def OS:ZX 54 75 ["kind","d","sides","every","a","fit","b","longer","words","c"] 10 3 Bl Nz:=by
 refine⟨by kernel_rfl,?_⟩;rintro ts Q ⟨kd,d0,d1,d2,mo,Ss,rfl,n0,n4,hS,q⟩;refine⟨fu,?_⟩;refine⟨⟨on,by rw[aq];lia⟩,fu,?_⟩;rw[aq,qk];refine⟨_,fu,clB rfl ⟨upL Ss.length,d0,fu,by rw[fh];exact n0,by rw[fh];lia,λ k hk=>?_⟩⟩;obtain⟨a,rfl,al⟩:=fq hk;have eA:=eR al;generalize Ss.getD a []=A at eA;have fA:=hS _ (aK eA);obtain⟨w4,hw4,wm4⟩:=uA mX (k:=aB d2 4) (by rw[bR pv];lia) (by rw[bR pv];show d2%4<((4:Nat):Int);lia);refine⟨by simp[LF],fu,Cl,sN (λ _=>⟨fu,g4L,_,fu,pv,.str w4,hw4,fu,g3L,tI A,aQ eA,fu,g2L,fu,q (.each w4 a) A ⟨eA,wm4⟩ fA⟩) (λ _=>?_)⟩;refine⟨by rw[ao,fh];exact aP on,jC TV.int TV.int (pB Ss A) (upL Ss.length) rfl (λ k hk=>?_) ?_⟩
 ·obtain⟨j,rfl,jl⟩:=fq hk;exact⟨tI A,aQ eA,tI (Ss.getD j []),aQ (eR jl),cl rfl ⟨A,Ss.getD j [],fu,λ b hb=>⟨by rw[Ad hb (qm (k:=(j:Int)))],λ _=>⟨fu,fu⟩⟩⟩ rfl⟩
 generalize hks:(upL Ss.length).filter (pB Ss A)=ks;have km:∀k,k∈ks ↔ k∈upL Ss.length/\cr A (Ss.getD k.toNat []):=λ k=>by rw[<- hks,hZ,qm]
 have kl:ks.length<=40:=by rw[<- hks];exact bH (nA _ _) (by rw[fh];exact n4)
 have kpos:0<ks.length:=oO ((km a).mpr ⟨zO al,by rw[Int.toNat_natCast,cw,eA];exact zJ A⟩);refine⟨fu,_,fu,clB rfl ⟨ks,d1,fu,kpos,on,λ k hk=>?_⟩⟩;obtain⟨ku,pB'⟩:=(km k).mp hk;obtain⟨b,rfl,bl⟩:=fq ku;have eB:=eR bl;rw[Int.toNat_natCast] at pB';generalize Ss.getD b []=B at eB pB';have fB:=hS _ (aK eB);have fL:aA mo (bG A B):=zN fA fB;obtain⟨w,hw,wm⟩:=uA mY (k:=aB d2 12) (by rw[bR pv];lia) (by rw[bR pv];show d2%12<((12:Nat):Int);lia);refine⟨by simp[LF],fu,tI A,aQ eA,tI B,aQ eB,fu,?_⟩;rw[mxT pB'];refine⟨Cl,sN (λ _=>⟨fu,Mf,fu,_,fu,pv,.str w,hw,fu,g4L,fu,g2L,fu,q (.pair w a b) (bG A B) ⟨A,B,eA,eB,wm,pB',fu⟩ fL⟩) (λ _=>?_)⟩;refine⟨by rw[ao];exact aP on,jC TV.int TV.int (pB Ss B) ks rfl (λ k hk=>?_) ?_⟩
 ·obtain⟨j,rfl,jl⟩:=fq ((km k).mp hk).1;exact⟨tI B,aQ eB,tI (Ss.getD j []),aQ (eR jl),cl rfl ⟨B,Ss.getD j [],fu,λ b hb=>⟨by rw[Ad hb (qm (k:=(j:Int)))],λ _=>⟨fu,fu⟩⟩⟩ rfl⟩
 generalize hls:ks.filter (pB Ss B)=ls;have lm:∀k,k∈ls ↔ k∈ks/\cr B (Ss.getD k.toNat []):=λ k=>by rw[<- hls,hZ,qm]
 have ll:ls.length<=40:=by rw[<- hls];exact bH (nA _ _) kl
 have lpos:0<ls.length:=oO ((lm b).mpr ⟨hk,by rw[Int.toNat_natCast,cw,eB];exact zJ B⟩);refine⟨fu,_,fu,clB rfl ⟨ls,d2,fu,lpos,on,λ k hk2=>?_⟩⟩;obtain⟨kk,pC⟩:=(lm k).mp hk2;obtain⟨ku2,pAC⟩:=(km k).mp kk;obtain⟨c,rfl,cl'⟩:=fq ku2;have eC:=eR cl';rw[Int.toNat_natCast] at pC pAC;generalize Ss.getD c []=C at eC pC pAC;have fC:=hS _ (aK eC)
 have pLC:cr (bG A B) C:=by
  by_cases z:A.length<B.length
  ·rw[zM z];exact pC
  ·rw[zK pB' on];exact pAC
 have z:Q (.tup [stT (.pick a b c),TV.tup (if ((bG A B).map TV.int).length<(C.map TV.int).length then C.map TV.int else (bG A B).map TV.int)]):=by rw[mxT pLC];exact q (.pick a b c) (bG (bG A B) C) ⟨A,B,C,eA,eB,eC,pB',pLC,rfl⟩ (zN fL fC)
 exact⟨by simp[LF],fu,fu,g4L,tI C,aQ eC,fu,g2L,fu,z⟩
def OT:ZX 55 76 ["own","d","size"] 3 2 Bm NA:=by
 refine⟨by kernel_rfl,?_⟩;rintro ts Q ⟨ns,d,mo,rfl,ft,mk,q⟩;refine⟨fu,?_⟩;have fA:=dQ ft mk;have sd:=gY fA;have l6:=fA.2.1;have m4:aB d 4=d%4:=if_pos pv;unfold jB at q;refine cl rfl ⟨_,ns,fu,.inl rfl,sd,fu,pv,Cl,sN (λ h=>?_) (λ h=>⟨pv,Cl,?_⟩)⟩ rfl
 ·rw[m4] at h;rw[if_pos h] at q;exact⟨fu,g1L,fu,q⟩
 rw[m4] at h;rw[if_neg h] at q;have v2:aD (af ns) 2=af ns/2:=if_pos pv;have w2:aB (af ns) 2=af ns%2:=if_pos pv;have rv:Q (tI ns.reverse)->Q (TV.tup (ns.map TV.int).reverse):=λ q=>by rw[<- s0t];exact q
 refine sN (λ h2=>?_) (λ h2=>?_)
 ·rw[m4] at h2;refine s2 (λ h3=>?_) (λ h3=>?_)
  ·have h3:(((ns.map TV.int).length:Nat):Int)<6:=ax h3;rw[ao] at h3;rw[if_pos ⟨h2,on⟩] at q;exact⟨fu,g1L,bC (show 1+(ns.map TV.int).length<=1000 by rw[ao];lia),fu,q⟩
  ·have h3:¬(((ns.map TV.int).length:Nat):Int)<6:=kW h3;rw[ao] at h3;rw[if_neg on,if_neg on] at q;exact⟨pv,Cl,sN (λ h4=>by rw[m4] at h4;lia) (λ h4=>⟨fu,rv q⟩)⟩
 ·rw[m4] at h2;rw[if_neg (λ z=>h2 z.1)] at q;refine⟨pv,Cl,sN (λ h4=>⟨pv,Cl,sN (λ h5=>?_) (λ h5=>⟨fu,rv ?_⟩)⟩) (λ h4=>⟨fu,rv ?_⟩)⟩
  ·rw[m4] at h4;rw[w2] at h5;rw[if_pos ⟨h4,h5⟩,<- v2] at q;exact⟨⟨pv,pv,pv⟩,fu,g2L,fu,q⟩
  ·rw[w2] at h5
   rwa [if_neg (λ z=>h5 z.2)] at q
  ·rw[m4] at h4
   rwa [if_neg (λ z=>h4 z.1)] at q
def OU:ZX 56 77 ["kind","d","a","own","most","order","part","k","place","length","side","gap","first","many"] 14 5 Bn NB:=by
 refine⟨by kernel_rfl,?_⟩;rintro ts Q ⟨kd,d0,d1,d2,mo,a,A,Ss,rfl,ea,hf,hmo,q⟩;refine⟨fu,?_⟩;have a6:=hf.2.1;have sd:=cZ hf hmo;have m1:=hmo.1;have m2:=hmo.2;have pb:=hf.2.2;refine⟨Cl,sN (λ _=>?_) (λ _=>?_)⟩
 ·refine⟨fu,g0L,fu,_,fu,fu,fu,⟨on,by rw[ao];lia⟩,?_⟩;refine cQ (λ i ρ=>∃(os:LI) (n:Int) (y:Option TV),os.Perm (upL i)/\ρ=[some (.int kd),some (lI [d0,d1,d2]),some (.int a),some (tI A),some (.int mo),some (.own (os.map .int)),some (.int n),y,none,none,none,none,none,none]) ⟨[],_,_,List.Perm.refl _,fu⟩ (λ i t ρ ht h=>?_) (λ ρ h=>?_)
  ·obtain⟨os,n,y,pm,rfl⟩:=h;obtain⟨il,rfl⟩:=nq ht;rw[ao] at il;have ol:os.length=i:=by rw[pm.length_eq,fh]
   have mp:aB n ((i:Int)+1)=n%((i:Int)+1):=bR on;have f0:=cY n (show(i:Int)+1≠0 by lia);have f1:=dj n (show(0:Int)<(i:Int)+1 by lia);refine⟨show(i:Int)+1≠0 by lia,fu,⟨by rw[mp];exact f0,by rw[mp,ao,ol];lia⟩,by rw[ao];exact aP on,⟨show(i:Int)+1≠0 by lia,show -18446744073709551616<(i:Int)+1 by lia,show(i:Int)+1<_ by lia⟩,fu,os.take (aB n ((i:Int)+1)).toNat++(i:Int)::os.drop (aB n ((i:Int)+1)).toNat,aD n ((i:Int)+1),some (.int (i:Nat)),Lw pm,by rw[bQ,bw,List.map_take,List.map_drop];rfl⟩
  ·obtain⟨os,n,y,pm,rfl⟩:=h;rw[aq,bd,ao,Int.toNat_natCast] at pm;have ol:os.length=A.length:=by rw[pm.length_eq,fh]
   have om:∀z∈os,0<=z/\z<(A.length:Int):=λ z hz=>up_mem.mp (pm.subset hz);refine⟨fu,g3L,by rw[ao];exact aP on,da .int (λ z:Int=>.int (A.getD z.toNat 0)) os (λ z hz=>⟨_,qh (om z hz).1 (om z hz).2,fu,fu⟩) ⟨fu,g2L,fu,?_⟩⟩;have z:=q (.turn a os) (jA A os) ⟨A,ea,pm,rfl⟩ (Lx hf pm);unfold mdT stT stI tI jA at z;rw[bq] at z;exact z
 have lo:=Lu (d:=d2) hf hmo;refine⟨Cl,sN (λ _=>⟨_,fu,cl rfl ⟨A,d2,mo,fu,hf,hmo,fu,g3L,_,fu,cl rfl ⟨A,d2,mo,fu,hf,hmo,fu,g2L,fu,q (.lay a (jB A d2)) (jB A d2) ⟨A,ea,pX (dQ lo.1 hmo),lo.2.symm,fu⟩ lo.1⟩ rfl⟩ rfl⟩) (λ _=>?_)⟩;refine⟨fu,g0L,dpT A,or3 (λ sp=>?_) (λ ne=>?_)⟩
 ·have l6:A.length<6:=by
   rcases sp with z|⟨_,z⟩
   ·have z:=ax ((kU A).symm.trans z);rw[z];decide
   ·have z:(((A.map TV.int).length:Nat):Int)<6:=ax z;rw[ao] at z;lia
  have mp:aB d1 ((((A.map TV.int).length:Nat):Int)+1)=d1%((A.length:Int)+1):=by rw[ao];exact bR on
  have f0:=cY d1 (show(A.length:Int)+1≠0 by lia);have f1:=dj d1 (show(0:Int)<(A.length:Int)+1 by lia);obtain⟨k,hk⟩:∃k:Nat,d1%((A.length:Int)+1)=k:=⟨_,(jt f0).symm⟩;rw[hk] at f1 mp;refine⟨_,fu,show(((A.map TV.int).length:Nat):Int)+1≠0 by rw[ao];lia,fu,?_⟩;rw[mp];have dv:=ur pb.1 pb.2;have de:aD mo (af (A.map ak))=mo/af (A.map ak):=Ac on;refine⟨_,fu,cl rfl ⟨A,fu,sd,on,⟨on,on,on⟩,?_⟩ rfl⟩;rw[de];have fi:=λ x=>Lz (x:=x) (k:=k) hf l6;have fm:mo/af (A.map ak)<=mo:=qd _ on;generalize mo/af (A.map ak)=fr at *;have c4:0<(if fr<4 then fr else 4)/\(if fr<4 then fr else 4)<=fr:=by split<;>lia
  have me:aB d2 (if fr<4 then fr else 4)=d2%(if fr<4 then fr else 4):=bR c4.1;have g0:=cY d2 (show(if fr<4 then fr else 4)≠0 by lia);have g1:=dj d2 c4.1
  have fin:∀x:Int,0<=x->x<=fr->Q (.tup [.tup [.str "spread",.int a,.int k,.int x],.tup ((au (A.map TV.int) none (some (k:Int))++[TV.int x])++au (A.map TV.int) (some (k:Int)) none)]):=λ x x0 x1=>by
   rw[Ml];exact q (.spread a k x) (bB A k x) ⟨A,ea,by unfold pW;lia,on,on,pX (dQ (fi x x0 x1) hmo),fu⟩ (fi x x0 x1)
  have la:=jD (a:=none) (b:=some (k:Int)) a6;have lb:=jD (a:=some (k:Int)) (b:=none) a6;have l2:∀x,(au (A.map TV.int) none (some (k:Int))++[TV.int x]).length+(au (A.map TV.int) (some (k:Int)) none).length<=sizeLine:=λ x=>bC (by rw[aR,fJ];lia);have l1:(au (A.map TV.int) none (some (k:Int))).length+1<=sizeLine:=bC on;exact⟨show(if fr<4 then fr else 4)≠0 by lia,fu,_,fu,pv,Cl,sN (λ _=>⟨fu,fu,g4L,fu,g1L,l1,l2 _,fu,g2L,fu,fin 0 on on⟩) (λ _=>⟨fu,g4L,fu,g1L,l1,l2 _,fu,g2L,fu,fin _ (by rw[me];lia) (by rw[me];lia)⟩)⟩
 ·have A0:0<A.length:=ka.mpr (kW ((kU A).symm.trans ne));have mp:aB d1 (((A.map TV.int).length:Nat):Int)=d1%(A.length:Int):=by rw[ao];exact bR on
  have f0:=cY d1 (show(A.length:Int)≠0 by lia);have f1:=dj d1 (show(0:Int)<(A.length:Int) by lia);obtain⟨k,hk⟩:∃k:Nat,d1%(A.length:Int)=k:=⟨_,(jt f0).symm⟩;rw[hk] at f1 mp;refine⟨_,fu,show(((A.map TV.int).length:Nat):Int)≠0 by rw[ao];lia,fu,?_⟩;rw[mp];have kl:k<A.length:=on;refine⟨Cl,s2 (λ _=>⟨fu,g3L,fu,g2L,fu,q (.flip a k) A ⟨ea,by unfold off;lia⟩ hf⟩) (λ _=>?_)⟩;have an:=(hf.1 _ (uo kl)).1;have am:=(hf.1 _ (uo kl)).2;have o1:=iP an;have ge:aB d2 3=d2%3:=bR pv;have fe:aB (aD d2 3) (if A.getD k 0 > 1 then A.getD k 0 else 1)=aD d2 3%ak (A.getD k 0):=by rw[uq an];exact bR on
  have h0:=cY (aD d2 3) (show ak (A.getD k 0)≠0 by lia);have g1:1<=1+aB d2 3/\1+aB d2 3<=3:=by rw[ge];lia
  refine⟨_,fu,pv,fu,_,fu,⟨pv,pv,pv⟩,_,cS kl,show(if A.getD k 0 > 1 then A.getD k 0 else 1)≠0 by rw[uq an];lia,fu,?_⟩;rw[fe];generalize aD d2 3%ak (A.getD k 0)=f at *;generalize 1+aB d2 3=g at *;have e3:0<=aB (aD d2 300) 3:=by rw[bR pv];lia
  have cm:=LJ (e:=aB (aD d2 300) 3) an h0 g1.1 e3;rw[<- Ab] at cm;have la:=jD (a:=none) (b:=some (k:Int)) a6;have lb:=jD (a:=some ((k:Int)+1)) (b:=none) a6;have l2:∀x,(au (A.map TV.int) none (some (k:Int))++[TV.int x]).length+(au (A.map TV.int) (some ((k:Int)+1)) none).length<=sizeLine:=λ x=>bC (by rw[aR,fJ];lia);refine⟨_,cS kl,⟨on,on,on⟩,_,fu,⟨pv,pv,pv⟩,pv,fu,?_⟩;generalize (if aD (A.getD k 0-1-f) g+1-aB (aD d2 300) 3 > 0 then aD (A.getD k 0-1-f) g+1-aB (aD d2 300) 3 else 0)=m at *;refine⟨fu,g6L,fu,g1L,bC (by show(au (A.map TV.int) none (some (k:Int))).length+1<=1000;lia),l2 m,fu,g2L,fu,?_⟩;show Q (.tup [.tup [.str "cut",.int a,.int k,.int f,.int m,.int g],.tup ((au (A.map TV.int) none (some (k:Int))++[TV.int m])++au (A.map TV.int) (some ((k:Int)+1)) none)]);rw[Mm kl];exact q (.cut a k f m g) (A.set k m) ⟨A,ea,by unfold off;lia,by unfold bad;rw[Int.toNat_natCast];exact λ z=>z.elim on λ z=>z.elim on λ z=>z.elim on cm.2.2,on,by rw[Int.toNat_natCast]⟩ (LG hf cm.1 cm.2.1)
def OV:ZX 57 78 ["own","other","side"] 3 3 Bo NC:=by
 refine⟨by kernel_rfl,?_⟩;rintro ts Q ⟨A,B,k,rfl,kl,a6,b6,q⟩;refine⟨fu,?_⟩
 have ct:∀L:LI,L.length<=6->au (L.map TV.int) none (some (k:Int))++au (L.map TV.int) (some ((k:Int)+1)) none=(L.eraseIdx k).map TV.int/\(au (L.map TV.int) none (some (k:Int))).length<=6/\(au (L.map TV.int) (some ((k:Int)+1)) none).length<=6:=λ L hL=>by
  have e1:=dU L k;have e2:au (L.map TV.int) (some ((k:Int)+1)) none=(L.drop (k+1)).map TV.int:=by rw[show(k:Int)+1=((k+1:Nat):Int) by lia];exact eQ L (k+1)
  refine⟨by rw[e1,e2,jf,bQ],by rw[e1,ao,aY];lia,by rw[e2,ao,db];lia⟩
 obtain⟨ea,la,lb⟩:=ct A a6;obtain⟨eb,lc,ld⟩:=ct B b6;unfold eP at q;have nl:∀a b:Nat,a<=6->b<=6->a+b<=sizeLine:=λ a b h1 h2=>bC on;have dpA:_L.dp 9 (TV.tup (au (A.map TV.int) none (some (k:Int))++au (A.map TV.int) (some ((k:Int)+1)) none)):=by rw[ea];exact dpT _
 have eq1:_L.eqT (TV.tup (au (A.map TV.int) none (some (k:Int))++au (A.map TV.int) (some ((k:Int)+1)) none)) (TV.tup (au (B.map TV.int) none (some (k:Int))++au (B.map TV.int) (some ((k:Int)+1)) none))=decide (A.eraseIdx k=B.eraseIdx k):=by rw[ea,eb,nr]
 by_cases c1:A.length=B.length
 ·by_cases c2:A.eraseIdx k=B.eraseIdx k
  ·rw[if_pos ⟨c1,c2⟩] at q;have e1:=dU A k;have e2:au (A.map TV.int) (some ((k:Int)+1)) none=(A.drop (k+1)).map TV.int:=by rw[show(k:Int)+1=((k+1:Nat):Int) by lia];exact eQ A (k+1)
   have e3:(au (A.map TV.int) none (some (k:Int))++[TV.int (A.getD k 0+B.getD k 0)])++au (A.map TV.int) (some ((k:Int)+1)) none=(gW A B k).map TV.int:=by unfold gW;rw[Int.toNat_natCast,e1,e2,ut,if_pos kl];simp
   unfold tI at q;rw[<- e3] at q;exact⟨Cl,sF (neF (by rw[ao,ao,c1])) ⟨nl _ _ la lb,nl _ _ lc ld,dpA,sF (by show(!_L.eqT (TV.tup _) (TV.tup _))=false;rw[eq1,bz c2];rfl) ⟨_,cS kl,_,cS on,fu,g1L,nl _ 1 la pv,bC (show(au (A.map TV.int) none (some (k:Int))++[TV.int (A.getD k 0+B.getD k 0)]).length+(au (A.map TV.int) (some ((k:Int)+1)) none).length<=1000 by rw[aR,fJ];lia),fu,q⟩⟩⟩
  ·rw[if_neg (λ z=>c2 z.2)] at q;exact⟨Cl,sF (neF (by rw[ao,ao,c1])) ⟨nl _ _ la lb,nl _ _ lc ld,dpA,sT (by show(!_L.eqT (TV.tup _) (TV.tup _))=true;rw[eq1,aO c2];rfl) ⟨fu,g0L,fu,q⟩⟩⟩
 ·rw[if_neg (λ z=>c1 z.1)] at q;exact⟨Cl,sT (neT (by rw[ao,ao];lia)) ⟨fu,g0L,fu,q⟩⟩
def OW:ZX 58 79 ["kind","d","sides","most","sided","a","own","side","words","made","fit","b"] 12 4 Bp ND:=by
 refine⟨by kernel_rfl,?_⟩;rintro ts Q ⟨kd,d0,d1,d2,mo,Ss,rfl,⟨S0,S0m,S0l⟩,k11,k14,n4,hS,hmo,q⟩;refine⟨fu,?_⟩;obtain⟨j0,j0l,j0e⟩:=List.mem_iff_getElem.mp S0m;refine⟨⟨on,by rw[aq];lia⟩,by rw[aq,bd,aq];exact aP on,jC TV.int TV.int (λ k:Int=>!decide (Ss.getD k.toNat []=[])) (upL Ss.length) (by rw[aq];exact qk _) (λ k hk=>?_) ?_⟩
 ·obtain⟨j,rfl,jl⟩:=fq hk;exact⟨tI (Ss.getD j []),aQ (eR jl),fu,g0L,dpT _,by rw[Int.toNat_natCast,<- kU];rfl,λ _=>⟨fu,fu⟩⟩
 generalize hks:(upL Ss.length).filter (λ k:Int=>!decide (Ss.getD k.toNat []=[]))=ks;have km:∀k,k∈ks ↔ k∈upL Ss.length/\Ss.getD k.toNat []≠[]:=λ k=>by rw[<- hks,hZ];simp
 have kl:ks.length<=40:=by rw[<- hks];exact bH (nA _ _) (by rw[fh];exact n4)
 have kpos:0<ks.length:=oO ((km j0).mpr ⟨zO j0l,by rw[Int.toNat_natCast,cw,aC j0l,j0e];exact ka.mp S0l⟩);refine⟨fu,_,fu,clB rfl ⟨ks,d0,fu,kpos,on,λ k hk=>?_⟩⟩;obtain⟨ku,An⟩:=(km k).mp hk;obtain⟨a,rfl,al⟩:=fq ku;have eA:=eR al;rw[Int.toNat_natCast] at An;generalize Ss.getD a []=A at eA An;have A0:=ka.mpr An;have fA:=hS _ (aK eA);have a6:=fA.2.1;have mp:aB d1 (((A.map TV.int).length:Nat):Int)=d1%(A.length:Int):=by rw[ao];exact bR on
 have f0:=cY d1 (show(A.length:Int)≠0 by lia);have f1:=dj d1 (show(0:Int)<(A.length:Int) by lia);obtain⟨k,hk⟩:∃k:Nat,d1%(A.length:Int)=k:=⟨_,(jt f0).symm⟩;rw[hk] at f1 mp;have kl:k<A.length:=on;refine⟨by simp[LF],fu,tI A,aQ eA,fu,_,fu,show(((A.map TV.int).length:Nat):Int)≠0 by rw[ao];lia,fu,?_⟩;rw[mp];obtain⟨w,hw,wm⟩:=uA fw (k:=aB d2 7) (by rw[bR pv];lia) (by rw[bR pv];show d2%7<((7:Nat):Int);lia);have la:=jD (a:=none) (b:=some (k:Int)) a6;have lb:=jD (a:=some ((k:Int)+1)) (b:=none) a6;have er:au (A.map TV.int) none (some (k:Int))++au (A.map TV.int) (some ((k:Int)+1)) none=(A.eraseIdx k).map TV.int:=by rw[show(k:Int)+1=((k+1:Nat):Int) by lia,dU,eQ,jf,bQ]
 have qf:Q (.tup [.tup [.str "fold",.str w,.int a,.int k],.tup (au (A.map TV.int) none (some (k:Int))++au (A.map TV.int) (some ((k:Int)+1)) none)]):=by
  rw[er];exact q (.fold w a k) (A.eraseIdx k) ⟨A,eA,wm,by unfold off;lia,by rw[Int.toNat_natCast]⟩ (LH fA)
 refine⟨fu,g7L,fu,Cl,sN (λ _=>⟨_,fu,pv,.str w,hw,fu,g4L,bC (by show(au (A.map TV.int) none (some (k:Int))).length+(au (A.map TV.int) (some ((k:Int)+1)) none).length<=1000;lia),fu,g2L,fu,qf⟩) (λ n13=>?_)⟩;refine⟨Cl,sN (λ _=>⟨_,fu,pv,.str w,hw,fu,g4L,fu,g2L,fu,q (.run w a k) A ⟨eA,wm,by unfold off;lia⟩ fA⟩) (λ n14=>?_)⟩;refine⟨fu,g0L,fu,g1L,fu,?_⟩;refine uB (λ ρ=>∃Ms:LL,Md kd A k Ss Ms/\ρ=[some (.int kd),some (lI [d0,d1,d2]),some (.lst (Ss.map tI)),some (.int mo),some (.own (ks.map .int)),some (.int a),some (tI A),some (.int k),some (.own (fw.map .str)),some (.own (Ms.map tI)),none,none]) ?_ (λ ρ' ⟨Ms,hM,e⟩=>?_)
 ·refine⟨Cl,sN (λ c11=>⟨by rw[aq];exact aP on,da tI (λ B=>tI (eP A B k)) Ss (λ B hB=>cl rfl ⟨A,B,k,fu,kl,a6,(hS B hB).2.1,fu,fu⟩ rfl) ⟨fu,Ss.map (λ B=>eP A B k),.inl ⟨c11,fu⟩,by rw[bq];rfl⟩⟩) (λ c11=>⟨_,Ae A0,s3 (λ cA=>⟨by rw[aq];exact aP on,da tI (λ B=>tI (B++A.drop 1)) Ss (λ B hB=>?_) ⟨fu,Ss.map (λ B=>B++A.drop 1),.inr (.inl ⟨on,cA,fu⟩),by rw[bq];rfl⟩⟩) (λ cA=>⟨[[]],.inr (.inr ⟨c11,cA,fu⟩),fu⟩)⟩)⟩;have e1:au (A.map TV.int) (some 1) none=(A.drop 1).map TV.int:=eQ A 1;have b6:=(hS B hB).2.1;have lc:=jD (a:=some 1) (b:=none) a6;refine⟨bC (by show(B.map TV.int).length+(au (A.map TV.int) (some 1) none).length<=1000;rw[ao];lia),fu,?_⟩;show TV.tup (B.map TV.int++au (A.map TV.int) (some 1) none)=tI (B++A.drop 1);rw[e1,<- bQ];rfl
 subst e;have ml:=LK hM n4;have mb:=LM hM fA hS hmo;refine⟨⟨on,by rw[aq];lia⟩,by rw[aq,bd,aq];exact aP on,jC TV.int TV.int (λ k:Int=>(decide (kd=12)&&decide (0<A.getD 0 0)) || !decide (Ms.getD k.toNat []=[])) (upL Ms.length) (by rw[aq];exact qk _) (λ k hk=>?_) ?_⟩
 ·obtain⟨j,rfl,jl⟩:=fq hk;have nn:(!_L.eqT (tI (Ms.getD j [])).fz (TV.tup []).fz)=!decide (Ms.getD ((j:Int).toNat) []=[]):=by rw[Int.toNat_natCast,<- kU];rfl
  refine⟨Cl,sN (λ c12=>⟨_,Ae A0,s3 (λ cA=>?_) (λ cA=>?_)⟩) (λ c12=>?_)⟩
  ·exact⟨by rw[bz c12,bz cA];rfl,λ _=>⟨fu,fu⟩⟩
  ·exact⟨tI (Ms.getD j []),aQ (eR jl),fu,g0L,dpT _,by rw[aO cA,oY,s3t,<- nn];rfl,λ _=>⟨fu,fu⟩⟩
  ·exact⟨tI (Ms.getD j []),aQ (eR jl),fu,g0L,dpT _,by rw[aO c12,s2e,s3t,<- nn];rfl,λ _=>⟨fu,fu⟩⟩
 generalize hks1:(upL Ms.length).filter (λ k:Int=>(decide (kd=12)&&decide (0<A.getD 0 0)) || !decide (Ms.getD k.toNat []=[]))=ks1;have km1:∀k,k∈ks1 ↔ k∈upL Ms.length/\((kd=12/\0<A.getD 0 0)\/Ms.getD k.toNat []≠[]):=λ k=>by rw[<- hks1,hZ];simp
 have kl1:ks1.length<=40:=by rw[<- hks1];exact bH (nA _ _) (by rw[fh];exact ml)
 refine⟨fu,by rw[ao];exact aP on,jC TV.int TV.int (λ k:Int=>decide ((Ms.getD k.toNat []).length<=6)&&decide (af ((Ms.getD k.toNat []).map ak)<=mo)) ks1 rfl (λ k hk=>?_) ?_⟩
 ·obtain⟨j,rfl,jl⟩:=fq ((km1 k).mp hk).1;rw[Int.toNat_natCast];have eM:=eR jl;generalize Ms.getD j []=M at *;refine⟨tI M,aQ eM,s2 (λ c6=>?_) (λ c6=>?_)⟩
  ·have c6:(((M.map TV.int).length:Nat):Int)<=6:=ax c6;rw[ao] at c6;exact⟨tI M,aQ eM,cl rfl ⟨M,fu,LN (mb M (aK eM)),on,by rw[bz (show M.length<=6 by lia),Bool.true_and],λ _=>⟨fu,fu⟩⟩ rfl⟩
  ·have c6:¬(((M.map TV.int).length:Nat):Int)<=6:=kW c6;rw[ao] at c6;exact⟨by rw[aO (show ¬M.length<=6 by lia),s2e],λ _=>⟨fu,fu⟩⟩
 generalize hls:ks1.filter (λ k:Int=>decide ((Ms.getD k.toNat []).length<=6)&&decide (af ((Ms.getD k.toNat []).map ak)<=mo))=ls;have lm:∀k,k∈ls ↔ k∈ks1/\(Ms.getD k.toNat []).length<=6/\af ((Ms.getD k.toNat []).map ak)<=mo:=λ k=>by rw[<- hls,hZ,bg,eZ,eZ]
 have ll:ls.length<=40:=by rw[<- hls];exact bH (nA _ _) kl1
 refine⟨fu,Cl,sN (λ _=>⟨fu,g3L,fu,g2L,fu,q (.flip a k) A ⟨eA,by unfold off;lia⟩ fA⟩) (λ lne=>?_)⟩;have lne:ls.length≠0:=λ z=>lne (by rw[ao,z];rfl);refine⟨_,fu,clB rfl ⟨ls,d2,fu,on,on,λ x hx=>?_⟩⟩;obtain⟨xm,m6,mw⟩:=(lm x).mp hx;obtain⟨xu,hb⟩:=(km1 x).mp xm;obtain⟨b,rfl,bl⟩:=fq xu;rw[Int.toNat_natCast] at m6 mw hb;have eM:=eR bl;generalize Ms.getD b []=M at *;have nb:=LP hmo m6 mw;have fM:=uv (λ n hn=>(mb M (aK eM) n hn).1) m6 mw;refine⟨by simp[LF],fu,Cl,sN (λ c11=>?_) (λ n11=>?_)⟩
 ·have mne:¬M=[]:=hb.elim (λ z=>by lia) id
  obtain⟨B,eB,rfl⟩:∃B,Ss[b]?=some B/\M=eP A B k:=by
   rcases hM with ⟨_,rfl⟩|⟨z,_⟩|⟨z,_⟩
   ·rw[bc] at eM
    cases hx:Ss[b]? with
    |none=>rw[hx] at eM;cases eM
    |some B=>rw[hx] at eM;cases eM;exact⟨B,rfl,rfl⟩
   ·lia
   ·exact absurd c11 z
  obtain⟨j1,j2,j3⟩:=zR mne;exact⟨fu,g4L,tI (eP A B k),aQ eM,fu,g2L,fu,q (.join a b k) (eP A B k) ⟨A,B,eA,eB,j1,by unfold off;lia,by rw[Int.toNat_natCast];exact j2,by rw[<- j3];exact nb,j3⟩ fM⟩
 have k12:kd=12:=on
 obtain⟨n,r,rfl⟩:∃n r,A=n::r:=by
  match A,A0 with
  |n::r,_=>exact⟨n,r,rfl⟩
 obtain⟨B,n0,eB,rfl⟩:∃B,0<n/\Ss[b]?=some B/\M=B++r:=by
  rcases hM with ⟨z,_⟩|⟨_,z,rfl⟩|⟨_,z,rfl⟩
  ·exact absurd z n11
  ·rw[bc] at eM
   cases hx:Ss[b]? with
   |none=>rw[hx] at eM;cases eM
   |some B=>rw[hx] at eM;cases eM;exact⟨B,z,rfl,rfl⟩
  ·rcases hb with y|y
   ·exact absurd y.2 z
   ·match b,eM with
    |0,eM=>cases eM;exact absurd rfl y
 exact⟨fu,g3L,tI (B++r),aQ eM,fu,g2L,fu,q (.fetch a b) (B++r) ⟨n,r,B,eA,on,eB,nb,fu⟩ fM⟩
def OX:ZX 59 80 ["cell","sides","most","n","kind","d","a"] 7 3 Bq NE:=by
 refine⟨by kernel_rfl,?_⟩;rintro ts Q ⟨cell,mo,Ss,rfl,n4,hS,hmo,q⟩;refine⟨fu,?_⟩;refine⟨dR pv pv,pv,fu,?_⟩;generalize aB (cell*48271) 2147483647=n;refine⟨pv,fu,?_⟩;obtain⟨kd,ek⟩:∃kd,aB n 15=kd:=⟨_,rfl⟩;have kb:0<=kd/\kd<15:=by rw[<- ek,bR pv];lia
 rw[ek];refine⟨⟨pv,pv,pv⟩,pv,⟨pv,pv,pv⟩,pv,⟨pv,pv,pv⟩,fu,g3L,fu,?_⟩;generalize aB (aD n 15) 120=d0;generalize aB (aD n 1800) 120=d1;generalize aD n 216000=d2;refine⟨Cl,s2 (λ _=>⟨pv,cl rfl ⟨_,n,cell,mo,fu,hmo,λ d S ok fs=>⟨fu,q d S (ok Ss) fs⟩⟩ rfl⟩) (λ h0=>s3 (λ _=>⟨pv,cl rfl ⟨_,n,cell,mo,fu,hmo,λ d S ok fs=>⟨fu,q d S (ok Ss) fs⟩⟩ rfl⟩) (λ k3=>?_))⟩
 have n0:0<Ss.length:=by
  have h0:¬(((Ss.map tI).length:Nat):Int)=0:=kW h0;rw[aq] at h0;lia
 refine s3 (λ _=>clB rfl ⟨kd,d0,d1,d2,mo,Ss,fu,n0,n4,hS,λ d S ok fs=>⟨qj d S,fu,q d S ok fs⟩⟩) (λ k6=>?_);refine uB (λ ρ=>ρ=[some (.int cell),some (.lst (Ss.map tI)),some (.int mo),some (.int n),some (.int kd),some (.own [.int d0,.int d1,.int d2]),none]) ?_ (λ ρ' e=>?_)
 ·refine s3 (λ h10=>⟨by rw[aq];exact aP on,da tI (λ S=>.int ((S.map TV.int).length:Nat)) Ss (λ S _=>⟨fu,fu⟩) ⟨Ss.map (λ S=>(S.length:Int)),by rw[bq];exact py λ S _=>by rw[ao];rfl,by rw[aq];exact n0,λ M hM _=>s3 (λ hM0=>?_) (λ _=>rfl)⟩⟩) (λ h10=>rfl);exact clB rfl ⟨kd,d0,d1,d2,mo,Ss,fu,LQ hM on,on,on,n4,hS,hmo,λ d S ok fs=>⟨qj d S,fu,q d S ok fs⟩⟩
 subst e;refine⟨⟨on,by rw[aq];lia⟩,_,fu,cl rfl ⟨upL Ss.length,d0,by show[TV.lst ((List.range (((Ss.map tI).length:Nat):Int).toNat).map λ i:Nat=>TV.int (i:Nat)),TV.int d0]=_;rw[aq,qk];rfl,by rw[fh];exact n0,by rw[fh];lia,λ k hk=>?_⟩ rfl⟩;obtain⟨a,rfl,al⟩:=fq hk;have eA:=eR al;generalize Ss.getD a []=A at eA;exact⟨fu,tI A,aQ eA,clB rfl ⟨_,d0,d1,d2,mo,a,A,Ss,fu,eA,hS _ (aK eA),hmo,λ d S ok fs=>⟨qj d S,fu,q d S ok fs⟩⟩⟩
def OY:ZX 60 81 ["cells","most","steps","sides","cell","made","outs","n","k"] 9 2 Br NF:=by
 refine⟨by kernel_rfl,?_⟩;rintro ts Q ⟨cs,mo,rfl,c40,hmo,q⟩;refine⟨fu,?_⟩;refine⟨fu,g0L,fu,fu,g0L,fu,fu,?_⟩;refine cQ (λ i ρ=>∃(ds:List Stp) (Ss:LL) (y4 y5:Option TV),kR mo ds Ss/\ds.length=i/\ρ=[some (lI cs),some (.int mo),some (.own (ds.map stT)),some (.own (Ss.map tI)),y4,y5,none,none,none]) ⟨[],[],_,_,zQ mo,fu,fu⟩ (λ i t ρ ht h=>?_) (λ ρ h=>?_)
 ·obtain⟨ds,Ss,y4,y5,gl,dl,rfl⟩:=h;obtain⟨c,rfl,hc⟩:=kS ht;have il:=(br.mp hc).1;have Sl:Ss.length=i:=by rw[<- gl.1,dl]
  exact clB rfl ⟨c,mo,Ss,fu,on,gl.2.1,hmo,λ d S ok fs=>⟨qj d S,fu,_,fu,fu,by rw[aq,dl];exact aP on,_,fu,fu,by rw[aq,Sl];exact aP on,ds++[d],Ss++[S],_,_,zP gl ok fs,by rw[aR,dl];rfl,by rw[bQ,bQ];rfl⟩⟩
 obtain⟨ds,Ss,y4,y5,gl,dl,rfl⟩:=h;rw[aq] at dl;refine uB (λ ρ=>∃(ds:List Stp) (Ss:LL),kR mo ds Ss/\0<ds.length/\ds.length<=40/\ρ=[some (lI cs),some (.int mo),some (.own (ds.map stT)),some (.own (Ss.map tI)),y4,y5,none,none,none]) ?_ (λ ρ' h=>?_)
 ·refine⟨Cl,sN (λ z=>?_) (λ z=>⟨ds,Ss,gl,by rw[aq] at z;lia,on,fu⟩)⟩;rw[aq] at z;have e1:ds=[]:=s0n.mp on;have e2:Ss=[]:=s0n.mp (by rw[<- gl.1,e1];rfl);subst e1 e2;exact⟨fu,g2L,fu,sl3 (n:=0) pv,fu,g0L,fu,sl3 (n:=0) pv,[.num 0],[[]],zP (zQ mo) (d:=.num 0) (S:=[]) ⟨fu,by unfold inB;decide⟩ (pZ hmo),pv,pv,fu⟩
 obtain⟨ds,Ss,gl,d0,d40,rfl⟩:=h;refine⟨fu,g0L,fu,cs,fu,dR pv pv,pv,fu,?_⟩;generalize aB (cs.sum*16807) 2147483647=n;obtain⟨x,hx,x1,x8⟩:=Mp (aB n 6) (by rw[bR pv];lia) (by rw[bR pv];lia);refine⟨fu,g6L,pv,.int x,hx,fu,⟨on,on⟩,?_⟩;refine cQ (λ i ρ=>∃(os:LI) (n:Int) (y8:Option TV),os.length=i/\(∀o∈os,0<=o/\o<(ds.length:Int))/\ρ=[some (lI cs),some (.int mo),some (.own (ds.map stT)),some (.own (Ss.map tI)),y4,y5,some (.own (os.map .int)),some (.int n),y8]) ⟨[],n,_,fu,(λ o ho=>nomatch ho),fu⟩ (λ i t ρ ht h=>?_) (λ ρ h=>?_)
 ·obtain⟨os,n,y8,ol,ob,rfl⟩:=h;obtain⟨il,rfl⟩:=nq ht;have f0:=cY (aD (aB (n*48271+11) 2147483647) 16) (show(ds.length:Int)≠0 by lia);have f1:=dj (aD (aB (n*48271+11) 2147483647) 16) (show(0:Int)<ds.length by lia);have em:aB (aD (aB (n*48271+11) 2147483647) 16) (((ds.map stT).length:Nat):Int)=aD (aB (n*48271+11) 2147483647) 16%(ds.length:Int):=by rw[aq];exact bR on
  refine⟨dR pv pv,pv,fu,⟨pv,pv,pv⟩,by rw[aq];lia,fu,by rw[ao,ol];exact aP on,os++[aB (aD (aB (n*48271+11) 2147483647) 16) (((ds.map stT).length:Nat):Int)],aB (n*48271+11) 2147483647,some (.int (i:Nat)),by rw[aR,ol];rfl,λ o ho=>?_,by rw[bQ];rfl⟩
  rcases bn.mp ho with z|z
  ·exact ob o z
  ·cases bj.mp z;rw[em];exact⟨f0,f1⟩
 obtain⟨os,n,y8,ol,ob,rfl⟩:=h;rw[aq,bd] at ol;have f0:=cY n (show(os.length:Int)≠0 by lia);have f1:=dj n (show(0:Int)<os.length by lia);obtain⟨k,hk⟩:∃k:Nat,n%(os.length:Int)=k:=⟨_,(jt f0).symm⟩;rw[hk] at f1;refine⟨fu,by rw[ao];lia,k,by rw[ao,bR on,hk];exact KR on,fu,g3L,fu,?_⟩
 have z:=q ds Ss (os.set k ((ds.length:Int) - 1)) ⟨hmo,gl,d0,d40,by rw[fG];lia,by rw[fG];lia,λ o ho=>by
  rcases qe ho with z|z
  ·exact ob o z
  ·lia⟩
 unfold tI at z;rw[List.map_set] at z;show Q (.tup [.tup (ds.map stT),.tup ((os.map TV.int).set k (.int (((ds.map stT).length:Nat)-1))),.lst (Ss.map tI)]);rw[aq];exact z
def OZ:ZX 61 82 ["found","two","n"] 3 1 Bt NG:=by
 refine⟨by kernel_rfl,?_⟩;rintro ts Q ⟨ms,rfl,h2,q⟩;refine⟨fu,?_⟩;refine⟨fu,?_⟩;refine cQ (λ i ρ=>∃y z,ρ=[some (.lst (ms.map kT)),y,z]) ⟨_,_,fu⟩ (λ i u ρ hu h=>?_) (λ ρ h=>?_)
 ·obtain⟨y,z,rfl⟩:=h;rw[bc] at hu;obtain⟨m,em,rfl⟩:=fQ.mp hu;have l2:=h2 m (aK em)
  obtain⟨a,b,rfl⟩:∃a b,m=[a,b]:=by
   match m,l2 with
   |[a,b],_=>exact⟨a,b,rfl⟩
  refine⟨Cl,fu,cQ (λ j ρ=>∃z,ρ=[some (.lst (ms.map kT)),some (kT [a,b]),z]) ⟨_,fu⟩ (λ j u ρ hj h=>?_) (λ ρ h=>?_)⟩
  ·obtain⟨z,rfl⟩:=h;obtain⟨c,rfl,_⟩:=Mz hj;exact⟨_,fu⟩
  ·obtain⟨z,rfl⟩:=h;exact⟨_,_,fu⟩
 ·obtain⟨y,z,rfl⟩:=h;exact⟨fu,q⟩
def Pa:ZT 62 83 ["step","sides","place","told"] 4 3 1 Bu NH NI NJ NK NL:=by
 refine⟨by kernel_rfl,?_⟩;intro ts Q ⟨d,S,Ss,pl,e,fS,ok,fs,h,q⟩;subst e;exact⟨fu,fu,.inr (.inl ⟨_,⟨_,fu,d,S,Ss,pl,fu,fS,ok,fs,h,fu⟩,λ n hn=>⟨0,hn.symm,⟨pv,pv⟩,fu,q⟩⟩)⟩
def Pb:ZX 63 84 ["step","sides","place","own","stride","first"] 6 3 Bv NM:=by
 refine⟨by kernel_rfl,?_⟩;rintro ts Q ⟨d,w,a,k,A,Ss,pl,rfl,ea,fa,kl,⟨yp,y4⟩,⟨p0,p4⟩,hd⟩;refine⟨fu,?_⟩;have sA:=cZ fa bS;have b1:=fa.1 (A.getD k 0) (getD_mem kl);have l6:=fa.2.1;have sY:aE (A.drop (k+1)):=λ n hn=>sA n (gK hn)
 rcases hd with ⟨rfl,q⟩|⟨rfl,c0,q⟩
 ·refine⟨_,fu,tI A,aQ ea,fu,_,fu,cl rfl ⟨_,A.drop (k+1),fu,.inl (uG A k),sY,fu,?_⟩ rfl⟩;have d1:aD pl (af (A.drop (k+1)))=pl/af (A.drop (k+1)):=if_pos on;have m1:aB pl (af (A.drop (k+1)))=pl%af (A.drop (k+1)):=if_pos on;have q0:0<=pl/af (A.drop (k+1))/\pl/af (A.drop (k+1))<=40:=⟨jX p0 on,fk (qd _ p0) p4⟩;refine⟨_,fu,Cl,⟨on,on,on⟩,_,fu,.int (A.getD k 0),cS kl,dR on on,dR on on,on,fu,?_⟩;rw[d1,m1];refine⟨_,fu,.int (A.getD k 0),cS kl,⟨on,on⟩,by rw[aq,bd];exact aP on,da (λ i:Nat=>.int (i:Nat)) (λ j:Nat=>kT [(a:Int),pl/af (A.drop (k+1))*A.getD k 0*af (A.drop (k+1))+pl%af (A.drop (k+1))+(j:Int)*af (A.drop (k+1))]) (List.range (A.getD k 0).toNat) (λ j hj=>⟨_,fu,dR on on,fu,g2L,fu,fu⟩) ⟨fu,?_⟩⟩;unfold jE at q;rw[bq] at q;exact q
 ·refine⟨_,fu,tI A,aQ ea,fu,_,fu,cl rfl ⟨_,A.drop (k+1),fu,.inl (uG A k),sY,fu,?_⟩ rfl⟩;have d1:aD pl (af (A.drop (k+1)))=pl/af (A.drop (k+1)):=if_pos on;have m1:aB (pl/af (A.drop (k+1))) (A.getD k 0)=pl/af (A.drop (k+1))%A.getD k 0:=if_pos on;refine⟨_,fu,Cl,⟨on,on,on⟩,_,fu,.int (A.getD k 0),cS kl,?_⟩;rw[d1];refine⟨on,?_⟩;rw[m1];have q0:0<=pl/af (A.drop (k+1))%A.getD k 0/\pl/af (A.drop (k+1))%A.getD k 0<A.getD k 0:=⟨cY _ on,dj _ c0⟩;refine⟨⟨on,on⟩,by rw[aq,bd];exact aP on,da (λ i:Nat=>.int (i:Nat)) (λ j:Nat=>kT [(a:Int),pl-(j:Int)*af (A.drop (k+1))]) (List.range (pl/af (A.drop (k+1))%A.getD k 0+1).toNat) (λ j hj=>⟨_,fu,dR on on,fu,g2L,fu,fu⟩) ⟨fu,?_⟩⟩;unfold iR at q;rw[bq] at q;exact q
def Pc:ZX 64 85 ["step","sides","place","rest","due"] 5 3 Bw NN:=by
 refine⟨by kernel_rfl,?_⟩;rintro ts Q ⟨a,b,n,r,Ss,pl,rfl,ea,fa,⟨yp,y4⟩,⟨p0,p4⟩,q⟩;refine⟨fu,?_⟩;have sA:=cZ fa bS;have n5:=fa.1 n bJ;have l6:(n::r).length<=6:=fa.2.1;have sY:aE r:=λ x hx=>sA x (bO _ hx);have d1:aD pl (af r)=pl/af r:=if_pos on;have m1:aB pl (af r)=pl%af r:=if_pos on;refine⟨_,fu,tI (n::r),aQ ea,cl rfl ⟨_,r,fu,.inl (uG (n::r) 0),sY,fu,?_⟩ rfl⟩;have f:∀j∈List.range n.toNat,j<=1000:=λ j hj=>by have:=bU.mp hj;lia
 have ll:((List.range n.toNat).map λ j:Nat=>kT [(a:Int),(j:Int)*af r+pl%af r]).length=n.toNat:=by rw[aq,bd]
 refine⟨_,fu,tI (n::r),aQ ea,.int n,cS (ns:=n::r) (k:=0) BT,⟨on,on⟩,by rw[aq,bd];exact aP on,da (λ i:Nat=>.int (i:Nat)) (λ j:Nat=>kT [(a:Int),(j:Int)*af r+pl%af r]) (List.range n.toNat) (λ j hj=>⟨_,fu,dR on on,on,fu,g2L,fu,by rw[<- m1];rfl⟩) ⟨fu,?_⟩⟩;refine⟨_,fu,⟨on,on,on⟩,fu,g2L,fu,g1L,bC (by rw[ll];show n.toNat+1<=1000;lia),fu,?_⟩;unfold gp at q;rw[bQ,bq] at q;rw[d1];exact q
def Pd:ZX 65 86 ["args","sides","size","place"] 4 4 Bx NO:=by
 refine⟨by kernel_rfl,?_⟩;rintro ts Q ⟨as,Ss,sz,pl,rfl,l3,⟨z0,z4⟩,⟨p0,p4⟩,ha,q⟩;refine⟨fu,?_⟩;unfold fD at q;rw[bq] at q;refine⟨aP (by rw[ao,aq];lia),qg (l:=as) (f:=λ a:Nat=>TV.int (a:Int)) (by rw[bq];rfl) (λ a:Nat=>kT [(a:Int),pl/(sz/af (Ss.getD a []))]) (λ a hm=>?_) ⟨fu,q⟩⟩;obtain⟨A,ea,sA,A0,A4,q0⟩:=ha a hm;have e1:aD sz (af A)=sz/af A:=if_pos on;have e2:aD pl (sz/af A)=pl/(sz/af A):=if_pos on;have q4:sz/af A<=40:=fk (qd _ z0) z4;refine⟨tI A,aQ ea,cl rfl ⟨_,A,fu,.inl rfl,sA,⟨on,on,on⟩,?_⟩ rfl⟩;rw[e1];refine⟨⟨on,on,on⟩,fu,g2L,fu,?_⟩;rw[e2,gS ea];rfl
def Pe:ZX 66 87 ["step","sides","size","place","due"] 5 4 By NP:=by
 refine⟨by kernel_rfl,?_⟩;rintro ts Q ⟨d,S,Ss,pl,rfl,fS,ok,fs,p0,p1,rk,q⟩;refine⟨fu,?_⟩;have sd:=cZ fs bS;have z4:=uI fs
 cases d with
 |inp ms0=>exact⟨rfl,aX _,rfl,_,rfl,trivial,_,rfl,trivial,_,rfl,trivial,_,rfl,trivial,_,rfl,trivial,_,rfl,trivial,[],rfl,⟨pv,λ z hz=>nomatch hz⟩,λ ms s1 s2=>⟨rfl,q ms s1 s2⟩⟩
 |num n=>exact⟨rfl,aX _,rfl,_,rfl,trivial,_,rfl,trivial,_,rfl,trivial,_,rfl,trivial,_,rfl,trivial,_,rfl,trivial,[],rfl,⟨pv,λ z hz=>nomatch hz⟩,λ ms s1 s2=>⟨rfl,q ms s1 s2⟩⟩
 |count ms0 k=>exact⟨rfl,aX _,rfl,_,rfl,trivial,_,rfl,trivial,_,rfl,trivial,_,rfl,trivial,_,rfl,trivial,_,rfl,trivial,[],rfl,⟨pv,λ z hz=>nomatch hz⟩,λ ms s1 s2=>⟨rfl,q ms s1 s2⟩⟩
 |each w a=>exact⟨rfl,aX _,rfl,_,rfl,trivial,_,rfl,rfl,g2L,rfl,g1L,rfl,_,rfl,trivial,_,rfl,trivial,_,rfl,trivial,_,rfl,trivial,_,rfl,trivial,[[(a:Int),pl]],rfl,⟨by show 1<64;decide,λ z hz=>by cases bj.mp hz;simp⟩,λ ms s1 s2=>⟨rfl,q ms s1 s2⟩⟩
 |pair w a b=>
  refine⟨fu,aX _,fu,_,fu,Cl,_,fu,Cl,cl rfl ⟨[a,b],Ss,af S,pl,fu,by show 2<=3;decide,z4,⟨p0,on⟩,Am ok trivial fS fs p0 p1,fu,?_⟩ rfl⟩;exact⟨_,rfl,trivial,_,rfl,trivial,_,rfl,trivial,_,rfl,trivial,fD Ss (af S) pl [a,b],rfl,⟨by show 2<64;decide,λ z hz=>by obtain⟨j,_,rfl⟩:=aW.mp hz;simp⟩,λ ms s1 s2=>⟨rfl,q ms s1 s2⟩⟩
 |pick a b c=>
  refine⟨fu,aX _,fu,_,fu,Cl,_,fu,Cl,_,fu,Cl,cl rfl ⟨[a,b,c],Ss,af S,pl,fu,by show 3<=3;decide,z4,⟨p0,on⟩,Am ok trivial fS fs p0 p1,fu,?_⟩ rfl⟩;exact⟨_,rfl,trivial,_,rfl,trivial,_,rfl,trivial,fD Ss (af S) pl [a,b,c],rfl,⟨by show 3<64;decide,λ z hz=>by obtain⟨j,_,rfl⟩:=aW.mp hz;simp⟩,λ ms s1 s2=>⟨rfl,q ms s1 s2⟩⟩
 |fold w a side=>
  obtain⟨A,ea,hw,no,rfl⟩:=ok;obtain⟨k,rfl,kl⟩:=jy no;simp only[Int.toNat_natCast] at *;have fA:=fS A (aK ea);obtain⟨_,yp,_⟩:=Ah kl (cZ fA bS) p0 p1;have b1:=fA.1 (A.getD k 0) (getD_mem kl);have y4:=fk (uH (gb fA) (k+1)) fA.2.2.2;refine⟨fu,aX _,fu,_,fu,Cl,_,fu,Cl,_,fu,Cl,_,fu,Cl,cl rfl ⟨_,w,a,k,A,Ss,pl,fu,ea,fA,kl,⟨yp,y4⟩,⟨p0,on⟩,.inl ⟨fu,fu,?_⟩⟩ rfl⟩;refine⟨_,rfl,trivial,jE A k pl a,rfl,⟨by unfold jE;rw[aq,bd];lia,λ z hz=>by obtain⟨j,_,rfl⟩:=aW.mp hz;simp⟩,λ ms s1 s2=>⟨rfl,q ms s1 λ z=>(s2 z).trans ?_⟩⟩;show _ ↔ z∈jE (Ss.getD a []) k pl a;rw[gS ea]
 |run w a side=>
  obtain⟨ea,hw,no⟩:=ok;obtain⟨k,rfl,kl⟩:=jy no;obtain⟨_,yp,e0,a0,a1,_⟩:=Ai kl sd p0 p1;have b1:=fs.1 (S.getD k 0) (getD_mem kl);have y4:=fk (uH (gb fs) (k+1)) fs.2.2.2;refine⟨fu,aX _,fu,_,fu,Cl,_,fu,Cl,_,fu,Cl,_,fu,Cl,_,fu,Cl,cl rfl ⟨_,w,a,k,S,Ss,pl,fu,ea,fs,kl,⟨yp,y4⟩,⟨p0,on⟩,.inr ⟨fu,on,fu,?_⟩⟩ rfl⟩;refine⟨_,rfl,trivial,iR S k pl a,rfl,⟨by unfold iR;rw[aq,bd,<- e0];lia,λ z hz=>by obtain⟨j,_,rfl⟩:=aW.mp hz;simp⟩,λ ms s1 s2=>⟨rfl,q ms s1 λ z=>(s2 z).trans ?_⟩⟩;show _ ↔ z∈iR (Ss.getD a []) k pl a;rw[gS ea]
 |fetch a b=>
  obtain⟨n,r,B,ea,n0,eb,nb,rfl⟩:=ok;have fA:=fS _ (aK ea);have sA:=cZ fA bS;obtain⟨yp,_⟩:=Aj (n:=n) (λ x hx=>sA x (bO _ hx)) (cZ (fS _ (aK eb)) bS) p0 p1;have b1:=fA.1 n bJ;have y4:=fk (uH (gb fA) 1) fA.2.2.2;refine⟨fu,aX _,fu,_,fu,Cl,_,fu,Cl,_,fu,Cl,_,fu,Cl,_,fu,Cl,_,fu,Cl,cl rfl ⟨a,b,n,r,Ss,pl,fu,ea,fA,⟨yp,y4⟩,⟨p0,on⟩,fu,?_⟩ rfl⟩;refine⟨gp (n::r) pl a b,fu,⟨?_,λ z hz=>?_⟩,λ ms s1 s2=>⟨fu,q ms s1 λ z=>(s2 z).trans ?_⟩⟩
  ·unfold gp;rw[aR,aq,bd];show n.toNat+1<64;lia
  ·unfold gp at hz
   rcases bn.mp hz with h|h
   ·obtain⟨j,_,rfl⟩:=aW.mp h;simp
   ·cases bj.mp h;simp
  ·show _ ↔ z∈gp (Ss.getD a []) pl a b;rw[gS ea]
 |_=>exact rk.elim
def Pf:ZX 67 88 ["cells","most","made","sides","k","step","size","place","found"] 9 2 Bz NQ:=by
 refine⟨by kernel_rfl,?_⟩;rintro ts Q ⟨cs,mo,rfl,l40,⟨mo2,mo4⟩,q⟩;refine⟨fu,?_⟩;have hmo:cO mo:=⟨mo2,on⟩;refine cl rfl ⟨cs,mo,fu,l40,hmo,λ ds Ss os gd=>?_⟩ rfl;obtain⟨_,gl,d0,d40,o0,o8,ob⟩:=id gd;have dS:=gl.1;have fS:∀T∈Ss,aA 40 T:=λ T hT=>Mt (gl.2.1 T hT) mo4;refine⟨fu,_,fu,fu,fu,⟨on,by rw[aq];have:=dS;lia⟩,?_⟩;refine cQ (λ i ρ=>∃y4 y5 y6 y7 y8,ρ=[some (lI cs),some (.int mo),some (.tup [.tup (ds.map stT),tI os,.lst (Ss.map tI)]),some (.tup (Ss.map tI)),y4,y5,y6,y7,y8]) ⟨_,_,_,_,_,fu⟩ (λ k t ρ ht h=>?_) (λ ρ h=>?_)
 ·obtain⟨y4,y5,y6,y7,y8,rfl⟩:=h;obtain⟨kl,rfl⟩:=nq ht;rw[aq,Int.toNat_natCast] at kl;have eS:=aC kl;generalize Ss[k]=S at eS;have ed:=aC (show k<ds.length by lia);generalize ds[k]=d at ed;have fs:=fS S (aK eS);have ok:=gl.2.2 k d S ed eS
  have okk:OkS Ss S d:=by
   have z:=LY (Zs:=Ss) (f:=λ a=>a) ok (λ a ha A e=>by rw[pO] at e;split at e;exact e;cases e)
   rwa [MA] at z
  have sd:=cZ fs bS;have z4:=uI fs;refine⟨_,fu,stT d,aQ ed,fu,tI S,aQ eS,cl rfl ⟨_,S,fu,.inl rfl,sd,fu,_,Af d,fu,g6L,fu,Mu,?_⟩ rfl⟩;refine s2 (λ h=>?_) (λ h=>⟨_,_,_,_,_,fu⟩);have rk:=MB h;refine⟨fu,⟨on,on⟩,cQ (λ i ρ=>∃y7 y8,ρ=[some (lI cs),some (.int mo),some (.tup [.tup (ds.map stT),tI os,.lst (Ss.map tI)]),some (.tup (Ss.map tI)),some (.int k),some (stT d),some (.int (af S)),y7,y8]) ⟨_,_,fu⟩ (λ p t ρ hp h=>?_) (λ ρ h=>?_)⟩
  ·obtain⟨y7,y8,rfl⟩:=h;obtain⟨pl,rfl⟩:=nq hp;have p1:(p:Int)<af S:=on;refine cl rfl ⟨d,S,Ss,(p:Int),fu,fS,okk,fs,on,p1,rk,λ ms s1 s2=>⟨fu,?_⟩⟩ rfl;refine cl rfl ⟨ms,fu,λ m hm=>MC ((s2 m).mp hm),?_⟩ rfl;refine cl rfl ⟨d,S,Ss,(p:Int),fu,fS,okk,fs,on,p1,rk,λ ms' t1 t2=>?_⟩ rfl;cases Ao s1 t1 λ z=>(s2 z).trans (t2 z).symm;exact⟨dpP ms,sF (by show(!_L.eqT (TV.lst (ms.map kT)) (TV.lst (ms.map kT)))=false;rw[_L.eqT_self (dpP ms)];rfl) ⟨_,_,fu⟩⟩
  ·obtain⟨y7,y8,rfl⟩:=h;exact cl rfl ⟨d,S,Ss,-1,fu,fS,okk,fs,.inl pv,cl rfl ⟨d,S,Ss,af S,fu,fS,okk,fs,.inr (iB _),⟨_,_,_,_,_,fu⟩⟩ rfl⟩ rfl
 ·obtain⟨y4,y5,y6,y7,y8,rfl⟩:=h;exact⟨fu,q⟩
def Pg:ZX 68 89 ["script","most","k"] 3 1 BA NR:=by
 refine⟨by kernel_rfl,?_⟩;rintro ts Q ⟨ns,rfl,h63,q⟩;refine⟨fu,?_⟩
 have go:∀mo:Int,2<=mo->mo<=40->wS (dFT DL 68) GT (Ct.for [2] IK.rng3 (N0.a3 (Cd.b2 BI.max N1 V0.ln) N7) (Ct.r (Cd.c2 67 (V0.sl V2 (V2.ad N7)) V1).not (Cd.c (TV.bl false)) Ct.nil) (Ct.ret (Cd.c (TV.bl true)))) [some (lI ns),some (.int mo),none] (λ _=>Q .non) Q:=λ mo m2 m4=>by
  refine⟨fu,⟨pv,pv,?_⟩,cQ (λ i ρ=>∃y,ρ=[some (lI ns),some (.int mo),y]) ⟨_,fu⟩ (λ i t ρ ht h=>?_) (λ ρ h=>?_)⟩
  ·rw[ao];exact sm7 h63
  ·obtain⟨y,rfl⟩:=h;rw[bc] at ht;obtain⟨j,ej,rfl⟩:=fQ.mp ht;obtain⟨ms,e8,m8,_⟩:=Mq ns (j*7) (j*7+7);exact cl rfl ⟨ms,mo,by show[TV.lst (au (ns.map TV.int) (some (0+(j:Int)*7)) (some (0+(j:Int)*7+7))),TV.int mo]=_;rw[show(0:Int)+(j:Int)*7=((j*7:Nat):Int) by lia,show((j*7:Nat):Int)+7=((j*7+7:Nat):Int) by lia,e8];rfl,on,⟨m2,m4⟩,_,fu⟩ rfl
  ·obtain⟨y,rfl⟩:=h;exact⟨fu,q⟩
 exact⟨fu,ns,fu,pv,Cl,s2 (λ h=>⟨fu,go 40 pv pv⟩) (λ h=>go 10 pv pv)⟩
noncomputable def pT(p:Str×List (Str×Int)):TV:=.tup [.str p.1,.tup (p.2.map λ q=>.tup [.str q.1,.int q.2])]
theorem BB{K:FG}:∀ {fs:List (Str×Int)}{xs:List V},tV K fs xs->RpL K F H (fs.map λ q=>.tup [.str q.1,.int q.2]) xs
 |[],[],_=>rfl
 |[],_::_,h=>h.elim
 |_::_,[],h=>h.elim
 |f::fs,y::ys,⟨⟨a,e,k⟩,h2⟩=>⟨y,ys,rfl,⟨a,_,e,k.sq,_,_,rfl,rfl,_,_,rfl,rfl,rfl⟩,BB h2⟩
theorem BC{K:FG}:∀ {fs:List (Str×List (Str×Int))}{kvs:LA},tW K fs kvs->∀y t,dlk (fs.map pT) y=some t->∃a,kvs.lookup y=some a/\∀F H,Rp K F H t (.ref a)
 |[],_,_,y,t,e=>nomatch e
 |_::_,[],h,_,_,_=>h.elim
 |(g,gs)::fs,(p,pa)::ps,h,y,t,e=>by
  obtain⟨⟨e1,xs,k1,k2⟩,h2⟩:=h;cases (show p=g from e1);have e:(if decide (g=y)=true then some (TV.tup (gs.map λ q=>.tup [.str q.1,.int q.2])) else dlk (fs.map pT) y)=some t:=e;rw[iA];by_cases c:g=y
  ·subst c;rw[if_pos (bz rfl)] at e;cases e;rw[show(g == g)=true from fW g];exact⟨pa,fu,λ F H=>⟨pa,xs,fu,k1.sq,BB k2⟩⟩
  ·rw[if_neg (by rw[aO c];decide)] at e;rw[show(y == g)=false from qp.mpr λ z=>c z.symm];exact BC h2 y t e
def kts{K:FG}{sl:AV}(h:K.lookup a=some ⟨.type "tuple",none,.seq #[.str x t,.int i u] n,sl⟩):KTup K a [.str x,.int i]:=mQ h (small (show(2:Nat)<=1000 by decide)) (.cons ⟨_,rfl⟩ (.cons ⟨_,rfl⟩ .nil))
def ktr1{K:FG}{sl:AV}(h:K.lookup a=some ⟨.type "tuple",none,.seq #[.ref a0] n,sl⟩):KTup K a [.ref a0]:=mQ h (small (show(1:Nat)<=1000 by decide)) (.cons rfl (.nil))
def ktr2{K:FG}{sl:AV}(h:K.lookup a=some ⟨.type "tuple",none,.seq #[.ref a0,.ref a1] n,sl⟩):KTup K a [.ref a0,.ref a1]:=mQ h (small (show(2:Nat)<=1000 by decide)) (.cons rfl (.cons rfl (.nil)))
def ktr3{K:FG}{sl:AV}(h:K.lookup a=some ⟨.type "tuple",none,.seq #[.ref a0,.ref a1,.ref a2] n,sl⟩):KTup K a [.ref a0,.ref a1,.ref a2]:=mQ h (small (show(3:Nat)<=1000 by decide)) (.cons rfl (.cons rfl (.cons rfl (.nil))))
def ktr5{K:FG}{a a0 a1 a2 a3 a4:Addr}{sl:AV}(h:K.lookup a=some ⟨.type "tuple",none,.seq #[.ref a0,.ref a1,.ref a2,.ref a3,.ref a4] n,sl⟩):KTup K a [.ref a0,.ref a1,.ref a2,.ref a3,.ref a4]:=mQ h (small (show(5:Nat)<=1000 by decide)) (.cons rfl (.cons rfl (.cons rfl (.cons rfl (.cons rfl (.nil))))))
theorem pt_mk{w:World}{K:FG}{t0 t1 t2 t3 t4 t5 t6 t7 t8 t9 t10 t11 t12 t13 t14:Tok}{a0 a1 a2 a3 a4 a5 a6 a7 a8 a9 a10 a11 a12 a13 a14:Addr}
  (gPT:W.nsIn K mainGlobals "PARTS"=some (some (.ref dPT))) (dPT0:(dPT == sysModules)=false)
  (lPT:K.lookup dPT=some { cls:=.type "dict",data:=.dict #[⟨PyData.keyHash w.params "in",.str "in" t0,.ref a0⟩,⟨PyData.keyHash w.params "num",.str "num" t1,.ref a1⟩,⟨PyData.keyHash w.params "count",.str "count" t2,.ref a2⟩,⟨PyData.keyHash w.params "each",.str "each" t3,.ref a3⟩,⟨PyData.keyHash w.params "pair",.str "pair" t4,.ref a4⟩,⟨PyData.keyHash w.params "pick",.str "pick" t5,.ref a5⟩,⟨PyData.keyHash w.params "turn",.str "turn" t6,.ref a6⟩,⟨PyData.keyHash w.params "flip",.str "flip" t7,.ref a7⟩,⟨PyData.keyHash w.params "cut",.str "cut" t8,.ref a8⟩,⟨PyData.keyHash w.params "spread",.str "spread" t9,.ref a9⟩,⟨PyData.keyHash w.params "lay",.str "lay" t10,.ref a10⟩,⟨PyData.keyHash w.params "join",.str "join" t11,.ref a11⟩,⟨PyData.keyHash w.params "fetch",.str "fetch" t12,.ref a12⟩,⟨PyData.keyHash w.params "fold",.str "fold" t13,.ref a13⟩,⟨PyData.keyHash w.params "run",.str "run" t14,.ref a14⟩] nPT })(l0:KTup K a0 [.ref a0_0])
  (l0_0:KTup K a0_0 [.str "sides",.int 1])(l1:KTup K a1 [.ref a1_0])
  (l1_0:KTup K a1_0 [.str "number",.int 1])(l2:KTup K a2 [.ref a2_0,.ref a2_1])
  (l2_0:KTup K a2_0 [.str "small",.int 2])
  (l2_1:KTup K a2_1 [.str "sides",.int 1])(l3:KTup K a3 [.ref a3_0,.ref a3_1])
  (l3_0:KTup K a3_0 [.str "word",.int 1])
  (l3_1:KTup K a3_1 [.str "step",.int 2])(l4:KTup K a4 [.ref a4_0,.ref a4_1,.ref a4_2])
  (l4_0:KTup K a4_0 [.str "word",.int 1])
  (l4_1:KTup K a4_1 [.str "step",.int 2])
  (l4_2:KTup K a4_2 [.str "step",.int 3])(l5:KTup K a5 [.ref a5_0,.ref a5_1,.ref a5_2])
  (l5_0:KTup K a5_0 [.str "step",.int 1])
  (l5_1:KTup K a5_1 [.str "step",.int 2])
  (l5_2:KTup K a5_2 [.str "step",.int 3])(l6:KTup K a6 [.ref a6_0,.ref a6_1])
  (l6_0:KTup K a6_0 [.str "step",.int 1])
  (l6_1:KTup K a6_1 [.str "sides",.int 2])(l7:KTup K a7 [.ref a7_0,.ref a7_1])
  (l7_0:KTup K a7_0 [.str "step",.int 1])
  (l7_1:KTup K a7_1 [.str "small",.int 2])(l8:KTup K a8 [.ref a8_0,.ref a8_1,.ref a8_2,.ref a8_3,.ref a8_4])
  (l8_0:KTup K a8_0 [.str "step",.int 1])
  (l8_1:KTup K a8_1 [.str "small",.int 2])
  (l8_2:KTup K a8_2 [.str "small",.int 3])
  (l8_3:KTup K a8_3 [.str "small",.int 4])
  (l8_4:KTup K a8_4 [.str "small",.int 5])(l9:KTup K a9 [.ref a9_0,.ref a9_1,.ref a9_2])
  (l9_0:KTup K a9_0 [.str "step",.int 1])
  (l9_1:KTup K a9_1 [.str "small",.int 2])
  (l9_2:KTup K a9_2 [.str "small",.int 3])(l10:KTup K a10 [.ref a10_0,.ref a10_1])
  (l10_0:KTup K a10_0 [.str "step",.int 1])
  (l10_1:KTup K a10_1 [.str "sides",.int 2])(l11:KTup K a11 [.ref a11_0,.ref a11_1,.ref a11_2])
  (l11_0:KTup K a11_0 [.str "step",.int 1])
  (l11_1:KTup K a11_1 [.str "step",.int 2])
  (l11_2:KTup K a11_2 [.str "small",.int 3])(l12:KTup K a12 [.ref a12_0,.ref a12_1])
  (l12_0:KTup K a12_0 [.str "step",.int 1])
  (l12_1:KTup K a12_1 [.str "step",.int 2])(l13:KTup K a13 [.ref a13_0,.ref a13_1,.ref a13_2])
  (l13_0:KTup K a13_0 [.str "word",.int 1])
  (l13_1:KTup K a13_1 [.str "step",.int 2])
  (l13_2:KTup K a13_2 [.str "small",.int 3])(l14:KTup K a14 [.ref a14_0,.ref a14_1,.ref a14_2])
  (l14_0:KTup K a14_0 [.str "word",.int 1])
  (l14_1:KTup K a14_1 [.str "step",.int 2])
  (l14_2:KTup K a14_2 [.str "small",.int 3]):∃d,W.nsIn K mainGlobals "PARTS"=some (some (.ref d))/\yX P w K d:=⟨_,gPT,⟨_,KTab.mk (l:=[("in",t0,a0),("num",t1,a1),("count",t2,a2),("each",t3,a3),("pair",t4,a4),("pick",t5,a5),("turn",t6,a6),("flip",t7,a7),("cut",t8,a8),("spread",t9,a9),("lay",t10,a10),("join",t11,a11),("fetch",t12,a12),("fold",t13,a13),("run",t14,a14)]) dPT0 lPT rfl (show(["in","num","count","each","pair","pick","turn","flip","cut","spread","lay","join","fetch","fold","run"]:List Str).Nodup by decide +kernel),⟨⟨rfl,_,l0,⟨⟨_,rfl,l0_0⟩,trivial⟩⟩,⟨⟨rfl,_,l1,⟨⟨_,rfl,l1_0⟩,trivial⟩⟩,⟨⟨rfl,_,l2,⟨⟨_,rfl,l2_0⟩,⟨⟨_,rfl,l2_1⟩,trivial⟩⟩⟩,⟨⟨rfl,_,l3,⟨⟨_,rfl,l3_0⟩,⟨⟨_,rfl,l3_1⟩,trivial⟩⟩⟩,⟨⟨rfl,_,l4,⟨⟨_,rfl,l4_0⟩,⟨⟨_,rfl,l4_1⟩,⟨⟨_,rfl,l4_2⟩,trivial⟩⟩⟩⟩,⟨⟨rfl,_,l5,⟨⟨_,rfl,l5_0⟩,⟨⟨_,rfl,l5_1⟩,⟨⟨_,rfl,l5_2⟩,trivial⟩⟩⟩⟩,⟨⟨rfl,_,l6,⟨⟨_,rfl,l6_0⟩,⟨⟨_,rfl,l6_1⟩,trivial⟩⟩⟩,⟨⟨rfl,_,l7,⟨⟨_,rfl,l7_0⟩,⟨⟨_,rfl,l7_1⟩,trivial⟩⟩⟩,⟨⟨rfl,_,l8,⟨⟨_,rfl,l8_0⟩,⟨⟨_,rfl,l8_1⟩,⟨⟨_,rfl,l8_2⟩,⟨⟨_,rfl,l8_3⟩,⟨⟨_,rfl,l8_4⟩,trivial⟩⟩⟩⟩⟩⟩,⟨⟨rfl,_,l9,⟨⟨_,rfl,l9_0⟩,⟨⟨_,rfl,l9_1⟩,⟨⟨_,rfl,l9_2⟩,trivial⟩⟩⟩⟩,⟨⟨rfl,_,l10,⟨⟨_,rfl,l10_0⟩,⟨⟨_,rfl,l10_1⟩,trivial⟩⟩⟩,⟨⟨rfl,_,l11,⟨⟨_,rfl,l11_0⟩,⟨⟨_,rfl,l11_1⟩,⟨⟨_,rfl,l11_2⟩,trivial⟩⟩⟩⟩,⟨⟨rfl,_,l12,⟨⟨_,rfl,l12_0⟩,⟨⟨_,rfl,l12_1⟩,trivial⟩⟩⟩,⟨⟨rfl,_,l13,⟨⟨_,rfl,l13_0⟩,⟨⟨_,rfl,l13_1⟩,⟨⟨_,rfl,l13_2⟩,trivial⟩⟩⟩⟩,⟨⟨rfl,_,l14,⟨⟨_,rfl,l14_0⟩,⟨⟨_,rfl,l14_1⟩,⟨⟨_,rfl,l14_2⟩,trivial⟩⟩⟩⟩,trivial⟩⟩⟩⟩⟩⟩⟩⟩⟩⟩⟩⟩⟩⟩⟩⟩⟩
noncomputable abbrev nB(K:FG)(x:Str):Prop:=W.nsIn K mainGlobals x=some none
structure Sv (P:Program)(w:World)(K:FG)(C0 C1:Addr):Prop where
 n0:W.nsIn K mainGlobals "NoPlace"=some (some (.ref C0))
 n1:W.nsIn K mainGlobals "LoomError"=some (some (.ref C1))
 x0:W.excIn K C0 [.type "ValueError",.type "Exception",.type "BaseException",.type "object"] "ValueError.__new__"=true
 x1:W.excIn K C1 [.type "ValueError",.type "Exception",.type "BaseException",.type "object"] "ValueError.__new__"=true
 e0_0:W.exmOne K (.ref C0) (.ref C0)=some true
 g0:Gx K "wrapped" (top 11)
 g1:Gx K "sign_of" (top 12)
 g2:Gx K "quotient" (top 13)
 g3:Gx K "remainder" (top 14)
 g4:Gx K "once" (top 15)
 g5:Gx K "twice" (top 16)
 g6:Gx K "neutral" (top 17)
 g7:Gx K "arg_places" (top 20)
 g8:Gx K "args_of" (top 21)
 g9:Gx K "amount" (top 25)
 g10:Gx K "breadth" (top 26)
 g11:Gx K "allowed" (top 27)
 g12:Gx K "strides_of" (top 28)
 g13:Gx K "place_of" (top 29)
 g14:Gx K "at_of" (top 30)
 g15:Gx K "changed_at" (top 31)
 g16:Gx K "added_at" (top 32)
 g17:Gx K "dropped_at" (top 33)
 g18:Gx K "ask_side" (top 35)
 g19:Gx K "turned_sides" (top 36)
 g20:Gx K "flipped_sides" (top 37)
 g21:Gx K "cut_sides" (top 38)
 g22:Gx K "spread_sides" (top 39)
 g23:Gx K "laid_sides" (top 40)
 g24:Gx K "joined_sides" (top 41)
 g25:Gx K "led_sides" (top 42)
 g26:Gx K "paired_sides" (top 43)
 g27:Gx K "picked_sides" (top 44)
 g28:Gx K "fetched_sides" (top 45)
 g29:Gx K "folded_sides" (top 46)
 g30:Gx K "counted_sides" (top 47)
 g31:Gx K "ask_word" (top 49)
 g32:Gx K "first_sides" (top 50)
 g33:Gx K "moved_sides" (top 51)
 g34:Gx K "step_sides" (top 52)
 g35:Gx K "plain_view" (top 54)
 g36:Gx K "turned_view" (top 55)
 g37:Gx K "flipped_view" (top 56)
 g38:Gx K "cut_view" (top 57)
 g39:Gx K "spread_view" (top 58)
 g40:Gx K "inner_view" (top 59)
 g41:Gx K "moved_view" (top 60)
 g42:Gx K "spot_of" (top 61)
 g43:Gx K "places_along" (top 63)
 g44:Gx K "joined_looks" (top 64)
 g45:Gx K "fetched_looks" (top 65)
 g46:Gx K "put_together_looks" (top 66)
 g47:Gx K "looks_in" (top 67)
 g48:Gx K "_law_size" (top 69)
 g49:Gx K "_law_wide" (top 70)
 g50:Gx K "_law_number" (top 71)
 g51:Gx K "_law_recent" (top 72)
 g52:Gx K "_law_begun" (top 73)
 g53:Gx K "_law_led" (top 74)
 g54:Gx K "_law_lifted" (top 75)
 g55:Gx K "_law_laid" (top 76)
 g56:Gx K "_law_moved" (top 77)
 g57:Gx K "_law_both" (top 78)
 g58:Gx K "_law_met" (top 79)
 g59:Gx K "_law_step" (top 80)
 g60:Gx K "_law_program" (top 81)
 g61:Gx K "_law_pairs" (top 82)
 g62:Gx K "_law_refused" (top 83)
 g63:Gx K "_law_along" (top 84)
 g64:Gx K "_law_fetched" (top 85)
 g65:Gx K "_law_led_to" (top 86)
 g66:Gx K "_law_looks" (top 87)
 g67:Gx K "_law_all" (top 88)
 g68:Gx K "law" (top 89)
 blen:nB K "len"
 btuple:nB K "tuple"
 blist:nB K "list"
 bsum:nB K "sum"
 bmax:nB K "max"
 bmin:nB K "min"
 babs:nB K "abs"
 bint:nB K "int"
 bstr:nB K "str"
 bsorted:nB K "sorted"
 bany:nB K "any"
 ball:nB K "all"
 bisinstance:nB K "isinstance"
 bbool:nB K "bool"
 brange:nB K "range"
 bzip:nB K "zip"
 benumerate:nB K "enumerate"
 breversed:nB K "reversed"
 bset:nB K "set"
 bdict:nB K "dict"
 qLOW:∃t,W.nsIn K mainGlobals "LOW"=some (some (.int (-9223372036854775808) t))
 qHIGH:∃t,W.nsIn K mainGlobals "HIGH"=some (some (.int 9223372036854775807 t))
 qMOST_SIDES:∃t,W.nsIn K mainGlobals "MOST_SIDES"=some (some (.int 6 t))
 qMOST_BREADTH:∃t,W.nsIn K mainGlobals "MOST_BREADTH"=some (some (.int 512 t))
 qPT:∃d,W.nsIn K mainGlobals "PARTS"=some (some (.ref d))/\yX P w K d
def all_mk{l:W.OpenLaw}{K:FG}(X:K.In h)(G:h.Ns mainGlobals mg)(hfa:mg "law"=some (.ref fa))(S:Sv l.prog w K C0 C1):∃fd:FuncData,(∀(s:Shared) (v:Value),BindsTo s fd ⟨[v],[]⟩ [("script",v)])/\∀base:Heap,K.In base->base.Ns mainGlobals mg->FnOk l.prog w K mg base CX0 69 fa fd ["script"] (kN K (λ _=>True)):=by
 have hm:∀ {x:Str}{v:Option Value},W.nsIn K mainGlobals x=some v->mg x=v:=λ {x v} z=>by cases v with|none=>exact W.mg_none_of X G z|some u=>exact W.mg_of X G z
 obtain⟨f,fd,gL⟩:=S.g68;have e:=hfa.symm.trans (hm gL.a);cases e;obtain⟨_,_,kVL,dcL,pmL,anL,cdL,ctL,_,eL,_,_⟩:=gL.F.ex;refine⟨fd,λ s v=>by rw[eL];exact .of_eq rfl,λ base KB GB=>?_⟩;have M:MOk l.prog w K mg (λ _=>True) GT gs:=⟨⟨λ _ _ _ _ _=>trivial,λ _ _ _ _ _ _=>trivial⟩,λ g x t h1 h2 nb=>?_,λ g x t h1 h2=>?_,λ x hx=>?_⟩
 ·have C:CM l.prog w K mg base (λ _=>True) GT gs DL 0:=⟨Cals.z,M,hm⟩
  have N:CN l.prog w K mg base (λ _=>True) GT gs DL X1L X2L CSL (λ k=>[C0,C1].getD k C0) C0 0:=⟨C,(λ i h=>nomatch h),(λ i h=>nomatch h),(λ k x e=>by
   match k,e with
   |0,e=>cases e;exact⟨S.n0,S.x0⟩
   |1,e=>cases e;exact⟨S.n1,S.x1⟩
   |n+2,e=>cases e),rfl,rfl⟩
  have EX:∀k c,c<=k->k<1->W.exmOne K (.ref ([C0,C1].getD k C0)) (.ref ([C0,C1].getD c C0))=some (isC k c):=λ k c h1 h2=>by
   match k,c,h1,h2 with
   |0,0,_,_=>exact S.e0_0
   |0,c+1,h1,_=>lia
   |k+1,_,_,h2=>lia
  replace N:=N.d S.g0 zw0;replace N:=N.d S.g1 zw1;replace N:=N.d S.g2 zw2;replace N:=N.d S.g3 zw3;replace N:=N.d S.g4 zw4;replace N:=N.d S.g5 zw5;replace N:=N.d S.g6 zw6;replace N:=N.d S.g7 zw7;replace N:=N.d S.g8 zw8;replace N:=N.d S.g9 zw9;replace N:=N.d S.g10 NU;replace N:=N.d S.g11 NV;replace N:=N.d S.g12 NW;replace N:=N.d S.g13 NX;replace N:=N.r S.g14 NZ NY;replace N:=N.d S.g15 Oa;replace N:=N.d S.g16 Ob;replace N:=N.d S.g17 Oc;replace N:=N.d S.g18 Od;replace N:=N.d S.g19 Oe;replace N:=N.d S.g20 Of;replace N:=N.d S.g21 Og;replace N:=N.d S.g22 Oh;replace N:=N.d S.g23 Oi;replace N:=N.d S.g24 Oj;replace N:=N.d S.g25 Ol;replace N:=N.d S.g26 Om;replace N:=N.d S.g27 On;replace N:=N.d S.g28 Oo;replace N:=N.d S.g29 Op;replace N:=N.d S.g30 Oq;replace N:=N.d S.g31 Os;replace N:=N.d S.g32 Ot;replace N:=N.d S.g33 Ou;replace N:=N.d S.g34 Ov;replace N:=N.d S.g35 Ow;replace N:=N.d S.g36 Ox;replace N:=N.d S.g37 Oy;replace N:=N.d S.g38 Oz;replace N:=N.d S.g39 OB;replace N:=N.d S.g40 OC;replace N:=N.d S.g41 OD;replace N:=N.d S.g42 OE;replace N:=N.d S.g43 OF;replace N:=N.d S.g44 OG;replace N:=N.d S.g45 OH;replace N:=N.d S.g46 OI;replace N:=N.r S.g47 OL OJ;replace N:=N.d S.g48 OM;replace N:=N.d S.g49 ON;replace N:=N.d S.g50 OO;replace N:=N.d S.g51 OP;replace N:=N.d S.g52 OQ;replace N:=N.d S.g53 OR;replace N:=N.d S.g54 OS;replace N:=N.d S.g55 OT;replace N:=N.d S.g56 OU;replace N:=N.d S.g57 OV;replace N:=N.d S.g58 OW;replace N:=N.d S.g59 OX;replace N:=N.d S.g60 OY;replace N:=N.d S.g61 OZ;replace N:=N.y EX S.g62 Pa;replace N:=N.d S.g63 Pb;replace N:=N.d S.g64 Pc;replace N:=N.d S.g65 Pd;replace N:=N.d S.g66 Pe;replace N:=N.d S.g67 Pf;exact N.law gL Pg
 ·match g,h1,h2 with
  |0,h1,h2=>cases h1;cases h2;obtain⟨t,q⟩:=S.qLOW;exact⟨.int (-9223372036854775808),_,hm q,⟨t,rfl⟩,λ F H=>rfl⟩
  |1,h1,h2=>cases h1;cases h2;obtain⟨t,q⟩:=S.qHIGH;exact⟨.int 9223372036854775807,_,hm q,⟨t,rfl⟩,λ F H=>rfl⟩
  |2,h1,h2=>cases h1;cases h2;obtain⟨t,q⟩:=S.qMOST_SIDES;exact⟨.int 6,_,hm q,⟨t,rfl⟩,λ F H=>rfl⟩
  |3,h1,h2=>cases h1;cases h2;obtain⟨t,q⟩:=S.qMOST_BREADTH;exact⟨.int 512,_,hm q,⟨t,rfl⟩,λ F H=>rfl⟩
  |4,h1,h2=>cases h1;cases h2;cases nb
  |n+5,h1,h2=>cases h1
 ·match g,h1,h2 with
  |0,h1,h2=>cases h2
  |1,h1,h2=>cases h2
  |2,h1,h2=>cases h2
  |3,h1,h2=>cases h2
  |4,h1,h2=>cases h1;cases h2;obtain⟨d,e,kvs,TK,PA⟩:=S.qPT;exact⟨d,kvs,hm e,TK,BC PA⟩
  |n+5,h1,h2=>cases h1
 ·simp only[BN,aN,dJ,eW] at hx
  rcases hx with rfl|rfl|rfl|rfl|rfl|rfl|rfl|rfl|rfl|rfl|rfl|rfl|rfl|rfl|rfl|rfl|rfl|rfl|rfl|rfl
  ·exact hm S.blen
  ·exact hm S.btuple
  ·exact hm S.blist
  ·exact hm S.bsum
  ·exact hm S.bmax
  ·exact hm S.bmin
  ·exact hm S.babs
  ·exact hm S.bint
  ·exact hm S.bstr
  ·exact hm S.bsorted
  ·exact hm S.bany
  ·exact hm S.ball
  ·exact hm S.bisinstance
  ·exact hm S.bbool
  ·exact hm S.brange
  ·exact hm S.bzip
  ·exact hm S.benumerate
  ·exact hm S.breversed
  ·exact hm S.bset
  ·exact hm S.bdict
theorem walk{l:W.OpenLaw}{YP:World->Heap->Prop}{d:DefRec}{K:Params->FG}(hn:l.most=some 63)(hdf:d.params.defaults=[])
  (hY:∀(w:World) (h:Heap),YP w h->(K w.params).In h)
  (F:∀(w:World) (mg:SV) (fa:Addr) (h:Heap),(K w.params).In h->h.Ns mainGlobals mg->mg d.name=some (.ref fa) ->
   ∃fd:FuncData,(∀(s:Shared) (u:Value),BindsTo s fd ⟨[u],[]⟩ [("script",u)])/\∀base:Heap,(K w.params).In base->base.Ns mainGlobals mg->FnOk l.prog w (K w.params) mg base CX0 69 fa fd ["script"] (kN (K w.params) (λ _=>True))) :
  W.WalkO q loose XP YP l.row.toRowW d [] (λ f vs=>PySem.call f vs) :=
 _L.walk_of (n:=63) (k:=69) (x := "script") (CX:=λ _=>CX0) (sp:=λ w=>kN (K w.params) (λ _=>True)) hn pv hdf ⟨rfl,pv,pv⟩ hY F (λ _ _ a ns hl hfew hS=>⟨a,ns,rfl,hS,hl,trivial,λ _=>rfl⟩) λ _ _ _ _ _ z=>z
end _M
end
end
open PySem PySem.W PyProof.Rows
set_option maxRecDepth 100000 in
set_option maxHeartbeats 0 in
theorem PySem.Challenge.cw_sideloom_k40_looks_of_what_is_reckoned_holds : PySem.Challenge.rw_sideloom_k40_looks_of_what_is_reckoned.Holds := by
 w_on;o_law;k_head;(case hw=>w_witness2)
 k_fill
 refine _M.walk (l:=PySem.Challenge.rw_sideloom_k40_looks_of_what_is_reckoned) rfl rfl (λ w h Y=>W.kIn_of Y) ?F
 case F=>
  intro w mg fa h KX G hmg
  refine' _M.all_mk KX G hmg ?S
  case S=>
   constructor
   iterate 2 (k_is)
   iterate 2 (k_exc)
   ·kts_exm
   iterate 69 (refine' _L.gl_ex ?ya ?yb ?yc ?yd;(case ya=>k_is);(case yb=>k_is);(case yc=>k_is);(case yd=>k_is))
   iterate 20 (unfold _M.nB;k_is)
   iterate 4 (refine' _L.gx_int ?ya;(case ya=>k_is))
   ·refine' _M.pt_mk ?gPT ?dPT0 ?lPT ?l0 ?l0_0 ?l1 ?l1_0 ?l2 ?l2_0 ?l2_1 ?l3 ?l3_0 ?l3_1 ?l4 ?l4_0 ?l4_1 ?l4_2 ?l5 ?l5_0 ?l5_1 ?l5_2 ?l6 ?l6_0 ?l6_1 ?l7 ?l7_0 ?l7_1 ?l8 ?l8_0 ?l8_1 ?l8_2 ?l8_3 ?l8_4 ?l9 ?l9_0 ?l9_1 ?l9_2 ?l10 ?l10_0 ?l10_1 ?l11 ?l11_0 ?l11_1 ?l11_2 ?l12 ?l12_0 ?l12_1 ?l13 ?l13_0 ?l13_1 ?l13_2 ?l14 ?l14_0 ?l14_1 ?l14_2
    (case gPT=>k_is)
    (case dPT0=>first|decide +kernel|rfl)
    (case lPT=>k_is)
    (case l0=>refine' _M.ktr1 ?ya;(case ya=>k_is))
    (case l1=>refine' _M.ktr1 ?ya;(case ya=>k_is))
    (case l2=>refine' _M.ktr2 ?ya;(case ya=>k_is))
    (case l3=>refine' _M.ktr2 ?ya;(case ya=>k_is))
    (case l4=>refine' _M.ktr3 ?ya;(case ya=>k_is))
    (case l5=>refine' _M.ktr3 ?ya;(case ya=>k_is))
    (case l6=>refine' _M.ktr2 ?ya;(case ya=>k_is))
    (case l7=>refine' _M.ktr2 ?ya;(case ya=>k_is))
    (case l8=>refine' _M.ktr5 ?ya;(case ya=>k_is))
    (case l9=>refine' _M.ktr3 ?ya;(case ya=>k_is))
    (case l10=>refine' _M.ktr2 ?ya;(case ya=>k_is))
    (case l11=>refine' _M.ktr3 ?ya;(case ya=>k_is))
    (case l12=>refine' _M.ktr2 ?ya;(case ya=>k_is))
    (case l13=>refine' _M.ktr3 ?ya;(case ya=>k_is))
    (case l14=>refine' _M.ktr3 ?ya;(case ya=>k_is))
    iterate 37 (refine' _M.kts ?ya;(case ya=>k_is))
