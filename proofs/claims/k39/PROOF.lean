import PyProof.Rows.All
import Wide.All
import OpenK.AllK
import Wide.FinOn
import Lean
import PyProof.EqAt
import PyProof.EqKinds
import PyProof.TupleCall
import PySem.Challenge.RW_sideloom_k39_looks_of_what_is_moved
set_option Elab.async false
set_option linter.all false
set_option autoImplicit true
set_option maxRecDepth 100000
def ca{a:α}:a=a:=rfl
def fu{p:Prop}(h:p:=by lia):p:=h
def on{p:Prop}(h:p:=by decide):p:=h
def pv{p:Prop}(h:p:=by simp):p:=h
def BT:True:=trivial
set_option tactic.hygienic false
abbrev VS:=PySem.Value->PySem.Shared->Prop
abbrev LL:=List (List Int)
abbrev LI:=List Int
abbrev LO:=List (PySem.Addr×PySem.Obj)
abbrev LA:=List (PySem.Str×PySem.Addr)
abbrev SV:=PySem.Str->Option PySem.Value
abbrev LV:=List PySem.Value
abbrev FG:=PySem.W.Frag
abbrev AV:=Array (Option PySem.Value)
abbrev OA:=Option PySem.Addr
open PySem renaming wpAny_bind->af,wpAny_pure->aj,mem_of_lookup->dw,wpAny_newObj_type->cS,builtinLookup_eq_fast->fO,wpAny_mono->bQ,wpAny_field->cK,wpAny_truthy_bool->fG,wpAny_holding->du,wpAny_callSpecial?_slot->iZ,wpAny_call_entry->fJ,wpAny_Call_Name_kw->ik,typeLookup_type->fN,plainId_quiet->eY,codeAny_builtin->gz,wpAny_of_eq->dZ,wpAny_specialOf->iq,wpAny_standAt->gj,wpAny_seqItems->iu,isSubtype_type->jh,wpAny_updateSeq->kt,wpAny_loadPart_at->mH,wpAny_tryCatch->kD,wpAny_isInstance->mf,codeAny_mono->iX,wpAny_typeOf->ja,call_meets->gv,wpAny_passesOwn->lL,wpAny_setField_rec->oR,wpAny_setField->mj,codeAny_extend_loopS->se,wpAny_attempt->mh,wpAny_execs_nil->nQ,sizeLine_eq->jW,wpAny_pyIter_tuple->sj,wpAny_call->jX,wpAny_rule->kr,arm_evalThenUse_ListComp->wc,wpAny_pyIter_list->si,wpAny_letGo->mF,noFill_tuple_add->qZ,wpAny_forIn_list->su,wpAny_pyNext_range_end->uO,wpAny_pyIter_rangeiter->uP,wpAny_Call_method_late->vp,wpAny_storeName_local->uB,name_of_addr->og,codeAny_call_function->va,concat_meets->oi,codeAny_of_tree->sg,exec_Assign_Name_used->wb,wpAny_storeName_cell->s0g,fitsIndex_both->s0o,wpAny_newTuple->s0q,wpAny_isSubtype_exc->s0y,wpAny_pyIter_range->s1d,seq_tuple_add->s1e,nums_intItems->s1k,wpAny_load->s1p,seqIndex_neg->s1q,seqIndex_of->s1v,numAt_eq->s1z
open List renaming getElem?_eq_getElem->az,length_map->ak,getD_eq_getElem?_getD->aO,mem_of_getElem?->aD,getElem?_eq_some_iff->be,length_append->aK,mem_cons_of_mem->aW,getElem?_map->aL,size_toArray->aM,length_take->bc,mem_cons_self->bz,mem_append_right->bX,length_set->bu,mem_cons->bf,getElem?_append_left->cZ,mem_singleton->bY,length_range->cn,map_cons->bA,getElem?_append_right->dW,mem_map->bD,append_nil->cu,map_append->cG,mem_append->cJ,length_replicate->dX,map_map->bK,getElem?_set_self->eW,all_cons->cw,getElem?_eq_none->fb,length_drop->da,getElem?_set_ne->eX,getElem?_set->dM,length_singleton->gw,getElem?_range->fX,lookup_cons->ef,take_of_length_le->iw,length_reverse->gM,take_length->fk,getElem?_replicate->iY,eraseIdx_eq_take_drop_succ->mU,drop_eq_getElem_cons->kG,mem_or_eq_of_mem_set->lw,not_mem_nil->fP,getElem?_take_of_lt->kg,getElem?_reverse->ji,take_append_drop->jF,mem_range->eV,nodup_cons->fH,mem_append_left->iV,all_eq_true->gF,replicate_succ->jc,mem_iff_getElem?->kB,take_append_of_le_length->pW,append_assoc->jd,mem_range'_1->jr,ext_getElem?->jt,mem_filter->gZ,length_pos_iff->kE,getElem?_eraseIdx->nj,cons_append->jn,set_eq_take_append_cons_drop->tZ,length_filter_le->nN,mem_of_mem_drop->nA,reverse_cons->ki,flatten_cons->kj,idxOf_lt_length_iff->qo,length_zipWith->mK,getElem_mem->kJ,drop_length->lg,eq_nil_of_length_eq_zero->tq,zipWith_cons_cons->pX,pairwise_cons->mD,getElem?_take->mW,of_mem_zip->jY,getElem?_of_mem->pL,getElem?_append->qA,getElem?_zip_eq_some->sZ,map_congr_left->pj,forIn_cons->mB,zip_cons_cons->pM,length_pos_of_mem->uy,eraseIdxIfInBounds_toArray->vx,getElem?_zipWith->sP,mem_of_mem_take->tW,any_cons->lW,filterMap_cons->qH,nil_append->ow,range_succ->pU,getD_cons_zero->uq,getD_cons_succ->ur,perm_append_singleton->yO,mem_filterMap->qP,getElem_idxOf->uh,eraseIdx_cons_succ->vq,filter_cons_of_pos->xT,filter_cons_of_neg->xU,map_take->qu,length_eq_zero_iff->By,map_reverse->ux,getElem?_toArray->vS,dropLast_eq_take->s0a,set_getElem_self->s0e,getElem_toArray->s0j,length_eraseIdx->s0m,drop_zero->s0r
open PySem.Heap renaming get?_push_of_some->aA,get?_push_size->aR,lt_size->aB,get?_update_other->dY,get?_update_self->gu,size_push->fK
open Nat renaming le_refl->av,lt_of_lt_of_le->bC,ne_of_lt->aZ,zero_le->bS,lt_succ_of_lt->dJ,le_trans->cI,lt_irrefl->cQ,le_of_lt->dq,le_of_ble_eq_true->jO,min_eq_left->fT,lt_succ_self->im,lt_of_succ_lt_succ->oN,not_lt_zero->kF,succ_le_succ->lY,zero_lt_succ->mG,ne_of_gt->lJ,lt_of_le_of_lt->rH,lt_trans->oH,le_succ->s0v,lt_or_ge->s1r,min_self->s1s,sub_self->s1t,min_def->s1y
open Bool renaming and_eq_true->aU,false_ne_true->bG,and_eq_true_iff->fD,false_eq_true->oK,or_eq_true->mM,eq_iff_iff->nV,and_false->oV,not_eq_true'->rK,false_and->s0n,false_or->s1n
open Option.some renaming inj->bj,injEq->pH
open Int renaming mul_le_mul_of_nonneg_right->gU,mul_le_mul_of_nonneg_left->jI,emod_lt_of_pos->fE,emod_nonneg->eI,fdiv_eq_ediv_of_nonneg->lO,toNat_of_nonneg->jA,le_refl->jq,mul_nonneg->nh,le_trans->ly,natCast_nonneg->qR,mul_comm->nc,lt_toNat->nM,one_mul->mZ,mul_assoc->pV,fmod_nonneg_of_pos->ze,zero_add->s0d,mul_ediv_self_le->s0l,mul_le_mul->s0s,mul_one->s0t,fmod_lt_of_pos->s1o
open PyProof.Rows renaming callWith_type1->gp,slot_tuple_getitem->oj,subscriptTail_builtinR->vn,entry_tuple_getitem->s0u,args_tuple_getitem->s1f,len_tuple->s1g,boot_reversed->s1i
open PySem.Around renaming under_plainId->gC,frames_deeper->s0h
open PySem.F renaming plain_max_loop->jp,plainAttrs_list->lj,slot_tuple_iterator_next->oG,excBase_ValueError->tM,args_tuple_add_2->rj,entry_tuple_add->rh,slot_tuple_add->re,entry_max_loop->sC,plain_list_iadd->oD,plain_tuple_new->oE,args_object_init_2->rQ,args_tuple_iterator_next_1->vU,plain_extend_loop->rZ,entry_tuple_iterator_next->vT,slot_list_index->xA,type_list_index->xB,entry_proto_collect->vQ,plain_proto_collect->vR,slot_list_pop->s0b,type_list_pop->s0c,args_list_append_2->s0i,entry_list_append->s0w,entry_object_init->s0x,slot_list_append->s1h,typeCall_tuple_1->s1j
open Option renaming isNone_iff_eq_none->lr,isSome_iff_exists->ka,map_eq_some_iff->nH
open PySem.Obj renaming data_mapFields->ko,isFreed_of_fields->rV
open Ne renaming symm->bW
open Array renaming getElem?_eq_getElem->oF,getElem?_toList->rF,getElem?_eq_some_iff->vO,toArray_toList->s0k,append_assoc->s1b
open PySem.W renaming cellsFrom_some->jZ,hideAll_get->nP,callWith_K->nZ,kia_one->kQ
open PySem.Heap.SameBut renaming update->oA
open And renaming intro->fV
open PySem.PassesOwn renaming never->mV
open PySem.Calls renaming callWith_builtin->rC,evalArgs_plain->rD,Name_function_global->uC,spliced_cons->qV,spliced_nil->qU,Constant_str->s1c
open List.cons renaming inj->mC
open PyProof renaming noPylong_of_log2->vH
open True renaming intro->ky
open Prod.mk renaming injEq->pI
open LawfulBEq renaming eq_of_beq->kh
open PySem.SeqAt.EqAt renaming same->rq,int_str->s0z,str_int->s1a,of_refs->s1m
open PySem.Moved renaming drop_new->s0p
open PySem.Code renaming quiet_builtin->s1l
open Sum.inr renaming inj->s1u
open PySem.ItemsOf renaming nil->s1w
open LawfulMonad renaming pure_bind->s1x
def au:=@of_decide_eq_true
def bo:=@decide_eq_false
def cL:=@decide_eq_true
def br:=@congrArg
def gQ:=@decide_eq_true_eq
def kz:=@beq_self_eq_true
def qC:=@of_decide_eq_false
def dI:=@if_true
def fQ:=@or_false
def jg:=@beq_iff_eq
def qF:=@beq_eq_false_iff_ne
def qS:=@decide_eq_decide
def s0f:=@if_false
section
set_option compiler.extract_closed false
set_option hygiene false

set_option hygiene true
noncomputable section
namespace _L
open PySem PySem.Spec PyProof.Rows
abbrev Key:=Sum Int Str
noncomputable def nO:Key->Value->Bool
 |.inl k,v=>Value.isInt k v
 |.inr x,v=>Value.isStrOf x v
noncomputable def BB(w:World):Key->Int
 |.inl k=>hashInt k
 |.inr x=>hashStr w x
theorem gi:∀ {k:Key}{v:Value},nO k v=true->(∃i t,k=Sum.inl i/\v=Value.int i t)\/(∃x t,k=Sum.inr x/\v=Value.str x t)
 |.inl i,v,h=>by
  obtain⟨t,e⟩:=Value.isInt_shape (k:=i) (v:=v) h;exact .inl ⟨i,t,ca,e⟩
 |.inr x,v,h=>by
  obtain⟨t,e⟩:=Value.isStrOf_shape (x:=x) (v:=v) h;exact .inr ⟨x,t,ca,e⟩
def qE(x:Str)(t:Tok):nO (.inr x) (.str x t)=true:=by simp[nO,Value.isStrOf]
def BC(a b:Int):decide ((Sum.inl a:Key)=Sum.inl b)=(a == b):=by
 by_cases e:a=b
 ·subst e;simp
 ·have h:¬(Sum.inl a:Key)=Sum.inl b:=λ q=>e (Sum.inl.inj q);rw[bo h];exact(qF.mpr e).symm
def BD(a b:Str):decide ((Sum.inr a:Key)=Sum.inr b)=decide (a=b):=by
 by_cases e:a=b
 ·subst e;simp
 ·have h:¬(Sum.inr a:Key)=Sum.inr b:=λ q=>e (s1u q);rw[bo h,bo e]
def BE(a:Int)(b:Str):decide ((Sum.inl a:Key)=Sum.inr b)=false:=bo (λ q=>nomatch q)
def BF(a:Str)(b:Int):decide ((Sum.inr a:Key)=Sum.inl b)=false:=bo (λ q=>nomatch q)
noncomputable def qG(prog:Program)(w:World):PySem.KeyKind prog w Key where
 is:=nO
 hash:=BB w
 inj:=λ v a b ha hb=>by
  rcases gi ha with ⟨i,t,rfl,rfl⟩|⟨x,t,rfl,rfl⟩
  ·rcases gi hb with ⟨j,u,rfl,e⟩|⟨y,u,rfl,e⟩
   ·injection e with e1 _;rw[e1]
   ·exact nomatch e
  ·rcases gi hb with ⟨j,u,rfl,e⟩|⟨y,u,rfl,e⟩
   ·exact nomatch e
   ·injection e with e1 _;rw[e1]
 byValue:=λ k v h=>by
  rcases gi h with ⟨i,t,rfl,rfl⟩|⟨x,t,rfl,rfl⟩<;>rfl
 pyHash:=λ hv h=>by
  rcases gi hv with ⟨i,t,rfl,rfl⟩|⟨x,t,rfl,rfl⟩
  ·exact wpAny_pyHash_int h
  ·exact wpAny_pyHash_str h
 eqBool:=λ hu hv h=>by
  rcases gi hu with ⟨i,t,rfl,rfl⟩|⟨x,t,rfl,rfl⟩
  ·rcases gi hv with ⟨j,u,rfl,rfl⟩|⟨y,u,rfl,rfl⟩
   ·rw[BC] at h;exact wpAny_eqBool_int h
   ·rw[BE] at h;exact s0z i t y u _ _ _ _ h
  ·rcases gi hv with ⟨j,u,rfl,rfl⟩|⟨y,u,rfl,rfl⟩
   ·rw[BF] at h;exact s1a x t j u _ _ _ _ h
   ·rw[BD] at h;exact wpAny_eqBool_str h
 «strs»:=λ k x t v h=>by
  rcases gi h with ⟨i,u,rfl,e⟩|⟨y,u,rfl,e⟩
  ·exact nomatch e
  ·injection e with e1 _
   subst e1;cases v<;>rfl
inductive V where
 |non|bl (b:Bool)|int (i:Int)|str (x:Str)|byt (b:Array UInt8)|flt (b:UInt64)|ref (a:Addr)|ty (n:String)
 deriving DecidableEq
noncomputable def RelV:V->Value->Prop
 |.non,u=>u=Value.none
 |.bl b,u=>u=Value.bool b
 |.int i,u=>∃t,u=Value.int i t
 |.str x,u=>∃t,u=Value.str x t
 |.byt b,u=>∃t,u=Value.bytes b t
 |.flt b,u=>∃t,u=Value.float b t
 |.ref a,u=>u=Value.ref a
 |.ty n,u=>u=Value.type n
abbrev Vals:List V->LV->Prop:=Paired RelV
def Vals.length(r:Vals xs us):xs.length=us.length:=Paired.length r
theorem Vals.get:∀ {xs:List V}{us:LV}{i:Nat}{x:V},Vals xs us->xs[i]?=some x->∃u,us[i]?=some u/\RelV x u
 |_,_,_,_,.nil,e=>by simp at e
 |_,_,0,_,.cons r _,e=>by simp at e;subst e;exact⟨_,rfl,r⟩
 |_,_,i+1,x,.cons _ t,e=>by
  obtain⟨u,h1,h2⟩:=Vals.get (i:=i) (x:=x) t (by simpa using e);exact⟨u,by simpa using h1,h2⟩
theorem Vals.set(r:RelV x u):∀ {xs:List V}{us:LV}(i:Nat),Vals xs us->Vals (xs.set i x) (us.set i u)
 |_,_,_,.nil=>.nil
 |_,_,0,.cons _ t=>.cons r t
 |_,_,i+1,.cons q t=>.cons q (Vals.set r i t)
theorem Vals.append:∀ {xs ys:List V}{us ws:LV},Vals xs us->Vals ys ws->Vals (xs++ys) (us++ws)
 |_,_,_,_,.nil,s=>s
 |_,_,_,_,.cons r t,s=>.cons r (Vals.append t s)
theorem Vals.take:∀ {xs:List V}{us:LV}(n:Nat),Vals xs us->Vals (xs.take n) (us.take n)
 |_,_,0,_=>.nil
 |_,_,_+1,.nil=>.nil
 |_,_,n+1,.cons r t=>.cons r (Vals.take n t)
theorem Vals.drop:∀ {xs:List V}{us:LV}(n:Nat),Vals xs us->Vals (xs.drop n) (us.drop n)
 |_,_,0,r=>r
 |_,_,_+1,.nil=>.nil
 |_,_,n+1,.cons _ t=>Vals.drop n t
noncomputable def RelO:Option V->Option Value->Prop
 |some v,some u=>RelV v u
 |none,none=>True
 |_,_=>False
noncomputable def KV{κ:Type}:List (κ×V)->List (κ×Value)->Prop:=Paired λ(p:κ×V) (q:κ×Value)=>p.1=q.1/\RelV p.2 q.2
def kV:Key->V
 |.inl i=>.int i
 |.inr x=>.str x
inductive HO where
 |lst (xs:List V)
 |tup (xs:List V)
 |dK (kvs:List (Key×V))|dT (kvs:List (List Key×V))
 |set (S:Int->Bool) (n:Nat)
 |ins (C dx:Addr) (fs:List (Str×V))
 |own (x:Addr)
 |xd (fs:List (Str×V))
 |met (f x:Addr)
 |rng (lo hi:Int)
 |frz (o:Obj) (u:HO)
 |tbl (ps:Array Value)
 |ext (φ:Heap->Prop)
abbrev Hp:=Addr->Option HO
noncomputable def upd(H:Hp)(a:Addr)(o:HO):Hp:=λ b=>if b=a then some o else H b
def bP:upd H a o a=some o:=by unfold upd;rw[if_pos rfl]
def ay{a b:Addr}(h:b≠a):upd H a o b=H b:=by unfold upd;rw[if_neg h]
def iU{H:Hp}(h:H a=some o)(h':H b=none):a≠b:=by
 intro e;subst e;rw[h] at h';cases h'
noncomputable def TupO(h:Heap)(a:Addr)(its:Array Value):Prop:=∃o,h.get? a=some o/\(o.cls=.type "tuple" /\ ∃n,o.data=.seq its n)/\o.dict=none
def TupO.new(h:Heap)(its:Array Value):TupO (h.push { cls:=.type "tuple",data:=.seq its }) h.objs.size its:=⟨_,aR _ rfl,⟨rfl,0,rfl⟩,rfl⟩
def TupO.tup(t:TupO h a its):IsTup h a its:=let ⟨o,e,⟨c,n,d⟩,_⟩:=t;⟨o,e,c,n,d⟩
def TupO.lt(t:TupO h a its):a<h.objs.size:=t.tup.lt
section
variable (P:Program)(w:World)
noncomputable def ObjOk(H:Hp)(h:Heap)(a:Addr):HO->Prop
 |.lst xs=>xs.length<=sizeLine/\∃(its:LV) (n:Nat),Vals xs its/\h.get? a=some { cls:=.type "list",data:=.seq its.toArray n }
 |.tup xs=>xs.length<=sizeLine/\∃its:LV,Vals xs its/\TupO h a its.toArray
 |.dK kvs=>kvs.length<=sizeLine/\(a == sysModules)=false/\∃vs,KV kvs vs/\h.DictOf (qG P w) a vs
 |.dT kvs=>kvs.length<=sizeLine/\(a == sysModules)=false/\∃xs:List (List Key×Addr×Value),
   Paired (λ(p:List Key×V) (q:List Key×Addr×Value)=>p.1=q.1/\H q.2.1=some (.tup (p.1.map kV))/\RelV p.2 q.2.2) kvs xs /\
   ∃o es ep,h.get? a=some o/\o.ExactDict/\o.data=.dict es ep/\es.toList=xs.map (entryOfKey (tupleKind (qG P w)))/\(xs.map (·.1)).Nodup
 |.set S n=>h.SetOf (intKind P w) a S n
 |.ins C dx fs=>H dx=some (.own a)/\fs.length<=1000/\dx≠a/\h.get? a=some (W.instObj C dx) /\
   ∃mA,h.Ns1 dx mA/\(∀f,RelO (fs.lookup f) (mA f))/\PySem.Within mA (fs.map (·.1))
 |.own _=>∃o,h.get? a=some o
 |.xd fs=>∃mA,h.Ns1 a mA/\∀f,RelO (fs.lookup f) (mA f)
 |.rng lo hi=>∃t u v,h.get? a=some { cls:=.type "range",data:=.fields #[.int lo t,.int hi u,.int 1 v] }
 |.frz o u=>h.get? a=some o/\ObjOk H h a u
 |.tbl ps=>h.get? a=some { cls:=.none,data:=.fields ps }
 |.met f x=>h.get? a=some (W.methodObj (.ref f) (.ref x))
 |.ext φ=>φ h/\(∃o,h.get? a=some o)/\∀h1 h2:Heap,φ h1->(∀o,h1.get? a=some o->h2.get? a=some o)->φ h2
noncomputable def HOk(H:Hp)(h:Heap):Prop:=∀a o,H a=some o->ObjOk P w H h a o
end
section
variable {P:Program}{w:World}{H H':Hp}{h h':Heap}{a:Addr}{o:HO}
def ObjOk.lt(x:ObjOk P w H h a o):a<h.objs.size:=by
 cases o with
 |lst xs=>obtain⟨_,_,_,_,e⟩:=x;exact aB e
 |tup xs=>obtain⟨_,_,_,p⟩:=x;exact p.lt
 |dK kvs=>obtain⟨_,_,_,_,o,_,_,e,_⟩:=x;exact aB e
 |dT kvs=>obtain⟨_,_,_,_,o,_,_,e,_⟩:=x;exact aB e
 |set S n=>obtain⟨o,_,_,_,e,_⟩:=x;exact aB e
 |ins C dx fs=>obtain⟨_,_,_,e,_⟩:=x;exact aB e
 |own y=>obtain⟨_,e⟩:=x;exact aB e
 |xd fs=>obtain⟨_,⟨_,_,_,e,_⟩,_⟩:=x;exact aB e
 |rng lo hi=>obtain⟨_,_,_,e⟩:=x;exact aB e
 |frz ob u=>obtain⟨e,_⟩:=x;exact aB e
 |tbl ps=>exact aB (show h.get? a=some _ from x)
 |met f y=>exact aB (show h.get? a=some _ from x)
 |ext φ=>obtain⟨_,⟨_,e⟩,_⟩:=x;exact aB e
theorem Paired.mapP{α β:Type}{F G:α->β->Prop}:∀ {l₁:List α}{l₂:List β},Paired F l₁ l₂->(∀a b,F a b->G a b)->Paired G l₁ l₂
 |_,_,.nil,_=>.nil
 |_,_,.cons r t,f=>.cons (f _ _ r) (Paired.mapP t f)
theorem ObjOk.stay(x:ObjOk P w H h a o)(k:∀b u,(b=a\/H b=some (.own a))->h.get? b=some u->h'.get? b=some u)
  (ho:∀b,H b=some (.own a)->H' b=some (.own a)) (ht:∀b xs,H b=some (.tup xs)->H' b=some (.tup xs)):ObjOk P w H' h' a o:=by
 induction o with
 |lst xs=>obtain⟨z,its,n,r,e⟩:=x;exact⟨z,its,n,r,k _ _ (.inl rfl) e⟩
 |tup xs=>obtain⟨z,its,r,ob,e,c⟩:=x;exact⟨z,its,r,ob,k _ _ (.inl rfl) e,c⟩
 |dK kvs=>obtain⟨z,y,vs,r,ob,es,ep,e,c⟩:=x;exact⟨z,y,vs,r,ob,es,ep,k _ _ (.inl rfl) e,c⟩
 |dT kvs=>
  obtain⟨z,y,xs,r,ob,es,ep,e,c⟩:=x;exact⟨z,y,xs,Paired.mapP r λ p q z=>⟨z.1,ht _ _ z.2.1,z.2.2⟩,ob,es,ep,k _ _ (.inl rfl) e,c⟩
 |set S n=>obtain⟨ob,es,ep,t,e,c⟩:=x;exact⟨ob,es,ep,t,k _ _ (.inl rfl) e,c⟩
 |ins C dx fs=>
  obtain⟨d,z,ne,e,mA,⟨od,es,ep,e2,c⟩,r⟩:=x;exact⟨ho _ d,z,ne,k _ _ (.inl rfl) e,mA,⟨od,es,ep,k _ _ (.inr d) e2,c⟩,r⟩
 |own y=>obtain⟨ob,e⟩:=x;exact⟨ob,k _ _ (.inl rfl) e⟩
 |xd fs=>obtain⟨mA,⟨od,es,ep,e,c⟩,r⟩:=x;exact⟨mA,⟨od,es,ep,k _ _ (.inl rfl) e,c⟩,r⟩
 |rng lo hi=>obtain⟨t,u,v,e⟩:=x;exact⟨t,u,v,k _ _ (.inl rfl) e⟩
 |frz ob u ih=>obtain⟨e,q⟩:=x;exact⟨k _ _ (.inl rfl) e,ih q⟩
 |tbl ps=>
  have e:h.get? a=some { cls:=.none,data:=.fields ps }:=x;show h'.get? a=some { cls:=.none,data:=.fields ps };exact k a _ (.inl rfl) e
 |met f y=>
  have e:h.get? a=some (W.methodObj (.ref f) (.ref y)):=x;show h'.get? a=some (W.methodObj (.ref f) (.ref y));exact k a _ (.inl rfl) e
 |ext φ=>obtain⟨p,⟨o,e⟩,st⟩:=x;exact⟨st _ _ p λ o q=>k _ _ (.inl rfl) q,⟨o,k _ _ (.inl rfl) e⟩,st⟩
def HOk.lt(x:HOk P w H h)(e:H a=some o):a<h.objs.size:=(x a o e).lt
def HOk.fresh(x:HOk P w H h)(e:h.objs.size<=a):H a=none:=by
 cases q:H a with
 |none=>rfl
 |some u=>exact absurd (bC (x.lt q) e) (cQ _)
def HOk.kept(x:HOk P w H h)(k:∀b u,h.get? b=some u->h'.get? b=some u):HOk P w H h':=λ a o e=>
 (x a o e).stay (λ b u _ q=>k b u q) (λ _ q=>q) λ _ _ q=>q
def HOk.laid(x:HOk P w H h)(k:∀b u,h.get? b=some u->h'.get? b=some u)(hp:h.objs.size<=a)(new:ObjOk P w (upd H a o) h' a o):HOk P w (upd H a o) h':=λ b u e=>by
 have hn:=x.fresh hp;by_cases hb:b=a
 ·subst hb;rw[bP] at e;cases e;exact new
 ·rw[ay hb] at e;exact(x b u e).stay (λ c v _ q=>k c v q) (λ c q=>by rw[ay (iU q hn)];exact q) λ c xs q=>by rw[ay (iU q hn)];exact q
end
noncomputable def Rd(H:Hp)(a:Addr)(u:HO):Prop:=H a=some u\/∃o,H a=some (.frz o u)
def Rd.ok(r:Rd H a u)(x:HOk P w H h):ObjOk P w H h a u:=by
 rcases r with r|⟨o,r⟩
 ·exact x a u r
 ·obtain⟨_,q⟩:=x a _ r;exact q
noncomputable def Mut:Option HO->Prop
 |some (.lst _)=>True
 |some (.dK _)=>True
 |some (.dT _)=>True
 |some (.set _ _)=>True
 |some (.ins _ _ _)=>True
 |some (.ext _)=>True
 |_=>False
section
variable {P:Program}{w:World}{H:Hp}{h h':Heap}{x e:Addr}{o':HO}
theorem HOk.write(ok:HOk P w H h)(mu:Mut (H x))(he:e=x\/H e=some (.own x))(k:∀b u,b≠e->h.get? b=some u->h'.get? b=some u)(heo:∃u,h'.get? e=some u)
  (new:ObjOk P w (upd H x o') h' x o'):HOk P w (upd H x o') h':=λ b u q=>by
 have nown:∀c y,H c=some (.own y)->c≠x:=λ c y r z=>by subst z;rw[r] at mu;exact mu
 have ntup:∀c xs,H c=some (.tup xs)->c≠x:=λ c xs r z=>by subst z;rw[r] at mu;exact mu
 by_cases hb:b=x
 ·subst hb;rw[bP] at q;cases q;exact new
 ·rw[ay hb] at q;by_cases hbe:b=e
  ·have q':H b=some (.own x):=by
    rcases he with z|z
    ·exact absurd (hbe.trans z) hb
    ·rw[hbe];exact z
   rw[q] at q';cases q';obtain⟨v,hv⟩:=heo;exact⟨v,by rw[hbe];exact hv⟩
  ·refine(ok b u q).stay (λ c v hc r=>k c v ?_ r) (λ c r=>by rw[ay (nown c b r)];exact r) λ c xs r=>by rw[ay (ntup c xs r)];exact r
   rcases hc with rfl|hc
   ·exact hbe
   ·rintro rfl
    rcases he with z|z
    ·exact nown c b hc z
    ·rw[hc] at z;cases z;exact hb rfl
end
structure Un (fs ex:List Addr)(H H':Hp)(h h':Heap):Prop where
 keep:∀b o,h.get? b=some o->H b=none->b ∉ fs->b ∉ ex->h'.get? b=some o
 slot:∀b o,h.get? b=some o->H b=none->b∈fs->b ∉ ex->∃sl,h'.get? b=some { o with slots:=sl }
 free:∀b o,h.get? b=some o->H b=none->b ∉ ex->H' b=none
 there:∀b o,h.get? b=some o->b ∉ ex->∃o',h'.get? b=some o'
 tups:∀b xs,H b=some (.tup xs)->H' b=some (.tup xs)
 frzs:∀b o u,H b=some (.frz o u)->H' b=some (.frz o u)
 tbls:∀b ps,H b=some (.tbl ps)->∃more,H' b=some (.tbl (ps++more))
section
variable {fs fs' ex ex':List Addr}{H H1 H2:Hp}{h h1 h2 h':Heap}{a x e:Addr}{o:HO}
def Un.any(u:Un fs ex H H1 h h1){b:Addr}(q:h.get? b=some ob)(n:H b=none)(hx:b ∉ ex):∃sl,h1.get? b=some { ob with slots:=sl }:=by
 by_cases hb:b∈fs
 ·exact u.slot b ob q n hb hx
 ·exact⟨ob.slots,u.keep b ob q n hb hx⟩
def Un.kept(k:∀b u,h.get? b=some u->h'.get? b=some u):Un fs ex H H h h' :=
 ⟨λ b ob q _ _ _=>k b ob q,λ b ob q _ _ _=>⟨ob.slots,k b ob q⟩,λ _ _ _ n _=>n,λ b ob q _=>⟨ob,k b ob q⟩,λ _ _ q=>q,λ _ _ _ q=>q,λ _ ps q=>⟨#[],by rw[q];simp⟩⟩
def Un.refl:Un fs ex H H h h:=Un.kept λ _ _ q=>q
theorem Un.laid(k:∀b u,h.get? b=some u->h'.get? b=some u)(hp:h.objs.size<=a)(hn:H a=none):Un fs ex H (upd H a o) h h' where
 keep:=λ b u q _ _ _=>k b u q
 slot:=λ b u q _ _ _=>⟨u.slots,k b u q⟩
 free:=λ b u q n _=>by rw[ay (aZ (bC (aB q) hp))];exact n
 there:=λ b u q _=>⟨u,k b u q⟩
 tups:=λ b xs q=>by rw[ay (iU q hn)];exact q
 frzs:=λ b u xs q=>by rw[ay (iU q hn)];exact q
 tbls:=λ b ps q=>⟨#[],by rw[ay (iU q hn),q];simp⟩
def Un.write(mu:Mut (H x))(he:e=x\/H e=some (.own x))(k:∀b u,b≠e->h.get? b=some u->h'.get? b=some u)(heo:∃u,h'.get? e=some u):Un fs ex H (upd H x o) h h':=by
 have hx:∀b,H b=none->b≠x:=λ b n z=>by subst z;rw[n] at mu;exact mu
 have hb:∀b,H b=none->b≠e:=λ b n z=>by
  subst z
  rcases he with r|r
  ·exact hx b n r
  ·rw[n] at r;cases r
 have hm:∀b u,H b=some u->¬Mut (some u)->b≠x:=λ b u q nm z=>by subst z;rw[q] at mu;exact nm mu
 refine⟨λ b u q n _ _=>k b u (hb b n) q,λ b u q n _ _=>⟨u.slots,k b u (hb b n) q⟩,λ b u q n _=>by rw[ay (hx b n)];exact n,λ b u q _=>?_,
  λ b xs q=>by rw[ay (hm b _ q λ z=>z)];exact q,λ b u xs q=>by rw[ay (hm b _ q λ z=>z)];exact q,λ b ps q=>⟨#[],by rw[ay (hm b _ q λ z=>z),q];simp⟩⟩
 by_cases hbe:b=e
 ·subst hbe;exact heo
 ·exact⟨u,k b u hbe q⟩
end
noncomputable def trk(h:Heap)(H:Hp):List Addr:=(List.range h.objs.size).filter λ a=>(H a).isSome
def eR(h:Heap)(H:Hp):Heap:=W.hideAll h (trk h H)
def BG(h:Heap)(H:Hp):(eR h H).objs.size=h.objs.size:=W.hideAll_size _ _
def BH{h:Heap}{H:Hp}{b:Addr}(e:h.get? b=some o)(n:H b=none):(eR h H).get? b=some o :=
 nP _ e λ hm=>by
  have q:(H b).isSome=true:=(gZ.mp hm).2;rw[n] at q;simp at q
def uz{b:Addr}(e:(eR h H).get? b=some o):h.get? b=some o/\H b=none:=by
 have e':h.get? b=some o:=W.of_hideAll (trk h H) e;refine⟨e',?_⟩
 cases q:H b with
 |none=>rfl
 |some x=>
  have hm:b∈trk h H:=gZ.mpr ⟨eV.mpr (aB e'),by simp[q]⟩;have z:(eR h H).get? b=none:=W.hideAll_none (trk h H) hm;rw[z] at e;cases e
noncomputable def BJ(g h:Heap)(L:Addr):LO:=(List.range h.objs.size).filterMap λ a=>if a=L\/(g.get? a).isSome=true then none else (h.get? a).map λ o=>(a,o)
noncomputable def rest(g h:Heap)(L d:Addr):LO:=(BJ g h L).filter λ p=>decide (p.1≠d)
structure Mod (K:FG)(mg:SV)(base:Heap):Prop where
 kin:K.In base
 glob:base.Ns mainGlobals mg
 blt:∃mb,base.Ns builtinsNs mb/\∀x:Str,x ≠ "__name__" -> mb x=bootBuiltins x
 nolimit:base.NoLimit
structure Cx where
 prog:Program
 w:World
 K:FG
 mg:SV
 base:Heap
 A:Around
 N:List Str
 s₀:Shared
 H₀:Hp
 env:Env
 outer:List Env
 stack:List Env
 ex:List Addr
 fn:Str->Bool
 calm:Bool
 pn:LO
 xe:VS
def frs(l:List Env):List Addr:=l.filterMap (·.frame)
abbrev Cx.fs(X:Cx):List Addr:=frs X.outer
noncomputable def Vis(sc:Scope)(x:Str):Prop:=sc.names.lookup x=some .local\/sc.names.lookup x=some .cell\/sc.names.lookup x=some .free
noncomputable def Loc(sc:Scope)(x:Str):Prop:=sc.names.lookup x=some .local\/sc.names.lookup x=some .cell
noncomputable def BK(env:Env)(h:Heap)(m:SV)(x:Str)(u:Value):Prop :=
 (env.kindOf x=some .local/\m x=some u)\/((env.kindOf x=some .cell\/env.kindOf x=some .free)/\∃c,env.cells.lookup x=some c/\h.IsCell c (some u))
structure Cx.Ok (X:Cx):Prop where
 mod:Mod X.K X.mg X.base
 kind:X.env.scope.kind=.function
 glob:X.env.globals=mainGlobals
 blt:X.env.builtins=builtinsNs
 above:X.s₀.heap.objs.size<=X.env.locals
 inj:∀x y c,X.env.cells.lookup x=some c->X.env.cells.lookup y=some c->x=y
 has:∀x,(X.env.kindOf x=some .cell\/X.env.kindOf x=some .free)->∃c,X.env.cells.lookup x=some c
 cab:∀x c,X.fn x=true->X.env.cells.lookup x=some c->X.s₀.heap.objs.size<=c
 hd:X.calm=true->X.A.handled=none
 frames:X.A.frames=some X.stack
 stk:X.stack=X.outer\/(X.stack=X.env::X.outer/\X.env.frame=some X.env.locals)
 exf:∀b∈X.ex,b≠X.env.locals/\∀x c,X.env.cells.lookup x=some c->c≠b
 bs:∀b o,X.base.get? b=some o->X.s₀.heap.get? b=some o/\X.H₀ b=none
 bsz:X.base.objs.size<=X.s₀.heap.objs.size
 noex:∀b o,X.base.get? b=some o->b ∉ X.ex
 exfs:∀b∈X.ex,b ∉ X.fs
 funs:X.s₀.heap.FunFrames X.base X.outer
 frf:∀b∈X.fs,X.H₀ b=none
structure Inv (X:Cx)(pins:LO)(σ:List (Option V))(H:Hp)(s:Shared):Prop where
 ok:X.Ok
 os:s.os=X.s₀.os
 bare:AllBare s.gens
 base:Un X.fs X.ex X.H₀ H X.s₀.heap s.heap
 loc:∃m,s.heap.Ns X.env.locals m/\∀(i:Nat) (x:Str) (v:V),X.N[i]?=some x->σ[i]?=some (some v)->Vis X.env.scope x->∃u,RelV v u/\BK X.env s.heap m x u
 cell:∀x c,X.env.cells.lookup x=some c->∃v,s.heap.IsCell c v
 free:H X.env.locals=none
 freeC:∀x c,X.env.cells.lookup x=some c->H c=none
 pin:∀p∈X.pn++pins,s.heap.get? p.1=some p.2/\H p.1=none/\p.1≠X.env.locals/\p.1 ∉ X.fs/\∀v,p.2.data≠.cell v
 hok:HOk X.prog X.w H s.heap
 len:σ.length=X.N.length
variable {X:Cx}
section
variable {pins:LO}{σ:List (Option V)}{H H':Hp}{s:Shared}{h':Heap}
def Cx.Ok.nofr(ok:X.Ok){b:Addr}(e:X.base.get? b=some o):b ∉ X.fs:=λ hb=>by
 have:=(ok.funs.mem hb).1;rw[e] at this;cases this
def Inv.bs(I:Inv X pins σ H s):∀b o,X.base.get? b=some o->s.heap.get? b=some o/\H b=none:=λ b o e=>
 ⟨I.base.keep b o (I.ok.bs b o e).1 (I.ok.bs b o e).2 (I.ok.nofr e) (I.ok.noex b o e),I.base.free b o (I.ok.bs b o e).1 (I.ok.bs b o e).2 (I.ok.noex b o e)⟩
def Inv.bk(I:Inv X pins σ H s):∀b o,X.base.get? b=some o->s.heap.get? b=some o:=λ b o e=>(I.bs b o e).1
def Inv.mod(I:Inv X pins σ H s):Mod X.K X.mg X.base:=I.ok.mod
def Inv.kIn(I:Inv X pins σ H s):X.K.In s.heap:=I.ok.mod.kin.keeps I.bk
def Inv.lt(I:Inv X pins σ H s):X.env.locals<s.heap.objs.size:=let ⟨_,hn,_⟩:=I.loc;hn.lt
def Inv.sz(I:Inv X pins σ H s):X.s₀.heap.objs.size<=s.heap.objs.size:=cI I.ok.above (dq I.lt)
def Inv.nofs(I:Inv X pins σ H s){a:Addr}(h:s.heap.objs.size<=a):a ∉ X.fs:=λ hb=>by
 obtain⟨_,o,ho,_⟩:=I.ok.funs.mem hb;exact absurd (bC (aB ho) (cI I.sz h)) (cQ _)
def Inv.cne(I:Inv X pins σ H s):∀x c,X.env.cells.lookup x=some c->c≠X.env.locals:=λ x c e z=>by
 obtain⟨v,o,ho,hd⟩:=I.cell x c e;obtain⟨m,⟨o',es,ep,ho',hd',_⟩,_⟩:=I.loc;rw[z,ho'] at ho;cases ho;rw[hd'] at hd;cases hd
def Inv.funs(I:Inv X pins σ H s):s.heap.FunFrames X.base X.outer:=by
 have all:∀(l:List Env),(∀b∈frs l,b∈X.fs)->X.s₀.heap.FunFrames X.base l->s.heap.FunFrames X.base l:=by
  intro l
  induction l with
  |nil=>intro _ _;trivial
  |cons env r ih=>
   intro hs hl;obtain⟨hk,⟨L,o,hf,hn,ho,hd⟩,hr⟩:=hl;have hL:L∈X.fs:=hs L (by unfold frs;rw[qH,hf];exact bz);obtain⟨sl,e⟩:=I.base.slot L o ho (I.ok.frf L hL) hL λ z=>I.ok.exfs L z hL;exact⟨hk,⟨L,_,hf,hn,e,hd⟩,ih (λ b hb=>hs b (by unfold frs;rw[qH,hf];exact aW _ hb)) hr⟩
 exact all X.outer (λ _ hb=>hb) I.ok.funs
def Inv.stack(I:Inv X pins σ H s):s.heap.FunFrames X.base X.stack:=by
 rcases I.ok.stk with e|⟨e,hf⟩
 ·rw[e];exact I.funs
 ·rw[e];obtain⟨m,hn,_⟩:=I.loc;refine .cons (by rw[I.ok.kind];decide) hf hn ?_ I.funs;exact Heap.get?_none_of_le (cI I.ok.bsz I.ok.above)
def Inv.stkSub(I:Inv X pins σ H s):∀b∈frs X.stack,b∈X.env.locals::X.fs:=λ b hb=>by
 rcases I.ok.stk with e|⟨e,hf⟩
 ·rw[e] at hb;exact aW _ hb
 ·rw[e] at hb;unfold frs at hb;rw[qH,hf] at hb;exact hb
def Inv.stkFree(I:Inv X pins σ H s):∀b∈frs X.stack,H b=none:=λ b hb=>by
 rcases bf.mp (I.stkSub b hb) with e|hb
 ·rw[e];exact I.free
 ·obtain⟨_,o,ho,_⟩:=I.ok.funs.mem hb;exact I.base.free b o ho (I.ok.frf b hb) λ z=>I.ok.exfs b z hb
theorem Inv.step{t':Nat}{d':Drawn}{ch:List Addr}(I:Inv X pins σ H s)
  (hch:∀b∈ch,(b∈X.ex\/X.s₀.heap.objs.size<=b)/\b≠X.env.locals/\(∀x c,X.env.cells.lookup x=some c->c≠b)/\∀p∈X.pn++pins,p.1≠b)
  (keep:∀b o,b≠X.env.locals->b ∉ X.fs->b ∉ ch->s.heap.get? b=some o->H b=none->h'.get? b=some o)
  (slot:∀b o,b≠X.env.locals->b∈X.fs->b ∉ ch->s.heap.get? b=some o->H b=none->∃sl,h'.get? b=some { o with slots:=sl }) (free:∀b o,b ∉ ch->s.heap.get? b=some o->H b=none->H' b=none)
  (there:∀b o,b ∉ ch->s.heap.get? b=some o->∃o',h'.get? b=some o')
  (tups:∀b xs,H b=some (.tup xs)->H' b=some (.tup xs)) (frzs:∀b o u,H b=some (.frz o u)->H' b=some (.frz o u)) (tbls:∀b ps,H b=some (.tbl ps)->∃more,H' b=some (.tbl (ps++more)))
  (ns:∀m,s.heap.Ns X.env.locals m->h'.Ns X.env.locals m) (hok:HOk X.prog X.w H' h') (hg:AllBare g') :
  Inv X pins σ H' { s with heap:=h',gens:=g',drawn:=d',toks:=t' }:=by
 have neL:∀b o,X.s₀.heap.get? b=some o->b≠X.env.locals:=λ b o e=>aZ (bC (aB e) I.ok.above)
 have neC:∀b o,X.s₀.heap.get? b=some o->b ∉ X.ex->b ∉ ch:=λ b o e hx hb=>by
  rcases(hch b hb).1 with z|z
  ·exact hx z
  ·exact absurd (bC (aB e) z) (cQ _)
 have cellK:∀x c,X.env.cells.lookup x=some c->∀v,s.heap.IsCell c v->h'.IsCell c v:=λ x c e v ⟨o,ho,hd⟩=>by
  have nch:c ∉ ch:=λ z=>(hch c z).2.2.1 x c e rfl;by_cases hc:c∈X.fs
  ·obtain⟨sl,q⟩:=slot c o (I.cne x c e) hc nch ho (I.freeC x c e);exact⟨_,q,hd⟩
  ·exact⟨o,keep c o (I.cne x c e) hc nch ho (I.freeC x c e),hd⟩
 refine⟨I.ok,I.os,hg,⟨λ b o e n hb hx=>?_,λ b o e n hb hx=>?_,λ b o e n hx=>?_,λ b o e hx=>?_,λ b xs e=>tups b xs (I.base.tups b xs e),λ b o xs e=>frzs b o xs (I.base.frzs b o xs e),λ b ps e=>?_⟩,?_,λ x c e=>?_,?_,λ x c e=>?_,λ p hp=>?_,hok,I.len⟩
 ·exact keep b o (neL b o e) hb (neC b o e hx) (I.base.keep b o e n hb hx) (I.base.free b o e n hx)
 ·obtain⟨sl,e1⟩:=I.base.slot b o e n hb hx;obtain⟨sl',e2⟩:=slot b _ (neL b o e) hb (neC b o e hx) e1 (I.base.free b o e n hx);exact⟨sl',e2⟩
 ·obtain⟨o',e1⟩:=I.base.there b o e hx;exact free b o' (neC b o e hx) e1 (I.base.free b o e n hx)
 ·obtain⟨o',e1⟩:=I.base.there b o e hx;exact there b o' (neC b o e hx) e1
 ·obtain⟨m1,e1⟩:=I.base.tbls b ps e;obtain⟨m2,e2⟩:=tbls b _ e1;exact⟨m1++m2,by rw[e2,s1b]⟩
 ·obtain⟨m,hn,hl⟩:=I.loc;refine⟨m,ns m hn,λ i x v e1 e2 e3=>?_⟩;obtain⟨u,r,l⟩:=hl i x v e1 e2 e3;refine⟨u,r,?_⟩
  rcases l with l|⟨k,c,e,z⟩
  ·exact .inl l
  ·exact .inr ⟨k,c,e,cellK x c e _ z⟩
 ·obtain⟨v,z⟩:=I.cell x c e;exact⟨v,cellK x c e v z⟩
 ·obtain⟨m,⟨o,_,_,ho,_⟩,_⟩:=I.loc;exact free _ o (λ z=>(hch _ z).2.1 rfl) ho I.free
 ·obtain⟨v,o,ho,hd⟩:=I.cell x c e;exact free c o (λ z=>(hch c z).2.2.1 x c e rfl) ho (I.freeC x c e)
 ·obtain⟨e,n,ne,nf,d⟩:=I.pin p hp;have nch:p.1 ∉ ch:=λ z=>(hch p.1 z).2.2.2 p hp rfl;exact⟨keep p.1 p.2 ne nf nch e n,free p.1 p.2 nch e n,ne,nf,d⟩
def Inv.un{t':Nat}(I:Inv X pins σ H s)(u:Un X.fs [] H H' s.heap h')(hok:HOk X.prog X.w H' h'):Inv X pins σ H' { s with heap:=h',toks:=t' }:=by
 obtain⟨m,⟨o,es,ep,ho,r⟩,_⟩:=id I.loc;obtain⟨sl,hL⟩:=u.any ho I.free pv
 exact I.step (g':=s.gens) (d':=s.drawn) (ch:=[]) (λ _ z=>nomatch z) (λ b o _ hb _ e n=>u.keep b o e n hb pv) (λ b o _ hb _ e n=>u.slot b o e n hb pv) (λ b o _ e n=>u.free b o e n pv) (λ b o _ e=>u.there b o e pv) u.tups u.frzs u.tbls (λ m' hm=>by
  obtain⟨o',es',ep',ho',r'⟩:=hm;rw[ho] at ho';cases ho'
  exact⟨_,es',ep',hL,r'⟩) hok I.bare
theorem Inv.call{t':Nat}{d':Drawn}(I:Inv X pins σ H s)(u:Un (frs X.stack) ch H H' s.heap h')(hok:HOk X.prog X.w H' h')(hg:AllBare g')
  (hch:∀b∈ch,(b∈X.ex\/X.s₀.heap.objs.size<=b)/\b≠X.env.locals/\(∀x c,X.env.cells.lookup x=some c->c≠b)/\∀p∈X.pn++pins,p.1≠b) :
  Inv X pins σ H' { s with heap:=h',gens:=g',drawn:=d',toks:=t' }:=by
 obtain⟨m,⟨o,es,ep,ho,r⟩,_⟩:=id I.loc;obtain⟨sl,hL⟩:=u.any ho I.free λ z=>(hch _ z).2.1 rfl
 exact I.step (ch:=ch) hch (λ b o hL hb hc e n=>u.keep b o e n (λ z=>(bf.mp (I.stkSub b z)).elim hL hb) hc) (λ b o _ _ hc e n=>u.any e n hc) (λ b o hc e n=>u.free b o e n hc) (λ b o hc e=>u.there b o e hc) u.tups u.frzs u.tbls (λ m' hm=>by
  obtain⟨o',es',ep',ho',r'⟩:=hm;rw[ho] at ho';cases ho'
  exact⟨_,es',ep',hL,r'⟩) hok hg
theorem Inv.turned{t':Nat}{it:Addr}(I:Inv X pins σ H s)(k:∀b o,b≠it->s.heap.get? b=some o->h'.get? b=some o)(hn:H it=none)(hL:it≠X.env.locals)
  (h1:it∈X.ex\/X.s₀.heap.objs.size<=it) (h2:∀x c,X.env.cells.lookup x=some c->c≠it) (h3:∀p∈X.pn++pins,p.1≠it):Inv X pins σ H { s with heap:=h',toks:=t' }:=by
 have nit:∀b u,H b=some u->b≠it:=λ b u e z=>by rw[z,hn] at e;cases e
 refine I.step (g':=s.gens) (d':=s.drawn) (ch:=[it]) (λ b hb=>?_) (λ b o _ _ hc e _=>k b o (λ z=>hc (by simp[z])) e) (λ b o _ _ hc e _=>⟨o.slots,k b o (λ z=>hc (by simp[z])) e⟩) (λ _ _ _ _ n=>n)
  (λ b o hc e=>⟨o,k b o (λ z=>hc (by simp[z])) e⟩) (λ _ _ e=>e) (λ _ _ _ e=>e) (λ b ps e=>⟨#[],by rw[e];simp⟩) (λ m hm=>?_) (λ b u e=>?_) I.bare
 ·have e:b=it:=by simpa using hb
  subst e;exact⟨h1,hL,h2,h3⟩
 ·obtain⟨o,es,ep,ho,r⟩:=hm;exact⟨o,es,ep,k _ o (bW hL) ho,r⟩
 ·refine(I.hok b u e).stay (λ c v hc q=>k c v ?_ q) (λ _ q=>q) λ _ _ q=>q
  rcases hc with z|z
  ·rw[z];exact nit b u e
  ·exact nit c _ z
def Inv.tok(I:Inv X pins σ H s)(t:Nat):Inv X pins σ H { s with toks:=t }:=I.un (h':=s.heap) (t':=t) Un.refl I.hok
def Inv.kept{t':Nat}(I:Inv X pins σ H s)(k:∀b u,s.heap.get? b=some u->h'.get? b=some u):Inv X pins σ H { s with heap:=h',toks:=t' }:=I.un (Un.kept k) (I.hok.kept k)
theorem Inv.laid{a:Addr}{t':Nat}(I:Inv X pins σ H s)(k:∀b u,s.heap.get? b=some u->h'.get? b=some u)(hp:s.heap.objs.size<=a)(new:ObjOk X.prog X.w (upd H a o) h' a o) :
  Inv X pins σ (upd H a o) { s with heap:=h',toks:=t' }:=I.un (Un.laid k hp (I.hok.fresh hp)) (I.hok.laid k hp new)
theorem Inv.write{x e:Addr}{t':Nat}(I:Inv X pins σ H s)(mu:Mut (H x))(he:e=x\/H e=some (.own x))(k:∀b u,b≠e->s.heap.get? b=some u->h'.get? b=some u)(heo:∃u,h'.get? e=some u)
  (new:ObjOk X.prog X.w (upd H x o) h' x o):Inv X pins σ (upd H x o) { s with heap:=h',toks:=t' }:=I.un (Un.write mu he k heo) (I.hok.write mu he k heo new)
def Inv.pins_of{pins':LO}(I:Inv X pins σ H s)(h:∀p∈pins',s.heap.get? p.1=some p.2/\H p.1=none/\p.1≠X.env.locals/\p.1 ∉ X.fs/\∀v,p.2.data≠.cell v):Inv X pins' σ H s :=
 ⟨I.ok,I.os,I.bare,I.base,I.loc,I.cell,I.free,I.freeC,λ p hp=>(cJ.mp hp).elim (λ z=>I.pin p (iV _ z)) (h p),I.hok,I.len⟩
def uA{N:List Str}(hN:N.Nodup){i j:Nat}(a:N[i]?=some x)(b:N[j]?=some x):i=j:=by
 obtain⟨h1,e1⟩:=be.mp a;obtain⟨h2,e2⟩:=be.mp b;exact(List.getElem_inj hN).mp (e1.trans e2.symm)
theorem qI{i:Nat}{Q:Unit->Shared->Prop}(I:Inv X pins σ H s)(hN:X.N.Nodup)(hi:X.N[i]?=some x)(hx:Loc X.env.scope x)(r:RelV v u)
  (h:∀s',Inv X pins (σ.set i (some v)) H s'->(∃a,Heap.SameBut a s.heap s'.heap/\(a=X.env.locals\/X.env.cells.lookup x=some a))->Q () s') (hf:X.fn x=true\/X.env.scope.names.lookup x=some .local:=by first|exact .inl rfl|exact .inr rfl|assumption):wpAny M A (storeName X.env x u) Q E s:=by
 obtain⟨m,hn,hl⟩:=id I.loc;have hcls:(X.env.scope.kind == .class || (X.env.scope.kind == .module&&X.env.locals != X.env.globals))=false:=by rw[I.ok.kind];rfl
 have hiσ:i<σ.length:=by rw[I.len];exact(be.mp hi).1
 have cne:=I.cne
 have tracked:∀ {a:Addr}{h':Heap},(∃o,s.heap.get? a=some o/\H a=none)->Heap.SameBut a s.heap h'->HOk X.prog X.w H h':=λ {a h'} ha hs b ob e=>by
  obtain⟨_,_,hfree⟩:=ha;refine(I.hok b ob e).stay (λ c w' hc q=>(hs.2 c ?_).trans q) (λ _ q=>q) λ _ _ q=>q;rintro rfl
  rcases hc with rfl|hc
  ·rw[hfree] at e;cases e
  ·rw[hfree] at hc;cases hc
 rcases hx with hk|hk
 ·refine uB hk hn (λ h' hn' hs=>?_) hcls;obtain⟨oL,_,_,hoL,_⟩:=id hn;refine h _ ⟨I.ok,I.os,I.bare,⟨λ b o e n hb hx=>?_,λ b o e n hb hx=>?_,I.base.free,λ b o e hx=>?_,I.base.tups,I.base.frzs,I.base.tbls⟩,⟨_,hn',λ j y v' e1 e2 e3=>?_⟩,λ y c e=>?_,I.free,I.freeC,λ p hp=>?_,tracked ⟨oL,hoL,I.free⟩ hs,by simpa using I.len⟩ ⟨_,hs,.inl rfl⟩
  ·exact(hs.2 b (aZ (bC (aB e) I.ok.above))).trans (I.base.keep b o e n hb hx)
  ·obtain⟨sl,e1⟩:=I.base.slot b o e n hb hx;exact⟨sl,(hs.2 b (aZ (bC (aB e) I.ok.above))).trans e1⟩
  ·obtain⟨o',e1⟩:=I.base.there b o e hx;exact⟨o',(hs.2 b (aZ (bC (aB e) I.ok.above))).trans e1⟩
  ·by_cases hj:j=i
   ·subst hj;rw[hi] at e1;cases e1;rw[eW hiσ] at e2;cases e2;exact⟨u,r,.inl ⟨hk,pv⟩⟩
   ·rw[eX (bW hj)] at e2;obtain⟨u',r',q⟩:=hl j y v' e1 e2 e3;refine⟨u',r',?_⟩
    rcases q with ⟨k,e⟩|⟨k,c,e,z⟩
    ·refine .inl ⟨k,?_⟩;have:y≠x:=λ e=>hj (uA hN e1 (e ▸ hi));simp[this,e]
    ·exact .inr ⟨k,c,e,z.sameBut hs (cne y c e)⟩
  ·obtain⟨w',z⟩:=I.cell y c e;exact⟨w',z.sameBut hs (cne y c e)⟩
  ·obtain⟨e,n,ne,nf,d⟩:=I.pin p hp;exact⟨(hs.2 p.1 ne).trans e,n,ne,nf,d⟩
 ·have hfn:X.fn x=true:=by
   rcases hf with z|z
   ·exact z
   ·rw[z] at hk;cases hk
  obtain⟨c,hc⟩:=I.ok.has x (.inl hk);obtain⟨w',z⟩:=I.cell x c hc;refine s0g I.ok.kind hk hc z (λ h' hc' hs=>?_);obtain⟨oc,hoc,hocd⟩:=id z;refine h { s with heap:=h' } ⟨I.ok,I.os,I.bare,⟨λ b o e n hb hx=>?_,λ b o e n hb hx=>?_,I.base.free,λ b o e hx=>?_,I.base.tups,I.base.frzs,I.base.tbls⟩,⟨m,hn.sameBut hs (bW (cne x c hc)),λ j y v' e1 e2 e3=>?_⟩,λ y c' e=>?_,I.free,I.freeC,λ p hp=>?_,tracked ⟨oc,hoc,I.freeC x c hc⟩ hs,by simpa using I.len⟩ ⟨c,hs,.inr hc⟩
  ·exact(hs.2 b (aZ (bC (aB e) (I.ok.cab x c hfn hc)))).trans (I.base.keep b o e n hb hx)
  ·obtain⟨sl,e1⟩:=I.base.slot b o e n hb hx;exact⟨sl,(hs.2 b (aZ (bC (aB e) (I.ok.cab x c hfn hc)))).trans e1⟩
  ·obtain⟨o',e1⟩:=I.base.there b o e hx;exact⟨o',(hs.2 b (aZ (bC (aB e) (I.ok.cab x c hfn hc)))).trans e1⟩
  ·by_cases hj:j=i
   ·subst hj;rw[hi] at e1;cases e1;rw[eW hiσ] at e2;cases e2;exact⟨u,r,.inr ⟨.inl hk,c,hc,hc'⟩⟩
   ·rw[eX (bW hj)] at e2;obtain⟨u',r',q⟩:=hl j y v' e1 e2 e3;refine⟨u',r',?_⟩
    rcases q with q|⟨k,c',e,z'⟩
    ·exact .inl q
    ·refine .inr ⟨k,c',e,z'.sameBut hs ?_⟩;rintro rfl;exact hj (uA hN e1 (I.ok.inj _ _ _ e hc ▸ hi))
  ·by_cases hcc:c'=c
   ·subst hcc;exact⟨_,hc'⟩
   ·obtain⟨w2,z2⟩:=I.cell y c' e;exact⟨w2,z2.sameBut hs hcc⟩
  ·obtain⟨e,n,ne,nf,d⟩:=I.pin p hp;refine⟨(hs.2 p.1 ?_).trans e,n,ne,nf,d⟩;intro q;rw[q,hoc] at e;have q':oc=p.2:=bj e;exact d w' (by rw[<- q'];exact hocd)
theorem qJ{i:Nat}{Q:Unit->Shared->Prop}(I:Inv X pins σ H s)(hN:X.N.Nodup)(hi:X.N[i]?=some x)(hx:Loc X.env.scope x)(r:RelV v u)
  (h:∀s',Inv X pins (σ.set i (some v)) H s'->Q () s') (hf:X.fn x=true\/X.env.scope.names.lookup x=some .local:=by first|exact .inl rfl|exact .inr rfl|assumption):wpAny M A (storeName X.env x u) Q E s :=
 qI I hN hi hx r (λ s' I' _=>h s' I') hf
theorem Inv.call'{s':Shared}(I:Inv X pins σ H s)(ho:s'.os=s.os)(u:Un (frs X.stack) ch H H' s.heap s'.heap)(hok:HOk X.prog X.w H' s'.heap)(hg:AllBare s'.gens)
  (hch:∀b∈ch,(b∈X.ex\/X.s₀.heap.objs.size<=b)/\b≠X.env.locals/\(∀x c,X.env.cells.lookup x=some c->c≠b)/\∀p∈X.pn++pins,p.1≠b):Inv X pins σ H' s':=by
 obtain⟨h',g',d',t',o'⟩:=s';have e:o'=s.os:=ho;subst e;exact I.call (g':=g') (t':=t') (d':=d') u hok hg hch
end
abbrev XK:=Value->OA->Hp->Prop
abbrev St:=List (Option V)
abbrev VK:=V->Hp->Prop
abbrev TE:=St->Hp->VK->Prop
abbrev TT:=St->Hp->(Bool->Hp->Prop)->Prop
abbrev TA:=St->Hp->(List V->Hp->Prop)->Prop
structure Ends where
 nx:St->Hp->Prop
 rt:VK
 bk:St->Hp->Prop:=λ _ _=>False
 ct:St->Hp->Prop:=λ _ _=>False
abbrev TS:=Ends->St->Hp->Prop
noncomputable def EP(X:Cx)(pins:LO)(σ:St)(Q:VK)(u:Value)(s':Shared):Prop:=∃v H',Inv X pins σ H' s'/\RelV v u/\Q v H'
noncomputable def TP(X:Cx)(pins:LO)(σ:St)(Q:Bool->Hp->Prop)(b:Bool)(s':Shared):Prop:=∃H',Inv X pins σ H' s'/\Q b H'
noncomputable def AP(X:Cx)(pins:LO)(σ:St)(Q:List V->Hp->Prop)(us:LV)(s':Shared):Prop:=∃vs H',Inv X pins σ H' s'/\Vals vs us/\Q vs H'
noncomputable def SP(X:Cx)(pins:LO)(D:Ends)(f:Flow)(s':Shared):Prop :=
 match f with
 |.next=>∃σ' H',Inv X pins σ' H' s'/\D.nx σ' H'
 |.brk=>∃σ' H',Inv X pins σ' H' s'/\D.bk σ' H'
 |.cont=>∃σ' H',Inv X pins σ' H' s'/\D.ct σ' H'
 |.ret u=>∃v σ' H',Inv X pins σ' H' s'/\RelV v u/\D.rt v H'
noncomputable def PE(X:Cx)(e:Expr)(t:TE):Prop :=
 ∀(pins:LO) (s:Shared) (σ:St) (H:Hp) (Q:VK),Inv X pins σ H s->t σ H Q->wpAny (model X.prog X.w) X.A (eval e X.env) (EP X pins σ Q) X.xe s
noncomputable def PT(X:Cx)(e:Expr)(t:TT):Prop :=
 ∀(pins:LO) (s:Shared) (σ:St) (H:Hp) (Q:Bool->Hp->Prop),Inv X pins σ H s->t σ H Q->wpAny (model X.prog X.w) X.A (isTrue e X.env (eval e X.env)) (TP X pins σ Q) X.xe s
noncomputable def PW(X:Cx)(e:Expr)(t:TT):Prop :=
 ∀(whole:Sem Value) (pins:LO) (s:Shared) (σ:St) (H:Hp) (Q:Bool->Hp->Prop),Inv X pins σ H s->t σ H Q->wpAny (model X.prog X.w) X.A (isTrue e X.env whole) (TP X pins σ Q) X.xe s
def PW.pt(h:PW X e t):PT X e t:=h _
noncomputable def PA(X:Cx)(es:List Expr)(t:TA):Prop :=
 ∀(pos:Pos) (pins:LO) (s:Shared) (σ:St) (H:Hp) (Q:List V->Hp->Prop),Inv X pins σ H s->t σ H Q->wpAny (model X.prog X.w) X.A (spliced (backTo pos (starEach es X.env))) (AP X pins σ Q) X.xe s
noncomputable def PS(X:Cx)(st:Stmt)(t:TS):Prop :=
 ∀(pins:LO) (s:Shared) (σ:St) (H:Hp) (D:Ends),Inv X pins σ H s->t D σ H->wpAny (model X.prog X.w) X.A (exec st X.env) (SP X pins D) X.xe s
noncomputable def PSs(X:Cx)(st:List Stmt)(t:TS):Prop :=
 ∀(pins:LO) (s:Shared) (σ:St) (H:Hp) (D:Ends),Inv X pins σ H s->t D σ H->wpAny (model X.prog X.w) X.A (execs st X.env) (SP X pins D) X.xe s
def thn{α:Type}{t:Sem α}{Q Q':α->Shared->Prop}(h:wpAny M A t Q E s)(hQ:∀a s,Q a s->Q' a s):wpAny M A t Q' E s:=bQ h hQ λ _ _ x=>x
section
theorem bin(ha:PE X a ta)(hb:PE X b tb){R:V->V->Hp->Prop}(I:Inv X pins σ H s)(h:ta σ H λ x H1=>tb σ H1 λ y H2=>R x y H2)
  {α:Type}{Q:α->Shared->Prop}{f:Value->Value->Sem α}
  (hf:∀v u s2 x y H2,Inv X pins σ H2 s2->RelV x v->RelV y u->R x y H2->wpAny (model X.prog X.w) X.A (f v u) Q X.xe s2) :
  wpAny (model X.prog X.w) X.A (eval a X.env) (λ v s₁=>wpAny (model X.prog X.w) X.A (eval b X.env) (λ u s₂=>wpAny (model X.prog X.w) X.A (f v u) Q X.xe s₂) X.xe s₁) X.xe s:=by
 refine thn (ha pins s σ H _ I h) λ v s1 ⟨x,H1,I1,r1,q1⟩=>?_;refine thn (hb pins s1 σ H1 _ I1 q1) λ u s2 ⟨y,H2,I2,r2,q2⟩=>?_;exact hf v u s2 x y H2 I2 r1 r2 q2
noncomputable def isB(x:V)(P:Bool->Prop):Prop:=match x with|.bl k=>P k|_=>False
noncomputable def isI(x:V)(P:Int->Prop):Prop:=match x with|.int k=>P k|_=>False
noncomputable def qK(x y:V)(P:Int->Int->Prop):Prop:=match x,y with|.int i,.int j=>P i j|_,_=>False
def jP(h:isB x P):∃k,x=.bl k/\P k:=by cases x<;>first|exact⟨_,rfl,h⟩|exact h.elim
def BL(h:isI x P):∃k,x=.int k/\P k:=by cases x<;>first|exact⟨_,rfl,h⟩|exact h.elim
def qL(h:qK x y P):∃i j,x=.int i/\y=.int j/\P i j:=by cases x<;>cases y<;>first|exact⟨_,_,rfl,rfl,h⟩|exact h.elim
noncomputable def cR(i:Nat):TE:=λ σ H Q=>match σ[i]? with|some (some v)=>Q v H|_=>False
set_option tactic.hygienic true in
def BM(h:cR i σ H Q):∃v,σ[i]?=some (some v)/\Q v H:=by
 unfold cR at h;split at h
 ·rename_i v e;exact⟨v,e,h⟩
 ·exact h.elim
def tC(v:V):TE:=λ _ H Q=>Q v H
def iW{i:Nat}(hN:X.N[i]?=some x)(hv:Vis X.env.scope x)(hd:(x == ("__debug__" : Str))=false:=by decide)(hcd:(x == ("__classdict__" : Str))=false:=by decide):PE X (.Name x pos) (cR i):=by
 intro pins s σ H Q I h;obtain⟨v,e,h⟩:=BM h;obtain⟨m,hn,hl⟩:=I.loc;obtain⟨u,r,l⟩:=hl i x v hN e hv;have fin:EP X pins σ Q u s:=⟨v,H,I,r,h⟩
 rcases l with ⟨hk,hm⟩|⟨hk,c,hc,hcell⟩
 ·exact wpAny_Name (wpAny_loadName_local I.ok.kind hk hn hm fin) hd
 ·rcases hk with hk|hk
  ·exact wpAny_Name (wpAny_loadName_cell I.ok.kind hk hc hcell fin) hd
  ·exact wpAny_Name (wpAny_loadName_free I.ok.kind hk hc hcell fin hcd) hd
def pe_int{i j pos}:PE X (.Constant (.int i) j pos) (tC (.int i)):=λ _ _ _ H _ I h=>wpAny_Constant_int ⟨.int i,H,I.tok _,⟨_,rfl⟩,h⟩
def pe_bl{b j pos}:PE X (.Constant (.bool b) j pos) (tC (.bl b)):=λ _ _ _ H _ I h=>Constant_bool ⟨.bl b,H,I,rfl,h⟩
def pe_non{j pos}:PE X (.Constant .none j pos) (tC .non):=λ _ _ _ H _ I h=>Constant_none ⟨.non,H,I,rfl,h⟩
def pe_str{x j pos}:PE X (.Constant (.str x) j pos) (tC (.str x)):=λ _ _ _ H _ I h=>s1c ⟨.str x,H,I.tok _,⟨_,rfl⟩,h⟩
noncomputable def Gl(X:Cx)(x:Str):Prop:=X.env.kindOf x=some .globalImplicit
theorem hZ{Q:VS}(I:Inv X pins σ H s)(hg:Gl X x)(hm:X.mg x=some u)(h:Q u s)
  (hd:(x == ("__debug__" : Str))=false:=by decide):wpAny (model X.prog X.w) X.A (eval (.Name x pos) X.env) Q E s :=
 uC I.ok.kind hg (Calls.loadGlobal_global (by rw[I.ok.glob];exact I.mod.glob.keeps I.bk) hm h) hd
theorem dG{Q:VS}(I:Inv X pins σ H s)(hg:Gl X x)(hm:X.mg x=none)(hv:bootBuiltins x=some u)(h:Q u s)
  (hn:x ≠ "__name__" := by decide) (hd:(x == ("__debug__" : Str))=false:=by decide):wpAny (model X.prog X.w) X.A (eval (.Name x pos) X.env) Q E s:=by
 obtain⟨mb,h1,h2⟩:=I.mod.blt;exact uC I.ok.kind hg (Calls.loadGlobal_builtin (by rw[I.ok.glob];exact I.mod.glob.keeps I.bk) hm (by rw[I.ok.blt];exact h1.keeps I.bk) ((h2 x hn).trans hv) h) hd
def BO(hg:Gl X x)(hm:X.mg x=some u)(r:RelV v u)(hd:(x == ("__debug__" : Str))=false:=by decide):PE X (.Name x pos) (tC v) :=
 λ _ _ _ H _ I h=>hZ I hg hm ⟨v,H,I,r,h⟩ hd
def BP(hg:Gl X x)(hm:X.mg x=none)(hv:bootBuiltins x=some u)(r:RelV v u)(hn:x ≠ "__name__" := by decide)(hd:(x == ("__debug__" : Str))=false:=by decide):PE X (.Name x pos) (tC v) :=
 λ _ _ _ H _ I h=>dG I hg hm hv ⟨v,H,I,r,h⟩ hn hd
variable {a b:Expr}{ta tb:TE}{pos:Pos}
def tB(t:TE):TT:=λ σ H Q=>t σ H λ x H1=>isB x λ c=>Q c H1
def BQ(h:PE X e t)(he:∀whole,isTrue e X.env whole=(do let v <- whole;standAt e.pos;holding [v] (truthy v)):=by intro _;rfl):PT X e (tB t):=by
 intro pins s σ H Q I hw;refine isTrue_plain (thn (h pins s σ H _ I hw) λ v s1 ⟨x,H1,I1,r1,q1⟩=>?_) (he _);obtain⟨d,rfl,q⟩:=jP q1;cases r1;exact fG ⟨H1,I1,q⟩
variable {tA tB':TT}{rest:List Expr}
noncomputable def BR(t u:TT):TT:=λ σ H Q=>t σ H λ c H1=>if c=true then u σ H1 Q else Q false H1
noncomputable def tOr(t u:TT):TT:=λ σ H Q=>t σ H λ c H1=>if c=true then Q true H1 else u σ H1 Q
def BS(t:TT):TT:=λ σ H Q=>t σ H λ c H1=>Q (!c) H1
def BU(ha:PT X a tA):PW X (.BoolOp .And [a] pos) tA:=by
 intro wh pins s σ H Q I h;refine isTrue_and (thn (ha pins s σ H Q I h) λ c s1 e=>?_)
 cases c with
 |true=>exact isTrue_and_nil e
 |false=>exact e
def BV(ha:PT X a tA):PW X (.BoolOp .Or [a] pos) tA:=by
 intro wh pins s σ H Q I h;refine isTrue_or (thn (ha pins s σ H Q I h) λ c s1 e=>?_)
 cases c with
 |false=>exact isTrue_or_nil e
 |true=>exact e
def BW(ha:PT X a tA)(hb:PW X (.BoolOp .And (b::rest) pos) tB'):PW X (.BoolOp .And (a::b::rest) pos) (BR tA tB'):=by
 intro wh pins s σ H Q I h;refine isTrue_and (thn (ha pins s σ H _ I h) λ c s1 ⟨H1,I1,q1⟩=>?_)
 cases c with
 |true=>exact hb wh pins s1 σ H1 Q I1 q1
 |false=>exact⟨H1,I1,q1⟩
def BX(ha:PT X a tA)(hb:PW X (.BoolOp .Or (b::rest) pos) tB'):PW X (.BoolOp .Or (a::b::rest) pos) (tOr tA tB'):=by
 intro wh pins s σ H Q I h;refine isTrue_or (thn (ha pins s σ H _ I h) λ c s1 ⟨H1,I1,q1⟩=>?_)
 cases c with
 |true=>exact⟨H1,I1,q1⟩
 |false=>exact hb wh pins s1 σ H1 Q I1 q1
def BY(ha:PT X a tA):PT X (.UnaryOp .Not a pos) (BS tA):=by
 intro pins s σ H Q I h;exact isTrue_not (ha pins s σ H (λ c H1=>Q (!c) H1) I h)
noncomputable def BZ(ta tb:TE):TE:=λ σ H Q=>ta σ H λ x H1=>isB x λ c=>if c=true then tb σ H1 Q else Q (.bl false) H1
noncomputable def Ca(ta tb:TE):TE:=λ σ H Q=>ta σ H λ x H1=>isB x λ c=>if c=true then Q (.bl true) H1 else tb σ H1 Q
noncomputable def Cb(ta:TE):TE:=λ σ H Q=>ta σ H λ x H1=>∃c,x=.bl c/\Q (.bl (!c)) H1
def uD{op}(h:PE X a t):PE X (.BoolOp op [a] pos) t:=λ pins s σ H Q I hw=>BoolOp_one (h pins s σ H Q I hw)
def Cc(ha:PE X a ta)(hb:PE X (.BoolOp .And (b::rest) pos) tb):PE X (.BoolOp .And (a::b::rest) pos) (BZ ta tb):=by
 intro pins s σ H Q I h;refine BoolOp_and (thn (ha pins s σ H _ I h) λ v s1 ⟨x,H1,I1,r1,q1⟩=>?_);obtain⟨c,rfl,q1⟩:=jP q1;cases r1;refine fG ?_
 cases c with
 |true=>exact hb pins s1 σ H1 Q I1 q1
 |false=>exact⟨.bl false,H1,I1,rfl,q1⟩
def Ce(ha:PE X a ta)(hb:PE X (.BoolOp .Or (b::rest) pos) tb):PE X (.BoolOp .Or (a::b::rest) pos) (Ca ta tb):=by
 intro pins s σ H Q I h;refine BoolOp_or (thn (ha pins s σ H _ I h) λ v s1 ⟨x,H1,I1,r1,q1⟩=>?_);obtain⟨c,rfl,q1⟩:=jP q1;cases r1;refine fG ?_
 cases c with
 |false=>exact hb pins s1 σ H1 Q I1 q1
 |true=>exact⟨.bl true,H1,I1,rfl,q1⟩
def Cf(ha:PE X a ta):PE X (.UnaryOp .Not a pos) (Cb ta):=by
 intro pins s σ H Q I h;refine UnaryOp_ (thn (ha pins s σ H _ I h) λ v s1 ⟨x,H1,I1,r1,q1⟩=>?_);obtain⟨c,rfl,q1⟩:=q1;cases r1;exact not_of (fG ⟨.bl (!c),H1,I1,ca,q1⟩)
noncomputable def tIf(t:TT)(ta tb:TE):TE:=λ σ H Q=>t σ H λ c H1=>if c=true then ta σ H1 Q else tb σ H1 Q
def Cg(hc:PT X c tA)(ha:PE X a ta)(hb:PE X b tb):PE X (.IfExp c a b pos) (tIf tA ta tb):=by
 intro pins s σ H Q I h;refine wpAny_IfExp (thn (hc pins s σ H _ I h) λ d s1 ⟨H1,I1,q1⟩=>?_)
 cases d with
 |true=>exact ha pins s1 σ H1 Q I1 q1
 |false=>exact hb pins s1 σ H1 Q I1 q1
end
noncomputable def SqL(K:FG)(H:Hp)(a:Addr)(xs:List V):Prop :=
 Rd H a (.lst xs) \/
  ∃(o:Obj) (its:Array Value) (n:Nat),K.lookup a=some o/\o.cls=.type "list" /\ o.dict=none/\o.data=.seq its n/\its.size<=sizeLine/\Vals xs its.toList
noncomputable def SqT(K:FG)(H:Hp)(a:Addr)(xs:List V):Prop :=
 Rd H a (.tup xs) \/
  ∃(o:Obj) (its:Array Value) (n:Nat),K.lookup a=some o/\o.cls=.type "tuple" /\ o.dict=none/\o.data=.seq its n/\its.size<=sizeLine/\Vals xs its.toList
noncomputable def Ch:Value->Option V
 |.none=>some .non
 |.bool b=>some (.bl b)
 |.int i _=>some (.int i)
 |.str x _=>some (.str x)
 |.bytes b _=>some (.byt b)
 |.float b _=>some (.flt b)
 |.ref a=>some (.ref a)
 |.type n=>some (.ty n)
 |_=>none
def RelV.abs(r:RelV x u):Ch u=some x:=by
 cases x with
 |non=>cases r;rfl
 |bl _=>cases r;rfl
 |int _=>obtain⟨t,rfl⟩:=r;rfl
 |str _=>obtain⟨t,rfl⟩:=r;rfl
 |byt _=>obtain⟨t,rfl⟩:=r;rfl
 |flt _=>obtain⟨t,rfl⟩:=r;rfl
 |ref _=>cases r;rfl
 |ty _=>cases r;rfl
def RelV.inj(r:RelV x u)(q:RelV y u):x=y:=bj (r.abs.symm.trans q.abs)
theorem Vals.inj:∀ {xs ys:List V}{us:LV},Vals xs us->Vals ys us->xs=ys
 |_,_,_,.nil,.nil=>rfl
 |_,_,_,.cons r t,.cons r' t'=>by rw[r.inj r',Vals.inj t t']
section
variable {pins:LO}{σ:St}{H:Hp}{s:Shared}{a:Addr}{xs ys:List V}
def SqL.of{K:FG}(h:H a=some (.lst xs)):SqL K H a xs:=.inl (.inl h)
def SqT.of{K:FG}(h:H a=some (.tup xs)):SqT K H a xs:=.inl (.inl h)
def Inv.list(I:Inv X pins σ H s)(h:SqL X.K H a xs):∃its:LV,Vals xs its/\PlainL s.heap a its.toArray/\xs.length<=sizeLine:=by
 rcases h with h|⟨o,its,n,hk,hc,hd,hs,hz,r⟩
 ·obtain⟨z,its,n,r,e⟩:=h.ok I.hok;exact⟨its,r,⟨_,n,e,ca,ca,ca⟩,z⟩
 ·refine⟨its.toList,r,⟨o,n,I.kIn a o hk,hc,hd,by simpa using hs⟩,?_⟩;have e:=r.length;simp only[Array.length_toList] at e;lia
def Inv.tuple(I:Inv X pins σ H s)(h:SqT X.K H a xs):∃its:LV,Vals xs its/\IsTup s.heap a its.toArray/\xs.length<=sizeLine:=by
 rcases h with h|⟨o,its,n,hk,hc,_,hs,hz,r⟩
 ·obtain⟨z,its,r,p⟩:=h.ok I.hok;exact⟨its,r,p.tup,z⟩
 ·refine⟨its.toList,r,⟨o,I.kIn a o hk,hc,n,by simpa using hs⟩,?_⟩;have e:=r.length;simp only[Array.length_toList] at e;lia
def Inv.list_inj(I:Inv X pins σ H s)(h:SqL X.K H a xs)(h':SqL X.K H a ys):xs=ys:=by
 obtain⟨its,r,⟨o,n,e,_,_,d⟩,_⟩:=I.list h;obtain⟨its',r',⟨o',n',e',_,_,d'⟩,_⟩:=I.list h';rw[e] at e';cases e';rw[d] at d'
 injection d' with d1 _
 have:its=its':=by simpa using br Array.toList d1
 subst this;exact r.inj r'
def Inv.tuple_inj(I:Inv X pins σ H s)(h:SqT X.K H a xs)(h':SqT X.K H a ys):xs=ys:=by
 obtain⟨its,r,⟨o,e,_,n,d⟩,_⟩:=I.tuple h;obtain⟨its',r',⟨o',e',_,n',d'⟩,_⟩:=I.tuple h';rw[e] at e';cases e';rw[d] at d'
 injection d' with d1 _
 have:its=its':=by simpa using br Array.toList d1
 subst this;exact r.inj r'
end
abbrev Cx.wish(X:Cx)(E:VS):Cx:={ X with xe:=E }
abbrev Cx.nox(X:Cx):Cx:=X.wish λ _ _=>False
def Cx.Ok.wish{X:Cx}(ok:X.Ok)(E:VS):(X.wish E).Ok :=
 ⟨ok.mod,ok.kind,ok.glob,ok.blt,ok.above,ok.inj,ok.has,ok.cab,ok.hd,ok.frames,ok.stk,ok.exf,ok.bs,ok.bsz,ok.noex,ok.exfs,ok.funs,ok.frf⟩
def Cx.Ok.unwish{X:Cx}(ok:(X.wish E).Ok):X.Ok :=
 ⟨ok.mod,ok.kind,ok.glob,ok.blt,ok.above,ok.inj,ok.has,ok.cab,ok.hd,ok.frames,ok.stk,ok.exf,ok.bs,ok.bsz,ok.noex,ok.exfs,ok.funs,ok.frf⟩
section
variable {pins:LO}{σ:St}{H:Hp}{s:Shared}{E:VS}
def Inv.wish(I:Inv X pins σ H s)(E:VS):Inv (X.wish E) pins σ H s:=⟨I.ok.wish E,I.os,I.bare,I.base,I.loc,I.cell,I.free,I.freeC,I.pin,I.hok,I.len⟩
def Inv.unwish(I:Inv (X.wish E) pins σ H s):Inv X pins σ H s:=⟨I.ok.unwish,I.os,I.bare,I.base,I.loc,I.cell,I.free,I.freeC,I.pin,I.hok,I.len⟩
def SP.unwish(h:SP (X.wish E) pins D f s'):SP X pins D f s':=by
 cases f with
 |next=>obtain⟨σ',H',I,q⟩:=h;exact⟨σ',H',I.unwish,q⟩
 |brk=>obtain⟨σ',H',I,q⟩:=h;exact⟨σ',H',I.unwish,q⟩
 |cont=>obtain⟨σ',H',I,q⟩:=h;exact⟨σ',H',I.unwish,q⟩
 |ret u=>obtain⟨v,σ',H',I,r,q⟩:=h;exact⟨v,σ',H',I.unwish,r,q⟩
def PSs.nox{st:List Stmt}(h:PSs X.nox st t):PSs X st t:=λ pins s σ H D I hw=>
 bQ (h pins s σ H D (I.wish _) hw) (λ _ _ q=>q.unwish) λ _ _ z=>False.elim z
end
section
variable {st:Stmt}{rest:List Stmt}{t u:TS}{e:Expr}{te:TE}{pos:Pos}
def uE:TS:=λ D σ H=>D.nx σ H
def uF(t u:TS):TS:=λ D σ H=>t { D with nx:=u D } σ H
def pss_nil:PSs X [] uE:=λ _ _ σ H _ I h=>nQ ⟨σ,H,I,h⟩
def cg(h1:PS X st t)(h2:PSs X rest u):PSs X (st::rest) (uF t u):=by
 intro pins s σ H D I h;refine wpAny_execs_cons (thn (h1 pins s σ H { D with nx:=u D } I h) λ f s1 q=>?_)
 cases f with
 |next=>
  obtain⟨σ',H',I',q⟩:=q;exact h2 pins s1 σ' H' D I' q
 |ret v=>exact q
 |brk=>exact q
 |cont=>exact q
def lG(h1:PS X st t):PSs X [st] t:=by
 intro pins s σ H D I h;refine wpAny_execs_cons (thn (h1 pins s σ H D I h) λ f s1 q=>?_)
 cases f with
 |next=>exact nQ q
 |ret v=>exact q
 |brk=>exact q
 |cont=>exact q
def Inv.quiet(I:Inv X pins σ H s):interactive X.env=false:=by simp[interactive,I.ok.kind]
def uG{x j pos pos'}:PS X (.Expr (.Constant (.str x) j pos) pos') uE:=λ _ s σ H _ I h=>wpAny_Expr (s1c (show SP X _ _ .next { s with toks:=s.toks+1 } from ⟨σ,H,I.tok _,h⟩)) I.quiet
def Ci(te:TE):TS:=λ D σ H=>te σ H λ _ H1=>D.nx σ H1
def nR(he:PE X e te)(hs:swapsWith e none pos.line X.env=pure false:=by rfl):PS X (.Expr e pos) (Ci te):=by
 intro pins s σ H D I h;exact wpAny_Expr_any (thn (he pins s σ H _ I h) λ v s1 ⟨x,H1,I1,r1,q1⟩=>⟨σ,H1,I1,q1⟩) I.quiet hs
def Cj(te:TE):TS:=λ D σ H=>te σ H D.rt
def jQ(he:PE X e te):PS X (.Return (some e) pos) (Cj te):=by
 intro pins s σ H D I h;exact wpAny_Return_some (thn (he pins s σ H _ I h) λ v s1 ⟨x,H1,I1,r1,q1⟩=>⟨x,σ,H1,I1,r1,q1⟩)
noncomputable def Ck(c:TT)(t u:TS):TS:=λ D σ H=>c σ H λ b H1=>if b=true then t D σ H1 else u D σ H1
def uH(hc:PT X c tc)(ha:PSs X a t)(hb:PSs X b u):PS X (.If c a b pos) (Ck tc t u):=by
 intro pins s σ H D I h;refine wpAny_If (thn (hc pins s σ H _ I h) λ d s1 ⟨H1,I1,q1⟩=>?_)
 cases d with
 |true=>exact ha pins s1 σ H1 D I1 q1
 |false=>exact hb pins s1 σ H1 D I1 q1
def Cm:TS:=λ _ _ _=>False
def pss_never:PSs X sts Cm:=λ _ _ _ _ _ _ h=>h.elim
end
abbrev TG:=V->St->Hp->(St->Hp->Prop)->Prop
abbrev TGs:=List V->St->Hp->(St->Hp->Prop)->Prop
noncomputable def PG(X:Cx)(target:Expr)(t:TG):Prop :=
 ∀(pins:LO) (s:Shared) (σ:St) (H:Hp) (v:V) (u:Value) (Q:St->Hp->Prop),Inv X pins σ H s->RelV v u->t v σ H Q ->
  wpAny (model X.prog X.w) X.A (assign target X.env u) (λ _ s'=>∃σ' H',Inv X pins σ' H' s'/\Q σ' H') X.xe s
noncomputable def PGs(X:Cx)(ts:List Expr)(t:TGs):Prop :=
 ∀(pins:LO) (s:Shared) (σ:St) (H:Hp) (vs:List V) (us:LV) (Q:St->Hp->Prop),Inv X pins σ H s->Vals vs us->t vs σ H Q ->
  wpAny (model X.prog X.w) X.A (assignInOrder ((assignEach ts X.env).map (·.2)) us) (λ _ s'=>∃σ' H',Inv X pins σ' H' s'/\Q σ' H') X.xe s
abbrev uI:=V->V->V->Hp->(Hp->Prop)->Prop
noncomputable def uJ(X:Cx)(t:uI):Prop :=
 ∀(pins:LO) (s:Shared) (σ:St) (H:Hp) (o i v:V) (ov iv u:Value) (Q:Hp->Prop),Inv X pins σ H s->RelV o ov->RelV i iv->RelV v u->t o i v H Q ->
  wpAny (model X.prog X.w) X.A (setItem ov iv u) (λ _ s'=>∃H',Inv X pins σ H' s'/\Q H') X.xe s
section
variable {pos:Pos}
def dH(i:Nat):TG:=λ v σ H Q=>Q (σ.set i (some v)) H
def uK{i:Nat}(hN:X.N.Nodup)(hi:X.N[i]?=some x)(hx:Loc X.env.scope x)(hf:X.fn x=true\/X.env.scope.names.lookup x=some .local:=by first|exact .inl rfl|exact .inr rfl|assumption):PG X (.Name x pos) (dH i):=by
 intro pins s σ H v u Q I r h;exact wpAny_assign_Name (qJ I hN hi hx r (λ s' I'=>⟨_,H,I',h⟩) hf)
def qM:TGs:=λ vs σ H Q=>vs=[]/\Q σ H
noncomputable def jR(t:TG)(u:TGs):TGs:=λ vs σ H Q=>∃v r,vs=v::r/\t v σ H λ σ' H'=>u r σ' H' Q
def uL:PGs X [] qM:=by
 intro pins s σ H vs us Q I r h;obtain⟨e,h⟩:=h;subst e;cases r;exact assignInOrder_nil ⟨σ,H,I,h⟩
theorem lH(h1:PG X e t)(h2:PGs X es u)
  (hs:(assignEach (e::es) X.env).map (·.2)=assign e X.env::(assignEach es X.env).map (·.2):=by rfl):PGs X (e::es) (jR t u):=by
 intro pins s σ H vs us Q I r h;obtain⟨v,vr,e1,h⟩:=h;subst e1
 cases r with
 |cons r rr=>
  rw[hs];refine assignInOrder_cons (thn (h1 pins s σ H _ _ _ I r h) λ _ s1 ⟨σ1,H1,I1,q1⟩=>?_);exact h2 pins s1 σ1 H1 _ _ Q I1 rr q1
noncomputable def qN(K:FG)(n:Nat)(t:TGs):TG:=λ v σ H Q=>∃a xs,v=.ref a/\SqT K H a xs/\xs.length=n/\t xs σ H Q
theorem uM{n:Nat}(hc:X.calm=true)(h:PGs X es t)
  (hn:(assignEach es X.env).length=n:=by rfl) (hst:(assignEach es X.env).findIdx? (·.1)=none:=by rfl):PG X (.Tuple es k pos) (qN X.K n t):=by
 intro pins s σ H v u Q I r hw;obtain⟨a,xs,e1,hq,hl,hw⟩:=hw;subst e1;cases r;obtain⟨its,rv,ht,hz⟩:=I.tuple hq;refine assign_Tuple_tuple (I.ok.hd hc) ht (by simp[hn,<- hl,rv.length]) hst λ h' hx=>?_;have I1:Inv X pins σ H { s with heap:=h' }:=I.kept (t':=s.toks) λ b o e=>hx b o (aZ (aB e)) e;exact h pins _ σ H xs _ Q I1 (by simpa using rv) hw
noncomputable def Cn(to ti:TE)(t:uI):TG:=λ v σ H Q=>to σ H λ o H1=>ti σ H1 λ i H2=>t o i v H2 λ H3=>Q σ H3
theorem Co(ho:PE X o to)(hi:PE X i ti)(hs:uJ X t)
  (ha:∀v,assign (.Subscript o i pos) X.env v=(do
   let ov <- holding [v] (eval o X.env)
   let iv <- holding [v,ov] (eval i X.env)
   standAt pos
   holding [v,ov,iv] (setItem ov iv v)
   release [v,ov,iv] []):=by intro _;rfl):PG X (.Subscript o i pos) (Cn to ti t):=by
 intro pins s σ H v u Q I r h;rw[ha];refine af (du (thn (ho pins s σ H _ I h) λ ov s1 ⟨x,H1,I1,r1,q1⟩=>?_));refine af (du (thn (hi pins s1 σ H1 _ I1 q1) λ iv s2 ⟨y,H2,I2,r2,q2⟩=>?_));refine af (gj (af (du (thn (hs pins s2 σ H2 x y v ov iv u _ I2 r1 r2 r q2) λ _ s3 ⟨H3,I3,q3⟩=>?_))));exact wpAny_release ⟨σ,H3,I3,q3⟩
noncomputable def jT(te:TE)(g:TG):TS:=λ D σ H=>te σ H λ x H1=>g x σ H1 D.nx
theorem uN(he:PE X e te)(hg:PG X tg g)(hs:swapsWithSole [tg] e pos.line X.env=pure false:=by rfl)(hw:swappedStores [tg] e X.env=pure none:=by rfl)
  (h1:(assignEach [tg] X.env).map (·.2)=[assign tg X.env]:=by rfl):PS X (.Assign [tg] e pos) (jT te g):=by
 intro pins s σ H D I h;refine wpAny_Assign_stores (thn (he pins s σ H _ I h) λ v s1 ⟨x,H1,I1,r1,q1⟩=>?_) hs hw;rw[h1];exact thn (hg pins s1 σ H1 x v _ I1 r1 q1) λ _ s2 q=>q
theorem qO{i:Nat}(hN:X.N.Nodup)(hi:X.N[i]?=some x)(hx:Loc X.env.scope x)(he:PE X e te)(hs:swapsWith e (some (.Name x pos')) pos.line X.env=pure false:=by rfl)(hf:X.fn x=true\/X.env.scope.names.lookup x=some .local:=by first|exact .inl rfl|exact .inr rfl|assumption) :
  PS X (.Assign [.Name x pos'] e pos) (jT te (dH i)):=by
 intro pins s σ H D I h;refine wpAny_Assign_Name (thn (he pins s σ H _ I h) λ v s1 ⟨y,H1,I1,r1,q1⟩=>?_) hs;exact qJ I1 hN hi hx r1 (λ s2 I2=>⟨_,H1,I2,q1⟩) hf
end
section
variable {pos:Pos}
end
structure It where
 go:Nat->Hp->Prop
 yld:Nat->Hp->V->Hp->Prop
 stop:Nat->Hp->Prop
noncomputable def ig(X:Cx)(pins:LO)(H:Hp)(b:Addr):Prop :=
 H b=none/\b≠X.env.locals/\b ∉ X.fs/\(b∈X.ex\/X.s₀.heap.objs.size<=b)/\(∀x c,X.env.cells.lookup x=some c->c≠b)/\∀p∈X.pn++pins,p.1≠b
def Inv.fpOk{H H':Hp}{b:Addr}(I:Inv X pins σ H s)(hb:s.heap.objs.size<=b)(hn:H' b=none):ig X pins H' b:=by
 refine⟨hn,lJ (bC I.lt hb),I.nofs hb,.inr (cI I.sz hb),λ x c e z=>?_,λ p hp z=>?_⟩
 ·obtain⟨v,q⟩:=I.cell x c e;exact absurd (bC q.lt (by rw[z];exact hb)) (cQ _)
 ·exact absurd (bC (aB (I.pin p hp).1) (by rw[z];exact hb)) (cQ _)
structure Turn (P:Program)(w:World)(K:FG)(tg:Expr)(J:It)(fp:List Addr)(it:Addr)(tn:Nat->Heap->Prop):Prop where
 mem:it∈fp
 obj:∀i h,tn i h->∀b∈fp,∃o,h.get? b=some o/\∀v,o.data≠.cell v
 keep:∀i h h',tn i h->(∀b∈fp,∀o,h.get? b=some o->h'.get? b=some o)->tn i h'
 item:∀(X:Cx),X.prog=P->X.w=w->X.K=K->X.calm=true->∀(i:Nat) (pins:LO) (s:Shared) (σ:St) (H:Hp) (E:VS),Inv X pins σ H s->(∀b∈fp,ig X pins H b)->tn i s.heap->J.go i H ->
  wpAny (model P w) X.A (pyNext (.ref it)) (λ r s1=>∃u,r=some u /\
   wpAny (model P w) X.A (letOwnedTupleGo tg (.ref it) u) (λ _ s2=>∃x H',Inv X pins σ H' s2/\RelV x u/\J.yld i H x H'/\tn (i+1) s2.heap/\∀b∈fp,H' b=none) E s1) E s
 done:∀(X:Cx),X.prog=P->X.w=w->X.K=K->X.calm=true->∀(i:Nat) (pins:LO) (s:Shared) (σ:St) (H:Hp) (E:VS),Inv X pins σ H s->(∀b∈fp,ig X pins H b)->tn i s.heap->J.stop i H ->
  wpAny (model P w) X.A (pyNext (.ref it)) (λ r s1=>r=none/\Inv X pins σ H s1) E s
 self:∀(A:Around) (i:Nat) (s:Shared) (Q:VS) (E:VS),tn i s.heap->Q (.ref it) s->wpAny (model P w) A (pyIter (.ref it)) Q E s
abbrev TI:=St->Hp->(It->Hp->Prop)->Prop
noncomputable def PIE(X:Cx)(pins:LO)(σ:St)(tg:Expr)(R:It->Hp->Prop)(itv:Value)(s2:Shared):Prop :=
 ∃(it:Addr) (fp:List Addr) (tn:Nat->Heap->Prop) (J:It) (H':Hp),itv=.ref it/\Inv X pins σ H' s2/\Turn X.prog X.w X.K tg J fp it tn/\tn 0 s2.heap/\(∀b∈fp,ig X pins H' b)/\R J H'
noncomputable def PI(X:Cx)(tg iter:Expr)(wi:TI):Prop :=
 ∀(pins:LO) (s:Shared) (σ:St) (H:Hp) (R:It->Hp->Prop),Inv X pins σ H s->wi σ H R ->
  wpAny (model X.prog X.w) X.A (eval iter X.env) (λ v s1=>wpAny (model X.prog X.w) X.A (pyIter v) (PIE X pins σ tg R) X.xe s1) X.xe s
theorem lK{s:Shared}{it:Addr}{vs:Array Value}{Q:Unit->Shared->Prop}(ho:s.heap.get? it=some o)(hc:o.cls=.type n)(hd:o.data=.fields vs)
    (hn:["enumerate","zip","dict_itemiterator","dict_reverseitemiterator","odict_iterator","itertools.zip_longest","itertools.pairwise"].contains n=false) (hQ:Q () s):wpAny M A (letOwnedTupleGo tg (.ref it) u) Q E s:=by
  unfold letOwnedTupleGo
  cases tg<;>first
    |exact aj hQ
    | (cases u<;>first
        |exact aj hQ
        | (refine af (s1p ho ?_)
           rw[hc,hd];show wpAny M A (if (["enumerate","zip","dict_itemiterator","dict_reverseitemiterator","odict_iterator","itertools.zip_longest","itertools.pairwise"].contains n&&vs[0]? == some (rawInt _))=true then _ else _) Q E s;rw[if_neg (by intro h;rw[hn,s0n] at h;cases h)]
           exact aj hQ))
noncomputable def Itl(K:FG)(a:Addr):It :=
 ⟨λ i H=>∃xs x,SqL K H a xs/\xs[i]?=some x,λ i H x H'=>H'=H/\∀xs,SqL K H a xs->xs[i]?=some x,λ i H=>∃xs,SqL K H a xs/\xs.length<=i⟩
noncomputable def Itt(K:FG)(a:Addr):It :=
 ⟨λ i H=>∃xs x,SqT K H a xs/\xs[i]?=some x,λ i H x H'=>H'=H/\∀xs,SqT K H a xs->xs[i]?=some x,λ i H=>∃xs,SqT K H a xs/\xs.length<=i⟩
noncomputable def Itr(lo:Int)(n:Nat):It:=⟨λ i _=>i<n,λ i H x H'=>H'=H/\x=.int (lo+i),λ i _=>n<=i⟩
theorem Cp{K:FG}(a it:Addr):Turn P w K tg (Itl K a) [it] it (λ i h=>h.IsListIter it a i) where
 mem:=pv
 obj:=λ i h st b hb=>by
  have e:b=it:=by simpa using hb
  subst e;obtain⟨o,e,c,d⟩:=st;exact⟨o,e,λ v z=>by rw[d] at z;cases z⟩
 keep:=λ i h h' st k=>st.at λ o e=>k it pv o e
 item:=by
  intro X hP hw hK hc i pins s σ H E I hf st hg;subst hP hw hK;obtain⟨xs,x,hq,hx⟩:=hg;obtain⟨its,rv,p,hz⟩:=I.list hq;obtain⟨u,hu,ru⟩:=rv.get hx;obtain⟨f0,f1,f2,f3,f4,f5⟩:=hf it pv;refine wpAny_pyNext_list_item st p.isList (x:=u) (by simpa using hu) λ h' st' sb=>?_;have I1:Inv X pins σ H { s with heap:=h' }:=I.turned (t':=s.toks) (λ b o hb e=>(sb.2 b hb).trans e) f0 f1 f3 f4 f5;obtain⟨o,e,c,d⟩:=id st';exact⟨u,ca,lK (s:={ s with heap:=h' }) e c d on ⟨x,H,I1,ru,⟨ca,λ ys hy=>by rw[I.list_inj hy hq];exact hx⟩,st',λ b hb=>(hf b hb).1⟩⟩
 done:=by
  intro X hP hw hK hc i pins s σ H E I hf st hg;subst hP hw hK;obtain⟨xs,hq,hx⟩:=hg;obtain⟨its,rv,p,hz⟩:=I.list hq;obtain⟨f0,f1,f2,f3,f4,f5⟩:=hf it pv;have hl:=rv.length;exact wpAny_pyNext_list_end (I.ok.hd hc) st p.isList (by simp;lia) λ h' eb=>⟨ca,I.turned (t':=s.toks) (λ b o hb e=>eb b o hb e) f0 f1 f3 f4 f5⟩
 self:=λ _ _ _ _ _ st h=>wpAny_pyIter_listiter st h
theorem Cu{K:FG}(a it:Addr):Turn P w K tg (Itt K a) [it] it (λ i h=>h.IsTupleIter it a i) where
 mem:=pv
 obj:=λ i h st b hb=>by
  have e:b=it:=by simpa using hb
  subst e;obtain⟨o,e,c,d⟩:=st;exact⟨o,e,λ v z=>by rw[d] at z;cases z⟩
 keep:=λ i h h' st k=>st.at λ o e=>k it pv o e
 item:=by
  intro X hP hw hK hc i pins s σ H E I hf st hg;subst hP hw hK;obtain⟨xs,x,hq,hx⟩:=hg;obtain⟨its,rv,p,hz⟩:=I.tuple hq;obtain⟨u,hu,ru⟩:=rv.get hx;obtain⟨f0,f1,f2,f3,f4,f5⟩:=hf it pv;refine wpAny_pyNext_tuple_item st (show s.heap.IsTuple a its.toArray from p) (x:=u) (by simpa using hu) λ h' st' sb=>?_;have I1:Inv X pins σ H { s with heap:=h' }:=I.turned (t':=s.toks) (λ b o hb e=>(sb.2 b hb).trans e) f0 f1 f3 f4 f5;obtain⟨o,e,c,d⟩:=id st';exact⟨u,ca,lK (s:={ s with heap:=h' }) e c d on ⟨x,H,I1,ru,⟨ca,λ ys hy=>by rw[I.tuple_inj hy hq];exact hx⟩,st',λ b hb=>(hf b hb).1⟩⟩
 done:=by
  intro X hP hw hK hc i pins s σ H E I hf st hg;subst hP hw hK;obtain⟨xs,hq,hx⟩:=hg;obtain⟨its,rv,p,hz⟩:=I.tuple hq;obtain⟨f0,f1,f2,f3,f4,f5⟩:=hf it pv;have hl:=rv.length;exact wpAny_pyNext_tuple_end (I.ok.hd hc) st (show s.heap.IsTuple a its.toArray from p) (by simp;lia) λ h' eb=>⟨ca,I.turned (t':=s.toks) (λ b o hb e=>eb b o hb e) f0 f1 f3 f4 f5⟩
 self:=λ _ _ _ _ _ st h=>wpAny_pyIter_tupleiter st h
theorem Cv{K:PySem.W.Frag}(it:Addr)(lo:Int)(n:Nat):Turn P w K tg (Itr lo n) [it] it (λ i h=>IsRangeIter h it (lo+(i:Nat)*1) ((n:Int)-(i:Nat)) 1) where
 mem:=pv
 obj:=λ i h st b hb=>by
  have e:b=it:=by simpa using hb
  subst e
  exact⟨_,st,λ v z=>by
   have z':Data.fields _=Data.cell v:=z
   cases z'⟩
 keep:=λ i h h' st k=>k it pv _ st
 item:=by
  intro X hP hw hK hc i pins s σ H E I hf st hg;subst hP hw hK;obtain⟨f0,f1,f2,f3,f4,f5⟩:=hf it pv;have W:=Walks.range (prog:=X.prog) (w:=X.w) (I.ok.hd hc) it lo 1 n;refine W.item i s _ _ hg st λ v h' tk hv st' kk=>?_;obtain⟨t,rfl⟩:=hv;have I1:Inv X pins σ H { s with heap:=h',toks:=tk }:=I.turned (λ b o hb e=>kk b o (by simpa using hb) e) f0 f1 f3 f4 f5;refine⟨_,ca,lK (s:={ s with heap:=h',toks:=tk }) (n := "range_iterator") st' rfl rfl on ⟨.int (lo+i),H,I1,⟨t,?_⟩,⟨ca,ca⟩,st',λ b hb=>(hf b hb).1⟩⟩;rw[s0t]
 done:=by
  intro X hP hw hK hc i pins s σ H E I hf st hg;subst hP hw hK;obtain⟨f0,f1,f2,f3,f4,f5⟩:=hf it pv;exact uO (I.ok.hd hc) st (by have:n<=i:=hg;lia) λ h' eb=>⟨ca,I.turned (t':=s.toks) (λ b o hb e=>eb b o hb e) f0 f1 f3 f4 f5⟩
 self:=λ _ _ _ _ _ st h=>uP st h
section
variable {tg:Expr}
theorem Cy{R:It->Hp->Prop}{lo hi:Int}{tk:Nat}(I:Inv X pins σ H s)(h1:-(2 ^ 62)<=lo)(h2:lo<2 ^ 62)(h3:-(2 ^ 62)<=hi)(h4:hi<2 ^ 62)
  (q:R (Itr lo (hi-lo).toNat) H):wpAny (model X.prog X.w) X.A (pyIter (.ref s.heap.objs.size)) (PIE X pins σ tg R) E { s with heap:=s.heap.push { cls:=.type "range",data:=.fields #[.int lo t,.int hi u,.int 1 v] },toks:=tk }:=by
 refine s1d (IsRange.new ..) (small_one h1 h2 h3 h4) ?_;have I1:Inv X pins σ H { s with heap:=s.heap.push { cls:=.type "range",data:=.fields #[.int lo t,.int hi u,.int 1 v] },toks:=tk }:=I.kept λ b o e=>aA _ e
 refine⟨(s.heap.push { cls:=.type "range",data:=.fields #[.int lo t,.int hi u,.int 1 v] }).objs.size,[(s.heap.push { cls:=.type "range",data:=.fields #[.int lo t,.int hi u,.int 1 v] }).objs.size],_,_,H,ca,
  I1.kept (t':=tk) λ b o e=>aA _ e,Cv _ lo (hi-lo).toNat,?_,λ b hb=>?_,q⟩
 ·have e1:lo+((0:Nat):Int)*1=lo:=by simp
  have e2:(((hi-lo).toNat:Nat):Int)-((0:Nat):Int)=Builtin.Range.rangeSize lo hi 1:=by rw[rangeSize_one];split<;>lia
  show IsRangeIter _ _ (lo+((0:Nat):Int)*1) ((((hi-lo).toNat:Nat):Int)-((0:Nat):Int)) 1;rw[e1,e2];exact aR _ rfl
 ·have e:b=(s.heap.push { cls:=.type "range",data:=.fields #[.int lo t,.int hi u,.int 1 v] }).objs.size:=by simpa using hb
  subst e;exact I1.fpOk (av _) (I1.hok.fresh (av _))
noncomputable def Cz(ta:TA):TI:=λ σ H R=>ta σ H λ vs H1=>∃j:Int,vs=[.int j]/\-(2 ^ 62)<=j/\j<2 ^ 62/\R (Itr 0 j.toNat) H1
def CC{a:Expr}{p pos:Pos}(hg:Gl X "range")(hm:X.mg "range"=none)(ha:PA X [a] ta)(hs:starEach [a] X.env=[(false,eval a X.env)]:=by rfl):PI X tg (.Call (.Name "range" p) [a] [] pos) (Cz ta):=by
 intro pins s σ H R I h;refine Call_ (dG I hg hm boot_range (gp (thn (ha pos pins s σ H _ I h) λ us s1 ⟨vs,H1,I1,r1,q1⟩=>?_) hs rfl));obtain⟨j,e,q1,q2,q⟩:=q1;subst e
 cases r1 with
 |cons r rr=>
  cases rr;obtain⟨t,rfl⟩:=r;exact call_range_1 (Cy I1 fu fu q1 q2 (by simpa using q))
noncomputable def CD(wi:TI)(g:TG)(tb:TS):TS:=λ D σ H=>wi σ H λ J H1=>∃W:Nat->Nat->St->Hp->Prop,(∃m,W 0 m σ H1)/\∀i m σ H,W i m σ H ->
 (J.stop i H/\D.nx σ H)\/(J.go i H/\∃N:St->Hp->Prop,(∀σ' H',N σ' H'->∃m',m'<m/\W (i+1) m' σ' H')/\∀x H',J.yld i H x H'->g x σ H' λ σ2 H2=>tb { D with nx:=N,ct:=N,bk:=D.nx } σ2 H2)
noncomputable def nS(fp:List Addr)(h:Heap):LO:=fp.filterMap λ b=>(h.get? b).map λ o=>(b,o)
def jU{fp:List Addr}{h:Heap}{b:Addr}(hb:b∈fp)(e:h.get? b=some o):(b,o)∈nS fp h:=qP.mpr ⟨b,hb,by rw[e];rfl⟩
def CF{fp:List Addr}{h:Heap}{p:Addr×Obj}(hp:p∈nS fp h):p.1∈fp/\h.get? p.1=some p.2:=by
 obtain⟨b,hb,e⟩:=qP.mp hp
 cases q:h.get? b with
 |none=>rw[q] at e;cases e
 |some o=>
  rw[q] at e;have e':(b,o)=p:=bj e;subst e';exact⟨hb,q⟩
def Inv.pinned{fp:List Addr}(I:Inv X pins σ H s)(hf:∀b∈fp,ig X pins H b)(ho:∀b∈fp,∃o,s.heap.get? b=some o/\∀v,o.data≠.cell v):Inv X (pins++nS fp s.heap) σ H s :=
 I.pins_of λ p hp=>(cJ.mp hp).elim (λ z=>I.pin p (bX _ z)) λ z=>by
  obtain⟨hb,e⟩:=CF z;obtain⟨f0,f1,f2,_⟩:=hf p.1 hb;obtain⟨o,e',d⟩:=ho p.1 hb;rw[e] at e';cases e';exact⟨e,f0,f1,f2,d⟩
def Inv.unpinned{pins pl:LO}(I:Inv X (pins++pl) σ H s):Inv X pins σ H s:=I.pins_of λ p hp=>I.pin p (bX _ (iV _ hp))
theorem CG{iter:Expr}(hp:PassesOwn (model X.prog X.w) X.A X.env X.xe)(hc:X.calm=true)(hi:PI X tg iter wi)(hg:PG X tg g)(hb:PSs X body tb)
  (hs:∀x,foldedSetIterable iter X.env x=pure x:=by intro _;rfl):PS X (.For tg iter body [] pos) (CD wi g tb):=by
 intro pins s σ H D I h;refine wpAny_For (thn (hi pins s σ H _ I h) λ v s1 h1=>thn h1 λ itv s2 h2=>?_) hs;obtain⟨it,fp,tn,J,H2,e,I2,T,st2,f2,W,⟨m0,w0⟩,turn⟩:=h2;subst e;have stat:∀ {H':Hp},(∀b∈fp,H' b=none)->∀b∈fp,ig X pins H' b:=λ hn b hb=>⟨hn b hb,(f2 b hb).2⟩;refine codeAny_forLoop_any (λ n s'=>∃i σ' H',Inv X pins σ' H' s'/\tn i s'.heap/\(∀b∈fp,H' b=none)/\W i n σ' H') ?_ m0 ⟨0,σ,H2,I2,st2,λ b hb=>(f2 b hb).1,w0⟩;rintro n s3 ⟨i,σ3,H3,I3,st3,fr3,w3⟩
 rcases turn i n σ3 H3 w3 with ⟨stop,qn⟩|⟨go,N,hN,step⟩
 ·refine lL hp (thn (T.done X rfl rfl rfl hc i pins s3 σ3 H3 X.xe I3 (stat fr3) st3 stop) λ r s4 ⟨hr,I4⟩=>?_);subst hr;exact nQ ⟨σ3,H3,I4,qn⟩
 ·refine lL hp (thn (T.item X rfl rfl rfl hc i pins s3 σ3 H3 X.xe I3 (stat fr3) st3 go) λ r s4 ⟨u,hr,h4⟩=>?_);subst hr;refine lL hp (thn h4 λ _ s5 ⟨x,H5,I5,r5,y5,st5,fr5⟩=>?_);have I5':=I5.pinned (stat fr5) (T.obj _ _ st5);refine lL hp (thn (hg _ s5 σ3 H5 x u _ I5' r5 (step x H5 y5)) λ _ s6 ⟨σ6,H6,I6,q6⟩=>?_);refine lL hp (thn (hb _ s6 σ6 H6 _ I6 q6) λ f s7 q7=>?_)
  have again:∀ {σ7:St}{H7:Hp},Inv X (pins++nS fp s5.heap) σ7 H7 s7->N σ7 H7->∃m,m<n/\∃i σ' H',Inv X pins σ' H' s7/\tn i s7.heap/\(∀b∈fp,H' b=none)/\W i m σ' H':=λ {σ7 H7} I7 n7=>by
   obtain⟨m',hm,w7⟩:=hN σ7 H7 n7;refine⟨m',hm,i+1,σ7,H7,I7.unpinned,T.keep _ _ _ st5 λ b hb o e=>(I7.pin (b,o) (bX _ (bX _ (jU hb e)))).1,λ b hb=>?_,w7⟩;obtain⟨o,e,d⟩:=T.obj _ _ st5 b hb;exact(I7.pin (b,o) (bX _ (bX _ (jU hb e)))).2.1
  cases f with
  |next=>obtain⟨σ7,H7,I7,n7⟩:=q7;exact again I7 n7
  |cont=>obtain⟨σ7,H7,I7,n7⟩:=q7;exact again I7 n7
  |brk=>obtain⟨σ7,H7,I7,q7⟩:=q7;exact⟨σ7,H7,I7.unpinned,q7⟩
  |ret v=>obtain⟨x7,σ7,H7,I7,r7,q7⟩:=q7;exact⟨x7,σ7,H7,I7.unpinned,r7,q7⟩
end
abbrev R2:=V->V->Hp->VK->Prop
noncomputable def OpR(X:Cx)(f:Value->Value->Sem Value)(r:R2):Prop :=
 ∀(pins:LO) (s:Shared) (σ:St) (H:Hp) (x y:V) (v u:Value) (Q:VK),Inv X pins σ H s->RelV x v->RelV y u->r x y H Q ->
  wpAny (model X.prog X.w) X.A (f v u) (EP X pins σ Q) X.xe s
noncomputable def UnR(X:Cx)(f:Value->Sem Value)(r:V->Hp->VK->Prop):Prop :=
 ∀(pins:LO) (s:Shared) (σ:St) (H:Hp) (x:V) (v:Value) (Q:VK),Inv X pins σ H s->RelV x v->r x H Q ->
  wpAny (model X.prog X.w) X.A (f v) (EP X pins σ Q) X.xe s
noncomputable def bR(X:Cx)(f:Value)(r:List V->Hp->VK->Prop):Prop :=
 ∀(pins:LO) (s:Shared) (σ:St) (H:Hp) (xs:List V) (us:LV) (Q:VK),Inv X pins σ H s->Vals xs us->r xs H Q ->
  wpAny (model X.prog X.w) X.A (call f us) (EP X pins σ Q) X.xe s
noncomputable def tOp(r:R2)(ta tb:TE):TE:=λ σ H Q=>ta σ H λ x H1=>tb σ H1 λ y H2=>r x y H2 Q
noncomputable def tUn(r:V->Hp->VK->Prop)(ta:TE):TE:=λ σ H Q=>ta σ H λ x H1=>r x H1 Q
noncomputable def rI(C:Int->Int->Prop)(g:Int->Int->V):R2:=λ x y H Q=>qK x y λ i j=>C i j/\Q (g i j) H
noncomputable def rI0(g:Int->Int->V):R2:=λ x y H Q=>qK x y λ i j=>Q (g i j) H
noncomputable def rU(g:Int->V):V->Hp->VK->Prop:=λ x H Q=>isI x λ i=>Q (g i) H
section
variable {a b c:Expr}{ta tb tc:TE}{pos:Pos}
theorem qQ(ha:PE X a ta)(hb:PE X b tb){R:V->V->Hp->Prop}(I:Inv X pins σ H s)
  (h:ta σ H λ x H1=>tb σ H1 λ y H2=>R x y H2){f:Value->Value->Sem Value}
  (hf:∀v u s2 x y H2,Inv X pins σ H2 s2->RelV x v->RelV y u->R x y H2->wpAny (model X.prog X.w) X.A (f v u) Q X.xe s2) :
  wpAny (model X.prog X.w) X.A (eval a X.env) (λ v s₁=>wpAny (model X.prog X.w) X.A (eval b X.env) (λ u s₂=>wpAny (model X.prog X.w) X.A (f v u) Q X.xe s₂) X.xe s₁) X.xe s:=by
 refine thn (ha pins s σ H _ I h) λ v s1 ⟨x,H1,I1,r1,q1⟩=>?_;refine thn (hb pins s1 σ H1 _ I1 q1) λ u s2 ⟨y,H2,I2,r2,q2⟩=>?_;exact hf v u s2 x y H2 I2 r1 r2 q2
def CH(ho:OpR X (binaryOp op) r)(ha:PE X a ta)(hb:PE X b tb):PE X (.BinOp a op b pos) (tOp r ta tb):=by
 intro pins s σ H Q I h;exact wpAny_BinOp (qQ ha hb I h λ v u s2 x y H2 I2 rx ry q=>ho pins s2 σ H2 x y v u Q I2 rx ry q)
def CI(ho:UnR X (unaryOp op) r)(ha:PE X a ta):PE X (.UnaryOp op a pos) (tUn r ta):=by
 intro pins s σ H Q I h;exact UnaryOp_ (thn (ha pins s σ H _ I h) λ v s1 ⟨x,H1,I1,r1,q1⟩=>ho pins s1 σ H1 x v Q I1 r1 q1)
theorem opI{f:Value->Value->Sem Value}{C:Int->Int->Prop}{g:Int->Int->Int}
  (rule:∀(i j:Int) (t u:Tok) (s:Shared) (Q:VS) (E:VS),C i j->Q (.int (g i j) s.toks) { s with toks:=s.toks+1 }->wpAny (model X.prog X.w) X.A (f (.int i t) (.int j u)) Q E s) :
  OpR X f (rI C λ i j=>.int (g i j)):=by
 intro pins s σ H x y v u Q I rx ry h;obtain⟨i,j,rfl,rfl,hc,q⟩:=qL h;obtain⟨t,rfl⟩:=rx;obtain⟨t',rfl⟩:=ry;exact rule i j t t' s _ _ hc ⟨.int (g i j),H,I.tok _,⟨_,ca⟩,q⟩
theorem lM{f:Value->Value->Sem Value}{g:Int->Int->Int}
  (rule:∀(i j:Int) (t u:Tok) (s:Shared) (Q:VS) (E:VS),Q (.int (g i j) s.toks) { s with toks:=s.toks+1 }->wpAny (model X.prog X.w) X.A (f (.int i t) (.int j u)) Q E s) :
  OpR X f (rI0 λ i j=>.int (g i j)):=by
 intro pins s σ H x y v u Q I rx ry h;obtain⟨i,j,rfl,rfl,q⟩:=qL h;obtain⟨t,rfl⟩:=rx;obtain⟨t',rfl⟩:=ry;exact rule i j t t' s _ _ ⟨.int (g i j),H,I.tok _,⟨_,ca⟩,q⟩
theorem nT{f:Value->Value->Sem Value}{g:Int->Int->Bool}
  (rule:∀(i j:Int) (t u:Tok) (s:Shared) (Q:VS) (E:VS),Q (.bool (g i j)) s->wpAny (model X.prog X.w) X.A (f (.int i t) (.int j u)) Q E s) :
  OpR X f (rI0 λ i j=>.bl (g i j)):=by
 intro pins s σ H x y v u Q I rx ry h;obtain⟨i,j,rfl,rfl,q⟩:=qL h;obtain⟨t,rfl⟩:=rx;obtain⟨t',rfl⟩:=ry;exact rule i j t t' s _ _ ⟨.bl (g i j),H,I,ca,q⟩
def lN(i j:Int):Prop:=0<=j/\j<=1000000/\i.natAbs<2 ^ 64
noncomputable def CMul(i j:Int):Prop:=(-(2 ^ 64)<i/\i<2 ^ 64)\/(-(2 ^ 64)<j/\j<2 ^ 64)
def CMul.ok(h:CMul i j):IntMulOk i j:=by
 rcases h with ⟨h1,h2⟩|⟨h1,h2⟩
 ·exact .of_left (intBits_le_64 h1 h2)
 ·exact .of_right (intBits_le_64 h1 h2)
def CJ(k:Nat):(0:Int)<=2 ^ k:=by
 rw[two_pow_cast];exact qR _
def CK:OpR X (binaryOp .Add) (rI0 λ i j=>.int (i+j)):=lM λ _ _ _ _ _ _ _ q=>add_int q
def CL:OpR X (binaryOp .Sub) (rI0 λ i j=>.int (i-j)):=lM λ _ _ _ _ _ _ _ q=>sub_int q
def CO:OpR X (binaryOp .Mod) (rI (λ _ j=>0<j) λ i j=>.int (i%j)):=opI λ i j _ _ _ _ _ hc q=>by
 have h1:(0:Int)<j:=hc;exact mod_int' fu (by rw[Int.fmod_eq_emod_of_nonneg i fu];exact q)
def CP:OpR X (binaryOp .Mod) (rI (λ _ j=>j≠0) λ i j=>.int (i.fmod j)):=opI λ _ _ _ _ _ _ _ hc q=>mod_int' hc q
def CQ:OpR X (binaryOp .Pow) (rI lN λ i j=>.int (i ^ j.toNat)):=opI λ _ _ _ _ _ _ _ hc q=>pow_int_small hc.1 hc.2.1 hc.2.2 q
def CS:OpR X (binaryOp .RShift) (rI (λ _ j=>0<=j) λ i j=>.int (i/2 ^ j.toNat)):=opI λ i j _ _ _ _ _ hc q=>
 rshift_int hc (by rw[lO i (CJ _)];exact q)
def CT:OpR X (binaryOp .BitAnd) (rI0 λ i j=>.int (Builtin.bitAnd i j)):=lM λ _ _ _ _ _ _ _ q=>and_int q
def CU:OpR X (binaryOp .BitOr) (rI0 λ i j=>.int (Builtin.bitOr i j)):=lM λ _ _ _ _ _ _ _ q=>or_int q
def CV:OpR X (binaryOp .BitXor) (rI0 λ i j=>.int (Builtin.bitXor i j)):=lM λ _ _ _ _ _ _ _ q=>xor_int q
theorem unI{f:Value->Sem Value}{g:Int->Int}
  (rule:∀(i:Int) (t:Tok) (s:Shared) (Q:VS) (E:VS),Q (.int (g i) s.toks) { s with toks:=s.toks+1 }->wpAny (model X.prog X.w) X.A (f (.int i t)) Q E s) :
  UnR X f (rU λ i=>.int (g i)):=by
 intro pins s σ H x v Q I rx h;obtain⟨i,rfl,q⟩:=BL h;obtain⟨t,rfl⟩:=rx;exact rule i t s _ _ ⟨.int (g i),H,I.tok _,⟨_,ca⟩,q⟩
def CW:UnR X (unaryOp .USub) (rU λ i=>.int (-i)):=unI λ _ _ _ _ _ q=>neg_int q
end
noncomputable def bF:V->V->Bool
 |.non,.non=>true|.non,.int _=>true|.int _,.non=>true|.non,.bl _=>true|.bl _,.non=>true|.non,.str _=>true|.str _,.non=>true
 |.int _,.int _=>true|.bl _,.bl _=>true|.str _,.str _=>true|.byt _,.byt _=>true
 |.int _,.str _=>true|.str _,.int _=>true|.bl _,.str _=>true|.str _,.bl _=>true
 |_,_=>false
noncomputable def rEq:R2:=λ x y H Q=>match x,y with
 |.int i,.int j=>Q (.bl (decide (i=j))) H
 |.str i,.str j=>Q (.bl (decide (i=j))) H
 |x,y=>bF x y=true/\Q (.bl (decide (x=y))) H
def dcI(i j:Int):decide (V.int i=V.int j)=decide (i=j):=qS.mpr ⟨λ h=>V.int.inj h,λ h=>h ▸ rfl⟩
def dcS(i j:Str):decide (V.str i=V.str j)=decide (i=j):=qS.mpr ⟨λ h=>V.str.inj h,λ h=>h ▸ rfl⟩
def nU(p:Prop):p=(true=true/\p):=propext ⟨λ h=>⟨rfl,h⟩,λ h=>h.2⟩
def rEq_ex:rEq x y H Q=(bF x y=true/\Q (.bl (decide (x=y))) H):=by
 cases x<;>cases y<;>first|rfl|(rw[dcI];exact nU _)|(rw[dcS];exact nU _)
def CY(h:rEq x y H Q):bF x y=true/\Q (.bl (decide (x=y))) H:=rEq_ex.mp h
noncomputable def rNe:R2:=λ x y H Q=>match x,y with
 |.int i,.int j=>Q (.bl (!decide (i=j))) H
 |.str i,.str j=>Q (.bl (!decide (i=j))) H
 |x,y=>bF x y=true/\Q (.bl (!decide (x=y))) H
def rNe_ex:rNe x y H Q=(bF x y=true/\Q (.bl (!decide (x=y))) H):=by
 cases x<;>cases y<;>first|rfl|(rw[dcI];exact nU _)|(rw[dcS];exact nU _)
def CZ(h:rNe x y H Q):bF x y=true/\Q (.bl (!decide (x=y))) H:=rNe_ex.mp h
def uQ:decide (V.int i=V.int j)=(i == j):=by
 rw[nV];simp
def uR:decide (V.bl i=V.bl j)=(i == j):=by
 rw[nV];simp
def uS:decide (V.str i=V.str j)=(i == j):=by
 rw[nV];simp
def uT:decide (V.byt i=V.byt j)=(i.toList == j.toList):=by
 rw[nV];cases i;cases j;simp
section
variable {a b c:Expr}{ta tb tc:TE}{pos:Pos}
def bn{Q:VK}{k k':Bool}(I:Inv X pins σ H s)(q:Q (.bl k) H)(e:k=k'):EP X pins σ Q (.bool k') s:=by
 subst e;exact⟨.bl k,H,I,ca,q⟩
def dR:OpR X (compareOp .Eq) rEq:=by
 intro pins s σ H x y v u Q I rx ry h;obtain⟨hs,q⟩:=CY h
 cases x with
 |non=>
  cases rx
  cases y with
  |non=>cases ry;exact PySem.EqNone.eq_none_none (bn I q pv)
  |bl j=>cases ry;exact PySem.EqNone.eq_none_bool (bn I q pv)
  |int j=>obtain⟨t',rfl⟩:=ry;exact PySem.EqNone.eq_none_int (bn I q pv)
  |str j=>obtain⟨t',rfl⟩:=ry;exact PySem.EqNone.eq_none_str (bn I q pv)
  |_=>exact absurd (show false=true from hs) bG
 |bl i=>
  cases rx
  cases y with
  |non=>cases ry;exact PySem.EqNone.eq_bool_none (bn I q pv)
  |bl j=>cases ry;exact eq_bool (bn I q uR)
  |str j=>obtain⟨t',rfl⟩:=ry;exact PySem.EqMixed.eq_bool_str (bn I q pv)
  |_=>exact absurd (show false=true from hs) bG
 |int i=>
  obtain⟨t,rfl⟩:=rx
  cases y with
  |non=>cases ry;exact PySem.EqNone.eq_int_none (bn I q pv)
  |int j=>obtain⟨t',rfl⟩:=ry;exact eq_int (bn I q uQ)
  |str j=>obtain⟨t',rfl⟩:=ry;exact PySem.EqMixed.eq_int_str (bn I q pv)
  |_=>exact absurd (show false=true from hs) bG
 |str i=>
  obtain⟨t,rfl⟩:=rx
  cases y with
  |non=>cases ry;exact PySem.EqNone.eq_str_none (bn I q pv)
  |bl j=>cases ry;exact PySem.EqMixed.eq_str_bool (bn I q pv)
  |int j=>obtain⟨t',rfl⟩:=ry;exact PySem.EqMixed.eq_str_int (bn I q pv)
  |str j=>obtain⟨t',rfl⟩:=ry;exact eq_str (bn I q uS)
  |_=>exact absurd (show false=true from hs) bG
 |byt i=>
  obtain⟨t,rfl⟩:=rx
  cases y with
  |byt j=>obtain⟨t',rfl⟩:=ry;exact W.eq_bytes (bn I q uT)
  |_=>exact absurd (show false=true from hs) bG
 |_=>cases y<;>exact absurd (show false=true from hs) bG
def dU:OpR X (compareOp .NotEq) rNe:=by
 intro pins s σ H x y v u Q I rx ry h;obtain⟨hs,q⟩:=CZ h
 cases x with
 |non=>
  cases rx
  cases y with
  |non=>cases ry;exact PySem.EqNone.ne_none_none (bn I q pv)
  |bl j=>cases ry;exact PySem.EqNone.ne_none_bool (bn I q pv)
  |int j=>obtain⟨t',rfl⟩:=ry;exact PySem.EqNone.ne_none_int (bn I q pv)
  |str j=>obtain⟨t',rfl⟩:=ry;exact PySem.EqNone.ne_none_str (bn I q pv)
  |_=>exact absurd (show false=true from hs) bG
 |bl i=>
  cases rx
  cases y with
  |non=>cases ry;exact PySem.EqNone.ne_bool_none (bn I q pv)
  |bl j=>cases ry;exact ne_bool (bn I q (br not uR))
  |str j=>obtain⟨t',rfl⟩:=ry;exact PySem.EqMixed.ne_bool_str (bn I q pv)
  |_=>exact absurd (show false=true from hs) bG
 |int i=>
  obtain⟨t,rfl⟩:=rx
  cases y with
  |non=>cases ry;exact PySem.EqNone.ne_int_none (bn I q pv)
  |int j=>obtain⟨t',rfl⟩:=ry;exact ne_int (bn I q (br not uQ))
  |str j=>obtain⟨t',rfl⟩:=ry;exact PySem.EqMixed.ne_int_str (bn I q pv)
  |_=>exact absurd (show false=true from hs) bG
 |str i=>
  obtain⟨t,rfl⟩:=rx
  cases y with
  |non=>cases ry;exact PySem.EqNone.ne_str_none (bn I q pv)
  |bl j=>cases ry;exact PySem.EqMixed.ne_str_bool (bn I q pv)
  |int j=>obtain⟨t',rfl⟩:=ry;exact PySem.EqMixed.ne_str_int (bn I q pv)
  |str j=>obtain⟨t',rfl⟩:=ry;exact ne_str (bn I q (br not uS))
  |_=>exact absurd (show false=true from hs) bG
 |byt i=>
  obtain⟨t,rfl⟩:=rx
  cases y with
  |byt j=>obtain⟨t',rfl⟩:=ry;exact W.ne_bytes (bn I q (br not uT))
  |_=>exact absurd (show false=true from hs) bG
 |_=>cases y<;>exact absurd (show false=true from hs) bG
def Da:OpR X (compareOp .Lt) (rI0 λ i j=>.bl (decide (i<j))):=nT λ _ _ _ _ _ _ _ q=>lt_int q
def Db:OpR X (compareOp .LtE) (rI0 λ i j=>.bl (decide (i<=j))):=nT λ _ _ _ _ _ _ _ q=>le_int q
def Dc:OpR X (compareOp .Gt) (rI0 λ i j=>.bl (decide (j<i))):=nT λ _ _ _ _ _ _ _ q=>gt_int q
def Dd:OpR X (compareOp .GtE) (rI0 λ i j=>.bl (decide (j<=i))):=nT λ _ _ _ _ _ _ _ q=>ge_int q
def De:OpR X (compareOp .Is) (λ x y H Q=>y=.non/\Q (.bl (decide (x=.non))) H):=by
 intro pins s σ H x y v u Q I rx ry h;obtain⟨rfl,q⟩:=h;cases ry;refine is_none_gen (bn I q ?_)
 cases x<;>first
  |(cases rx;rfl)
  |(obtain⟨t,rfl⟩:=rx;rfl)
def Df:OpR X (compareOp .IsNot) (λ x y H Q=>y=.non/\Q (.bl (!decide (x=.non))) H):=by
 intro pins s σ H x y v u Q I rx ry h;obtain⟨rfl,q⟩:=h;cases ry;refine isnot_none_gen (bn I q ?_)
 cases x<;>first
  |(cases rx;rfl)
  |(obtain⟨t,rfl⟩:=rx;rfl)
def Dg(ho:OpR X (compareOp op) r)(ha:PE X a ta)(hb:PE X b tb)(hm:behindInMarks op b=false):PE X (.Compare a [op] [b] pos) (tOp r ta tb):=by
 intro pins s σ H Q I h;exact wpAny_Compare1 (qQ ha hb I h λ v u s2 x y H2 I2 rx ry q=>ho pins s2 σ H2 x y v u Q I2 rx ry q) hm
def uU(t:TE):TT:=λ σ H Q=>t σ H λ x H'=>isB x λ k=>Q k H'
def Dh(ho:OpR X (compareOp op) r)(ha:PE X a ta)(hb:PE X b tb)(hm:behindInMarks op b=false):PT X (.Compare a [op] [b] pos) (uU (tOp r ta tb)):=by
 intro pins s σ H Q I h
 refine wpAny_isTrue_Compare1 (thn (ha pins s σ H _ I h) λ v s1 ⟨x,H1,I1,r1,q1⟩=>thn (hb pins s1 σ H1 _ I1 q1) λ u s2 ⟨y,H2,I2,r2,q2⟩ =>
  thn (ho pins s2 σ H2 x y v u _ I2 r1 r2 q2) λ c s3 ⟨z,H3,I3,r3,q3⟩=>?_) hm
 obtain⟨k,e,q3⟩:=jP q3;subst e;cases r3;exact fG ⟨H3,I3,q3⟩
noncomputable def uV(r r':R2)(ta tb tc:TE):TE:=λ σ H Q=>ta σ H λ x H1=>tb σ H1 λ y H2=>r x y H2 λ z H3=>∃k,z=.bl k /\
 (if k=true then tc σ H3 λ w' H4=>r' y w' H4 Q else Q (.bl false) H3)
theorem Di(ho:OpR X (compareOp op) r)(ho':OpR X (compareOp op') r')(ha:PE X a ta)(hb:PE X b tb)(hc:PE X c tc)
  (hm:lastMarks [op,op'] [b,c]=false:=by with_unfolding_all rfl):PE X (.Compare a [op,op'] [b,c] pos) (uV r r' ta tb tc):=by
 intro pins s σ H Q I h
 refine Compare_chain (thn (ha pins s σ H _ I h) λ v s1 ⟨x,H1,I1,r1,q1⟩=>chain_link (thn (hb pins s1 σ H1 _ I1 q1) λ u s2 ⟨y,H2,I2,r2,q2⟩ =>
  thn (ho pins s2 σ H2 x y v u _ I2 r1 r2 q2) λ d s3 ⟨z,H3,I3,r3,k,e,q3⟩=>?_)) hm
 subst e;cases r3;refine fG ?_
 cases k with
 |false=>exact ite_ff ⟨.bl false,H3,I3,rfl,q3⟩
 |true=>exact ite_tt (chain_last (thn (hc pins s3 σ H3 _ I3 q3) λ w' s4 ⟨z',H4,I4,r4,q4⟩=>ho' pins s4 σ H4 y z' u w' Q I4 r2 r4 q4))
theorem Dj(ho:OpR X (compareOp op) r)(ho':OpR X (compareOp op') r')(ha:PE X a ta)(hb:PE X b tb)(hc:PE X c tc)
  (hm:lastMarks [op,op'] [b,c]=false:=by with_unfolding_all rfl):PT X (.Compare a [op,op'] [b,c] pos) (uU (uV r r' ta tb tc)):=by
 intro pins s σ H Q I h
 refine isTrue_chain (thn (ha pins s σ H _ I h) λ v s1 ⟨x,H1,I1,r1,q1⟩=>test_link (thn (hb pins s1 σ H1 _ I1 q1) λ u s2 ⟨y,H2,I2,r2,q2⟩ =>
  thn (ho pins s2 σ H2 x y v u _ I2 r1 r2 q2) λ d s3 ⟨z,H3,I3,r3,k,e,q3⟩=>?_)) hm
 subst e;cases r3;refine fG ?_
 cases k with
 |false=>
  obtain⟨k',e',q'⟩:=jP (show isB (V.bl false) (λ k=>Q k H3) from q3);cases e';exact ite_ff ⟨H3,I3,q'⟩
 |true=>
  refine ite_tt (test_last (thn (hc pins s3 σ H3 _ I3 q3) λ w' s4 ⟨z',H4,I4,r4,q4⟩=>thn (ho' pins s4 σ H4 y z' u w' _ I4 r2 r4 q4) λ d' s5 ⟨z2,H5,I5,r5,q5⟩=>?_));obtain⟨k2,e2,q5⟩:=jP q5;subst e2;cases r5;exact fG ⟨H5,I5,q5⟩
def jV:(sizeLine:Nat)<2 ^ 63:=by rw[jW];decide
def cB{x:V}(r:Vals [x] us):∃u,us=[u]/\RelV x u:=by
 cases r with
 |cons r1 r2=>cases r2;exact⟨_,rfl,r1⟩
def lP{x y:V}(r:Vals [x,y] us):∃u w',us=[u,w']/\RelV x u/\RelV y w':=by
 cases r with
 |cons r1 r2=>
  cases r2 with
  |cons r3 r4=>cases r4;exact⟨_,_,rfl,r1,r3⟩
def Dk:bR X (.builtin "abs") (λ xs H Q=>∃i,xs=[.int i]/\Q (.int (if i<0 then -i else i)) H):=by
 intro pins s σ H xs us Q I r h;obtain⟨i,rfl,q⟩:=h;obtain⟨u,rfl,t,rfl⟩:=cB r;exact call_abs_int λ u tk=>⟨.int (if i<0 then -i else i),H,I.tok _,⟨_,ca⟩,q⟩
def Dl(hc:X.calm=true):bR X (.builtin "max") (λ xs H Q=>∃i j,xs=[.int i,.int j]/\Q (.int (if j > i then j else i)) H):=by
 intro pins s σ H xs us Q I r h;obtain⟨i,j,rfl,q⟩:=h;obtain⟨u,w',rfl,⟨t,rfl⟩,⟨t',rfl⟩⟩:=lP r;refine max_two_ints (I.ok.hd hc) λ h' tk k=>⟨_,H,I.kept k,?_,q⟩;by_cases hj:j > i
 ·rw[if_pos hj,if_pos hj];exact⟨_,rfl⟩
 ·rw[if_neg hj,if_neg hj];exact⟨_,rfl⟩
def Dm(hc:X.calm=true):bR X (.builtin "min") (λ xs H Q=>∃i j,xs=[.int i,.int j]/\Q (.int (if j<i then j else i)) H):=by
 intro pins s σ H xs us Q I r h;obtain⟨i,j,rfl,q⟩:=h;obtain⟨u,w',rfl,⟨t,rfl⟩,⟨t',rfl⟩⟩:=lP r;refine min_two_ints (I.ok.hd hc) λ h' tk k=>⟨_,H,I.kept k,?_,q⟩;by_cases hj:j<i
 ·rw[if_pos hj,if_pos hj];exact⟨_,rfl⟩
 ·rw[if_neg hj,if_neg hj];exact⟨_,rfl⟩
def uW:bR X (.type "int") (λ xs H Q=>(∃i,xs=[.int i]/\Q (.int i) H)\/∃k,xs=[.bl k]/\Q (.int (if k then 1 else 0)) H):=by
 intro pins s σ H xs us Q I r h
 rcases h with ⟨i,rfl,q⟩|⟨k,rfl,q⟩
 ·obtain⟨u,rfl,t,rfl⟩:=cB r;exact call_int_int ⟨.int i,H,I,⟨_,ca⟩,q⟩
 ·obtain⟨u,rfl,r1⟩:=cB r;cases r1;exact call_int_bool ⟨.int (if k then 1 else 0),H,I.tok _,⟨_,ca⟩,q⟩
end
section
variable {prog:Program}{w:World}{A:Around}{E:VS}{s:Shared}{K:FG}{x dx C f:Addr}{mA:SV}{name:Str}{v:Value}
end
section
variable {P:Program}{w:World}{H H':Hp}{h h':Heap}{a C dx:Addr}{fs fs':List (Str×V)}
end
noncomputable def nW(K:FG)(C:Addr)(f:Str):Prop:=W.findIn K (.ref C) f=some none
section
variable {pins:LO}{σ:St}{H:Hp}{s:Shared}{a C dx:Addr}{fs:List (Str×V)}{f:Str}{v:V}{A:Around}{E:VS}
end
section
variable {o e value:Expr}{f:Str}{pos pos' tpos:Pos}{ta tv:TE}
end
section
variable {pins:LO}{σ:St}{H:Hp}{s:Shared}{A:Around}{E:VS}{Q:VS}{c:Value}{b:Bool}
end
structure Room (k:Nat)(A:Around):Prop where
 hd:A.handled=none
 dp:A.depth+3*k+5<recursionLimit
 un:A.units+16*k+200<cLine
def Room.mono{j k:Nat}(r:Room k A)(h:j<=k):Room j A:=⟨r.hd,by have:=r.dp;lia,by have:=r.un;lia⟩
def Room.deeper{k:Nat}(r:Room (k+1) A)(env:Env):Room k (A.deeper env) :=
 ⟨r.hd,by have:=r.dp;show A.depth+1+3*k+5<_;lia,by have:=r.un;show A.units+3+16*k+200<_;lia⟩
def Dn{A:Around}{us:LV}{kw:List (Str×Value)}:(A.under (.builtin "type.__call__" ⟨.ref C::us,kw⟩)).depth=A.depth+1:=by
 first|rfl|simp[Around.under,Code.weight,Code.isCreation,Code.isGuard,Code.isCaller,Code.frames,Code.isFrame,guardIds]
def Do{A:Around}{us:LV}{kw:List (Str×Value)}:(A.under (.builtin "type.__call__" ⟨.ref C::us,kw⟩)).units=A.units+1:=by
 first|rfl|simp[Around.under,Code.cUnits,Code.frames,Code.isFrame]
def Room.make{k:Nat}(r:Room (k+1) A)(C:Addr)(us:LV)(kw:List (Str×Value)):Room k (A.under (.builtin "type.__call__" ⟨.ref C::us,kw⟩)) :=
 ⟨r.hd,by have:=r.dp;rw[Dn];lia,by have:=r.un;rw[Do];lia⟩
def Room.depth(r:Room k A):A.depth<recursionLimit:=by have:=r.dp;lia
def qT:TA:=λ _ H Q=>Q [] H
noncomputable def nX(ta:TE)(tr:TA):TA:=λ σ H Q=>ta σ H λ x H1=>tr σ H1 λ xs H2=>Q (x::xs) H2
section
variable {e:Expr}{es:List Expr}{te:TE}{t:TA}{pos:Pos}
def pa_nil:PA X [] qT:=λ _ _ _ _ H Q I h=>qU ⟨[],H,I,.nil,h⟩
def bJ(ha:PE X e te)(hr:PA X es t)(hs:starEach (e::es) X.env=(false,eval e X.env)::starEach es X.env:=by rfl):PA X (e::es) (nX te t):=by
 intro pos pins s σ H Q I h;rw[hs];show wpAny _ _ (spliced ((false,eval e X.env)::backTo pos (starEach es X.env))) _ _ s;refine qV (thn (ha pins s σ H _ I h) λ u s1 ⟨x,H1,I1,r1,q1⟩=>?_);exact thn (hr pos pins s1 σ H1 _ I1 q1) λ us s2 ⟨xs,H2,I2,r2,q2⟩=>⟨x::xs,H2,I2,.cons r1 r2,q2⟩
noncomputable def Dp(t:TA):TE:=λ σ H Q=>t σ H λ xs H1=>xs.length<=sizeLine/\∀p,H1 p=none->Q (.ref p) (upd H1 p (.tup xs))
noncomputable def Dq(t:TA):TE:=λ σ H Q=>t σ H λ xs H1=>xs.length<=sizeLine/\∀p,H1 p=none->Q (.ref p) (upd H1 p (.lst xs))
def nY{x1}(h:PA X es t):PE X (.Tuple es x1 pos) (Dp t):=by
 intro pins s σ H Q I hq;refine wpAny_Tuple_spliced (thn (h pos pins s σ H _ I hq) λ us s1 ⟨xs,H1,I1,r,z,q⟩=>⟨by rw[<- r.length];exact z,?_⟩);have hf:H1 s1.heap.objs.size=none:=I1.hok.fresh (av _);refine⟨.ref s1.heap.objs.size,upd H1 s1.heap.objs.size (.tup xs),I1.laid (t':=s1.toks) (λ b u e=>aA _ e) (av _) ?_,ca,q _ hf⟩;exact⟨z,us,r,⟨_,aR _ rfl,⟨ca,_,ca⟩,ca⟩⟩
def Dr(h:PA X es t):PE X (.List es pos) (Dq t):=by
 intro pins s σ H Q I hq;refine wpAny_List_spliced (thn (h pos pins s σ H _ I hq) λ us s1 ⟨xs,H1,I1,r,z,q⟩=>⟨by rw[<- r.length];exact z,?_⟩);have hf:H1 s1.heap.objs.size=none:=I1.hok.fresh (av _);refine⟨.ref s1.heap.objs.size,upd H1 s1.heap.objs.size (.lst xs),I1.laid (t':=s1.toks) (λ b u e=>aA _ e) (av _) ?_,ca,q _ hf⟩;exact⟨z,us,0,r,aR _ rfl⟩
end
abbrev Sp:=List V->Hp->VK->XK->Prop
abbrev CXT:=List Env->Hp->Shared->XK->VS
structure Env0 (P:Program)(w:World)(K:FG)(mg:SV)(base:Heap)(A:Around)(outer:List Env)(s:Shared)(H:Hp):Prop where
 frames:A.frames=some outer
 mod:Mod K mg base
 bs:∀b o,base.get? b=some o->s.heap.get? b=some o/\H b=none
 bsz:base.objs.size<=s.heap.objs.size
 funs:s.heap.FunFrames base outer
 frf:∀b∈frs outer,H b=none
 hok:HOk P w H s.heap
 bare:AllBare s.gens
noncomputable def CE(outer:List Env)(P:Program)(w:World)(H:Hp)(s:Shared)(Q:VK)(u:Value)(s':Shared):Prop :=
 ∃v H',s'.os=s.os/\AllBare s'.gens/\Un (frs outer) [] H H' s.heap s'.heap/\HOk P w H' s'.heap/\RelV v u/\Q v H'
noncomputable def CR(CX:CXT)(outer:List Env)(P:Program)(w:World)(H:Hp)(s:Shared)(Q:VK)(E:XK)(r:Result)(s':Shared):Prop :=
 match r with
 |.ok (.ret u)=>CE outer P w H s Q u s'
 |.ok _=>False
 |.error e=>CX outer H s E e s'
structure FnOk (P:Program)(w:World)(K:FG)(mg:SV)(base:Heap)(CX:CXT)(k:Nat)(f:Addr)(fd:FuncData)(ps:List Str)(sp:Sp):Prop where
 len:∀vs H Q E,sp vs H Q E->vs.length=ps.length
 run:∀(A:Around) (outer:List Env) (s:Shared) (H:Hp) (args:Args) (us:LV) (vs:List V) (Q:VK) (E:XK),Room k A->Env0 P w K mg base A outer s H->BindsTo s fd args (ps.zip us)->Vals vs us->sp vs H Q E ->
  codeAny (model P w) A (.call (.ref f) args) (CR CX outer P w H s Q E) s
theorem FnOk.mono{K:FG}{j k:Nat}(F:FnOk P w K mg base CX j f fd ps sp)(h:j<=k) :
  FnOk P w K mg base CX k f fd ps sp:=⟨F.len,λ A outer s H args us vs Q E hr=>F.run A outer s H args us vs Q E (hr.mono h)⟩
theorem FnOk.imp{K:FG}{sp sp':Sp}(F:FnOk P w K mg base CX k f fd ps sp)
  (h:∀vs H Q E,sp' vs H Q E->sp vs H Q E):FnOk P w K mg base CX k f fd ps sp' :=
 ⟨λ vs H Q E q=>F.len vs H Q E (h _ _ _ _ q),λ A outer s H args us vs Q E hr he hb hv hs=>F.run A outer s H args us vs Q E hr he hb hv (h _ _ _ _ hs)⟩
theorem Env0.make{K:FG}(e:Env0 P w K mg base A outer s H)(C:Addr)(us:LV)(kw:List (Str×Value)) :
  Env0 P w K mg base (A.under (.builtin "type.__call__" ⟨.ref C::us,kw⟩)) outer s H:=⟨by first|exact e.frames|(simpa [Around.under,Code.envs,Code.isFrame,pushEnvs] using e.frames),e.mod,e.bs,e.bsz,e.funs,e.frf,e.hok,e.bare⟩
section
variable {pins:LO}{σ:St}{H:Hp}{s s':Shared}
def Inv.env0(I:Inv X pins σ H s):Env0 X.prog X.w X.K X.mg X.base X.A X.stack s H :=
 ⟨I.ok.frames,I.ok.mod,I.bs,cI I.ok.bsz I.sz,I.stack,I.stkFree,I.hok,I.bare⟩
def Inv.after(I:Inv X pins σ H s)(h:CE X.stack X.prog X.w H s Q u s'):EP X pins σ Q u s':=by
 obtain⟨v,H',os,bare,un,hok,r,q⟩:=h;obtain⟨hh,g,d,t,os'⟩:=s';obtain rfl:os'=s.os:=os;exact⟨v,H',I.call (h':=hh) (g':=g) (d':=d) (t':=t) (ch:=[]) un hok bare (λ b z=>absurd z pv),r,q⟩
end
noncomputable def uX(sp:Sp)(dvs:List V)(E:XK)(t:TA):TE:=λ σ H Q=>t σ H λ vs H1=>sp (vs++dvs) H1 Q E
noncomputable def Binds(K:FG)(fd:FuncData)(ps:List Str)(ds:LV):Prop :=
 ∀(s:Shared) (us:LV),K.In s.heap->(us++ds).length=ps.length->BindsTo s fd ⟨us,[]⟩ (ps.zip (us++ds))
def Binds.all{K:FG}{ps:List Str}(h:∀us:LV,us.length=ps.length->bindArgs fd ⟨us,[]⟩=pure (ps.zip us)):Binds K fd ps []:=λ s us _ hl=>by
 rw[cu] at hl ⊢;exact .of_eq (h us hl)
noncomputable def lQ(CX:CXT)(X:Cx)(E:XK):Prop:=∀(pins:LO) (σ:St) (H:Hp) (s:Shared) (e:Value) (s':Shared),Inv X pins σ H s->CX X.stack H s E e s'->X.xe e s'
section
variable {CX:CXT}{k:Nat}{f C:Addr}{fd:FuncData}{ps:List Str}{sp:Sp}{dvs:List V}{ds:LV}{E:XK}{x m:Str}{p pos apos:Pos}{e o:Expr}{es:List Expr}{ta:TE}{t:TA}
theorem Ds{vs:List V}(F:FnOk X.prog X.w X.K X.mg X.base CX k f fd ps sp)(hr:Room k X.A)(hb:Binds X.K fd ps ds)(hd:Vals dvs ds)(hx:lQ CX X E)
  (I:Inv X pins σ H s) (r:Vals vs us) (h:sp (vs++dvs) H Q E):wpAny (model X.prog X.w) X.A (call (.ref f) us) (EP X pins σ Q) X.xe s:=by
 have r2:Vals (vs++dvs) (us++ds):=r.append hd;have hl:(us++ds).length=ps.length:=by rw[<- r2.length];exact F.len _ _ _ _ h
 refine jX (iX (F.run X.A X.stack s H ⟨us,[]⟩ (us++ds) (vs++dvs) Q E hr I.env0 (hb s us I.kIn hl) r2 h) λ r s' hq=>?_)
 cases r with
 |error e=>exact hx pins σ H s e s' I hq
 |ok fl=>
  cases fl with
  |ret u=>exact I.after hq
  |next=>exact False.elim hq
  |brk=>exact False.elim hq
  |cont=>exact False.elim hq
theorem Dt(F:FnOk X.prog X.w X.K X.mg X.base CX k f fd ps sp)(hr:Room k X.A)(hg:Gl X x)(hm:X.mg x=some (.ref f))(hk:W.keepIn X.K (.ref f)=true)(hb:Binds X.K fd ps ds)(hd:Vals dvs ds)(hx:lQ CX X E)
  (ha:PA X (e::es) t) (hdb:(x == ("__debug__" : Str))=false:=by decide) (he:starEach (e::es) X.env=(false,eval e X.env)::starEach es X.env:=by rfl) (hpl:(backTo pos (starEach es X.env)).any (·.1)=false:=by rfl) :
  PE X (.Call (.Name x p) (e::es) [] pos) (uX sp dvs E t):=by
 intro pins s σ H Q I h;refine ik (hZ I hg hm ?_ hdb);refine nZ (h₀:=X.base) I.ok.mod.kin hk (thn (ha pos pins s σ H _ I h) λ us s1 ⟨vs,H1,I1,r,q⟩=>⟨I1.kIn,?_⟩) he hpl;exact Ds F hr hb hd hx I1 r q
end
section
variable {CX:CXT}{k:Nat}{f C:Addr}{fd:FuncData}{ps ks:List Str}{sp:Sp}{E:XK}{x m:Str}{p pos apos kpos:Pos}{e o:Expr}{es:List Expr}{kws:List Keyword}{te ta:TE}{t tk:TA}{nm:Option Str}
variable {g:LV->LV->LV}{gV:List V->List V->List V}
end
structure FnScope (N P:List Str)(sc:Scope):Prop where
 kind:sc.kind=.function
 co:sc.isCoroutine=false
 gen:sc.isGenerator=false
 nd:N.Nodup
 pre:N.take P.length=P
 par:∀x∈P,sc.names.lookup x=some .local\/sc.names.lookup x=some .cell
 nofree:∀y∈sc.names,y.2≠.free
theorem uY{kindOf:Str->Option NameKind}{x:Str}:∀ {binds:List (Str×Value)}{m:SV},(∀v,(x,v) ∉ binds)->bindL kindOf binds m x=m x
 |[],_,_=>rfl
 |(n,v)::r,m,h=>by
  unfold bindL;rw[uY λ w hw=>h w (aW _ hw)];split
  ·have:x≠n:=by rintro rfl;exact h v bz
   simp[this]
  ·rfl
theorem uZ{kindOf:Str->Option NameKind}{x:Str}:∀ {binds:List (Str×Value)}{m:SV},(∀v,(x,v) ∉ binds)->bindC kindOf binds m x=m x
 |[],_,_=>rfl
 |(n,v)::r,m,h=>by
  unfold bindC;rw[uZ λ w hw=>h w (aW _ hw)];split
  ·rfl
  ·have:x≠n:=by rintro rfl;exact h v bz
   simp[this]
theorem qW{kindOf:Str->Option NameKind}:∀ {P:List Str}{vs:LV}{i:Nat}{m:SV},P.Nodup->P[i]?=some x->vs[i]?=some v->kindOf x=some .local ->
  bindL kindOf (P.zip vs) m x=some v
 |[],_,_,_,_,h,_,_=>by simp at h
 |_::_,[],_,_,_,_,h,_=>by simp at h
 |p::P,w::vs,0,m,nd,h1,h2,hk=>by
  simp at h1 h2;subst h1;subst h2;show bindL kindOf ((p,w)::P.zip vs) m p=_;unfold bindL;rw[uY λ v hv=>(fH.mp nd).1 (jY hv).1,if_pos hk];simp
 |p::P,w::vs,i+1,m,nd,h1,h2,hk=>by
  show bindL kindOf ((p,w)::P.zip vs) m x=_;unfold bindL;exact qW (i:=i) (fH.mp nd).2 (by simpa using h1) (by simpa using h2) hk
theorem qX{kindOf:Str->Option NameKind}:∀ {P:List Str}{vs:LV}{i:Nat}{m:SV},P.Nodup->P[i]?=some x->vs[i]?=some v->kindOf x≠some .local ->
  bindC kindOf (P.zip vs) m x=some v
 |[],_,_,_,_,h,_,_=>by simp at h
 |_::_,[],_,_,_,_,h,_=>by simp at h
 |p::P,w::vs,0,m,nd,h1,h2,hk=>by
  simp at h1 h2;subst h1;subst h2;show bindC kindOf ((p,w)::P.zip vs) m p=_;unfold bindC;rw[uZ λ v hv=>(fH.mp nd).1 (jY hv).1,if_neg hk];simp
 |p::P,w::vs,i+1,m,nd,h1,h2,hk=>by
  show bindC kindOf ((p,w)::P.zip vs) m x=_;unfold bindC;exact qX (i:=i) (fH.mp nd).2 (by simpa using h1) (by simpa using h2) hk
noncomputable def start(N:List Str)(vs:List V):St:=vs.map some++List.replicate (N.length-vs.length) none
noncomputable def bH(CX:CXT)(P:Program)(w:World)(K:FG)(mg:SV)(base:Heap)(N:List Str)(qual:Str)(scope:Scope)(f:Addr)(cd:Value)(A:Around)(outer:List Env)(s:Shared)(H:Hp)(E:XK):Cx where
 prog:=P
 w:=w
 K:=K
 mg:=mg
 base:=base
 A:=A.deeper (envOfC qual scope s.heap.objs.size f cd)
 N:=N
 s₀:=s
 H₀:=H
 env:=envOfC qual scope s.heap.objs.size f cd
 outer:=outer
 stack:=envOfC qual scope s.heap.objs.size f cd::outer
 ex:=[]
 calm:=true
 fn:=λ _=>true
 pn:=[]
 xe:=λ e s'=>wpAny (model P w) (A.deeper (envOfC qual scope s.heap.objs.size f cd)) (leaving (envOfC qual scope s.heap.objs.size f cd) e) (λ _ s''=>CX outer H s E e s'') (λ e' s''=>CX outer H s E e' s'') s'
def lR{sc:Scope}(h:sc.names.lookup x=some .cell):∃c,(cellsFrom n sc.names []).lookup x=some c:=by
 have q:=jZ sc.names n [] (.inl h);exact ka.mp q
theorem Du{K:FG}{A:Around}{s s1:Shared}{vs:List V}
  (S:FnScope N ps scope) (hd:A.handled=none) (e0:Env0 P w K mg base A outer s H) (hl:vs.length=ps.length) (r:Vals vs us)
  (x:InCallC s s.heap.objs.size (bindL (envOfC qual scope s.heap.objs.size f cd).kindOf (ps.zip us) λ _=>none) (cellsFrom (s.heap.objs.size+1) scope.names []) (bindC (envOfC qual scope s.heap.objs.size f cd).kindOf (ps.zip us) λ _=>none) s1) :
  Inv (bH CX P w K mg base N qual scope f cd A outer s H E) [] (start N vs) H s1:=by
 have hpl:ps.length<=N.length:=by have:=br List.length S.pre;rw[bc] at this;lia
 obtain⟨h1,tk,rfl,hk⟩:=x.done;have noA:∀b:Addr,b ∉ (bH CX P w K mg base N qual scope f cd A outer s H E).ex:=λ b z=>absurd (show b∈([]:List Addr) from z) pv
 refine⟨⟨e0.mod,S.kind,ca,ca,av _,λ y z c h1 h2=>?_,λ y hy=>?_,λ y c _ h=>?_,λ _=>hd,s0h e0.frames,.inr ⟨ca,ca⟩,λ b z=>absurd z (noA b),e0.bs,e0.bsz,λ b _ _=>noA b,λ b z=>absurd z (noA b),e0.funs,e0.frf⟩,
  rfl,e0.bare,Un.kept hk,⟨_,x.toInCall.ns,λ i y v h1 h2 h3=>?_⟩,λ y c h=>⟨_,x.cell y c h⟩,e0.hok.fresh (av _),λ y c h=>?_,λ p hp=>absurd (show p∈([]:LO) from hp) pv,e0.hok.kept hk,?_⟩
 ·exact og x.apart (dw h1) (dw h2)
 ·have hy:scope.names.lookup y=some .cell\/scope.names.lookup y=some .free:=hy
  rcases hy with hy|hy
  ·exact lR hy
  ·exact absurd rfl (S.nofree _ (dw hy))
 ·exact dq (x.above y c (dw h))
 ·have hi:i<vs.length:=by
   unfold start at h2;by_cases hi:i<vs.length
   ·exact hi
   ·rw[dW (by simpa using hi)] at h2;rw[iY] at h2;split at h2<;>cases h2
  have ha:vs[i]?=some v:=by
   unfold start at h2;rw[cZ (by simpa using hi),aL] at h2
   cases e:vs[i]? with
   |none=>rw[e] at h2;cases h2
   |some a=>rw[e] at h2;cases h2;rfl
  obtain⟨u,hu,rv⟩:=r.get ha
  have hp:ps[i]?=some y:=by
   rw[<- S.pre,kg fu];exact h1
  have ndP:ps.Nodup:=by rw[<- S.pre];exact S.nd.sublist (List.take_sublist _ _)
  refine⟨u,rv,?_⟩
  rcases S.par y (aD hp) with k|k
  ·exact .inl ⟨k,qW ndP hp hu k⟩
  ·obtain⟨c,e⟩:=lR (n:=s.heap.objs.size+1) k;refine .inr ⟨.inl k,c,e,?_⟩;have q:=x.cell y c e;rw[qX ndP hp hu (by show scope.names.lookup y≠_;rw[k];decide)] at q;exact q
 ·exact e0.hok.fresh (dq (x.above y c (dw h)))
 ·unfold start;show _=N.length;rw[aK,ak,dX];lia
theorem qY{K:FG}{dV kV doc pm cdv ct oc:Value}{an od:OA}
  {osl:AV}{sp:Sp}(lk:K.lookup f=some ⟨oc,od,.func (W.fnOf name qual params body scope dV kV doc pm an cdv ct),osl⟩) (hcd:W.codeIn K cdv qual=true) (S:FnScope N ps scope)
  (len:∀vs H Q E,sp vs H Q E->vs.length=ps.length)
  (hbody:∀(A:Around) (outer:List Env) (s:Shared) (H:Hp) (vs:List V) (Q:VK) (E:XK),Room k (A.deeper (envOfC qual scope s.heap.objs.size f cdv))->sp vs H Q E ->
   ∃t,PSs (bH CX P w K mg base N qual scope f cdv A outer s H E) body t/\t { nx:=λ _ H'=>Q .non H',rt:=Q } (start N vs) H) :
  FnOk P w K mg base CX (k+1) f (W.fnOf name qual params body scope dV kV doc pm an cdv ct) ps sp:=by
 refine⟨len,λ A outer s H args us vs Q E hr e0 hb r hsp=>?_⟩;have hl:=len _ _ _ _ hsp;have KX:K.In s.heap:=e0.mod.kin.keeps λ b o e=>(e0.bs b o e).1;have lim:s.heap.NoLimit:=e0.mod.nolimit.keeps λ b o e=>(e0.bs b o e).1
 have hkind:∀y∈ps.zip us,scope.names.lookup y.1=some .local\/(scope.names.lookup y.1=some .cell/\((cellsFrom (s.heap.objs.size+1) scope.names []).lookup y.1).isSome=true):=λ⟨n,v⟩ hy=>by
  rcases S.par n (jY hy).1 with q|q
  ·exact .inl q
  ·exact .inr ⟨q,jZ _ _ _ (.inl q)⟩
 refine va hr.depth (KX _ _ lk) rfl S.co S.gen rfl (W.codeRec_of KX hcd) (hb _ _ _ _ ?_);refine wpAny_newFunctionEnv_cells S.kind hkind λ env he s1 x=>?_;subst he;refine⟨lim.keeps x.toInCall.keep,codeAny_func ?_⟩;obtain⟨t,ht,hq⟩:=hbody A outer s H vs Q E (hr.deeper _) hsp;have I:Inv (bH CX P w K mg base N qual scope f cdv A outer s H E) [] (start N vs) H s1:=Du S hr.hd e0 hl r x;refine bQ (ht [] s1 (start N vs) H _ I hq) (λ fl s' hs=>?_) λ e s' hs=>hs
 have fin:∀ {σ':St}{H':Hp}{v:V}{u:Value},Inv (bH CX P w K mg base N qual scope f cdv A outer s H E) [] σ' H' s'->RelV v u->Q v H'->CE outer P w H s Q u s' :=
  λ {σ' H' v u} J rv q=>⟨v,H',J.os,J.bare,J.base,J.hok,rv,q⟩
 cases fl with
 |ret u=>
  obtain⟨v,σ',H',J,rv,q⟩:=hs;exact fin J rv q
 |next=>
  obtain⟨σ',H',J,q⟩:=hs;exact fin (v:=V.non) (u:=Value.none) J rfl q
 |brk=>
  obtain⟨_,_,_,q⟩:=hs;exact False.elim q
 |cont=>
  obtain⟨_,_,_,q⟩:=hs;exact False.elim q
section
variable {x:Str}{p pos:Pos}{e:Expr}{es:List Expr}{t:TA}{id T:String}{r:List V->Hp->VK->Prop}
noncomputable def tCB(r:List V->Hp->VK->Prop)(t:TA):TE:=λ σ H Q=>t σ H λ vs H1=>r vs H1 Q
theorem vc(hc:bR X (.builtin id) r)(hg:Gl X x)(hm:X.mg x=none)(hv:bootBuiltins x=some (.builtin id))(ha:PA X (e::es) t)(hn:x ≠ "__name__" := by decide)(hdb:(x == ("__debug__" : Str))=false:=by decide)
  (he:starEach (e::es) X.env=(false,eval e X.env)::starEach es X.env:=by rfl) (hpl:(backTo pos (starEach es X.env)).any (·.1)=false:=by rfl):PE X (.Call (.Name x p) (e::es) [] pos) (tCB r t):=by
 intro pins s σ H Q I h;refine ik (dG I hg hm hv ?_ hn hdb);exact PyProof.Rows.callWith_builtin1 (thn (ha pos pins s σ H _ I h) λ us s1 ⟨vs,H1,I1,r1,q1⟩=>hc pins s1 σ H1 vs us Q I1 r1 q1) he hpl
theorem oh(hc:bR X (.type T) r)(hg:Gl X x)(hm:X.mg x=none)(hv:bootBuiltins x=some (.type T))(ha:PA X (e::es) t)(hn:x ≠ "__name__" := by decide)(hdb:(x == ("__debug__" : Str))=false:=by decide)
  (he:starEach (e::es) X.env=(false,eval e X.env)::starEach es X.env:=by rfl) (hpl:(backTo pos (starEach es X.env)).any (·.1)=false:=by rfl):PE X (.Call (.Name x p) (e::es) [] pos) (tCB r t):=by
 intro pins s σ H Q I h;refine ik (dG I hg hm hv ?_ hn hdb);exact gp (thn (ha pos pins s σ H _ I h) λ us s1 ⟨vs,H1,I1,r1,q1⟩=>hc pins s1 σ H1 vs us Q I1 r1 q1) he hpl
end
end _L
namespace _H
open PySem PyProof.Rows
section
open PySem.SeqAt
open PySem.AutoSeq1 (wpAny_loadPart')
open PySem.MeetsSeq PySem.MeetsSeq2 PySem.MeetsSeq3
end
section
variable {prog:Program}{w:World}{A:Around}{E:VS}{s:Shared}
theorem cat_tup{vs ws:LV}{Q:VS}(ht:IsTup s.heap t vs.toArray)(hb:IsTup s.heap b ws.toArray)(hv:vs≠[])
  (h1:ws=[]->Q (.ref t) s) (h2:ws≠[]->Q (.ref s.heap.objs.size) { s with heap:=s.heap.push { cls:=.type "tuple",data:=.seq (vs++ws).toArray } })
  (hsz:vs.length+ws.length<=sizeLine):wpAny (model prog w) A (binaryOp .Add (.ref t) (.ref b)) Q E s:=by
 obtain⟨⟨cls,dd,data,sl⟩,ho,hc,n,hd⟩:=id ht;obtain⟨⟨cls2,dd2,data2,sl2⟩,ho2,hc2,n2,hd2⟩:=id hb;simp only at hc hd hc2 hd2;subst hc hd hc2 hd2;have e:vs.toArray++ws.toArray=(vs++ws).toArray:=pv;by_cases hw:ws=[]
 ·exact oi ⟨_,ho,ca⟩ ⟨_,ho2,ca⟩ qZ s1e re rh (rj _ _)
   (tuple_addW1 t b vs.toArray ws.toArray n n2 dd dd2 sl sl2 (by simpa using hv) (by simp[hw])) ⟨ho,ho2,h1 hw⟩
 ·refine oi ⟨_,ho,ca⟩ ⟨_,ho2,ca⟩ qZ s1e re rh (rj _ _)
   (tuple_addW2 t b vs.toArray ws.toArray n n2 dd dd2 sl sl2 (by simpa using hv) (by simpa using hw) (by rw[aM,aM];exact hsz)) ⟨ho,ho2,?_⟩
  rw[e];exact h2 hw
noncomputable def sIx(n d:Nat):Option Int->Nat
 |none=>d
 |some v=>if v<0 then (v+(n:Int)).toNat else min v.toNat n
def Dv(n d:Nat)(hd:d<=n)(o:Option Int):sIx n d o<=n:=by
 cases o with
 |none=>exact hd
 |some v=>
  show(if v<0 then (v+(n:Int)).toNat else min v.toNat n)<=n;by_cases hv:v<0
  ·rw[if_pos hv];lia
  ·rw[if_neg hv];exact Nat.min_le_right _ _
def vd(v:Int)(n d:Nat):(if v<0 then max (v+(n:Int)) 0 else min v (n:Int))=((sIx n d (some v):Nat):Int):=by
 show(if v<0 then max (v+(n:Int)) 0 else min v (n:Int))=(((if v<0 then (v+(n:Int)).toNat else min v.toNat n):Nat):Int);by_cases hv:v<0
 ·simp only[if_pos hv];lia
 ·simp only[if_neg hv];lia
def Dw(lo hi:Option Int)(n:Nat):Builtin.Slice.sliceAdjust lo hi 1 (n:Int)=(((sIx n 0 lo:Nat):Int),((sIx n n hi:Nat):Int)):=by
 have h1:¬((1:Int)<0):=fu;unfold Builtin.Slice.sliceAdjust;simp only[h1,s0f];refine Prod.ext ?_ ?_
 ·cases lo with
  |none=>rfl
  |some v=>exact vd v n 0
 ·cases hi with
  |none=>rfl
  |some v=>exact vd v n n
def Dx(i j:Nat):Builtin.Slice.slicePlaces (i:Int) (j:Int) 1=j-i:=by
 unfold Builtin.Slice.slicePlaces;have h1:(1:Int) > 0:=fu;simp only[h1,dI,Int.ediv_one];split<;>lia
def ve{Q:Option Int->Shared->Prop}(p:IsPart v o)(h:Q o s):wpAny (model prog w) A (Builtin.Slice.slicePartIndex v) Q E s:=by
 cases p with
 |none=>exact slicePart_none h
 |int i t=>exact slicePart_int h
theorem vf{lo hi:Option Int}{Q:Int×Int×Nat->Shared->Prop}(hs:s.heap.IsSliceOf sl vl vu .none)(pl:IsPart vl lo)(pu:IsPart vu hi)
  (h:Q (((sIx n 0 lo:Nat):Int),1,sIx n n hi-sIx n 0 lo) s):wpAny (model prog w) A (Builtin.Slice.sliceApplied (.ref sl) (pure (n:Int))) Q E s:=by
 obtain⟨os,hos,hcs,hds⟩:=id hs;unfold Builtin.Slice.sliceApplied Builtin.Slice.sliceFields;refine af (af (cK hos hds (x:=vl) rfl (af (cK hos hds (x:=vu) rfl (af (cK hos hds (x:=.none) rfl (aj ?_)))))));refine af (slicePart_none ?_);show wpAny _ _ (if ((1:Int) == 0)=true then _ else _) _ _ s;rw[if_neg on];refine af (ve pl (af (ve pu (af (aj ?_)))));show wpAny _ _ (match Builtin.Slice.sliceAdjust lo hi 1 (n:Int) with|(lo,hi)=>pure (lo,(1:Int),Builtin.Slice.slicePlaces lo hi 1)) _ _ s;rw[Dw lo hi n];show wpAny _ _ (pure (((sIx n 0 lo:Nat):Int),(1:Int),Builtin.Slice.slicePlaces ((sIx n 0 lo:Nat):Int) ((sIx n n hi:Nat):Int) 1)) _ _ s;rw[Dx];exact aj h
def Dy(xs:Array Value)(i k:Nat):((List.range k).filterMap λ(m:Nat)=>xs[((i:Int)+(m:Int)*1).toNat]?).toArray=((xs.toList.drop i).take k).toArray:=by
 have e:(λ(m:Nat)=>xs[((i:Int)+(m:Int)*1).toNat]?)=λ m=>xs[i+m]?:=by
  funext m;have:((i:Int)+(m:Int)*1).toNat=i+m:=fu;rw[this]
 rw[e];have:=pick_run xs i k;rw[List.filterMap_map] at this;have e2:((λ x=>xs[x]?) ∘ λ x=>i+x)=λ m=>xs[i+m]?:=rfl;rw[e2] at this;rw[this]
theorem getItem_tuple_cut{lo hi:Option Int}{Q:VS}(ht:IsTup s.heap t items)(hs:s.heap.IsSliceOf sl vl vu .none)(pl:IsPart vl lo)(pu:IsPart vu hi)
  (hw:¬(sIx items.size 0 lo=0/\sIx items.size items.size hi=items.size))
  (h:Q (.ref s.heap.objs.size) { s with heap:=s.heap.push { cls:=.type "tuple",data:=.seq ((items.toList.drop (sIx items.size 0 lo)).take (sIx items.size items.size hi-sIx items.size 0 lo)).toArray } })
  (hsz:items.size<=sizeLine):wpAny (model prog w) A (getItem (.ref t) (.ref sl)) Q E s:=by
 have htake:sizeOk (.seq ((items.toList.drop (sIx items.size 0 lo)).take (sIx items.size items.size hi-sIx items.size 0 lo)).toArray):=by
  show((items.toList.drop (sIx items.size 0 lo)).take (sIx items.size items.size hi-sIx items.size 0 lo)).toArray.size<=sizeLine;rw[aM,bc,da,Array.length_toList];omega
 have hj:sIx items.size items.size hi<=items.size:=Dv _ _ (av _) hi;obtain⟨os,hos,hcs,hds⟩:=id hs;have hTs:s.TypeIs (.ref sl) "slice" := ⟨os,hos,hcs⟩;unfold getItem;try with_reducible refine du ?_
 first|refine af (aj ?_)|skip
 refine af (wpAny_sequenceKey ht.typeIs on ?_)
 refine af (iZ (name:=Str.ofString "__getitem__") ht.typeIs oj
  (fJ oj ht.typeIs s0u ?_ (s1f _ _)))
 show wpAny _ _ (Builtin.Tuple.tupleItemsOf (.ref t) >>= _) _ _ s;refine af (tupleItemsOf_ ht ?_);refine af (ja hTs ?_);rw[if_pos on];refine af (vf hs pl pu ?_)
 have hno:¬((((sIx items.size 0 lo:Nat):Int) == 0&&(1:Int) == 1&&(sIx items.size items.size hi-sIx items.size 0 lo) == items.size)=true):=by
  intro q;rw[aU,aU] at q;have q1:((sIx items.size 0 lo:Nat):Int)=0:=kh q.1.1;have q2:sIx items.size items.size hi-sIx items.size 0 lo=items.size:=kh q.2;exact hw ⟨by omega,by omega⟩
 show wpAny _ _ (if (((sIx items.size 0 lo:Nat):Int) == 0&&(1:Int) == 1&&(sIx items.size items.size hi-sIx items.size 0 lo) == items.size)=true then _ else _) _ _ s;rw[if_neg hno,Dy]
 first
  |exact af (m:=Builtin.Tuple.tupleExact _) (cS (aj ⟨_,rfl,aj h⟩) htake)
  |exact af (m:=Builtin.Tuple.tupleExact _) (cS (af (aj (aj ⟨_,rfl,aj h⟩))) htake)
  |exact af (af (m:=Builtin.Tuple.tupleExact _) (cS (aj (aj ⟨_,rfl,aj h⟩)) htake))
  |exact af (af (m:=Builtin.Tuple.tupleExact _) (cS (aj ⟨_,rfl,aj h⟩) htake))
end
end _H
namespace _L
open PySem PySem.Spec PyProof.Rows
abbrev TO:=St->Hp->(Option Int->Hp->Prop)->Prop
noncomputable def PO(X:Cx)(e:Option Expr)(t:TO):Prop :=
 ∀(pins:LO) (s:Shared) (σ:St) (H:Hp) (Q:Option Int->Hp->Prop),Inv X pins σ H s->t σ H Q ->
  wpAny (model X.prog X.w) X.A (evalPart e X.env) (λ u s'=>∃o H',Inv X pins σ H' s'/\IsPart u o/\Q o H') X.xe s
def Dz:TO:=λ _ H Q=>Q none H
def lT{ns:LI}:∀ {us:LV},Vals (ns.map V.int) us->IntsAre us ns:=by
 induction ns with
 |nil=>intro us r;rw[List.map_nil] at r;cases r;exact .nil
 |cons n ns ih=>
  intro us r;rw[bA] at r
  cases r with
  |cons r1 r2=>
   obtain⟨t,e⟩:=r1;subst e;exact .cons n t (ih r2)
variable {X:Cx}
section
variable {e:Expr}{te:TE}{lo hi:Option Expr}{tl th:TO}{pos p2:Pos}
def DA:PO X none Dz:=by
 intro pins s σ H Q I h;rw[evalPart_none];exact aj ⟨none,H,I,.none,h⟩
noncomputable def SlR(X:Cx)(r:V->Option Int->Option Int->Hp->VK->Prop):Prop :=
 ∀(pins:LO) (s:Shared) (σ:St) (H:Hp) (x:V) (v vl vu:Value) (lo hi:Option Int) (sl:Addr) (Q:VK),Inv X pins σ H s->RelV x v->s.heap.IsSliceOf sl vl vu .none->IsPart vl lo->IsPart vu hi->r x lo hi H Q ->
  ∃T id,typeLookup (.type T) "__getitem__"=pure (some (.builtin id))/\s.TypeIs v T/\wpAny (model X.prog X.w) X.A (getItem v (.ref sl)) (EP X pins σ Q) X.xe s
noncomputable def tSl(r:V->Option Int->Option Int->Hp->VK->Prop)(te:TE)(tl th:TO):TE:=λ σ H Q=>te σ H λ x H1=>tl σ H1 λ l H2=>th σ H2 λ u H3=>r x l u H3 Q
def DB(hr:SlR X r)(he:PE X e te)(hl:PO X lo tl)(hu:PO X hi th):PE X (.Subscript e (.Slice lo hi none p2) pos) (tSl r te tl th):=by
 intro pins s σ H Q I h;refine Subscript_ (thn (he pins s σ H _ I h) λ v s1 ⟨x,H1,I1,r1,q1⟩=>?_);refine wpAny_Slice (thn (hl pins s1 σ H1 _ I1 q1) λ vl s2 ⟨l,H2,I2,pl,q2⟩=>thn (hu pins s2 σ H2 _ I2 q2) λ vu s3 ⟨u,H3,I3,pu,q3⟩=>?_);rw[evalPart_none];refine aj ?_;have I4:Inv X pins σ H3 { s3 with heap:=s3.heap.push { cls:=.type "slice",data:=.fields #[vl,vu,.none] } }:=I3.kept (t':=s3.toks) λ b ob q=>aA _ q;obtain⟨T,id,hT,ht,hg⟩:=hr pins { s3 with heap:=s3.heap.push { cls:=.type "slice",data:=.fields #[vl,vu,.none] } } σ H3 x v vl vu l u s3.heap.objs.size Q I4 r1 (Heap.IsSliceOf.new ..) pl pu q3;show wpAny (model X.prog X.w) X.A (subscriptTail e (.Slice lo hi none p2) v (.ref s3.heap.objs.size)) (EP X pins σ Q) X.xe { s3 with heap:=s3.heap.push { cls:=.type "slice",data:=.fields #[vl,vu,.none] } };exact tail_any (ops:=[.ref s3.heap.objs.size,v]) ht hT hg (by with_unfolding_all rfl)
noncomputable def gq(xs:List V)(lo hi:Option Int):List V:=(xs.drop (_H.sIx xs.length 0 lo)).take (_H.sIx xs.length xs.length hi-_H.sIx xs.length 0 lo)
def vg(xs:List V)(lo hi:Option Int):(gq xs lo hi).length<=xs.length:=by
 unfold gq;rw[bc,da];lia
noncomputable def DC(K:FG):V->Option Int->Option Int->Hp->VK->Prop:=λ x lo hi H Q=>∃a xs,x=.ref a/\SqT K H a xs /\
 ¬(_H.sIx xs.length 0 lo=0/\_H.sIx xs.length xs.length hi=xs.length)/\∀p,H p=none->Q (.ref p) (upd H p (.tup (gq xs lo hi)))
def DD:SlR X (DC X.K):=by
 intro pins s σ H x v vl vu lo hi sl Q I rx hs pl pu h;obtain⟨a,xs,rfl,hx,hw,q⟩:=h;cases rx;obtain⟨its,r,ht,hz⟩:=I.tuple hx;have hlen:its.toArray.size=xs.length:=by rw[aM];exact r.length.symm
 refine⟨"tuple",_,PyProof.Rows.slot_tuple_getitem.lookup,ht.typeIs,?_⟩;refine _H.getItem_tuple_cut ht hs pl pu (by rw[hlen];exact hw) ?_ (by rw[hlen];exact hz);rw[hlen];refine⟨.ref s.heap.objs.size,_,I.laid (t':=s.toks) (o:=.tup (gq xs lo hi)) (λ b ob q=>aA _ q) (av _) ?_,ca,q _ (I.hok.fresh (av _))⟩;exact⟨cI (vg xs lo hi) hz,_,(r.drop (_H.sIx xs.length 0 lo)).take (_H.sIx xs.length xs.length hi-_H.sIx xs.length 0 lo),TupO.new _ _⟩
noncomputable def DE(K:FG):R2:=λ x y H Q=>∃a b xs ys,x=.ref a/\y=.ref b/\SqT K H a xs/\SqT K H b ys/\xs≠[]/\xs.length+ys.length<=sizeLine /\
 (ys=[]->Q (.ref a) H)/\(ys≠[]->∀p,H p=none->Q (.ref p) (upd H p (.tup (xs++ys))))
def Vals.nil_iff(r:Vals xs us):us=[] ↔ xs=[]:=by
 cases r with
 |nil=>simp
 |cons _ _=>simp
def DF:OpR X (binaryOp .Add) (DE X.K):=by
 intro pins s σ H x y v u Q I rx ry h;obtain⟨a,b,xs,ys,rfl,rfl,ha,hb,hx,hz,q1,q2⟩:=h;cases rx;cases ry;obtain⟨its,r1,p1,_⟩:=I.tuple ha;obtain⟨its2,r2,p2,_⟩:=I.tuple hb;refine _H.cat_tup p1 p2 (λ z=>hx (r1.nil_iff.mp z)) (λ z=>⟨.ref a,H,I,ca,q1 (r2.nil_iff.mp z)⟩) (λ z=>?_) (by rw[<- r1.length,<- r2.length];exact hz);refine⟨.ref s.heap.objs.size,_,I.laid (t':=s.toks) (o:=.tup (xs++ys)) (λ b ob q=>aA _ q) (av _) ?_,ca,q2 (λ w=>z (r2.nil_iff.mpr w)) _ (I.hok.fresh (av _))⟩;exact⟨by rw[aK];exact hz,_,r1.append r2,TupO.new _ _⟩
end
noncomputable def ixN(n:Nat)(i:Int):Option Nat:=if 0<=i then (if i<n then some i.toNat else none) else if -(n:Int)<=i then some (i+n).toNat else none
noncomputable def atI{α:Type}(xs:List α)(i:Int):Option α:=(ixN xs.length i).bind λ j=>xs[j]?
def vh(h:ixN n i=some j):seqIndex? i n=some j/\j<n/\-(n:Int)<=i/\i<n:=by
 unfold ixN at h;by_cases h0:0<=i
 ·rw[if_pos h0] at h;by_cases h1:i<n
  ·rw[if_pos h1] at h;have e:i.toNat=j:=bj h;exact⟨by rw[s1v h0 h1,e],fu,fu,h1⟩
  ·rw[if_neg h1] at h;cases h
 ·rw[if_neg h0] at h;by_cases h1:-(n:Int)<=i
  ·rw[if_pos h1] at h;have e:(i+n).toNat=j:=bj h;exact⟨by rw[s1q fu h1,e],fu,h1,fu⟩
  ·rw[if_neg h1] at h;cases h
def rk{α:Type}{xs:List α}{v:α}(h:atI xs i=some v):∃j,seqIndex? i xs.length=some j/\xs[j]?=some v/\j<xs.length/\-(xs.length:Int)<=i/\i<xs.length:=by
 unfold atI at h
 cases e:ixN xs.length i with
 |none=>rw[e] at h;cases h
 |some j=>
  rw[e] at h;obtain⟨h1,h2,h3,h4⟩:=vh e;exact⟨j,h1,h,h2,h3,h4⟩
def oo{α:Type}{xs:List α}{j:Nat}{v:α}(h:xs[j]?=some v):atI xs (j:Int)=some v:=by
 have hj:j<xs.length:=(be.mp h).1
 have e:ixN xs.length (j:Int)=some j:=by
  unfold ixN;rw[if_pos fu,if_pos fu];simp
 unfold atI;rw[e];exact h
noncomputable def vi(b:Expr):Prop:=∀o i,subscripted b false o i=operate [o,i] (getItem o i)
noncomputable def IxR(X:Cx)(r:R2):Prop :=
 ∀(value slice:Expr) (pins:LO) (s:Shared) (σ:St) (H:Hp) (x y:V) (v u:Value) (Q:VK),Inv X pins σ H s->RelV x v->RelV y u->r x y H Q ->
  subscripted slice false v u=operate [v,u] (getItem v u)->wpAny (model X.prog X.w) X.A (subscriptTail value slice v u) (EP X pins σ Q) X.xe s
noncomputable def MtR(X:Cx)(id:String)(r:V->List V->Hp->VK->Prop):Prop :=
 ∀(pins:LO) (s:Shared) (σ:St) (H:Hp) (x:V) (xs:List V) (v:Value) (us:LV) (Q:VK),Inv X pins σ H s->RelV x v->Vals xs us->r x xs H Q ->
  wpAny (model X.prog X.w) X.A (call (.builtin id) (v::us)) (EP X pins σ Q) X.xe s
section
variable {a b:Expr}{ta tb:TE}{pos:Pos}
def IxR.or(h:IxR X r)(h':IxR X r'):IxR X (λ x y H Q=>r x y H Q\/r' x y H Q):=by
 intro value slice pins s σ H x y v u Q I rx ry q hs
 rcases q with q|q
 ·exact h value slice pins s σ H x y v u Q I rx ry q hs
 ·exact h' value slice pins s σ H x y v u Q I rx ry q hs
def DG(hr:IxR X r)(ha:PE X a ta)(hb:PE X b tb)(hs:vi b):PE X (.Subscript a b pos) (tOp r ta tb):=by
 intro pins s σ H Q I h;exact Subscript_ (qQ ha hb I h λ v u s2 x y H2 I2 rx ry q=>hr a b pins s2 σ H2 x y v u Q I2 rx ry q (hs _ _))
noncomputable def vj(K:FG):R2:=λ x y H Q=>∃p xs i v,x=.ref p/\y=.int i/\SqL K H p xs/\atI xs i=some v/\Q v H
noncomputable def vk(K:FG):R2:=λ x y H Q=>∃p xs i v,x=.ref p/\y=.int i/\SqT K H p xs/\atI xs i=some v/\Q v H
noncomputable def vm:R2:=λ x y H Q=>∃z i c,x=.str z/\y=.int i/\z.length<=sizeLine/\atI z.cps.toList i=some c/\Q (.str ⟨#[c]⟩) H
def ix_list:IxR X (vj X.K):=by
 intro value slice pins s σ H x y v u Q I rx ry h hs;obtain⟨p,xs,i,z,rfl,rfl,hq,he,q⟩:=h;cases rx;obtain⟨t,rfl⟩:=ry;obtain⟨its,r,pl,hz⟩:=I.list hq;obtain⟨j,h1,h2,h3,h4,h5⟩:=rk he;obtain⟨w,ew,rw'⟩:=r.get h2;have hl:=r.length;have hn:=jV;have fin:EP X pins σ Q w s:=⟨z,H,I,rw',q⟩;by_cases h0:0<=i
 ·have hj:i.toNat=j:=by
   rw[s1v h0 h5] at h1;exact bj h1
  exact item_listR pl.isList h0 fu (by rw[hj];simpa using ew) fin hs
 ·have hj:(i+(its.toArray.size:Int)).toNat=j:=by
   rw[s1q fu h4] at h1;rw[aM,<- hl];exact bj h1
  exact vn (x:=w) pl.isList.typeIs slot_list_getitem.lookup
   (wpAny_getItem_list_neg (Q:=λ r s'=>r=w/\EP X pins σ Q r s') pl.isList fu (by rw[aM]<;>lia) fu (by rw[hj];simpa using ew) ⟨rfl,fin⟩) hs
def ix_tup:IxR X (vk X.K):=by
 intro value slice pins s σ H x y v u Q I rx ry h hs;obtain⟨p,xs,i,z,rfl,rfl,hq,he,q⟩:=h;cases rx;obtain⟨t,rfl⟩:=ry;obtain⟨its,r,pl,hz⟩:=I.tuple hq;obtain⟨j,h1,h2,h3,h4,h5⟩:=rk he;obtain⟨w,ew,rw'⟩:=r.get h2;have hl:=r.length;have hn:=jV;have fin:EP X pins σ Q w s:=⟨z,H,I,rw',q⟩
 exact vn (x:=w) pl.typeIs slot_tuple_getitem.lookup
  (getItem_tuple (j:=j) (Q:=λ r s'=>r=w/\EP X pins σ Q r s') pl fu fu (by rw[aM,<- hl];exact h1) (by simpa using ew) ⟨rfl,fin⟩) hs
def DH:IxR X vm:=by
 intro value slice pins s σ H x y v u Q I rx ry h hs;obtain⟨z,i,c,rfl,rfl,hz,he,q⟩:=h;obtain⟨t,rfl⟩:=rx;obtain⟨t',rfl⟩:=ry;obtain⟨j,h1,h2,h3,h4,h5⟩:=rk he;have hl:z.cps.toList.length=z.length:=by simp[Str.length]
 rw[hl] at h1 h4 h5;have hn:=jV
 exact tail_any (typeIs_str s z t) slot_str_getitem.lookup (getItem_str (c:=c) (by
  have e1:decide (i < -(2 ^ 63:Int))=false:=bo fu;have e2:decide (i ≥ 2 ^ 63)=false:=bo fu
  rw[e1,e2,Bool.or_false]) (by rw[h1];simpa using h2) ⟨.str ⟨#[c]⟩,H,I.tok _,⟨_,rfl⟩,q⟩) hs
noncomputable def rIx(K:FG):R2:=λ x y H Q=>vj K x y H Q\/vk K x y H Q\/vm x y H Q
def rn:IxR X (rIx X.K):=ix_list.or (ix_tup.or DH)
def DI(its:LV)(n j:Nat)(u:Value):Obj.mapSeq (·.setIfInBounds j u) { cls:=.type "list",data:=.seq its.toArray n }={ cls:=.type "list",data:=.seq (its.set j u).toArray n }:=by
 simp[Obj.mapSeq]
theorem Inv.lst(I:Inv X pins σ H s)(h:H p=some (.lst xs)) :
  ∃(its:LV) (n:Nat),Vals xs its/\s.heap.get? p=some { cls:=.type "list",data:=.seq its.toArray n }/\xs.length<=sizeLine:=by
 obtain⟨z,its,n,r,e⟩:=I.hok p _ h;exact⟨its,n,r,e,z⟩
theorem Inv.lstUpd{its its':LV}{f:Obj->Obj}(I:Inv X pins σ H s)(h:H p=some (.lst xs))
  (ho:s.heap.get? p=some { cls:=.type "list",data:=.seq its.toArray n }) (hf:f { cls:=.type "list",data:=.seq its.toArray n }={ cls:=.type "list",data:=.seq its'.toArray n' }) (r:Vals ys its') (hz:ys.length<=sizeLine) (t:Nat) :
  Inv X pins σ (upd H p (.lst ys)) { s with heap:=s.heap.update p f,toks:=t }:=by
 have e:(s.heap.update p f).get? p=some { cls:=.type "list",data:=.seq its'.toArray n' }:=by
  rw[gu f ho (by rw[hf]<;>rfl),hf]
 refine I.write (x:=p) (e:=p) (by rw[h];trivial) (.inl rfl) (λ b u hb q=>(dY _ _ (bW hb)).trans q) ⟨_,e⟩ ?_;exact⟨hz,its',n',r,e⟩
noncomputable def DJ:V->V->V->Hp->(Hp->Prop)->Prop:=λ o i v H Q=>∃p xs k j,o=.ref p/\i=.int k/\H p=some (.lst xs)/\ixN xs.length k=some j/\Q (upd H p (.lst (xs.set j v)))
def DK:uJ X DJ:=by
 intro pins s σ H o i v ov iv u Q I ro ri rv h;obtain⟨p,xs,k,j,rfl,rfl,hp,hj,q⟩:=h;cases ro;obtain⟨t,rfl⟩:=ri;obtain⟨its,n,r,ho,hz⟩:=I.lst hp;obtain⟨h1,h2,h3,h4⟩:=vh hj;have hl:=r.length;have hn:=jV
 have I':Inv X pins σ (upd H p (.lst (xs.set j v))) { s with heap:=s.heap.update p (Obj.mapSeq (·.setIfInBounds j u)) } :=
  I.lstUpd hp ho (DI its n j u) (r.set rv j) (by rw[bu];exact hz) s.toks
 by_cases h0:0<=k
 ·have hk:k.toNat=j:=by
   rw[s1v h0 h4] at h1;exact bj h1
  exact W.ki_setAt ho h0 fu (by rw[aM,<- hl];exact h4) (by rw[hk];exact⟨_,I',q⟩)
 ·have hk:(k+(its.toArray.size:Int)).toNat=j:=by
   rw[s1q fu h3] at h1;rw[aM,<- hl];exact bj h1
  exact W.ki_setBack ho fu (by rw[aM,<- hl];exact h3) fu (by rw[hk];exact⟨_,I',q⟩)
def DM(lo hi:Option Int)(n:Nat):(sliceBounds lo hi none n).1=((_H.sIx n 0 lo:Nat):Int)/\(sliceBounds lo hi none n).2.1=((_H.sIx n n hi:Nat):Int)/\(sliceBounds lo hi none n).2.2=1:=by
 refine⟨?_,?_,ca⟩
 ·cases lo with
  |none=>simp[sliceBounds,_H.sIx]
  |some i=>
   simp only[sliceBounds,_H.sIx,Option.getD_none,show(1:Int) > 0 by decide,dI];by_cases h:i<0
   ·simp only[h,dI]<;>lia
   ·simp only[h,s0f]<;>lia
 ·cases hi with
  |none=>simp[sliceBounds,_H.sIx]
  |some i=>
   simp only[sliceBounds,_H.sIx,Option.getD_none,show(1:Int) > 0 by decide,dI];by_cases h:i<0
   ·simp only[h,dI]<;>lia
   ·simp only[h,s0f]<;>lia
def DN(its:LV)(lo hi:Option Int):slicePick its.toArray lo hi none=((its.drop (_H.sIx its.length 0 lo)).take (_H.sIx its.length its.length hi-_H.sIx its.length 0 lo)).toArray:=by
 obtain⟨h1,h2,h3⟩:=DM lo hi its.toArray.size;unfold slicePick;rw[h1,h2,h3];simp only[sliceRange_one,pick_run,aM]<;>rfl
noncomputable def DO(K:FG):V->Option Int->Option Int->Hp->VK->Prop:=λ x lo hi H Q=>∃a xs,x=.ref a/\SqL K H a xs/\∀p,H p=none->Q (.ref p) (upd H p (.lst (gq xs lo hi)))
def DP:SlR X (DO X.K):=by
 intro pins s σ H x v vl vu lo hi sl Q I rx hs pl pu h;obtain⟨a,xs,rfl,hx,q⟩:=h;cases rx;obtain⟨its,r,ht,hz⟩:=I.list hx;have hlen:=r.length;refine⟨"list",_,slot_list_getitem.lookup,ht.isList.typeIs,?_⟩;refine wpAny_getItem_list_slice ht.isList hs pl pu .none pv ?_ (by rw[aM]<;>lia);rw[DN,<- hlen];refine⟨.ref s.heap.objs.size,_,I.laid (t':=s.toks) (o:=.lst (gq xs lo hi)) (λ b ob q=>aA _ q) (av _) ?_,ca,q _ (I.hok.fresh (av _))⟩;exact⟨cI (vg xs lo hi) hz,_,0,(r.drop (_H.sIx xs.length 0 lo)).take (_H.sIx xs.length xs.length hi-_H.sIx xs.length 0 lo),aR _ rfl⟩
noncomputable def cD:V->Bool
 |.non=>true
 |.bl _=>true
 |.int _=>true
 |.str _=>true
 |_=>false
noncomputable def eqV:V->V->Bool
 |.non,.non=>true
 |.bl a,.bl b=>a == b
 |.bl a,.int b=>(if a then 1 else 0) == b
 |.int a,.bl b=>a == (if b then 1 else 0)
 |.int a,.int b=>a == b
 |.str a,.str b=>a == b
 |_,_=>false
def lU(ry:RelV y u)(rx:RelV x v)(fy:cD y=true)(fx:cD x=true):SeqAt.EqAt A s u v (eqV y x):=by
 cases y with
 |non=>
  cases ry
  cases x with
  |non=>cases rx;exact rq _
  |bl b=>cases rx;exact SeqAt.EqAt.none_bool b
  |int b=>obtain⟨t,rfl⟩:=rx;exact SeqAt.EqAt.none_int b t
  |str b=>obtain⟨t,rfl⟩:=rx;exact SeqAt.EqAt.none_str b t
  |_=>exact absurd (show false=true from fx) bG
 |bl a=>
  cases ry
  cases x with
  |non=>cases rx;exact SeqAt.EqAt.bool_none a
  |bl b=>cases rx;exact SeqAt.EqAt.bool_bool a b
  |int b=>obtain⟨t,rfl⟩:=rx;exact SeqAt.EqAt.bool_int a b t
  |str b=>obtain⟨t,rfl⟩:=rx;exact SeqAt.EqAt.bool_str a b t
  |_=>exact absurd (show false=true from fx) bG
 |int a=>
  obtain⟨t',rfl⟩:=ry
  cases x with
  |non=>cases rx;exact SeqAt.EqAt.int_none a t'
  |bl b=>cases rx;exact SeqAt.EqAt.int_bool a t' b
  |int b=>obtain⟨t,rfl⟩:=rx;exact SeqAt.EqAt.int_int a t' b t
  |str b=>obtain⟨t,rfl⟩:=rx;exact s0z a t' b t
  |_=>exact absurd (show false=true from fx) bG
 |str a=>
  obtain⟨t',rfl⟩:=ry
  cases x with
  |non=>cases rx;exact SeqAt.EqAt.str_none a t'
  |bl b=>cases rx;exact SeqAt.EqAt.str_bool a t' b
  |int b=>obtain⟨t,rfl⟩:=rx;exact s1a a t' b t
  |str b=>obtain⟨t,rfl⟩:=rx;exact SeqAt.EqAt.str_str a t' b t
  |_=>exact absurd (show false=true from fx) bG
 |_=>exact absurd (show false=true from fy) bG
noncomputable def eqU(x:V)(u:Value):Bool:=match u with
 |.none=>eqV .non x
 |.bool b=>eqV (.bl b) x
 |.int i _=>eqV (.int i) x
 |.str z _=>eqV (.str z) x
 |_=>false
def rB(r:RelV y u)(f:cD y=true):eqU x u=eqV y x:=by
 cases y with
 |non=>cases r;rfl
 |bl b=>cases r;rfl
 |int i=>obtain⟨t,rfl⟩:=r;rfl
 |str z=>obtain⟨t,rfl⟩:=r;rfl
 |_=>exact absurd (show false=true from f) bG
theorem lV:∀ {xs:List V}{us:LV},Vals xs us->xs.all cD=true->us.any (eqU x)=xs.any λ y=>eqV y x
 |_,_,.nil,_=>rfl
 |y::xs,u::us,.cons r t,f=>by
  rw[cw,aU] at f;rw[lW,lW,rB r f.1,lV t f.2]
theorem jb(rx:RelV x v)(fx:cD x=true):∀ {xs:List V}{us:LV},Vals xs us->xs.all cD=true->∀u∈us,SeqAt.EqAt A s u v (eqU x u)
 |_,_,.nil,_=>λ u hu=>by cases hu
 |y::xs,u::us,.cons r t,f=>λ u' hu=>by
  rw[cw,aU] at f
  rcases bf.mp hu with rfl|hu
  ·rw[rB r f.1];exact lU r rx f.1 fx
  ·exact jb rx fx t f.2 u' hu
def inV(x:V)(xs:List V):Bool:=xs.any λ y=>eqV y x
noncomputable def rIn(K:FG)(neg:Bool):R2:=λ x y H Q=>∃p xs,y=.ref p/\(SqL K H p xs\/SqT K H p xs)/\cD x=true/\xs.all cD=true/\Q (.bl (if neg then !inV x xs else inV x xs)) H
def DQ:OpR X (compareOp .In) (rIn X.K false):=by
 intro pins s σ H x y v u Q I rx ry h;obtain⟨p,xs,rfl,hq,fx,fs,q⟩:=h;cases ry
 rcases hq with hq|hq
 ·obtain⟨its,r,pl,hz⟩:=I.list hq;refine SeqAt.in_listAt (eqU x) pl.isList (λ w hw=>jb rx fx r fs w (by simpa using hw)) ⟨.bl _,H,I,ca,?_⟩;rw[show its.toArray.any (eqU x)=its.any (eqU x) by simp,lV r fs];exact q
 ·obtain⟨its,r,pl,hz⟩:=I.tuple hq;refine SeqAt.in_tupleAt (eqU x) pl (λ w hw=>jb rx fx r fs w (by simpa using hw)) ⟨.bl _,H,I,ca,?_⟩;rw[show its.toArray.any (eqU x)=its.any (eqU x) by simp,lV r fs];exact q
def DS:OpR X (compareOp .NotIn) (rIn X.K true):=by
 intro pins s σ H x y v u Q I rx ry h;obtain⟨p,xs,rfl,hq,fx,fs,q⟩:=h;cases ry
 rcases hq with hq|hq
 ·obtain⟨its,r,pl,hz⟩:=I.list hq;refine SeqAt.notIn_listAt (eqU x) pl.isList (λ w hw=>jb rx fx r fs w (by simpa using hw)) ⟨.bl _,H,I,ca,?_⟩;rw[show its.toArray.any (eqU x)=its.any (eqU x) by simp,lV r fs];exact q
 ·obtain⟨its,r,pl,hz⟩:=I.tuple hq;refine SeqAt.notIn_tupleAt (eqU x) pl (λ w hw=>jb rx fx r fs w (by simpa using hw)) ⟨.bl _,H,I,ca,?_⟩;rw[show its.toArray.any (eqU x)=its.any (eqU x) by simp,lV r fs];exact q
def DT:bR X (.builtin "len") (λ xs H Q=>∃p ys,xs=[.ref p]/\(SqL X.K H p ys\/SqT X.K H p ys)/\Q (.int ys.length) H):=by
 intro pins s σ H xs us Q I r h;obtain⟨p,ys,rfl,hq,q⟩:=h;obtain⟨u,rfl,rx⟩:=cB r;cases rx;have hn:=jV
 rcases hq with hq|hq
 ·obtain⟨its,r',pl,hz⟩:=I.list hq;have hlen:=r'.length;exact Calls.call_len_list pl.isList (by simp only[aM]<;>lia) ⟨.int ys.length,H,I.tok _,⟨s.toks+1,by rw[aM,hlen]⟩,q⟩
 ·obtain⟨its,r',pl,hz⟩:=I.tuple hq;have hlen:=r'.length;exact s1g pl (by simp only[aM]<;>lia) ⟨.int ys.length,H,I.tok _,⟨s.toks+1,by rw[aM,hlen]⟩,q⟩
def DU:bR X (.builtin "len") (λ xs H Q=>∃z,xs=[.str z]/\z.length<=sizeLine/\Q (.int z.length) H):=by
 intro pins s σ H xs us Q I r h;obtain⟨z,rfl,hz,q⟩:=h;obtain⟨u,rfl,t,rfl⟩:=cB r;have hn:=jV;exact len_str fu ⟨.int z.length,H,I.tok _,⟨_,ca⟩,q⟩
def DV:bR X (.type "list") (λ xs H Q=>∃p ys,xs=[.ref p]/\(SqL X.K H p ys\/SqT X.K H p ys)/\∀l,H l=none->Q (.ref l) (upd H l (.lst ys))):=by
 intro pins s σ H xs us Q I r h;obtain⟨p,ys,rfl,hq,q⟩:=h;obtain⟨u,rfl,rx⟩:=cB r;cases rx
 have fin:∀(its:LV),Vals ys its->ys.length<=sizeLine->∀(h':Heap) (c':Nat),(∀b o',s.heap.get? b=some o'->h'.get? b=some o') ->
   h'.get? s.heap.objs.size=some { cls:=.type "list",dict:=none,data:=.seq its.toArray c',slots:=#[] }->EP X pins σ Q (.ref s.heap.objs.size) { s with heap:=h' }:=λ its r' hz h' c' kp e=>
  ⟨.ref s.heap.objs.size,_,I.laid (t':=s.toks) kp (av _) (show ObjOk X.prog X.w _ h' _ (.lst ys) from ⟨hz,its,c',r',e⟩),rfl,q _ (I.hok.fresh (av _))⟩
 rcases hq with hq|hq
 ·obtain⟨its,r',pl,hz⟩:=I.list hq;have hlen:=r'.length;obtain⟨o,ho,hc,n,hd⟩:=pl.isList;exact call_list_seq p (.inl rfl) ho hc hd (λ h' c' kp e=>fin its r' hz h' c' kp e) (by simp only[aM]<;>lia)
 ·obtain⟨its,r',pl,hz⟩:=I.tuple hq;have hlen:=r'.length;obtain⟨o,ho,hc,n,hd⟩:=pl;exact call_list_seq p (.inr rfl) ho hc hd (λ h' c' kp e=>fin its r' hz h' c' kp e) (by simp only[aM]<;>lia)
def DW:bR X (.type "tuple") (λ xs H Q=>∃p ys,xs=[.ref p]/\((SqL X.K H p ys/\∀l,H l=none->Q (.ref l) (upd H l (.tup ys)))\/(SqT X.K H p ys/\Q (.ref p) H))):=by
 intro pins s σ H xs us Q I r h;obtain⟨p,ys,rfl,h⟩:=h;obtain⟨u,rfl,rx⟩:=cB r;cases rx
 rcases h with ⟨hq,q⟩|⟨hq,q⟩
 ·obtain⟨its,r',pl,hz⟩:=I.list hq;have hlen:=r'.length;refine call_tuple_list pl.isList (λ h' kp=>?_) (by simp only[aM]<;>lia);have I1:Inv X pins σ H { s with heap:=h' }:=I.kept (t':=s.toks) kp
  have I2:Inv X pins σ (upd H h'.objs.size (.tup ys)) { s with heap:=h'.push { cls:=.type "tuple",data:=.seq its.toArray } } :=
   I1.laid (t':=s.toks) (λ b o e=>aA _ e) (av _) (show ObjOk X.prog X.w _ _ _ (.tup ys) from ⟨hz,its,r',TupO.new _ _⟩)
  exact⟨.ref h'.objs.size,_,I2,ca,q _ (I1.hok.fresh (av _))⟩
 ·obtain⟨its,r',pl,hz⟩:=I.tuple hq;exact call_tuple_same pl ⟨.ref p,H,I,ca,q⟩
noncomputable def tyV(K:FG)(T:String)(x:V)(H:Hp):Prop:=match x with
 |.str _=>T="str"
 |.int _=>T="int"
 |.ref p=>(T="list" /\ ∃xs,SqL K H p xs)\/(T="tuple" /\ ∃o,K.lookup p=some o/\o.cls=.type "tuple" /\ o.dict=none) \/
   (T="dict" /\ ((∃kvs,H p=some (.dK kvs))\/∃kvs,H p=some (.dT kvs)))\/(T="set" /\ ∃S n,H p=some (.set S n))
 |_=>False
theorem vo(I:Inv X pins σ H s)(r:RelV x v)(ty:tyV X.K T x H) :
  s.TypeIs v T/\∀a,v=.ref a->∃ob,s.heap.get? a=some ob/\ob.dict=none:=by
 cases x with
 |str z=>
  obtain⟨t,rfl⟩:=r;cases (show T="str" from ty);exact⟨typeIs_str s z t,λ _ e=>nomatch e⟩
 |int i=>
  obtain⟨t,rfl⟩:=r;cases (show T="int" from ty);exact⟨typeIs_int s i t,λ _ e=>nomatch e⟩
 |ref p=>
  cases r
  rcases ty with ⟨rfl,xs,hq⟩|⟨rfl,o,hk,hc,hd⟩|⟨rfl,hk⟩|⟨rfl,S,n,hk⟩
  ·obtain⟨its,_,pl,_⟩:=I.list hq;refine⟨pl.isList.typeIs,λ a e=>?_⟩;cases e;obtain⟨o,n,e,c,hd,_⟩:=pl;exact⟨o,e,hd⟩
  ·refine⟨⟨o,I.kIn p o hk,hc⟩,λ a e=>?_⟩;cases e;exact⟨o,I.kIn _ o hk,hd⟩
  ·have z:∃o,s.heap.get? p=some o/\o.ExactDict:=by
    rcases hk with ⟨kvs,hk⟩|⟨kvs,hk⟩
    ·obtain⟨_,_,_,_,o,_,_,e,ex,_⟩:=I.hok p _ hk;exact⟨o,e,ex⟩
    ·obtain⟨_,_,_,_,o,_,_,e,ex,_⟩:=I.hok p _ hk;exact⟨o,e,ex⟩
   obtain⟨o,e,ex⟩:=z;refine⟨⟨o,e,ex.1⟩,λ a e2=>?_⟩;cases e2;exact⟨o,e,ex.2.1⟩
  ·obtain⟨o,_,_,_,e,ex,_⟩:=I.hok p _ hk;refine⟨⟨o,e,ex.1⟩,λ a e2=>?_⟩;cases e2;exact⟨o,e,ex.2.1⟩
 |_=>exact False.elim ty
noncomputable def DX(K:FG)(T:String)(r:V->List V->Hp->VK->Prop)(to:TE):TE:=λ σ H Q=>to σ H λ x H1=>tyV K T x H1/\r x [] H1 Q
noncomputable def tBM(K:FG)(T:String)(r:V->List V->Hp->VK->Prop)(to:TE)(t:TA):TE:=λ σ H Q=>to σ H λ x H1=>tyV K T x H1/\t σ H1 λ xs H2=>r x xs H2 Q
variable {o e:Expr}{es:List Expr}{to:TE}{t:TA}{name:Str}{apos cpos:Pos}{T id:String}{r:V->List V->Hp->VK->Prop}
theorem DY(pa:PlainAttrs T)(slot:Slot T name id)(hty:typeOf (.builtin id)=pure (.type "method_descriptor"))(hm:MtR X id r)(ho:PE X o to)
  (hbase:attributeBase o name X.env (eval o X.env)=eval o X.env:=by rfl) (hline:(apos.endLine == cpos.line)=true:=by rfl):PE X (.Call (.Attribute o name apos) [] [] cpos) (DX X.K T r to):=by
 intro pins s σ H Q I h;refine wpAny_Call_method0_late hbase hline (thn (ho pins s σ H _ I h) λ v s1 ⟨x,H1,I1,r1,ty,q1⟩=>?_);obtain⟨h1,h2⟩:=vo I1 r1 ty;exact⟨T,id,pa,slot,hty,h1,h2,rC rfl (PySem.evalArgs_none (hm pins s1 σ H1 x [] v [] Q I1 r1 .nil q1))⟩
theorem lX(pa:PlainAttrs T)(slot:Slot T name id)(hty:typeOf (.builtin id)=pure (.type "method_descriptor"))(hm:MtR X id r)(ho:PE X o to)(ha:PA X (e::es) t)
  (hbase:attributeBase o name X.env (eval o X.env)=eval o X.env:=by rfl)
  (hfew:((backTo cpos (starEach (e::es) X.env)).all (λ x=>!x.1) && (backToKw cpos (keywordEach [] X.env)).all (λ x=>x.1.isSome)
   && decide ((e::es).length+([]:List Keyword).length+(if ([]:List Keyword).isEmpty then 0 else 1)<30))=true:=by rfl)
  (hline:(apos.endLine == cpos.line)=true:=by rfl) (hs:starEach (e::es) X.env=(false,eval e X.env)::starEach es X.env:=by rfl) (hplain:(backTo cpos (starEach es X.env)).any (·.1)=false:=by rfl) :
  PE X (.Call (.Attribute o name apos) (e::es) [] cpos) (tBM X.K T r to t):=by
 intro pins s σ H Q I h;refine vp hbase hfew hline rfl (thn (ho pins s σ H _ I h) λ v s1 ⟨x,H1,I1,r1,ty,q1⟩=>?_);obtain⟨h1,h2⟩:=vo I1 r1 ty;refine⟨T,id,pa,slot,hty,h1,h2,?_⟩;have hA:=ha cpos pins s1 σ H1 _ I1 q1;rw[hs] at hA ⊢;refine rC (by show(false || (backTo cpos (starEach es X.env)).any (·.1))=false;rw[hplain]<;>rfl) (rD ?_);exact thn hA λ us s2 ⟨vs,H2,I2,r2,q2⟩=>hm pins s2 σ H2 x vs v us Q I2 r1 r2 q2
end
noncomputable def MtM(X:Cx)(id:String)(r:V->List V->Hp->VK->Prop):Prop :=
 ∀(pins:LO) (s:Shared) (σ:St) (H:Hp) (x:V) (xs:List V) (v:Value) (us:LV) (Q:VK),Inv X pins σ H s->RelV x v->Vals xs us->r x xs H Q ->
  wpAny (model X.prog X.w) X.A (call (.builtin id) (v::us)) (EP X pins σ Q) X.xe s
theorem Vals.one:∀ {x:V}{us:LV},Vals [x] us->∃u,us=[u]/\RelV x u
 |_,_,.cons r .nil=>⟨_,rfl,r⟩
theorem Vals.zero:∀ {us:LV},Vals [] us->us=[]
 |_,.nil=>rfl
def Vals.dropLast(h:Vals xs us):Vals xs.dropLast us.dropLast:=by
 induction h with
 |nil=>exact .nil
 |cons r t ih=>
  cases t with
  |nil=>exact .nil
  |cons q t'=>exact .cons r ih
theorem Vals.eraseIdx:∀ {xs:List V}{us:LV}(i:Nat),Vals xs us->Vals (xs.eraseIdx i) (us.eraseIdx i)
 |_,_,_,.nil=>.nil
 |_,_,0,.cons _ t=>t
 |_,_,i+1,.cons r t=>.cons r (Vals.eraseIdx i t)
def Vals.reverse(h:Vals xs us):Vals xs.reverse us.reverse:=by
 induction h with
 |nil=>exact .nil
 |cons r t ih=>rw[ki,ki];exact Vals.append ih (.cons r .nil)
theorem Vals.rep(h:Vals xs us):∀k:Nat,Vals (List.replicate k xs).flatten (List.replicate k us).flatten
 |0=>.nil
 |k+1=>by
  rw[jc,jc,kj,kj];exact Vals.append h (Vals.rep h k)
def DZ{α:Type}(l:List α):l.eraseIdx (l.length-1)=l.dropLast:=by
 induction l with
 |nil=>rfl
 |cons a r ih=>
  cases r with
  |nil=>rfl
  |cons b r=>
   have e:(a::b::r).length-1=((b::r).length-1)+1:=by
    have h1:(a::b::r).length=r.length+2:=rfl;have h2:(b::r).length=r.length+1:=rfl;lia
   rw[e,vq,ih];all_goals rfl
theorem vt{α:Type}:∀(l:List α) (i:Nat),(l.eraseIdx i).length<=l.length
 |[],_=>av _
 |_::_,0=>s0v _
 |_::r,i+1=>lY (vt r i)
theorem vv(its:LV):∀(k:Nat) (acc:LV),
  List.foldl (λ x1 x2=>x1++x2) acc.toArray (List.replicate k its.toArray)=(acc++(List.replicate k its).flatten).toArray
 |0,acc=>by simp
 |k+1,acc=>by
  have e:acc.toArray++its.toArray=(acc++its).toArray:=pv
  have e2:(acc++its)++(List.replicate k its).flatten=acc++(List.replicate (k+1) its).flatten:=by
   rw[jc,kj,jd]
  rw[<- e2,<- vv its k (acc++its),<- e,jc,List.foldl_cons]
section
variable {pins:LO}{σ:St}{H:Hp}{s:Shared}{l b:Addr}{xs ys zs:List V}
theorem Inv.lset{its its':LV}{f:Array Value->Array Value}{t':Nat}(I:Inv X pins σ H s)(hH:H l=some (.lst xs))
  (e:s.heap.get? l=some { cls:=.type "list",data:=.seq its.toArray n }) (hf:f its.toArray=its'.toArray) (hv:Vals ys its') (hz:ys.length<=sizeLine) :
  Inv X pins σ (upd H l (.lst ys)) { s with heap:=s.heap.update l (Obj.mapSeq f),toks:=t' }:=by
 have q:=PySem.IsL.update e f;rw[hf] at q;refine I.write (x:=l) (e:=l) (by rw[hH];exact trivial) (.inl rfl) (λ b' u hb hu=>(dY s.heap (Obj.mapSeq f) (bW hb)).trans hu) ⟨_,q⟩ ?_;exact⟨hz,its',_,hv,q⟩
theorem Inv.lnew{t':Nat}(I:Inv X pins σ H s)(hv:Vals ys its)(hz:ys.length<=sizeLine) :
  Inv X pins σ (upd H s.heap.objs.size (.lst ys)) { s with heap:=s.heap.push { cls:=.type "list",data:=.seq its.toArray },toks:=t' } :=
 I.laid (λ _ _ q=>aA _ q) (av _) ⟨hz,its,0,hv,aR _ rfl⟩
def Inv.fresh(I:Inv X pins σ H s):H s.heap.objs.size=none:=I.hok.fresh (av _)
def Inv.lstM(I:Inv X pins σ H s)(hH:H l=some (.lst xs)):xs.length<=sizeLine/\∃(its:LV) (n:Nat),Vals xs its/\xs.length=its.length/\s.heap.get? l=some { cls:=.type "list",data:=.seq its.toArray n }:=by
 obtain⟨z,its,n,r,e⟩:=I.hok l _ hH;exact⟨z,its,n,r,r.length,e⟩
def Ea{n:Nat}(h:n<=sizeLine):Builtin.List.listTooLong n=false:=by
 unfold Builtin.List.listTooLong;exact bo fu
end
noncomputable def oq:V->List V->Hp->VK->Prop:=λ x vs H Q=>∃l xs y,x=.ref l/\vs=[y]/\H l=some (.lst xs)/\xs.length<sizeLine/\Q .non (upd H l (.lst (xs++[y])))
def Eb:MtM X "list.append" oq:=by
 intro pins s σ H x vs v us Q I rx rv h;obtain⟨l,xs,y,rfl,rfl,hH,hz,q⟩:=h;cases rx;obtain⟨u,rfl,ru⟩:=rv.one;obtain⟨z,its,n,r,hl,e⟩:=I.lstM hH;refine gv s1h ⟨_,e,ca⟩ s0w (s0i _ _) (PySem.list_append l its.toArray n u (by rw[aM];lia)) ⟨e,?_⟩;refine⟨.non,_,I.lset (its':=its++[u]) hH e pv (r.append (.cons ru .nil)) ?_,ca,q⟩;rw[aK,gw];lia
noncomputable def ou:V->List V->Hp->VK->Prop:=λ x vs H Q=>∃l xs y,x=.ref l/\vs=[]/\H l=some (.lst xs)/\xs[xs.length-1]?=some y/\Q y (upd H l (.lst xs.dropLast))
def Ec:MtM X "list.pop" ou:=by
 intro pins s σ H x vs v us Q I rx rv h;obtain⟨l,xs,y,rfl,rfl,hH,hy,q⟩:=h;cases rx;have hus:=rv.zero;subst hus;obtain⟨z,its,n,r,hl,e⟩:=I.lstM hH;obtain⟨u,hu,ru⟩:=r.get hy
 have hy':its.toArray[its.toArray.size-1]?=some u:=by
  show its.toArray[its.length-1]?=some u;rw[<- rF,<- hl];exact hu
 refine gv F.slot_list_pop ⟨_,e,ca⟩ F.entry_list_pop (F.args_list_pop_1 _) (MeetsSeq.list_pop_last l its.toArray n u hy' (by rw[aM];lia)) ⟨e,?_⟩;refine⟨y,_,I.lset (its':=its.dropLast) hH e ?_ r.dropLast ?_,ru,q⟩
 ·show its.toArray.eraseIdxIfInBounds (its.toArray.size-1)=its.dropLast.toArray;rw[aM,vx,DZ]
 ·rw[List.length_dropLast];lia
noncomputable def lZ:V->List V->Hp->VK->Prop:=λ x vs H Q=>∃l xs i k y,x=.ref l/\vs=[.int i]/\H l=some (.lst xs)/\-(2 ^ 63)<=i/\i<2 ^ 63/\seqIndex? i xs.length=some k/\xs[k]?=some y/\Q y (upd H l (.lst (xs.eraseIdx k)))
def Ed:MtM X "list.pop" lZ:=by
 intro pins s σ H x vs v us Q I rx rv h;obtain⟨l,xs,i,k,y,rfl,rfl,hH,h1,h2,hk,hy,q⟩:=h;cases rx;obtain⟨u,rfl,ru⟩:=rv.one;obtain⟨t,rfl⟩:=ru;obtain⟨z,its,n,r,hl,e⟩:=I.lstM hH;obtain⟨w,hw,rw'⟩:=r.get hy
 refine gv F.slot_list_pop ⟨_,e,ca⟩ F.entry_list_pop (F.args_list_pop_2 _ _)
  (MeetsSeq.list_pop_at l its.toArray n i t k w (s0o h1 h2) (by rw[aM,<- hl];exact hk) (by rw[<- rF];exact hw) (by rw[aM];lia)) ⟨e,?_⟩
 refine⟨y,_,I.lset (its':=its.eraseIdx k) hH e ?_ (r.eraseIdx k) ?_,rw',q⟩
 ·show its.toArray.eraseIdxIfInBounds k=(its.eraseIdx k).toArray;rw[vx]
 ·have:=vt xs k;lia
noncomputable def Ee:R2:=λ x y H Q=>∃l k xs,x=.ref l/\y=.int k/\H l=some (.lst xs)/\-(2 ^ 63)<=k/\k<2 ^ 63/\xs.length*k.toNat<=sizeLine /\
 ∀p,H p=none->Q (.ref p) (upd H p (.lst (List.replicate k.toNat xs).flatten))
def Ef{α:Type}(xs:List α)(k:Nat):(List.replicate k xs).flatten.length=k*xs.length:=by
 induction k with
 |zero=>simp
 |succ k ih=>rw[jc,kj,aK,ih,Nat.succ_mul,Nat.add_comm]
def Eg:OpR X (binaryOp .Mult) Ee:=by
 intro pins s σ H x y v u Q I rx ry h;obtain⟨l,k,xs,rfl,rfl,hH,h1,h2,hz,q⟩:=h;cases rx;obtain⟨t,rfl⟩:=ry;obtain⟨z,its,n,r,hl,e⟩:=I.lstM hH;have hlen:its.toArray.size*k.toNat<=sizeLine:=by rw[aM,<- hl];exact hz
 have hcap:¬its.toArray.size*k.toNat > (2 ^ 63-1)/8:=by
  have:(sizeLine:Nat)<=(2 ^ 63-1)/8:=on;lia
 have hfit:¬(!Builtin.List.listFitsIndex k)=true:=by
  rw[s0o h1 h2];exact bG
 have hlong:¬Builtin.List.listTooLong (its.toArray.size*k.toNat)=true:=by
  rw[Ea hlen];exact bG
 have hnew:List.foldl (λ x1 x2=>x1++x2) #[] (List.replicate (if its.toArray.isEmpty=true then 0 else k.toNat) its.toArray)=(List.replicate k.toNat its).flatten.toArray:=by
  have f0:∀m:Nat,List.foldl (λ x1 x2=>x1++x2) #[] (List.replicate m its.toArray)=(List.replicate m its).flatten.toArray:=λ m=>by
   have:=vv its m [];rw[ow] at this;exact this
  rw[f0]
  cases its with
  |nil=>simp
  |cons a r'=>rw[if_neg pv]
 refine wpAny_binaryOp_repeat_ref (T := "list") (U := "int") on ⟨_,e,ca⟩ (λ s'=>typeIs_int s' k t) noFill_list_mul F.fills_int_mul F.slot_int_rmul repeat_list F.slot_int_index.lookup
  (gv F.slot_int_rmul (typeIs_int s k t) F.entry_int_rmul (F.args_int_rmul_2 _ _) (int___rmul___int_list k t l its.toArray n)
   ⟨e,rfl,⟨_,e,rfl⟩,gv F.slot_list_mul ⟨_,e,rfl⟩ F.entry_list_mul (F.args_list_mul_2 _ _) (AutoListH.list___mul___list_int_3 l its.toArray n k t hfit hcap hlong) ⟨e,?_⟩⟩)
 rw[hnew];exact⟨.ref _,_,I.lnew (t':=s.toks) (r.rep k.toNat) (by rw[Ef,Nat.mul_comm];exact hz),ca,q _ I.fresh⟩
section
variable {prog:Program}{w:World}{A:Around}{E:VS}{s:Shared}
end
end _L
namespace Att
open PySem PySem.W PySem.Calls PyProof.Rows
def Eh:∀(ns:LI) (vs:LV),WellAll P h vs (ns.map WData.int)->IntsAre vs ns:=by
 intro ns
 induction ns with
 |nil=>
  intro vs w;rw[List.map_nil] at w;cases w;exact .nil
 |cons n ns ih=>
  intro vs w;rw[bA] at w
  cases w with
  |cons a b=>
   cases a;exact .cons _ _ (ih _ b)
theorem Ei{l:OpenLaw}(hn:l.most=some n)
  (hpre:l.row.toRowW.claim.pre args=true) (hwl:WellAll P h vals args) :
  ∃a vs ns,vals=[Value.ref a]/\args=[WData.list (ns.map WData.int)]/\h.get? a=some { cls:=.type "list",data:=.seq vs.toArray }/\IntsAre vs ns/\ns.length<=n:=by
 have hsh:WShape.hasAll [] args [.list .int]=true:=(pre_splitW hpre).1;have hc:l.pre.holds [] { args:=args }=true:=(pre_splitW hpre).2;obtain⟨d,r,rfl,h1,h2⟩:=hasAllW_cons hsh;obtain rfl:=hasAllW_nil h2;obtain⟨xs,rfl,h3⟩:=hasW_list h1;obtain⟨ns,rfl⟩:=items_int h3
 have hlen:ns.length<=n:=by
  unfold OpenLaw.pre at hc
  have h4:(WTm.not (.lt (.lit (.int (n:Int))) (.len (.arg 0)))).holds [] { args:=[.list (ns.map .int)] }=true:=by
   have h4:=(holds_andW hc).1;rw[hn] at h4;exact h4
  have h5:=condW_of h4 (w_not (w_lt w_lit (w_len_list (w_arg rfl))));rw[ak] at h5;refine Nat.le_of_not_lt λ q=>?_;have q':(n:Int)<((ns.length:Nat):Int):=fu
  first
   |(rw[cL q'] at h5;exact absurd h5 on)
   |(simp at h5;lia)
 cases hwl with
 |cons w1 w2=>
  cases w2
  cases w1 with
  |list ho hall=>exact⟨_,_,ns,rfl,rfl,ho,Eh ns _ hall,hlen⟩
def Ej(l:OpenLaw)(args:List WData):l.row.toRowW.claim.post args (.bool true) args=true :=
 postW_of (r:=l.row.toRowW) (X:=(true == true))
  (show WShape.has [] (.bool true) .bool=true by first|rfl|decide|simp[WShape.has,WShape.arms,WShape.armsAll])
  (show(WTm.eq .res (.lit (.bool true))).value [] { args:=args,res:=some (.bool true),after:=args }=some (.bool (true == true)) from w_eq_bool (w_res rfl) w_lit) rfl
theorem attach_call{l:OpenLaw}{YP:World->Heap->Prop}{d:DefRec}
  (hn:l.most=some n) (hdf:d.params.defaults=[])
  (call:∀(w:World) (s₀ s₁:Shared) (mg mb:SV) (fa:Addr) (o:Obj) (pm cd doc:Value) (a:Addr) (vs:LV) (ns:LI),
   Ground q loose [] XP w s₀ mg mb s₁.heap->YP w s₁.heap ->
   s₁.heap.get? fa=some o->o.data=.func (docDef d.name d.params d.body d.scope pm cd doc)->s₁.heap.CodeRec cd d.name->mg d.name=some (.ref fa) ->
   s₁.heap.get? a=some { cls:=.type "list",data:=.seq vs.toArray }->IntsAre vs ns->ns.length<=n->s₁.gens=#[] ->
   codeAny (model l.prog w) callerA (.call (.ref fa) ⟨[.ref a],[]⟩) (λ r s'=>r=.ok (.ret (.bool true))/\OldK s₁.heap s'.heap/\s'.os=s₁.os/\AllBare s'.gens) s₁) :
  WalkO q loose XP YP l.row.toRowW d [] (λ f vs=>PySem.call f vs):=by
 intro w s₀ s₁ mg mb G Y fa o pm cd doc dV kV ho hd hcd hD hmg hg args vals as hpre hlay hrd hwl hlo;obtain rfl:dV=.none:=Dflts.none hD hdf;obtain rfl:kV=.none:=Dflts.noKw hD;obtain⟨a,vs,ns,rfl,rfl,hobj,hints,hlen⟩:=Ei hn hpre hwl;refine enter_call (iX (call w s₀ s₁ mg mb fa o pm cd doc a vs ns G Y ho (fd_plain hd) hcd hmg hobj hints hlen hg) λ r s' hq=>?_);obtain⟨rfl,h2,h3,h4⟩:=hq;exact⟨.inl ⟨.bool true,.bool true,[],ca,λ _=>rfl,.bool true,Ej l _,λ _=>⟨List.Pairwise.nil,λ _ hm=>(nomatch hm)⟩⟩,h2,h3,h4⟩
section
variable {prog:Program}{w:World}{A:Around}{E:VS}{s:Shared}{K:Frag}
end
end Att
namespace _L
open PySem PySem.Spec PyProof.Rows
theorem rG:∀ {vs:LV}{ns:LI},IntsAre vs ns->Vals (ns.map V.int) vs
 |_,_,.nil=>.nil
 |_,_,.cons n t h=>.cons ⟨t,rfl⟩ (rG h)
noncomputable def cy(s:Stmt):Arguments:=match s with
 |.FunctionDef _ a _ _ _ _ _ _ _ _=>a
 |_=>{ posonlyargs:=[],args:=[],vararg:=none,kwonlyargs:=[],kw_defaults:=[],kwarg:=none,defaults:=[] }
noncomputable def aN(s:Stmt):List Stmt:=match s with
 |.FunctionDef _ _ b _ _ _ _ _ _ _=>b
 |_=>[]
noncomputable def ah(s:Stmt):Scope:=match s with
 |.FunctionDef _ _ _ _ _ _ sc _ _ _=>sc
 |_=>{ kind:=.function,names:=[],isGenerator:=false,isCoroutine:=false }
abbrev CX0:CXT:=λ _ _ _ _ _ _=>False
abbrev E0:XK:=λ _ _ _=>False
def vy:lQ CX0 X E0:=λ _ _ _ _ _ _ _ h=>h.elim
structure Fun (K:FG)(x qual:Str)(st:Stmt)(f:Addr)(fd:FuncData):Prop where
 ex:∃(oc:Value) (od:OA) (kV doc pm:Value) (an:OA) (cdv ct:Value) (osl:AV),
  fd=W.fnOf x qual (cy st) (aN st) (ah st) .none kV doc pm an cdv ct/\K.lookup f=some ⟨oc,od,.func fd,osl⟩/\W.codeIn K cdv qual=true
 kp:W.keepIn K (.ref f)=true
section
variable {P:Program}{w:World}{K:FG}{mg:SV}{base:Heap}
theorem Fun.ok{st:Stmt}{sp:Sp}(F:Fun K x qual st f fd)(S:FnScope N ps (ah st))(len:∀vs H Q E,sp vs H Q E->vs.length=ps.length)
  (hbody:∀(cdv:Value) (A:Around) (outer:List Env) (s:Shared) (H:Hp) (vs:List V) (Q:VK) (E:XK),Room k (A.deeper (envOfC qual (ah st) s.heap.objs.size f cdv))->sp vs H Q E ->
   ∃t,PSs (bH CX0 P w K mg base N qual (ah st) f cdv A outer s H E).nox (aN st) t/\t { nx:=λ _ H'=>Q .non H',rt:=Q } (start N vs) H):FnOk P w K mg base CX0 (k+1) f fd ps sp:=by
 obtain⟨oc,od,kV,doc,pm,an,cdv,ct,osl,rfl,lk,hcd⟩:=F.ex;refine qY lk hcd S len λ A outer s H vs Q E hr hsp=>?_;obtain⟨t,h,q⟩:=hbody cdv A outer s H vs Q E hr hsp;exact⟨t,h.nox,q⟩
theorem Fun.binds{st:Stmt}{ps:List Str}(F:Fun K x qual st f fd)
  (h:∀(kV doc pm:Value) (an:OA) (cdv ct:Value) (us:LV),us.length=ps.length->bindArgs (W.fnOf x qual (cy st) (aN st) (ah st) .none kV doc pm an cdv ct) ⟨us,[]⟩=pure (ps.zip us)):Binds K fd ps []:=by
 obtain⟨oc,od,kV,doc,pm,an,cdv,ct,osl,rfl,lk,hcd⟩:=F.ex;exact .all (h kV doc pm an cdv ct)
theorem vz{st:Stmt}{oc:Value}{od an:OA}{osl:AV}{kV doc pm cdv ct:Value}(l:K.lookup f=some ⟨oc,od,.func (W.fnOf x qual (cy st) (aN st) (ah st) .none kV doc pm an cdv ct),osl⟩)
  (c:W.codeIn K cdv qual=true) (k:W.keepIn K (.ref f)=true):Fun K x qual st f (W.fnOf x qual (cy st) (aN st) (ah st) .none kV doc pm an cdv ct):=⟨⟨oc,od,kV,doc,pm,an,cdv,ct,osl,rfl,l,c⟩,k⟩
end
def aX{n:Nat}(h:n<=1000):n<sizeLine:=rH h on
variable {X:Cx}
end _L
set_option maxHeartbeats 4000000
namespace _L
open PySem PySem.Spec PyProof.Rows
section
variable {prog:Program}{w:World}{A:Around}{R:Result->Shared->Prop}{s:Shared}
theorem Ek{elt target iter:Expr}{it acc:Value}(I:Nat->Shared->Prop)
  (turn:∀n s,I n s->wpAny (model prog w) A (pyNext it) (λ r s₁=>match r with
   |none=>R (.ok .next) s₁
   | some v=>wpAny (model prog w) A (letOwnedTupleGo target it v) (λ _ s₀=>wpAny (model prog w) A (assign target env v) (λ _ s₂=>wpAny (model prog w) A (eval elt env) (λ x s₃ =>
     wpAny (model prog w) A (call (.builtin "list.append") [acc,x]) (λ _ s₄=>∃m,m<n/\I m s₄) (λ _ _=>False) s₃)
     (λ _ _=>False) s₂) (λ _ _=>False) s₀) (λ _ _=>False) s₁) (λ _ _=>False) s)
  (n:Nat) (h:I n s) :
  codeAny (model prog w) A (.compLoop (.ListComp elt [⟨target,iter,[],0⟩] scope pos) 0 it acc env) R s:=by
 refine codeAny_loop rfl I (λ n s hI=>?_) n h;show wpAny _ _ ((compTurn (.ListComp elt [⟨target,iter,[],0⟩] scope pos) 0 it acc env).onRaise (λ x=>do noteFrame x env;theTreesLotGoes x)) _ _ s;refine wpAny_noted ?_;rw[compTurn_list1];refine af (gj (af (bQ (turn n s hI) (λ r s₁ h₁=>?_) λ _ _ h'=>h'.elim)))
 cases r with
 |none=>exact aj h₁
 |some v=>
  refine af (bQ h₁ (λ _ s₀ h₀=>?_) λ _ _ h'=>h'.elim)
  exact af (bQ h₀ (λ _ s₂ h₂=>af (af (bQ h₂ (λ x s₃ h₃=>af (bQ h₃
   (λ _ s₄ h₄=>aj (aj ⟨rfl,h₄⟩)) λ _ _ h'=>h'.elim)) λ _ _ h'=>h'.elim))) λ _ _ h'=>h'.elim)
end
noncomputable def bp(X:Cx)(N:List Str)(scope:Scope)(cl:LA)(C:Addr)(ex:List Addr)(s:Shared)(H:Hp):Cx where
 prog:=X.prog
 w:=X.w
 K:=X.K
 mg:=X.mg
 base:=X.base
 A:=X.A
 N:=N
 s₀:=s
 H₀:=H
 env:=compEnvC scope cl C X.env
 outer:=X.stack
 stack:=X.stack
 ex:=ex
 fn:=λ _=>false
 calm:=X.calm
 pn:=X.pn
 xe:=λ _ _=>False
noncomputable def cT(k:Nat)(js:List Nat)(σ:St):St:=List.replicate k none++js.map λ j=>(σ[j]?).join
noncomputable def kn(wi:TI)(k:Nat)(js:List Nat)(g:TG)(te:TE):TE:=λ σ H Q=>wi σ H λ J H1=>
 ∃W:Nat->Nat->List V->St->Hp->Prop,(∃m,W 0 m [] (cT k js σ) H1)/\∀i m ys σ' H',W i m ys σ' H' ->
  (J.stop i H'/\∀p,H' p=none->Q (.ref p) (upd H' p (.lst ys))) \/
  (J.go i H'/\ys.length < sizeLine/\∃N:List V->St->Hp->Prop,(∀zs σ2 H2,N zs σ2 H2->∃m',m' < m/\W (i+1) m' zs σ2 H2) /\
   ∀x H2,J.yld i H' x H2->g x σ' H2 λ σ3 H3=>te σ3 H3 λ v H4=>N (ys++[v]) σ3 H4)
structure Cap (X:Cx)(scope:Scope)(cl:LA)(x:Str)(j:Nat):Prop where
 at_:X.N[j]?=some x
 out:X.env.scope.names.lookup x=some .cell\/X.env.scope.names.lookup x=some .free
 inn:(relabel scope X.env).names.lookup x=some .cell\/(relabel scope X.env).names.lookup x=some .free
def El{σ:St}{j:Nat}(h:(σ[j]?).join=some v):σ[j]?=some (some v):=by
 cases e:σ[j]? with
 |none=>rw[e] at h;cases h
 |some o=>
  rw[e] at h
  cases o with
  |none=>cases h
  |some u=>cases h;rfl
noncomputable def jf(wi:TI)(k:Nat)(js:List Nat)(g:TG)(tc:TT)(te:TE):TE:=λ σ H Q=>wi σ H λ J H1=>
 ∃W:Nat->Nat->List V->St->Hp->Prop,(∃m,W 0 m [] (cT k js σ) H1)/\∀i m ys σ' H',W i m ys σ' H' ->
  (J.stop i H'/\∀p,H' p=none->Q (.ref p) (upd H' p (.lst ys))) \/
  (J.go i H'/\ys.length < sizeLine/\∃N:List V->St->Hp->Prop,(∀zs σ2 H2,N zs σ2 H2->∃m',m' < m/\W (i+1) m' zs σ2 H2) /\
   ∀x H2,J.yld i H' x H2->g x σ' H2 λ σ3 H3=>tc σ3 H3 λ b H4=>if b=true then te σ3 H4 λ v H5=>N (ys++[v]) σ3 H5 else N ys σ3 H4)
noncomputable abbrev oz:=Program->World->Around->Env->(Bool->Shared->Prop)->Shared->Prop
noncomputable def rJ(ifs:List Expr)(T:oz):Prop:=(∀ {prog:Program}{w:World}{A:Around}{R:Result->Shared->Prop}{s:Shared}{elt target iter:Expr}{scope:Scope}{pos:Pos}{it acc:Value}{env:Env}(I:Nat->Shared->Prop),
  (∀n s,I n s->wpAny (model prog w) A (pyNext it) (λ r s₁=>match r with
   |none=>R (.ok .next) s₁
   | some v=>wpAny (model prog w) A (letOwnedTupleGo target it v) (λ _ s₀=>wpAny (model prog w) A (assign target env v) (λ _ s₂=>T prog w A env (λ b s₃ =>
     if b=true then wpAny (model prog w) A (eval elt env) (λ x s₄ =>
      wpAny (model prog w) A (call (.builtin "list.append") [acc,x]) (λ _ s₅=>∃m,m<n/\I m s₅) (λ _ _=>False) s₄) (λ _ _=>False) s₃
     else ∃m,m<n/\I m s₃) s₂) (λ _ _=>False) s₀) (λ _ _=>False) s₁) (λ _ _=>False) s)->∀n,I n s ->
  codeAny (model prog w) A (.compLoop (.ListComp elt [⟨target,iter,ifs,0⟩] scope pos) 0 it acc env) R s) /\
 ∀ {p w A e k k' s},T p w A e k s->(∀b s,k b s->k' b s)->T p w A e k' s
def vA:oz:=λ _ _ _ _ k s=>k true s
def Em:rJ [] vA:=⟨λ I t n h=>Ek I t n h,λ h m=>m _ _ h⟩
noncomputable def PM(X:Cx)(T:oz)(tc:TT):Prop:=∀(pins:LO) (s:Shared) (σ:St) (H:Hp) (K:Bool->Hp->Prop),Inv X pins σ H s->tc σ H K->T X.prog X.w X.A X.env (λ b s'=>∃H',Inv X pins σ H' s'/\K b H') s
theorem vB{X:Cx}{elt tg iter:Expr}{cl:LA}{own fv:List Str}{js:List Nat}
    (hc:X.calm=true) (hi:PI X tg iter wi) (hclos:closureFor scope X.env=pure cl) (hcell:∀y∈scope.names,y.2≠.cell) (hkind:scope.kind=.function)
    (hnames:∀y∈scope.names,y.2=.local->scope.names.lookup y.1=some .local)
    (hcl:∀x c,cl.lookup x=some c->X.env.cells.lookup x=some c)
    (hhas:∀x,((relabel scope X.env).names.lookup x=some .cell\/(relabel scope X.env).names.lookup x=some .free)->∃c,cl.lookup x=some c)
    (hlen:js.length=fv.length) (hcap:∀(i:Nat) x j,fv[i]?=some x->js[i]?=some j->Cap X scope cl x j)
    (hg:∀(C:Addr) (ex:List Addr) (s:Shared) (H:Hp),PG (bp X (own++fv) scope cl C ex s H) tg g)
    (he:∀(C:Addr) (ex:List Addr) (s:Shared) (H:Hp),PE (bp X (own++fv) scope cl C ex s H) elt te)
    (ht:∀(C:Addr) (ex:List Addr) (s:Shared) (H:Hp),PM (bp X (own++fv) scope cl C ex s H) T0 tc) (lp:rJ ifs T0)
    (hs:∀x,foldedSetIterable iter X.env x=pure x)(I:Inv X pins σ H s) (h:jf wi own.length js g tc te σ H Q)
    (fin:∀(a C:Addr) (s5:Shared) (H5:Hp) (fl:Flow),Inv X pins σ H5 s5->H5 C=none->C≠X.env.locals->X.s₀.heap.objs.size<=C->(∀x c,X.env.cells.lookup x=some c->c≠C)->(∀p∈X.pn++pins,p.1≠C)->(∃m,s5.heap.Ns C m)->Q (.ref a) H5->compPost (model X.prog X.w) X.A X.xe use QQ (.ref a) C (.ok fl) s5) :
    wpAny (model X.prog X.w) X.A (comprehension (.ListComp elt [⟨tg,iter,ifs,0⟩] scope pos) scope X.env fpos (newList []) false (firstIter [⟨tg,iter,ifs,0⟩] X.env) use) QQ X.xe s:=by
  refine wpAny_comprehension_free (use:=use) rfl hs hclos hkind hnames (thn (hi pins s σ H _ I h) λ v s1 h1=>thn h1 λ itv s2 h2=>?_);obtain⟨it,fp,tn,J,H2,e,I2,T,st2,f2,W,⟨m0,w0⟩,turn⟩:=h2;subst e;refine cS (wpAny_newFunctionEnv hcell (by intro y hy;simp at hy) (λ h₁ hns₁ hsb₁=>?_) hkind);dsimp only at hns₁ hsb₁ ⊢;generalize hHp:s2.heap.push { cls:=.type "list",dict:=none,data:=.seq ([]:LV).toArray }=hL at hns₁ hsb₁ ⊢;have hC:hL.objs.size=s2.heap.objs.size+1:=by rw[<- hHp,fK]
  have hDC:s2.heap.objs.size≠hL.objs.size:=by rw[hC];exact aZ (im _)
  have ltC:∀b,b<s2.heap.objs.size->b≠hL.objs.size:=λ b hb=>by rw[hC];exact aZ (dJ hb)
  have old:∀b o,s2.heap.get? b=some o->h₁.get? b=some o:=λ b o e=>hsb₁.extBut b o (ltC b (aB e)) (aA _ (hHp ▸ aA _ e));have hacc:h₁.get? s2.heap.objs.size=some { cls:=.type "list",data:=.seq ([]:LV).toArray 0 }:=hsb₁.extBut _ _ hDC (aA _ (hHp ▸ aR _ rfl));have hfresh:∀a,s2.heap.objs.size<=a->H2 a=none:=λ a ha=>I2.hok.fresh ha
  have fpL:∀b∈fp,b<s2.heap.objs.size:=λ b hb=>by
    obtain⟨o,e,_⟩:=T.obj _ _ st2 b hb;exact aB e
  have cellL:∀x c,cl.lookup x=some c->c<s2.heap.objs.size:=λ x c e=>by
    obtain⟨v,q⟩:=I2.cell x c (hcl x c e);exact q.lt
  have pinL:∀p∈X.pn++pins,p.1<s2.heap.objs.size:=λ p hp=>aB (I2.pin p hp).1;generalize hX:bp X (own++fv) scope cl hL.objs.size fp s2 H2=Y
  have ok:Y.Ok:=by
    subst hX
    refine⟨I2.ok.mod,hkind,I2.ok.glob,I2.ok.blt,by show s2.heap.objs.size≤hL.objs.size;lia,λ x y c h1 h2=>I2.ok.inj x y c (hcl x c h1) (hcl y c h2),λ x hx=>hhas x hx,
      λ x c hf=>absurd hf (by show ¬(false=true);decide),I2.ok.hd,I2.ok.frames,.inl rfl,λ b hb=>⟨ltC b (fpL b hb),λ x c e=>(f2 b hb).2.2.2.2.1 x c (hcl x c e)⟩,I2.bs,cI I2.ok.bsz I2.sz,λ b o e hb=>?_,λ b hb hz=>?_,I2.stack,I2.stkFree⟩
    · rcases(f2 b hb).2.2.2.1 with z|z
      · exact I2.ok.noex b o e z
      · exact absurd (bC (aB e) (cI I2.ok.bsz z)) (cQ _)
    · rcases bf.mp (I2.stkSub b hz) with z|z
      · exact(f2 b hb).2.1 z
      · exact(f2 b hb).2.2.1 z
  have hYl:Y.env.locals=hL.objs.size:=by subst hX;rfl
  have hYs:Y.s₀=s2:=by subst hX;rfl
  have hYH:Y.H₀=H2:=by subst hX;rfl
  have hYx:Y.ex=fp:=by subst hX;rfl
  have hYf:Y.fs=frs X.stack:=by subst hX;rfl
  have hYc:Y.env.cells=cl:=by subst hX;rfl
  have hYp:Y.pn=X.pn:=by subst hX;rfl
  have pinOk:∀p∈X.pn++pins,s2.heap.get? p.1=some p.2/\H2 p.1=none/\p.1≠hL.objs.size/\p.1 ∉ frs X.stack/\∀v,p.2.data≠.cell v:=λ p hp=>by
    obtain⟨e,n,ne,nf,d⟩:=I2.pin p hp;refine⟨e,n,ltC _ (aB e),λ z=>?_,d⟩
    rcases bf.mp (I2.stkSub _ z) with q|q
    · exact ne q
    · exact nf q
  have stkL:∀b∈frs X.stack,b<s2.heap.objs.size:=λ b hb=>by
    obtain⟨_,o,ho,_⟩:=I2.stack.mem hb;exact aB ho
  have I3:Inv Y (pins++[(s2.heap.objs.size,{ cls:=.type "list",data:=.seq ([]:LV).toArray 0 })]) (cT own.length js σ) H2 { s2 with heap:=h₁,toks:=s2.toks+([]:List (Str×Value)).length }:=by
    refine⟨ok,by subst hX;rfl,I2.bare,by rw[hYH,hYs];exact Un.kept old,⟨_,by rw[hYl];exact hns₁,λ i x v e1 e2 e3=>?_⟩,λ x c e=>?_,by rw[hYl];exact hfresh _ fu,λ x c e=>?_,λ p hp=>?_,by subst hX;exact I2.hok.kept old,?_⟩
    · subst hX;have e1:(own++fv)[i]?=some x:=e1;unfold cT at e2;by_cases hi:i<own.length
      · rw[cZ (by simpa using hi),iY] at e2;split at e2<;>cases e2
      · rw[dW (by simpa using hi),dX,aL] at e2;rw[dW fu] at e1
        cases ej:js[i-own.length]? with
        |none=>rw[ej] at e2;cases e2
        |some j=>
          rw[ej] at e2;have cp:=hcap _ x j e1 ej;have e2':σ[j]?=some (some v):=El (bj e2);obtain⟨m,hn,hl⟩:=I2.loc;obtain⟨u,r,l⟩:=hl j x v cp.at_ e2' (cp.out.elim (λ z=>.inr (.inl z)) λ z=>.inr (.inr z));refine⟨u,r,.inr ⟨cp.inn,?_⟩⟩;obtain⟨c,ec⟩:=hhas x cp.inn
          rcases l with ⟨k,_⟩|⟨_,c',ec',z⟩
          · have k:X.env.scope.names.lookup x=some .local:=k
            rcases cp.out with q|q<;>rw[q] at k<;>cases k
          · rw[hcl x c ec] at ec';cases ec';obtain⟨o,ho,hd⟩:=z;exact⟨c,ec,o,old _ _ ho,hd⟩
    · rw[hYc] at e;obtain⟨v,o,ho,hd⟩:=I2.cell x c (hcl x c e);exact⟨v,o,old _ _ ho,hd⟩
    · rw[hYc] at e;exact I2.freeC x c (hcl x c e)
    · rw[hYp] at hp;rw[hYl,hYf]
      rcases cJ.mp hp with z|z
      · obtain⟨a,b,c,d,f⟩:=pinOk p (iV _ z);exact⟨old _ _ a,b,c,d,f⟩
      · rcases cJ.mp z with z|z
        · obtain⟨a,b,c,d,f⟩:=pinOk p (bX _ z);exact⟨old _ _ a,b,c,d,f⟩
        · have e:p=_:=bY.mp z;subst e;exact⟨hacc,hfresh _ (av _),hDC,λ z=>absurd (stkL _ z) (cQ _),λ v z=>by cases z⟩
    · subst hX;unfold cT;show _=(own++fv).length;simp[hlen]
  have hYprog:Y.prog=X.prog:=by subst hX;rfl
  have hYw:Y.w=X.w:=by subst hX;rfl
  have hYK:Y.K=X.K:=by subst hX;rfl
  have hYA:Y.A=X.A:=by subst hX;rfl
  have hYcalm:Y.calm=true:=by subst hX;exact hc
  have hYxe:Y.xe=λ _ _=>False:=by subst hX;rfl
  have hYenv:Y.env=compEnvC scope cl hL.objs.size X.env:=by subst hX;rfl
  have hg':=hg hL.objs.size fp s2 H2;have he':=he hL.objs.size fp s2 H2;have ht':=ht hL.objs.size fp s2 H2;rw[hX] at hg' he' ht'
  have fpOk:∀ {H':Hp}{pn:LO},(∀b∈fp,H' b=none)->(∀p∈pn,p.1=s2.heap.objs.size\/p∈pins)->∀b∈fp,ig Y pn H' b:=λ hn hp b hb=>by
    refine⟨hn b hb,by rw[hYl];exact ltC b (fpL b hb),?_,.inl (by rw[hYx];exact hb),λ x c e=>?_,λ p hq=>?_⟩
    · rw[hYf];intro hz
      rcases bf.mp (I2.stkSub b hz) with z|z
      · exact(f2 b hb).2.1 z
      · exact(f2 b hb).2.2.1 z
    · rw[hYc] at e;exact(f2 b hb).2.2.2.2.1 x c (hcl x c e)
    · rw[hYp] at hq
      rcases cJ.mp hq with z|z
      · exact(f2 b hb).2.2.2.2.2 p (iV _ z)
      · rcases hp p z with q|q
        · rw[q];exact bW (aZ (fpL b hb))
        · exact(f2 b hb).2.2.2.2.2 p (bX _ q)
  have loop:∀s₃:Shared,s₃={ s2 with heap:=h₁,toks:=s2.toks+([]:List (Str×Value)).length } ->
      codeAny (model X.prog X.w) X.A (.compLoop (.ListComp elt [⟨tg,iter,ifs,0⟩] scope pos) 0 (.ref it) (.ref s2.heap.objs.size) (compEnvC scope cl hL.objs.size X.env))
        (compPost (model X.prog X.w) X.A X.xe use QQ (.ref s2.heap.objs.size) hL.objs.size) s₃:=by
    rintro s₃ rfl
    refine lp.1 (λ n s'=>∃i ys its k σ' H',Inv Y (pins++[(s2.heap.objs.size,{ cls:=.type "list",data:=.seq (its:LV).toArray k })]) σ' H' s'/\tn i s'.heap/\(∀b∈fp,H' b=none)/\Vals ys its/\ys.length<=sizeLine/\W i n ys σ' H') ?_ m0
      ⟨0,[],[],0,_,H2,I3,T.keep _ _ _ st2 λ b _ o e=>old b o e,λ b hb=>(f2 b hb).1,.nil,bS _,w0⟩
    rintro n s4 ⟨i,ys,its,k,σ4,H4,I4,st4,fr4,rv,hz,w4⟩
    have pinD:∀p∈(pins++[(s2.heap.objs.size,({ cls:=.type "list",data:=.seq (its:LV).toArray k }:Obj))]),p.1=s2.heap.objs.size\/p∈pins:=λ p hp=>by
      rcases cJ.mp hp with z|z
      · exact .inr z
      · rw[bY.mp z];exact .inl rfl
    have F4:=fpOk (pn:=pins++[(s2.heap.objs.size,{ cls:=.type "list",data:=.seq (its:LV).toArray k })]) fr4 pinD
    rcases turn i n ys σ4 H4 w4 with ⟨stop,qn⟩|⟨go,hlt,N,hN,step⟩
    · have d:=T.done Y hYprog hYw hYK hYcalm i _ s4 σ4 H4 (λ _ _=>False) I4 F4 st4 stop;rw[hYA] at d;refine thn d λ r s5 ⟨hr,I5⟩=>?_;subst hr;obtain⟨m,hn,_⟩:=id I5.loc;rw[hYl] at hn;have hD:=I5.pin (s2.heap.objs.size,{ cls:=.type "list",data:=.seq (its:LV).toArray k }) (bX _ (bX _ (bY.mpr rfl)));have hDn:H4 s2.heap.objs.size=none:=hD.2.1;have kp:∀b o,b≠hL.objs.size->s5.heap.get? b=some o->s5.heap.get? b=some o:=λ b o _ e=>e;have B:=I5.base;rw[hYH,hYs,hYx,hYf] at B;have s2C:∀b o,s2.heap.get? b=some o->b≠hL.objs.size:=λ b o e=>ltC b (aB e);have trk:∀b u,H4 b=some u->b≠s2.heap.objs.size:=λ b u e z=>by rw[z,hDn] at e;cases e
      have trC:∀b u,H4 b=some u->b≠hL.objs.size:=λ b u e z=>by
        have:=I5.free;rw[hYl,<- z,e] at this;cases this
      have hH2:∀b u,H2 b=some u->b≠s2.heap.objs.size:=λ b u e z=>by rw[z,hfresh _ (av _)] at e;cases e
      have IX:Inv X pins σ (upd H4 s2.heap.objs.size (.lst ys)) s5:=by
       refine I2.call' (ch:=fp) (by show s5.os=s2.os;rw[I5.os,hYs]) ⟨λ b o e n hb hx=>kp b o (s2C b o e) (B.keep b o e n hb hx),λ b o e n hb hx=>?_,λ b o e n hx=>?_,λ b o e hx=>?_,λ b xs e=>?_,λ b o u e=>?_,λ b ps e=>?_⟩ ?_ I5.bare (λ b hb=>⟨(f2 b hb).2.2.2.1,(f2 b hb).2.1,(f2 b hb).2.2.2.2.1,(f2 b hb).2.2.2.2.2⟩)
       · obtain⟨sl,q⟩:=B.slot b o e n hb hx;exact⟨sl,kp b _ (s2C b o e) q⟩
       · rw[ay (aZ (aB e))];exact B.free b o e n hx
       · obtain⟨o',q⟩:=B.there b o e hx;exact⟨o',kp b o' (s2C b o e) q⟩
       · rw[ay (hH2 b _ e)];exact B.tups b xs e
       · rw[ay (hH2 b _ e)];exact B.frzs b o u e
       · obtain⟨more,q⟩:=B.tbls b ps e;exact⟨more,by rw[ay (hH2 b _ e)];exact q⟩
       · intro b u e;by_cases hb:b=s2.heap.objs.size
         · subst hb;rw[bP] at e;cases e;exact⟨hz,its,k,rv,kp _ _ hDC hD.1⟩
         · rw[ay hb] at e;have okb:=I5.hok b u e;rw[hYprog,hYw] at okb;refine okb.stay (λ c v hc q=>kp c v ?_ q) (λ c q=>by rw[ay (trk c _ q)];exact q) λ c xs q=>by rw[ay (trk c _ q)];exact q
           rcases hc with z|z
           · rw[z];exact trC b u e
           · exact trC c _ z
      have zC:upd H4 s2.heap.objs.size (.lst ys) hL.objs.size=none:=by
        rw[ay (bW hDC)];have:=I5.free
        rwa [hYl] at this
      exact fin s2.heap.objs.size hL.objs.size s5 _ _ IX zC (bW (ltC _ I2.lt)) (by have:=I2.sz;lia) (λ x c e=>ltC c (by obtain⟨v,q⟩:=I2.cell x c e;exact q.lt)) (λ p hp=>ltC _ (pinL p hp)) ⟨m,hn⟩ (qn _ hDn)
    · have d:=T.item Y hYprog hYw hYK hYcalm i _ s4 σ4 H4 (λ _ _=>False) I4 F4 st4 go;rw[hYA] at d;refine thn d λ r s5 ⟨u,hr,h5⟩=>?_;subst hr;refine thn h5 λ _ s6 ⟨x,H6,I6,r6,y6,st6,fr6⟩=>?_;have I6':=I6.pinned (fpOk (pn:=pins++[(s2.heap.objs.size,{ cls:=.type "list",data:=.seq (its:LV).toArray k })]) fr6 pinD) (T.obj _ _ st6);have d7:=hg' _ s6 σ4 H6 x u _ I6' r6 (step x H6 y6);rw[hYprog,hYw,hYA,hYxe,hYenv] at d7;refine thn d7 λ _ s7 ⟨σ7,H7,I7,q7⟩=>?_;have dt:=ht' _ s7 σ7 H7 _ I7 q7;rw[hYprog,hYw,hYA,hYenv] at dt;refine lp.2 dt λ bb s7 ⟨H7,I7,q7⟩=>?_
      cases bb with
      |false=>
        obtain⟨m',hm,w8⟩:=hN _ _ _ q7;have tn8:tn (i+1) s7.heap:=T.keep _ _ _ st6 λ b hb o e=>(I7.pin (b,o) (bX _ (bX _ (jU hb e)))).1
        have fr8:∀b∈fp,H7 b=none:=λ b hb=>by
          obtain⟨o,e,d⟩:=T.obj _ _ st6 b hb;exact(I7.pin (b,o) (bX _ (bX _ (jU hb e)))).2.1
        exact⟨m',hm,i+1,ys,its,k,σ7,H7,I7.unpinned,tn8,fr8,rv,hz,w8⟩
      |true=>
        have q7:te σ7 H7 _:=q7;show wpAny _ _ (eval elt _) _ _ s7;have d8:=he' _ s7 σ7 H7 _ I7 q7;rw[hYprog,hYw,hYA,hYxe,hYenv] at d8;refine thn d8 λ u8 s8 ⟨v8,H8,I8,r8,n8⟩=>?_;obtain⟨m',hm,w8⟩:=hN _ _ _ n8;have pD:=I8.pin (s2.heap.objs.size,{ cls:=.type "list",data:=.seq (its:LV).toArray k }) (bX _ (iV _ (bX _ (bY.mpr rfl))));have tn8:tn (i+1) s8.heap:=T.keep _ _ _ st6 λ b hb o e=>(I8.pin (b,o) (bX _ (bX _ (jU hb e)))).1
        have fr8:∀b∈fp,H8 b=none:=λ b hb=>by
          obtain⟨o,e,d⟩:=T.obj _ _ st6 b hb;exact(I8.pin (b,o) (bX _ (bX _ (jU hb e)))).2.1
        have J8:Inv Y pins σ7 H8 s8:=I8.unpinned.unpinned;have eD:s8.heap.get? s2.heap.objs.size=some { cls:=.type "list",data:=.seq its.toArray k }:=pD.1;refine gv s1h ⟨_,eD,ca⟩ s0w (s0i _ _) (PySem.list_append _ its.toArray k u8 (by rw[aM,<- rv.length];lia)) ⟨eD,?_⟩;have other:∀b o,b≠s2.heap.objs.size->s8.heap.get? b=some o->(s8.heap.update s2.heap.objs.size (Obj.mapSeq λ xs=>xs.push u8)).get? b=some o:=λ b o nb e=>(dY s8.heap _ (bW nb)).trans e
        have J9:=J8.turned (t':=s8.toks) (it:=s2.heap.objs.size) (h':=s8.heap.update s2.heap.objs.size (Obj.mapSeq λ xs=>xs.push u8)) other pD.2.1 (by rw[hYl];exact hDC) (.inr (by rw[hYs];exact av _))
          (λ x c e=>by rw[hYc] at e;exact aZ (cellL x c e)) (λ p hp=>by rw[hYp] at hp;exact aZ (pinL p hp))
        have ep:(its.toArray.push u8)=(its++[u8]).toArray:=pv
        obtain⟨kk,upD⟩:∃kk,(s8.heap.update s2.heap.objs.size (Obj.mapSeq λ xs=>xs.push u8)).get? s2.heap.objs.size=some { cls:=.type "list",data:=.seq (its++[u8]).toArray kk }:=by
          have z:=PySem.IsL.update eD (λ xs=>xs.push u8);rw[ep] at z;exact⟨_,z⟩
        refine⟨m',hm,i+1,ys++[v8],its++[u8],kk,σ7,H8,J9.pins_of λ p hp=>?_,T.keep _ _ _ tn8 λ b hb o e=>other b o (aZ (fpL b hb)) e,fr8,rv.append (.cons r8 .nil),?_,w8⟩
        · rcases cJ.mp hp with z|z
          · exact J9.pin p (bX _ z)
          · rw[bY.mp z];exact⟨upD,pD.2.1,by rw[hYl];exact hDC,by rw[hYf];exact λ z=>absurd (stkL _ z) (cQ _),λ v z=>by cases z⟩
        · rw[aK,gw];lia
  exact codeAny_compStart_list (loop _ rfl) (T.self _ 0 _ _ _ (T.keep _ _ _ st2 λ b _ o e=>old b o e) (loop _ rfl))
def Eo:jf wi k js g (λ σ H K=>K true H) te=kn wi k js g te:=by
 unfold jf kn;simp only[dI]
def pm0:PM X vA (λ σ H K=>K true H):=λ _ _ _ H _ I k=>⟨H,I,k⟩
theorem vC{X:Cx}{elt tg iter:Expr}{cl:LA}{own fv:List Str}{js:List Nat}
  (hc:X.calm=true) (hi:PI X tg iter wi) (hclos:closureFor scope X.env=pure cl) (hcell:∀y∈scope.names,y.2≠.cell) (hkind:scope.kind=.function)
  (hnames:∀y∈scope.names,y.2=.local->scope.names.lookup y.1=some .local)
  (hcl:∀x c,cl.lookup x=some c->X.env.cells.lookup x=some c)
  (hhas:∀x,((relabel scope X.env).names.lookup x=some .cell\/(relabel scope X.env).names.lookup x=some .free)->∃c,cl.lookup x=some c)
  (hlen:js.length=fv.length) (hcap:∀(i:Nat) x j,fv[i]?=some x->js[i]?=some j->Cap X scope cl x j)
  (hg:∀(C:Addr) (ex:List Addr) (s:Shared) (H:Hp),PG (bp X (own++fv) scope cl C ex s H) tg g)
  (he:∀(C:Addr) (ex:List Addr) (s:Shared) (H:Hp),PE (bp X (own++fv) scope cl C ex s H) elt te)
  (hs:∀x,foldedSetIterable iter X.env x=pure x)(I:Inv X pins σ H s) (h:kn wi own.length js g te σ H Q)
  (fin:∀(a C:Addr) (s5:Shared) (H5:Hp) (fl:Flow),Inv X pins σ H5 s5->H5 C=none->C≠X.env.locals->X.s₀.heap.objs.size<=C->(∀x c,X.env.cells.lookup x=some c->c≠C)->(∀p∈X.pn++pins,p.1≠C)->(∃m,s5.heap.Ns C m)->Q (.ref a) H5->compPost (model X.prog X.w) X.A X.xe use QQ (.ref a) C (.ok fl) s5) :
  wpAny (model X.prog X.w) X.A (comprehension (.ListComp elt [⟨tg,iter,[],0⟩] scope pos) scope X.env fpos (newList []) false (firstIter [⟨tg,iter,[],0⟩] X.env) use) QQ X.xe s :=
 vB hc hi hclos hcell hkind hnames hcl hhas hlen hcap hg he (λ _ _ _ _=>pm0) Em hs I (by rw[Eo];exact h) fin
theorem vD{X:Cx}{elt tg iter:Expr}{cl:LA}{own fv:List Str}{js:List Nat}
  (hc:X.calm=true) (hi:PI X tg iter wi) (hclos:closureFor scope X.env=pure cl) (hcell:∀y∈scope.names,y.2≠.cell) (hkind:scope.kind=.function)
  (hnames:∀y∈scope.names,y.2=.local->scope.names.lookup y.1=some .local)
  (hcl:∀x c,cl.lookup x=some c->X.env.cells.lookup x=some c)
  (hhas:∀x,((relabel scope X.env).names.lookup x=some .cell\/(relabel scope X.env).names.lookup x=some .free)->∃c,cl.lookup x=some c)
  (hlen:js.length=fv.length) (hcap:∀(i:Nat) x j,fv[i]?=some x->js[i]?=some j->Cap X scope cl x j)
  (hg:∀(C:Addr) (ex:List Addr) (s:Shared) (H:Hp),PG (bp X (own++fv) scope cl C ex s H) tg g)
  (he:∀(C:Addr) (ex:List Addr) (s:Shared) (H:Hp),PE (bp X (own++fv) scope cl C ex s H) elt te)
  (hs:∀x,foldedSetIterable iter X.env x=pure x:=by intro _;rfl) :
  PE X (.ListComp elt [⟨tg,iter,[],0⟩] scope pos) (kn wi own.length js g te):=by
 intro pins s σ H Q I h;rw[eval_ListComp];refine vC (use:=none) (QQ:=EP X pins σ Q) hc hi hclos hcell hkind hnames hcl hhas hlen hcap hg he hs I h λ a C s5 H5 fl I5 zC zL zS zc zp ⟨m,hn⟩ q=>⟨m,hn,λ h' sc=>?_⟩;exact⟨.ref a,H5,I5.turned (t':=s5.toks) (it:=C) (λ d o nd e=>sc.extBut d o nd e) zC zL (.inr zS) zc zp,ca,q⟩
set_option tactic.hygienic true in
theorem Ep{K:FG}(KI:K.In h)(GN:h.Ns mainGlobals gm)
  (hn:W.nsIn K mainGlobals nmX=some (some (.ref Cx'))) (hq:W.excIn K Cx' bmX nid=true):OwnCls nmX Cx' bmX nid gm h:=by
 constructor
 ·exact W.mg_of KI GN hn
 ·unfold W.excIn at hq;split at hq
  ·rename_i ddx cdx slx hlk;split at hq
   ·rename_i C2 bm2 f0 f1 f2 f3 nn f5 hmro hsl0;simp only[aU,jg,rK] at hq;obtain⟨⟨⟨⟨⟨eC,eN⟩,hdl⟩,htl⟩,hnsok⟩,hinit⟩:=hq;subst eC eN;obtain⟨c1,c2,c3,c4,c5,c6,c7,c8,c9,c10,c11⟩:=cdx;dsimp only at hmro hdl hnsok hinit;subst hmro hdl
    have hsl1:slx=#[f0,f1,f2,f3,some (.builtin nn),f5]:=by
     obtain⟨lst⟩:=slx;simp only at hsl0;rw[hsl0]
    subst hsl1;refine⟨bm2,c4,c1,c5,c2,c6,c7,c8,c9,c10,ddx,f0,f1,f2,f3,f5,h.nsMap c4,KI _ _ hlk,?_,?_,?_⟩
    ·exact .of_isNs (W.isNs_of_in KI hnsok)
    ·exact W.nsMap_none_of_in KI hnsok hinit
    ·exact W.tail_of_in KI htl
   ·cases hq
  ·cases hq
noncomputable def CX1(P:Program)(w:World):CXT:=λ outer H s E e s'=>
 ∃(a C:Addr) (a0:Value) (H':Hp) (B:Heap),e=.ref a/\s'.os=s.os/\AllBare s'.gens/\Heap.FlyingW B outer a (.ref C) a0 s'.heap /\
  (∀b o,s.heap.get? b=some o->H b=none->b ∉ frs outer->B.get? b=some o)/\(∀b o,s.heap.get? b=some o->b ∉ frs outer->∃o',B.get? b=some o') /\
  Un (frs outer) [] H H' s.heap s'.heap/\HOk P w H' B/\E (.ref C) none H'
section
variable {P:Program}{w:World}{K:FG}{mg:SV}{base:Heap}{N:List Str}{qual:Str}{scope:Scope}{f:Addr}{cd:Value}{A:Around}{outer:List Env}{s:Shared}{H:Hp}{E:XK}
def Er{l:List Addr}(ok:HOk P w H h)(hl:∀b∈l,H b=none):HOk P w H (W.hideAll h l):=λ b u e=>by
 have nb:∀c v,H c=some v->c ∉ l:=λ c v q z=>by rw[hl c z] at q;cases q
 refine(ok b u e).stay (λ c v hc q=>nP _ q ?_) (λ _ q=>q) λ _ _ q=>q
 rcases hc with z|z
 ·rw[z];exact nb b u e
 ·exact nb c _ z
def Es{l:List Env}:∀env∈l,∀b,env.frame=some b->b∈frs l:=λ env he b hb=>qP.mpr ⟨env,he,hb⟩
def Et:lQ (CX1 P w) (bH (CX1 P w) P w K mg base N qual scope f cd A outer s H E) E:=by
 intro pins σ H1 s1 e s' I hx;obtain⟨a,C,a0,H',B,rfl,os,bare,fl,inB,thB,un,okB,hE⟩:=hx;have hfr:(bH (CX1 P w) P w K mg base N qual scope f cd A outer s H E).A.frames=some (envOfC qual scope s.heap.objs.size f cd::outer):=I.ok.frames;refine wpAny_leaves_onW hfr rfl fl λ h'' fl'' up''=>?_;have Bs:∀b o,B.get? b=some o->h''.get? b=some o:=fl''.1;have ub:Un (frs outer) [] H H1 s.heap s1.heap:=I.base
 have stk:∀b,b ∉ frs outer->b<s.heap.objs.size->b ∉ frs (envOfC qual scope s.heap.objs.size f cd::outer):=λ b hb hlt z=>by
  rcases bf.mp (I.stkSub b z) with q|q
  ·have q:b=s.heap.objs.size:=q;exact cQ _ (q ▸ hlt)
  ·exact hb q
 have inB':∀b o,s.heap.get? b=some o->H b=none->b ∉ frs outer->B.get? b=some o:=λ b o e n hb=>
  inB b o (ub.keep b o e n hb pv) (ub.free b o e n pv) (stk b hb (aB e))
 have thB':∀b o,s.heap.get? b=some o->b ∉ frs outer->∃o',B.get? b=some o':=λ b o e hb=>by
  obtain⟨o1,e1⟩:=ub.there b o e pv;exact thB b o1 e1 (stk b hb (aB e))
 have sub:∀b,b∈frs outer->b∈frs (envOfC qual scope s.heap.objs.size f cd::outer):=λ b hb=>aW _ hb
 have slot:∀b o,s.heap.get? b=some o->H b=none->b∈frs outer->∃sl,h''.get? b=some { o with slots:=sl }:=λ b o e n hb=>by
  obtain⟨sl1,e1⟩:=ub.slot b o e n hb pv;obtain⟨sl2,e2⟩:=un.slot b _ e1 (ub.free b o e n pv) (sub b hb) pv;obtain⟨_,o3,e3,nf⟩:=I.ok.funs.mem hb;have e3:s.heap.get? b=some o3:=e3;rw[e] at e3;cases e3;obtain⟨sl3,e4⟩:=up'' b _ e2 nf;exact⟨sl3,e4⟩
 have frf:∀b∈frs outer,H b=none:=I.ok.frf
 refine⟨a,C,a0,H',B,ca,os.trans I.os,bare,fl'',inB',thB',⟨λ b o e n hb _=>Bs _ _ (inB' b o e n hb),λ b o e n hb _=>slot b o e n hb,λ b o e n _=>?_,λ b o e _=>?_,
  λ b xs e=>un.tups b xs (ub.tups b xs e),λ b o u e=>un.frzs b o u (ub.frzs b o u e),λ b ps e=>?_⟩,okB,hE⟩
 ·obtain⟨o1,e1⟩:=ub.there b o e pv;exact un.free b o1 e1 (ub.free b o e n pv) pv
 ·by_cases hb:b∈frs outer
  ·obtain⟨sl,q⟩:=slot b o e (frf b hb) hb;exact⟨_,q⟩
  ·obtain⟨o',q⟩:=thB' b o e hb;exact⟨o',Bs _ _ q⟩
 ·obtain⟨m1,q1⟩:=ub.tbls b ps e;obtain⟨m2,q2⟩:=un.tbls b _ q1;exact⟨m1++m2,by rw[q2,s1b]⟩
noncomputable def rO(X:Cx)(Ex:Value->Hp->Prop):Prop:=∀(pins:LO) (σ:St) (H:Hp) (s:Shared) (h':Heap) (e C:Addr) (vs:LV),Inv X pins σ H s->Heap.MadeExcOf s.heap h' e (.ref C) vs->Ex (.ref C) H->X.xe (.ref e) { s with heap:=h' }
def Eu:rO (bH (CX1 P w) P w K mg base N qual scope f cd A outer s H E) (λ c H'=>E c none H'):=by
 intro pins σ H1 s1 h' e C vs I hm hE;have hfr:(bH (CX1 P w) P w K mg base N qual scope f cd A outer s H E).A.frames=some (envOfC qual scope s.heap.objs.size f cd::outer):=I.ok.frames;have st:s1.heap.FunFrames base (envOfC qual scope s.heap.objs.size f cd::outer):=I.stack;refine wpAny_leaves_madeW (base:=W.hideAll s1.heap (frs (envOfC qual scope s.heap.objs.size f cd::outer))) hfr rfl (λ b o q=>W.of_hideAll _ q) (W.funFrames_hide st Es) hm λ h'' t fl'' tp nt up''=>?_;have ub:Un (frs outer) [] H H1 s.heap s1.heap:=I.base;have Bs:=fl''.1
 have stk:∀b,b ∉ frs outer->b<s.heap.objs.size->b ∉ frs (envOfC qual scope s.heap.objs.size f cd::outer):=λ b hb hlt z=>by
  rcases bf.mp (I.stkSub b z) with q|q
  ·have q:b=s.heap.objs.size:=q;exact cQ _ (q ▸ hlt)
  ·exact hb q
 have inB':∀b o,s.heap.get? b=some o->H b=none->b ∉ frs outer->(W.hideAll s1.heap (frs (envOfC qual scope s.heap.objs.size f cd::outer))).get? b=some o:=λ b o e n hb=>
  nP _ (ub.keep b o e n hb pv) (stk b hb (aB e))
 have thB':∀b o,s.heap.get? b=some o->b ∉ frs outer->∃o',(W.hideAll s1.heap (frs (envOfC qual scope s.heap.objs.size f cd::outer))).get? b=some o':=λ b o e hb=>by
  obtain⟨o1,e1⟩:=ub.there b o e pv;exact⟨o1,nP _ e1 (stk b hb (aB e))⟩
 have slot:∀b o,s.heap.get? b=some o->H b=none->b∈frs outer->∃sl,h''.get? b=some { o with slots:=sl }:=λ b o e n hb=>by
  obtain⟨sl1,e1⟩:=ub.slot b o e n hb pv;obtain⟨_,o3,e3,nf⟩:=I.ok.funs.mem hb;have e3:s.heap.get? b=some o3:=e3;rw[e] at e3;cases e3;obtain⟨sl3,e4⟩:=up'' b _ (hm.keeps _ _ e1) nf;exact⟨sl3,e4⟩
 have frf:∀b∈frs outer,H b=none:=I.ok.frf
 refine⟨e,C,.ref t,H1,_,ca,I.os,I.bare,fl'',inB',thB',⟨λ b o e n hb _=>Bs _ _ (inB' b o e n hb),λ b o e n hb _=>slot b o e n hb,λ b o e n _=>ub.free b o e n pv,λ b o e _=>?_,
  ub.tups,ub.frzs,ub.tbls⟩,Er I.hok I.stkFree,hE⟩
 by_cases hb:b∈frs outer
 ·obtain⟨sl,q⟩:=slot b o e (frf b hb) hb;exact⟨_,q⟩
 ·obtain⟨o',q⟩:=thB' b o e hb;exact⟨o',Bs _ _ q⟩
end
noncomputable def Ev(C:Addr)(Ex:Value->Hp->Prop)(t:TA):TS:=λ _ σ H=>t σ H λ vs H1=>vs.length<=sizeLine/\Ex (.ref C) H1
theorem vE{X:Cx}{e₀:Expr}{es:List Expr}
  (FB:ExcBaseFacts B newId initId bm) (hc:X.calm=true) (hg:Gl X x) (hn:W.nsIn X.K mainGlobals x=some (some (.ref C))) (hq:W.excIn X.K C bm newId=true) (hx:rO X Ex) (ha:PA X (e₀::es) t)
  (hs:starEach (e₀::es) X.env=(false,eval e₀ X.env)::starEach es X.env:=by rfl) (hpl:(backTo cpos (starEach es X.env)).any (·.1)=false:=by rfl) (hd:(x == ("__debug__" : Str))=false:=by decide) :
  PS X (.Raise (some (.Call (.Name x np) (e₀::es) [] cpos)) none pos) (Ev C Ex t):=by
 intro pins s σ H D I h;have O:=Ep I.ok.mod.kin I.ok.mod.glob hn hq;obtain⟨tl,Nn,n1,q1,b1,d1,m1,u1,a1,l1,dd1,j0,j1,j2,j3,j5,mN,hC,hN,hni,T⟩:=O.obj
 refine wpAny_Raise_call_subT (C:=C) (nm:=n1) (q:=q1) (N:=Nn) (bs:=b1) (bm:=tl) (hdct:=d1) (sn:=m1) (sub:=u1) (ab:=a1) (col:=l1) (dd:=dd1) (k0:=j0) (k1:=j1) (k2:=j2) (k3:=j3) (k5:=j5) (mN:=mN)
  FB (T.hasType FB.hasBase) (I.ok.hd hc) (by rw[hs];show(false || (backTo cpos (starEach es X.env)).any (·.1))=false;rw[hpl];rfl) hni (hZ I hg O.bound ⟨rfl,?_⟩ hd)
 have hA:=ha cpos pins s σ H _ I h;rw[hs] at hA ⊢;refine rD (thn hA λ us s2 ⟨vs,H2,I2,r2,hz,hE⟩=>⟨ca,?_,I2.bk _ _ hC,hN.keeps I2.bk,T.keeps I2.bk,λ h' e hm=>hx pins σ H2 s2 h' e C us I2 hm hE⟩);show us.length<=sizeLine;rw[<- r2.length];exact hz
section
variable {P:Program}{w:World}{K:FG}{mg:SV}{base:Heap}
theorem Fun.okX{st:Stmt}{sp:Sp}(F:Fun K x qual st f fd)(S:FnScope N ps (ah st))(len:∀vs H Q E,sp vs H Q E->vs.length=ps.length)
  (hbody:∀(cdv:Value) (A:Around) (outer:List Env) (s:Shared) (H:Hp) (vs:List V) (Q:VK) (E:XK),Room k (A.deeper (envOfC qual (ah st) s.heap.objs.size f cdv))->sp vs H Q E ->
   ∃t,PSs (bH (CX1 P w) P w K mg base N qual (ah st) f cdv A outer s H E) (aN st) t/\t { nx:=λ _ H'=>Q .non H',rt:=Q } (start N vs) H):FnOk P w K mg base (CX1 P w) (k+1) f fd ps sp:=by
 obtain⟨oc,od,kV,doc,pm,an,cdv,ct,osl,rfl,lk,hcd⟩:=F.ex;exact qY lk hcd S len λ A outer s H vs Q E hr hsp=>hbody cdv A outer s H vs Q E hr hsp
end
variable {X:Cx}
section
variable {pins:LO}{σ:St}{H:Hp}{s:Shared}
theorem Inv.track(I:Inv X pins σ H s)(hn:H a=none)(new:ObjOk X.prog X.w (upd H a o) s.heap a o)(h1:a≠X.env.locals)(h2:∀x c,X.env.cells.lookup x=some c->c≠a)(h3:∀p∈X.pn++pins,p.1≠a)
  (h4:X.s₀.heap.get? a=none):Inv X pins σ (upd H a o) s:=by
 have ne:∀b u,H b=some u->b≠a:=λ b u e z=>by rw[z,hn] at e;cases e
 have n0:∀b u,X.s₀.heap.get? b=some u->b≠a:=λ b u e z=>by rw[z,h4] at e;cases e
 refine⟨I.ok,I.os,I.bare,⟨I.base.keep,I.base.slot,λ b u e n hx=>?_,I.base.there,λ b xs e=>?_,λ b u v e=>?_,λ b ps e=>?_⟩,I.loc,I.cell,?_,λ x c e=>?_,λ p hp=>?_,λ b u e=>?_,I.len⟩
 ·rw[ay (n0 b u e)];exact I.base.free b u e n hx
 ·have q:=I.base.tups b xs e;rw[ay (ne b _ q)];exact q
 ·have q:=I.base.frzs b u v e;rw[ay (ne b _ q)];exact q
 ·obtain⟨more,q⟩:=I.base.tbls b ps e;exact⟨more,by rw[ay (ne b _ q)];exact q⟩
 ·rw[ay (bW h1)];exact I.free
 ·rw[ay (h2 x c e)];exact I.freeC x c e
 ·obtain⟨e,n,ne,nf,d⟩:=I.pin p hp;exact⟨e,by rw[ay (h3 p hp)];exact n,ne,nf,d⟩
 ·by_cases hb:b=a
  ·subst hb;rw[bP] at e;cases e;exact new
  ·rw[ay hb] at e;exact(I.hok b u e).stay (λ c v _ q=>q) (λ c q=>by rw[ay (ne c _ q)];exact q) λ c xs q=>by rw[ay (ne c _ q)];exact q
end
noncomputable abbrev Cx.more(X:Cx)(xe:VS)(pn:LO):Cx:={ X with xe:=xe,pn:=pn }
noncomputable abbrev Cx.suite(X:Cx)(a:Addr)(pn:LO):Cx:={ X with A:=X.A.mark (some (.ref a)),calm:=false,xe:=λ _ _=>False,pn:=pn }
def Cx.Ok.more{X:Cx}(ok:X.Ok)(xe:VS)(pn:LO):(X.more xe pn).Ok :=
 ⟨ok.mod,ok.kind,ok.glob,ok.blt,ok.above,ok.inj,ok.has,ok.cab,ok.hd,ok.frames,ok.stk,ok.exf,ok.bs,ok.bsz,ok.noex,ok.exfs,ok.funs,ok.frf⟩
def Cx.Ok.suite{X:Cx}(ok:X.Ok)(a:Addr)(pn:LO):(X.suite a pn).Ok :=
 ⟨ok.mod,ok.kind,ok.glob,ok.blt,ok.above,ok.inj,ok.has,ok.cab,λ z=>absurd z (by show ¬(false=true);decide),ok.frames,ok.stk,ok.exf,ok.bs,ok.bsz,ok.noex,ok.exfs,ok.funs,ok.frf⟩
noncomputable def ma(CX:CXT)(X:Cx)(E:XK)(σ:St):Prop:=∀(pins:LO) (H:Hp) (s:Shared) (e:Value) (s':Shared),Inv X pins σ H s->CX X.stack H s E e s'->X.xe e s'
section
variable {CX:CXT}{k:Nat}{f:Addr}{fd:FuncData}{ps:List Str}{sp:Sp}{dvs:List V}{ds:LV}{EE:St->XK}{x:Str}{p pos:Pos}{e:Expr}{es:List Expr}{t:TA}
noncomputable def vF(sp:Sp)(dvs:List V)(EE:St->XK)(t:TA):TE:=λ σ H Q=>t σ H λ vs H1=>sp (vs++dvs) H1 Q (EE σ)
theorem Ew(F:FnOk X.prog X.w X.K X.mg X.base CX k f fd ps sp)(hr:Room k X.A)(hg:Gl X x)(hm:X.mg x=some (.ref f))(hk:W.keepIn X.K (.ref f)=true)(hb:Binds X.K fd ps ds)(hd:Vals dvs ds)(hx:∀σ,ma CX X (EE σ) σ)
  (ha:PA X (e::es) t) (hdb:(x == ("__debug__" : Str))=false:=by decide) (he:starEach (e::es) X.env=(false,eval e X.env)::starEach es X.env:=by rfl) (hpl:(backTo pos (starEach es X.env)).any (·.1)=false:=by rfl) :
  PE X (.Call (.Name x p) (e::es) [] pos) (vF sp dvs EE t):=by
 intro pins s σ H Q I h;refine ik (hZ I hg hm ?_ hdb);refine nZ (h₀:=X.base) I.ok.mod.kin hk (thn (ha pos pins s σ H _ I h) λ us s1 ⟨vs,H1,I1,r,q⟩=>⟨I1.kIn,?_⟩) he hpl;have r2:Vals (vs++dvs) (us++ds):=r.append hd;have hl:(us++ds).length=ps.length:=by rw[<- r2.length];exact F.len _ _ _ _ q
 refine jX (iX (F.run X.A X.stack s1 H1 ⟨us,[]⟩ (us++ds) (vs++dvs) Q (EE σ) hr I1.env0 (hb s1 us I1.kIn hl) r2 q) λ r s' hq=>?_)
 cases r with
 |error e=>exact hx σ pins H1 s1 e s' I1 hq
 |ok fl=>
  cases fl with
  |ret u=>exact I1.after hq
  |next=>exact False.elim hq
  |brk=>exact False.elim hq
  |cont=>exact False.elim hq
end
structure Callee (P:Program)(w:World)(K:FG)(mg:SV)(base:Heap)(CX:CXT)(k:Nat)(x:Str)(ps:List Str)(sp:Sp):Prop where
 has:∃(f:Addr) (fd:FuncData),FnOk P w K mg base CX k f fd ps sp/\mg x=some (.ref f)/\W.keepIn K (.ref f)=true/\Binds K fd ps []
theorem Callee.mk'{K:FG}{mg:SV}{st:Stmt}(F:Fun K x qual st f fd)(m:mg x=some (.ref f))(b:Binds K fd ps [])
  (ok:FnOk P w K mg base CX k f fd ps sp):Callee P w K mg base CX k x ps sp:=⟨⟨f,fd,ok,m,F.kp,b⟩⟩
def Callee.mono{K:FG}{j k:Nat}(c:Callee P w K mg base CX j x ps sp)(h:j<=k):Callee P w K mg base CX k x ps sp :=
 let ⟨f,fd,ok,m,kp,b⟩:=c.has;⟨⟨f,fd,ok.mono h,m,kp,b⟩⟩
section
variable {CX:CXT}{k:Nat}{ps:List Str}{sp:Sp}{E:XK}{x:Str}{p pos:Pos}{e:Expr}{es:List Expr}{t:TA}
theorem vG(c:Callee X.prog X.w X.K X.mg X.base CX k x ps sp)(hr:Room k X.A)(hg:Gl X x)(hx:lQ CX X E)(ha:PA X (e::es) t)(hdb:(x == ("__debug__" : Str))=false:=by decide)
  (he:starEach (e::es) X.env=(false,eval e X.env)::starEach es X.env:=by rfl) (hpl:(backTo pos (starEach es X.env)).any (·.1)=false:=by rfl):PE X (.Call (.Name x p) (e::es) [] pos) (uX sp [] E t):=by
 obtain⟨f,fd,ok,m,kp,b⟩:=c.has;exact Dt ok hr hg m kp b .nil hx ha hdb he hpl
theorem Ey{EE:St->XK}(c:Callee X.prog X.w X.K X.mg X.base CX k x ps sp)(hr:Room k X.A)(hg:Gl X x)(hx:∀σ,ma CX X (EE σ) σ)(ha:PA X (e::es) t)(hdb:(x == ("__debug__" : Str))=false:=by decide)
  (he:starEach (e::es) X.env=(false,eval e X.env)::starEach es X.env:=by rfl) (hpl:(backTo pos (starEach es X.env)).any (·.1)=false:=by rfl):PE X (.Call (.Name x p) (e::es) [] pos) (vF sp [] EE t):=by
 obtain⟨f,fd,ok,m,kp,b⟩:=c.has;exact Ew ok hr hg m kp b .nil hx ha hdb he hpl
end
noncomputable def Ez(i j:Int):Prop:=j≠0/\-18446744073709551616<j/\j<18446744073709551616
def EA{y:Int}(h0:-18446744073709551616<y)(h1:y<18446744073709551616):y.natAbs.log2<9000:=by
 by_cases z:y.natAbs=0
 ·rw[z];decide
 ·exact bC ((Nat.log2_lt z).mpr (show y.natAbs<2 ^ 64 by lia)) on
def EB:OpR X (binaryOp .FloorDiv) (rI Ez λ i j=>.int (i.fdiv j)):=opI λ _ _ _ _ _ _ _ hc q=>floordiv_int hc.1 q (.inl (vH (EA hc.2.1 hc.2.2)))
section
variable {K:FG}
end
noncomputable def rP(t n:String):Bool:=t == n || (t == "bool" && n == "int")
def EC{K:FG}(e:(if (Value.type t == Value.type n)=true then some true else if W.kitMeta n=true then (fastBuiltinMro t).map (·.contains (.type n)) else none)=some b):W.kitOne K (.type t) (.type n)=some b:=by
 unfold W.kitOne;split at e
 ·rename_i h;rw[if_pos h];exact e
 ·rename_i h;rw[if_neg h];exact e
def small{n:Nat}(h:n<=1000):n<=sizeLine:=dq (aX h)
end _L
namespace _L
open PySem PySem.Spec PyProof.Rows PySem.W PySem.Calls
section
variable {prog:Program}{w:World}{A:Around}{E:VS}{K:FG}{h:Heap}{g:Array GenState}{d:Drawn}{t:Nat}{os:OsState}{a C:Addr}{ox:Obj}
end
variable {X:Cx}
noncomputable def ip(t:Addr)(i:Int):Obj:={ cls:=.type "reversed",data:=.fields #[.ref t,rawInt i] }
noncomputable def IsRv(h:Heap)(a t:Addr)(i:Int):Prop:=∃o,h.get? a=some o/\o.cls=.type "reversed" /\ o.data=.fields #[.ref t,rawInt i]
def IsRv.typeIs{s:Shared}(x:IsRv s.heap a t i):s.TypeIs (.ref a) "reversed" := let ⟨o,ho,hc,_⟩:=x;⟨o,ho,hc⟩
def ED:typeLookup (.type "tuple") "__reversed__"=pure none:=by rw[fN,fO];kernel_rfl
def vI:typeLookup (.type "tuple") "__getitem__"=pure (some (.builtin "tuple.__getitem__")):=by rw[fN,fO];kernel_rfl
def EG:isSubtype (.type "tuple") (.type "dict")=pure false:=by rw[jh];kernel_rfl
def EH:Slot "reversed" "__init__" "object.__init__" :=
 .of (owner := "object") (n := "__init__") (by rw[fN,fO];kernel_rfl) (by decide +kernel) (by decide +kernel) (by decide +kernel) (.inl (by decide +kernel)) (by rw[jh];kernel_rfl)
def rv_next:Slot "reversed" "__next__" "reversed.__next__" :=
 .of (owner := "reversed") (n := "__next__") (by rw[fN,fO];kernel_rfl) (by decide +kernel) (by decide +kernel) (by decide +kernel) (.inl (by decide +kernel)) (by rw[jh];kernel_rfl)
def vJ:Slot "reversed" "__iter__" "reversed.__iter__" :=
 .of (owner := "reversed") (n := "__iter__") (by rw[fN,fO];kernel_rfl) (by decide +kernel) (by decide +kernel) (by decide +kernel) (.inl (by decide +kernel)) (by rw[jh];kernel_rfl)
def vK:entryFor table "reversed.__next__"=some Builtin.«reversed.__next__»:=entryFor_of_tree (by kernel_rfl)
def EI:entryFor table "reversed.__iter__"=some Builtin.«dict_keyiterator.__iter__» :=
 entryFor_alias (id' := "dict_keyiterator.__iter__") (by kernel_rfl) (by first|rfl|decide +kernel) (by decide +kernel) (by kernel_rfl)
def vL(a:Value):argsOk "reversed.__next__" ⟨[a],[]⟩:=by unfold argsOk;kernel_rfl
def EJ(a:Value):argsOk "reversed.__iter__" ⟨[a],[]⟩:=by unfold argsOk;kernel_rfl
def EK:TypeCalled "reversed" "reversed.__new__" "object.__init__" :=
 ⟨by decide +kernel,PySem.F.create_reversed,⟨_,_,PySem.F.mro_reversed⟩,PySem.F.made_reversed,PySem.F.plain_reversed_new,PySem.F.sub_reversed_self,EH⟩
theorem EL(t:Addr)(items:Array Value)(hz:(items.size:Int)<2 ^ 63):Meets (Builtin.«reversed.__new__» ⟨[.type "reversed",.ref t],[]⟩)
  (λ _ R s=>IsTup s.heap t items/\∀tk,R (.ok (.ret (.ref s.heap.objs.size))) { s with heap:=s.heap.push (ip t ((items.size:Int)-1)),toks:=tk }) :=
 .of_wp λ prog w A R s h=>by
  obtain⟨ht,h⟩:=h;have hT:s.TypeIs (.ref t) "tuple" := ht.typeIs;unfold Builtin.«reversed.__new__»;refine af (dZ (PySem.newClass_reversed _) ?_);try dsimp only
  refine af (dZ (a:=()) (by first|rfl|kernel_rfl) ?_);refine af (dZ (a:=()) (by first|rfl|kernel_rfl) ?_);try dsimp only
  refine af (iq hT ED ?_);try dsimp only
  refine af ?_
  k_delta "hasItemSlot"
  refine af (mf (T := "tuple") (b:=false) hT EG ?_);rw[if_neg bG];refine af (iq hT vI ?_);dsimp only;rw[if_pos (by decide +kernel)];refine aj ?_;rw[if_neg on];refine af (s1g ht hz ?_);refine af (dZ (a:=some (items.size:Int)) rfl ?_);dsimp only;refine af ?_;unfold Builtin.SmallTypes.newRecord;refine cS (aj ⟨_,ca,h _⟩)
section
variable {prog:Program}{w:World}{A:Around}{E:VS}{s:Shared}
theorem vM{Q:VS}(ht:IsTup s.heap t items)(hz:(items.size:Int)<2 ^ 63)
  (h:∀tk,Q (.ref s.heap.objs.size) { s with heap:=s.heap.push (ip t ((items.size:Int)-1)),toks:=tk }):wpAny (model prog w) A (call (.type "reversed") [.ref t]) Q E s :=
 callType_new EK on (PySem.F.typeCall_reversed_1 _) (PySem.F.newCall_reversed_1 _) (λ obj=>rQ obj _) PySem.F.entry_reversed_new (EL t items hz)
  ⟨ht,λ tk=>⟨⟨_,aR _ rfl,rfl⟩,h tk⟩⟩
theorem vN{i:Nat}{Q:Option Value->Shared->Prop}(hit:IsRv s.heap it t (i:Int))(ht:IsTup s.heap t items)(hx:items[i]?=some x)(hz:(items.size:Int)<2 ^ 63)
  (hQ:∀h' tk,IsRv h' it t ((i:Int)-1)->Heap.SameBut it s.heap h'->Q (some x) { s with heap:=h',toks:=tk }):wpAny (model prog w) A (pyNext (.ref it)) Q E s:=by
 obtain⟨o,ho,hc,hd⟩:=id hit;have hT:s.TypeIs (.ref t) "tuple" := ht.typeIs;have hi:i<items.size:=(vO.mp hx).1;unfold pyNext;refine af (mh (iZ (name:=Str.ofString "__next__") hit.typeIs rv_next (fJ rv_next hit.typeIs vK ?_ (vL _))));unfold Builtin.«reversed.__next__»;refine af (dZ (a:=(Value.ref it,[])) rfl ?_);try dsimp only
 refine af (cK ho hd (x:=.ref t) rfl ?_);refine af (cK ho hd (x:=rawInt (i:Int)) rfl ?_);show wpAny _ _ (if (i:Int)<0 then _ else _) _ _ s;rw[if_neg fu];refine af (iq hT vI ?_);rw[if_neg on];refine af (wpAny_mkInt ?_);refine af (mh (getItem_tuple (k:=(i:Int)) (j:=i) ht fu fu (by simp[seqIndex?];lia) hx ?_));dsimp only;refine af (cK ho hd (x:=rawInt (i:Int)) rfl ?_);show wpAny _ _ (setField (.ref it) 1 (rawInt ((i:Int)-1)) >>= _) _ _ _;refine af (mj ho hd pv ?_);refine aj ⟨x,ca,aj (hQ _ _ ?_ (oA ..))⟩;exact⟨_,gu _ ho (rV (ko hd _)),(Obj.cls_mapFields ..).trans hc,by rw[ko hd];simp⟩
def vP{Q:Option Value->Shared->Prop}(hh:A.handled=none)(hit:IsRv s.heap it t (-1))(hQ:∀h' tk,Heap.ExtBut it s.heap h'->Q none { s with heap:=h',toks:=tk }):wpAny (model prog w) A (pyNext (.ref it)) Q E s:=by
 obtain⟨o,ho,hc,hd⟩:=id hit;unfold pyNext;refine af (mh (iZ (name:=Str.ofString "__next__") hit.typeIs rv_next (fJ rv_next hit.typeIs vK ?_ (vL _))));unfold Builtin.«reversed.__next__»;refine af (dZ (a:=(Value.ref it,[])) rfl ?_);try dsimp only
 refine af (cK ho hd (x:=.ref t) rfl ?_);refine af (cK ho hd (x:=rawInt (-1)) rfl ?_);show wpAny _ _ (if (-1:Int)<0 then _ else _) _ _ s;rw[if_pos on];refine af (kr ?_);refine af ?_
 k_delta "reversedEnd"
 refine af (mj ho hd pv ?_);refine mj (gu _ ho (rV (ko hd _))) (ko hd _) pv ?_;refine af ?_
 have other:∀b u,b≠it->s.heap.get? b=some u->((s.heap.update it (Obj.mapFields λ x=>x.setIfInBounds 1 (rawInt (-1)))).update it (Obj.mapFields λ x=>x.setIfInBounds 0 Value.none)).get? b=some u:=λ b u nb e=>by
  rw[dY _ _ (bW nb),dY _ _ (bW nb)];exact e
 generalize ((s.heap.update it (Obj.mapFields λ x=>x.setIfInBounds 1 (rawInt (-1)))).update it (Obj.mapFields λ x=>x.setIfInBounds 0 Value.none))=hU at *;show wpAny _ _ (newExc (.type "StopIteration") [] >>= _) _ _ _;refine af ?_;simp only[newExc,newTuple];refine af (cS ?_ (by size_fits));refine af (m:=firstArgMember _ _) (dZ (a:=Value.none) (by first|rfl|(simp only[firstArgMember];rfl)) ?_);refine cS ?_ (by size_fits);simp only[raiseNew];refine af (wpAny_handled ?_);rw[show A.in1.handled=none from hh];refine af (aj (wpAny_throw ?_));refine af (mf (T := "StopIteration") (b:=true) ⟨_,aR _ rfl,ca⟩ isSubtype_stop ?_);exact aj (hQ _ _ λ b u nb e=>aA _ (aA _ (other b u nb e)))
def rY{Q:VS}(hit:IsRv s.heap it t i)(h:Q (.ref it) s):wpAny (model prog w) A (pyIter (.ref it)) Q E s:=by
 refine wpAny_pyIter_slot hit.typeIs vJ (fJ vJ hit.typeIs EI ?_ (EJ _));show wpAny _ _ (ret (.ref it)) _ _ s;exact aj ⟨_,ca,"reversed",_,hit.typeIs,rv_next.lookup,h⟩
end
noncomputable def oB(K:FG)(a:Addr)(n:Nat):It:=⟨λ i H=>∃xs,SqT K H a xs/\xs.length=n/\i<n,λ i H x H'=>H'=H/\∀xs,SqT K H a xs->xs[n-1-i]?=some x,λ i H=>∃xs,SqT K H a xs/\xs.length=n/\i=n⟩
def oC:(sizeLine:Int)<2 ^ 63:=by rw[jW];decide
theorem EM{K:FG}(a it:Addr)(n:Nat):Turn P w K tg (oB K a n) [it] it (λ i h=>IsRv h it a ((n:Int)-1-(i:Int))) where
 mem:=pv
 obj:=λ i h x b hb=>by
  have e:b=it:=by simpa using hb
  subst e;obtain⟨o,ho,_,hd⟩:=x;exact⟨o,ho,λ v q=>by rw[hd] at q;cases q⟩
 keep:=λ i h h' x k=>let ⟨o,ho,r⟩:=x;⟨o,k it pv o ho,r⟩
 item:=by
  intro X hP hw hK hc i pins s σ H E I hf st hg;subst hP hw hK;obtain⟨xs,hq,hn,hi⟩:=hg;obtain⟨its,rv,p,hz⟩:=I.tuple hq;have hx:xs[n-1-i]?=some (xs[n-1-i]' fu):=az fu;obtain⟨u,hu,ru⟩:=rv.get hx;obtain⟨f0,f1,f2,f3,f4,f5⟩:=hf it pv;have e:(n:Int)-1-(i:Int)=((n-1-i:Nat):Int):=fu;rw[e] at st;have hl:=rv.length;have z63:=oC;refine vN st p (x:=u) (by simpa using hu) (by simp;lia) λ h' tk st' sb=>?_;have I1:Inv X pins σ H { s with heap:=h',toks:=tk }:=I.turned (t':=tk) (λ b o hb e=>(sb.2 b hb).trans e) f0 f1 f3 f4 f5;obtain⟨o,e,c,d⟩:=id st';have e2:((n-1-i:Nat):Int)-1=(n:Int)-1-((i+1:Nat):Int):=fu;rw[e2] at st';exact⟨u,ca,lK (s:={ s with heap:=h',toks:=tk }) e c d on ⟨_,H,I1,ru,⟨ca,λ ys hy=>by rw[I.tuple_inj hy hq];exact hx⟩,st',λ b hb=>(hf b hb).1⟩⟩
 done:=by
  intro X hP hw hK hc i pins s σ H E I hf st hg;subst hP hw hK;obtain⟨xs,hq,hn,hi⟩:=hg;obtain⟨f0,f1,f2,f3,f4,f5⟩:=hf it pv;have e:(n:Int)-1-(i:Int)=-1:=fu;rw[e] at st;exact vP (I.ok.hd hc) st λ h' tk eb=>⟨ca,I.turned (t':=tk) (λ b o hb e=>eb b o hb e) f0 f1 f3 f4 f5⟩
 self:=λ _ _ _ _ _ st h=>rY st h
section
variable {tg:Expr}
noncomputable def EN(K:FG)(te:TE):TI:=λ σ H R=>te σ H λ x H1=>∃a xs,x=.ref a/\SqT K H1 a xs/\R (oB K a xs.length) H1
theorem EO{p pos:Pos}(hg:Gl X "reversed")(hm:X.mg "reversed"=none)(he:PE X e te)(hs:starEach [e] X.env=[(false,eval e X.env)]:=by rfl) :
  PI X tg (.Call (.Name "reversed" p) [e] [] pos) (EN X.K te):=by
 intro pins s σ H R I h;have hA:=(bJ he (pa_nil (X:=X)) hs) pos pins s σ H (λ vs H1=>match vs with|[x]=>∃a xs,x=.ref a/\SqT X.K H1 a xs/\R (oB X.K a xs.length) H1|_=>False) I h;refine Call_ (dG I hg hm s1i (gp (thn hA λ us s1 ⟨vs,H1,I1,r1,q1⟩=>?_) hs rfl))
 match vs,q1 with
 |[x],⟨a,xs,e,hq,q⟩=>
  subst e;obtain⟨u,rfl,ru⟩:=cB r1;cases (show u=Value.ref a from ru);obtain⟨its,rv,p,hz⟩:=I1.tuple hq;have hl:=rv.length;have z63:=oC;refine vM p (by simp;omega) λ tk=>?_;have I2:Inv X pins σ H1 { s1 with heap:=s1.heap.push (ip a ((its.toArray.size:Int)-1)),toks:=tk }:=I1.kept (t':=tk) λ b o e=>aA _ e
  have ir:IsRv (s1.heap.push (ip a ((its.toArray.size:Int)-1))) s1.heap.objs.size a ((xs.length:Int)-1-((0:Nat):Int)):=by
   refine⟨_,aR _ rfl,ca,?_⟩;show Data.fields #[.ref a,rawInt ((its.toArray.size:Int)-1)]=_;have e:((its.toArray.size:Nat):Int)-1=(xs.length:Int)-1-((0:Nat):Int):=by simp;omega
   rw[e]
  refine rY ir ⟨s1.heap.objs.size,[s1.heap.objs.size],_,_,H1,ca,I2,EM a _ xs.length,ir,λ b hb=>?_,q⟩;have e:b=s1.heap.objs.size:=by simpa using hb
  subst e;exact I1.fpOk (av _) (I1.hok.fresh (av _))
end
def EQ:typeLookup (.type "list_reverseiterator") "__len__"=pure none:=by rw[fN,fO];kernel_rfl
def ES:typeLookup (.type "list_reverseiterator") "__length_hint__"=pure (some (.builtin "list_reverseiterator.__length_hint__")):=by rw[fN,fO];kernel_rfl
section
variable {pg:Program}{wd:World}{B:Around}{X0:VS}{s0:Shared}{J:Addr}{fs ws:List Addr}{Gg:Array GenState->Array GenState->Prop}{m:Nat}{Pr:Nat->Value->Prop}{Sx:Nat->Shared->Prop}
theorem ET{R:LV->Shared->Prop}(wk:WalksS pg wd B.in1 J fs ws Gg m Pr Sx)(ty:∀j z,Sx j z->z.TypeIs (.ref J) "list_reverseiterator")(z0:Sx 0 s0)(lt:∀b∈fs,b<s0.heap.objs.size)(mJ:J∈fs)(sm:m<=sizeLine)
  (fin:∀z' ac,Moved ws Gg s0 z'->ItemsOf Pr ac m->R ac.toList z'):wpAny (model pg wd) B (collect (.ref J)) R X0 s0:=by
 have out:s0.heap.objs.size ∉ fs:=λ q=>absurd (lt _ q) (cQ _);have neJ:s0.heap.objs.size≠J:=by rintro rfl;exact out mJ
 let nu:Obj:={ cls:=.type "list",data:=.seq ([]:LV).toArray }
 unfold collect;refine af (wpAny_runValue (gz vQ ?_));rw[gC vR _];show wpAny _ B.in1 (newList [] >>= λ q=>again (.builtin "list.__iadd__" ⟨[q,.ref J],[]⟩)) _ _ s0;refine af (cS ?_);refine aj ⟨eY oD _,gz F.entry_list_iadd ?_⟩;rw[gC oD _];have z1:=wk.frame 0 s0 (s0.heap.push nu) s0.toks z0 (av _) λ b _ o e=>aA _ e;have at1:(s0.heap.push nu).get? s0.heap.objs.size=some nu:=aR _ rfl;have dif:Builtin.List.listSameRef (.ref s0.heap.objs.size) (.ref J)=false:=by simp[Builtin.List.listSameRef,neJ]
 show wpAny _ B.in1 (Builtin.List.listExtendWith (.ref s0.heap.objs.size) (.ref J) (.ref s0.heap.objs.size)) _ _ _;unfold Builtin.List.listExtendWith;refine af (ja (ty 0 _ z1) ?_);rw[if_neg (by rw[dif];decide)];refine af (wk.self 0 _ _ _ z1 ?_);refine af (du ?_);unfold Builtin.List.listLengthHint;refine af (iq (ty 0 _ z1) EQ ?_);show wpAny _ B.in1 (specialOf (Value.ref J) (Str.ofString "__length_hint__") >>= _) _ _ _;refine af (iq (ty 0 _ z1) ES ?_)
 (generalize hid:("list_reverseiterator.__length_hint__" : String)=id0;wp_delta;rw[show splitId id0=some ("list_reverseiterator","__length_hint__") from by subst hid;decide +kernel];subst hid)
 refine af (mf (b:=true) (ty 0 _ z1) (by rw[jh];kernel_rfl) ?_);refine aj ?_;rw[if_neg on];refine aj ⟨eY rZ _,se wk sm _ out _ m 0 _ _ _ rfl (bS _) z1 at1 (s1w Pr) λ z' ac cc mv at2 its=>?_⟩;show wpAny _ B (load s0.heap.objs.size >>= _) _ _ z';exact af (s1p at2 (aj (fin z' ac (s0p (o:=nu) (tk:=s0.toks) mv (av _)) its)))
theorem EU{R:VS}(wk:WalksS pg wd B.in1.in1 J fs ws Gg m Pr Sx)(ty:∀j z,Sx j z->z.TypeIs (.ref J) "list_reverseiterator")(z0:Sx 0 s0)(lt:∀b∈fs,b<s0.heap.objs.size)(mJ:J∈fs)(sm:m<=sizeLine)
  (fin:∀z' ac,Moved ws Gg s0 z'->ItemsOf Pr ac m->R (.ref z'.heap.objs.size) { z' with heap:=z'.heap.push { cls:=.type "tuple",data:=.seq ac } }) :
  codeAny (model pg wd) B (.call (.builtin "tuple.__new__") ⟨[.type "tuple",.ref J],[]⟩) (wants R X0) s0:=by
 refine sg ?_;show wpAny _ B.in1 (do checkBuiltinCall "tuple.__new__" ⟨[.type "tuple",.ref J],[]⟩;again (.builtin "tuple.__new__" ⟨[.type "tuple",.ref J],[]⟩)) _ _ s0;refine af (dZ (F.newCall_tuple_1 _) (aj ⟨eY oE _,gz F.entry_tuple_new ?_⟩));rw[gC oE _];have q1:=sub_tuple_self;have q2:=init_tuple_lookup;have q3:=madeHere_tuple;have q4:=ty 0 s0 z0;wp_walk using ja q4,ET (sm:=sm) wk ty z0 lt mJ;intro z' ac mv its;show wpAny _ _ (Builtin.Tuple.tupleExact ac.toList.toArray >>= λ q=>ret q) _ _ _;have e:ac.toList.toArray=ac:=pv;rw[e];unfold Builtin.Tuple.tupleExact;exact af (cS (aj (fin z' ac mv its)) (by show ac.size<=sizeLine;rw[its.1];exact sm))
theorem EW{R:VS}(wk:WalksS pg wd B.in1.in1.in1 J fs ws Gg m Pr Sx)(ty:∀j z,Sx j z->z.TypeIs (.ref J) "list_reverseiterator")(z0:Sx 0 s0)(lt:∀b∈fs,b<s0.heap.objs.size)(mJ:J∈fs)(sm:m<=sizeLine)
  (fin:∀z' ac,Moved ws Gg s0 z'->ItemsOf Pr ac m->R (.ref z'.heap.objs.size) { z' with heap:=z'.heap.push { cls:=.type "tuple",data:=.seq ac } }) :
  wpAny (model pg wd) B (call (.type "tuple") [.ref J]) R X0 s0 :=
 callType_codes (Q₁:=λ ob z=>z.TypeIs ob "tuple" /\ R ob z) F.called_tuple (s1j _) s0x
  (EU (sm:=sm) wk ty z0 lt mJ λ z' ac mv its=>⟨⟨_,aR _ rfl,rfl⟩,fin z' ac mv its⟩)
  λ ob z q=>⟨q.1,rQ ob _,object_init_meets F.called_tuple.init.lookup F.called_tuple.made on pg wd B.in1 _ z ⟨q.1,rfl,q.2⟩⟩
end
noncomputable def EY(K:FG)(te:TE):TE:=λ σ H Q=>te σ H λ x H1=>∃a xs,x=.ref a/\SqL K H1 a xs/\∀p,H1 p=none->Q (.ref p) (upd H1 p (.tup xs.reverse))
theorem EZ{p1 p2 pos pos':Pos}(hc:X.calm=true)(ht:Gl X "tuple")(hr:Gl X "reversed")(mt:X.mg "tuple"=none)(mr:X.mg "reversed"=none)(he:PE X e te)(hs:starEach [e] X.env=[(false,eval e X.env)]:=by rfl) :
  PE X (.Call (.Name "tuple" p1) [.Call (.Name "reversed" p2) [e] [] pos'] [] pos) (EY X.K te):=by
 intro pins s σ H Q I h;refine Call_ (dG I ht mt boot_tuple (gp ?_ rfl rfl));refine qV ?_;have hA:=(bJ he (pa_nil (X:=X)) hs) pos' pins s σ H (λ vs H1=>match vs with|[x]=>∃a xs,x=.ref a/\SqL X.K H1 a xs/\∀p,H1 p=none->Q (.ref p) (upd H1 p (.tup xs.reverse))|_=>False) I h;refine Call_ (dG I hr mr s1i (gp (thn hA λ us s1 ⟨vs,H1,I1,r1,q1⟩=>?_) hs rfl))
 match vs,q1 with
 |[x],⟨a,xs,e,hq,q⟩=>
  subst e;obtain⟨u,rfl,ru⟩:=cB r1;cases (show u=Value.ref a from ru);obtain⟨its,rv,pl,hz⟩:=I1.list hq;have hl:=rv.length;refine call_reversed_list pl.isList ?_;refine qU ?_;have I2:Inv X pins σ H1 { s1 with heap:=s1.heap.push (revObj a ((its.toArray.size:Int)-1)) }:=I1.kept (t':=s1.toks) λ b o e=>aA _ e;have al:a<s1.heap.objs.size:=by obtain⟨o,ho,_⟩:=pl.isList;exact aB ho
  have hne:a≠s1.heap.objs.size:=aZ al
  have ir:(s1.heap.push (revObj a ((its.toArray.size:Int)-1))).IsRevIter s1.heap.objs.size a ((its.toArray.size:Int)-1-((0:Nat):Int)):=by
   refine⟨_,aR _ rfl,ca,?_⟩;have e:(its.toArray.size:Int)-1-((0:Nat):Int)=(its.toArray.size:Int)-1:=fu;rw[e];rfl
  have sz:(s1.heap.push (revObj a ((its.toArray.size:Int)-1))).objs.size=s1.heap.objs.size+1:=by simp[Heap.push]
  have ff:=I1.fpOk (av s1.heap.objs.size) (I1.hok.fresh (av _))
  refine EW (Walks.listRev (A:=X.A.in1.in1.in1) (I.ok.hd hc) s1.heap.objs.size a hne its.toArray).toS (λ j z q=>let ⟨o,ho,hk,_⟩:=q.2.1;⟨o,ho,hk⟩)
   ⟨bS _,ir,pl.isList.at λ o e=>aA _ e⟩ (λ b hb=>?_) (bz ..) (by simp only[aM];lia) λ z' ac mv io=>?_
  ·show b<(s1.heap.push (revObj a ((its.toArray.size:Int)-1))).objs.size;rw[sz];simp only[bf,fP,fQ] at hb
   rcases hb with rfl|rfl
   ·exact im _
   ·exact dJ al
  have I3:Inv X pins σ H1 z':=by
   obtain⟨zh,zg,zd,zt,zo⟩:=z';have e1:zg=s1.gens:=mv.gens;have e2:zd=s1.drawn:=mv.drawn;have e3:zo=s1.os:=mv.os;subst e1 e2 e3;obtain⟨f0,f1,f2,f3,f4,f5⟩:=ff;exact I1.turned (t':=zt) (λ b o hb e=>mv.heap b o (by simpa using hb) (aA _ e)) f0 f1 f3 f4 f5
  have er:ac=its.reverse.toArray:=by
   have sz2:ac.size=its.length:=by simpa using io.1
   apply Array.ext
   ·simp[sz2]
   ·intro j h1 h2;have q:=io.2 j _ (oF h1);simp only[aM,vS] at q;have q2:its.reverse[j]?=some ac[j]:=by rw[ji fu];exact q
    rw[s0j];exact(bj ((az (by simpa using h2)).symm.trans q2)).symm
  subst er
  have I4:Inv X pins σ (upd H1 z'.heap.objs.size (.tup xs.reverse)) { z' with heap:=z'.heap.push { cls:=.type "tuple",data:=.seq its.reverse.toArray } } :=
   I3.laid (t':=z'.toks) (λ b o e=>aA _ e) (av _) (show ObjOk X.prog X.w _ _ _ (.tup xs.reverse) from ⟨by simpa using hz,its.reverse,rv.reverse,TupO.new _ _⟩)
  exact⟨.ref z'.heap.objs.size,_,I4,ca,q _ (I3.hok.fresh (av _))⟩
noncomputable def Fa(K:FG):R2:=λ x y H Q=>∃a b xs ys,x=.ref a/\y=.ref b/\SqT K H a xs/\SqT K H b ys/\xs.length+ys.length<=sizeLine /\
 (xs=[]->Q (.ref b) H)/\(xs≠[]->ys=[]->Q (.ref a) H)/\(xs≠[]->ys≠[]->∀p,H p=none->Q (.ref p) (upd H p (.tup (xs++ys))))
def Fb:OpR X (binaryOp .Add) (Fa X.K):=by
 intro pins s σ H x y v u Q I rx ry h;obtain⟨a,b,xs,ys,rfl,rfl,ha,hb,hz,q0,q1,q2⟩:=h;by_cases hx:xs=[]
 ·cases rx;cases ry;obtain⟨its,r1,p1,_⟩:=I.tuple ha;obtain⟨its2,r2,p2,_⟩:=I.tuple hb;have e1:its=[]:=r1.nil_iff.mpr hx;obtain⟨⟨c1,d1,z1,l1⟩,g1,hc1,n1,hd1⟩:=id p1;obtain⟨⟨c2,d2,z2,l2⟩,g2,hc2,n2,hd2⟩:=id p2;simp only at hc1 hd1 hc2 hd2;subst hc1 hd1 hc2 hd2
  exact oi ⟨_,g1,ca⟩ ⟨_,g2,ca⟩ qZ s1e re rh (rj _ _)
   (tuple_addW0 a b its.toArray its2.toArray n1 n2 d1 d2 l1 l2 (by simp[e1])) ⟨g1,g2,.ref b,H,I,rfl,q0 hx⟩
 ·exact DF pins s σ H _ _ v u Q I rx ry ⟨a,b,xs,ys,ca,ca,ha,hb,hx,hz,q1 hx,q2 hx⟩
section
variable {pg:Program}{wd:World}{B:Around}{X0:VS}{s0:Shared}
theorem Fc{R:VS}(p:s0.heap.IsTupleIter j t k)(q:s0.heap.IsTuple t its)(e:its[k]?=some x)
  (f:∀h',h'.IsTupleIter j t (k+1)->Heap.SameBut j s0.heap h'->R x { s0 with heap:=h' }):wpAny (model pg wd) B (Builtin.SmallTypes.nextOf (.ref j)) R X0 s0:=by
 obtain⟨o,g,c,d⟩:=id p;obtain⟨ot,gt,_,nt,dt⟩:=q;unfold Builtin.SmallTypes.nextOf;refine af (iZ (name:=Str.ofString "__next__") p.typeIs oG (fJ oG p.typeIs vT ?_ (vU _)));show wpAny _ _ (field (.ref j) 0 >>= _) _ _ s0;refine af (cK g d (x:=.ref t) rfl ?_);show wpAny _ _ (if (Value.ref t == Value.none)=true then _ else _) _ _ s0;rw[if_neg (show ¬((Value.ref t == Value.none)=true) from bG)];show wpAny _ _ (field (.ref j) 1 >>= _) _ _ s0;refine af (cK g d (x:=.int k 0) rfl ?_);show wpAny _ _ (seqItems? (.ref t) >>= _) _ _ s0;refine af (iu gt dt ?_);simp only[Int.toNat_natCast,e];refine af (mj g d pv (aj ⟨x,ca,aj (f _ ?_ (oA ..))⟩));exact⟨_,gu _ g (rV (ko d _)),(Obj.cls_mapFields ..).trans c,by rw[ko d];simp[rawInt]⟩
theorem Fd(hh:B.handled=none)(p:s0.heap.IsTupleIter j t k)(q:s0.heap.IsTuple t its)(e:its[k]?=none)
  (f:∀h' z,Heap.ExtBut j s0.heap h'->(∃o,h'.get? z=some o/\o.cls=.type "StopIteration")->X0 (.ref z) { s0 with heap:=h' }):wpAny (model pg wd) B (Builtin.SmallTypes.nextOf (.ref j)) R X0 s0:=by
 obtain⟨o,g,c,d⟩:=id p;obtain⟨ot,gt,_,nt,dt⟩:=q;unfold Builtin.SmallTypes.nextOf;refine af (iZ (name:=Str.ofString "__next__") p.typeIs oG (fJ oG p.typeIs vT ?_ (vU _)));show wpAny _ _ (field (.ref j) 0 >>= _) _ _ s0;refine af (cK g d (x:=.ref t) rfl ?_);show wpAny _ _ (if (Value.ref t == Value.none)=true then _ else _) _ _ s0;rw[if_neg (show ¬((Value.ref t == Value.none)=true) from bG)];show wpAny _ _ (field (.ref j) 1 >>= _) _ _ s0;refine af (cK g d (x:=.int k 0) rfl ?_);show wpAny _ _ (seqItems? (.ref t) >>= _) _ _ s0;refine af (iu gt dt ?_);simp only[Int.toNat_natCast,e];refine af (kr (af (mj g d pv ?_)));show wpAny _ _ (newExc (.type "StopIteration") [] >>= _) _ _ _;refine af ?_;simp only[newExc,newTuple];refine af (cS ?_ (by size_fits));refine af (m:=firstArgMember _ _) (dZ (a:=Value.none) (by first|rfl|(simp only[firstArgMember];rfl)) ?_);refine cS ?_ (by size_fits);simp only[raiseNew];refine af (wpAny_handled ?_);first|rw[show B.in1.handled=none from hh]|rw[hh]
 refine af (aj (wpAny_throw ?_));exact f _ _ (((oA ..).extBut.push _).push _) ⟨_,aR _ rfl,ca⟩
def vV{h h':Heap}(p:h.IsTuple t its)(f:∀o,h.get? t=some o->h'.get? t=some o):h'.IsTuple t its:=let ⟨o,g,r⟩:=p;⟨o,f o g,r⟩
end
def Inv.turnedL{h':Heap}{t':Nat}{fl:List Addr}(I:Inv X pins σ H s)(kk:∀b o,b ∉ fl->s.heap.get? b=some o->h'.get? b=some o)(fo:∀b∈fl,ig X pins H b):Inv X pins σ H { s with heap:=h',toks:=t' }:=by
 have out:∀b u,H b=some u->b ∉ fl:=λ b u e z=>by rw[(fo b z).1] at e;cases e
 refine I.step (g':=s.gens) (d':=s.drawn) (ch:=fl) (λ b hb=>?_) (λ b o _ _ hc e _=>kk b o hc e) (λ b o _ _ hc e _=>⟨o.slots,kk b o hc e⟩) (λ _ _ _ _ q=>q)
  (λ b o hc e=>⟨o,kk b o hc e⟩) (λ _ _ e=>e) (λ _ _ _ e=>e) (λ b ps e=>⟨#[],by rw[e];simp⟩) (λ m hm=>?_) (λ b u e=>?_) I.bare
 ·obtain⟨_,f1,_,f3,f4,f5⟩:=fo b hb;exact⟨f3,f1,f4,f5⟩
 ·obtain⟨o,es,ep,ho,r⟩:=hm;exact⟨o,es,ep,kk _ o (λ z=>(fo _ z).2.1 rfl) ho,r⟩
 ·refine(I.hok b u e).stay (λ c v hc q=>kk c v ?_ q) (λ _ q=>q) λ _ _ q=>q
  rcases hc with z|z
  ·rw[z];exact out b u e
  ·exact out c _ z
section
variable {es:List Expr}{x1:Nat}{pp:Pos}
end
def Fe(hc:X.calm=true):bR X (.builtin "sum") (λ xs H Q=>∃(a:Addr) (ns:LI),xs=[.ref a]/\SqL X.K H a (ns.map V.int)/\Q (.int ns.sum) H):=by
 intro pins s σ H xs us Q I r h;obtain⟨a,ns,rfl,hq,q⟩:=h;obtain⟨u,rfl,ru⟩:=cB r;cases (show u=Value.ref a from ru);obtain⟨its,rv,pl,hz⟩:=I.list hq;have hi:=lT rv;have hn:=hi.numsOf;obtain⟨ps,e⟩:=hi.allInts.items;have hl:s.heap.IsList a (intItems ps):=e ▸ pl.isList;refine sum_intListG (I.ok.hd hc) hl λ h' tk t' kk=>?_
 have e2:preSum (numAt ps) ps.size=ns.sum:=by
  rw[preSum_eq,iw pv,<- s1k,<- e];exact br List.sum hn
 rw[e2];exact⟨.int ns.sum,H,I.kept kk,⟨t',ca⟩,q⟩
noncomputable def Its(lo st:Int)(n:Nat):It:=⟨λ i _=>i<n,λ i H x H'=>H'=H/\x=.int (lo+i*st),λ i _=>n<=i⟩
theorem Ff{K:PySem.W.Frag}(it:Addr)(lo st:Int)(n:Nat):Turn P w K tg (Its lo st n) [it] it (λ i h=>IsRangeIter h it (lo+(i:Nat)*st) ((n:Int)-(i:Nat)) st) where
 mem:=pv
 obj:=λ i h q b hb=>by
  have e:b=it:=by simpa using hb
  subst e
  exact⟨_,q,λ v z=>by
   have z':Data.fields _=Data.cell v:=z
   cases z'⟩
 keep:=λ i h h' q k=>k it pv _ q
 item:=by
  intro X hP hw hK hc i pins s σ H E I hf q hg;subst hP hw hK;obtain⟨f0,f1,f2,f3,f4,f5⟩:=hf it pv;have W:=Walks.range (prog:=X.prog) (w:=X.w) (I.ok.hd hc) it lo st n;refine W.item i s _ _ hg q λ v h' tk hv q' kk=>?_;obtain⟨t,rfl⟩:=hv;have I1:Inv X pins σ H { s with heap:=h',toks:=tk }:=I.turned (λ b o hb e=>kk b o (by simpa using hb) e) f0 f1 f3 f4 f5;exact⟨_,ca,lK (s:={ s with heap:=h',toks:=tk }) (n := "range_iterator") q' rfl rfl on ⟨.int (lo+i*st),H,I1,⟨t,ca⟩,⟨ca,ca⟩,q',λ b hb=>(hf b hb).1⟩⟩
 done:=by
  intro X hP hw hK hc i pins s σ H E I hf q hg;subst hP hw hK;obtain⟨f0,f1,f2,f3,f4,f5⟩:=hf it pv;exact uO (I.ok.hd hc) q (by have:n<=i:=hg;lia) λ h' eb=>⟨ca,I.turned (t':=s.toks) (λ b o hb e=>eb b o hb e) f0 f1 f3 f4 f5⟩
 self:=λ _ _ _ _ _ q h=>uP q h
noncomputable def Fg(ta:TA):TI:=λ σ H R=>ta σ H λ vs H1=>∃i j c:Int,vs=[.int i,.int j,.int c]/\(c≠0/\c.natAbs<1073741824/\Builtin.Range.small i j c=true)/\R (Its i c (Builtin.Range.rangeSize i j c).toNat) H1
def Fh(i j c:Int)(hc:c≠0):0<=Builtin.Range.rangeSize i j c:=by
 unfold Builtin.Range.rangeSize;split
 ·split
  ·have:=Int.ediv_nonneg (show 0<=j-i-1 by lia) (show 0<=c by lia);lia
  ·lia
 ·split
  ·have:=Int.ediv_nonneg (show 0<=i-j-1 by lia) (show 0<=-c by lia);lia
  ·lia
theorem Fj{tg a b c:Expr}{p pos:Pos}(hg:Gl X "range")(hm:X.mg "range"=none)(ha:PA X [a,b,c] ta)(hs:starEach [a,b,c] X.env=[(false,eval a X.env),(false,eval b X.env),(false,eval c X.env)]:=by rfl)
  (hs2:starEach [b,c] X.env=[(false,eval b X.env),(false,eval c X.env)]:=by rfl):PI X tg (.Call (.Name "range" p) [a,b,c] [] pos) (Fg ta):=by
 intro pins s σ H R I h;refine Call_ (dG I hg hm boot_range (gp (thn (ha pos pins s σ H _ I h) λ us s1 ⟨vs,H1,I1,r1,q1⟩=>?_) (by rw[hs,hs2]) (by rw[hs2];rfl)));obtain⟨i,j,k,e,⟨c0,c1,c2⟩,q⟩:=q1;subst e
 cases r1 with
 |cons r rr=>
  cases rr with
  |cons r' rr=>
   cases rr with
   |cons r'' rr=>
    cases rr;obtain⟨t,rfl⟩:=r;obtain⟨t',rfl⟩:=r';obtain⟨t'',rfl⟩:=r'';refine call_range_3 c0 ?_ (.inl (PyProof.noPylong_small c1));refine s1d (IsRange.new ..) c2 ?_;have I2:Inv X pins σ H1 { s1 with heap:=s1.heap.push { cls:=.type "range",data:=.fields #[.int i t,.int j t',.int k t''] },toks:=s1.toks }:=I1.kept λ b o e=>aA _ e;generalize s1.heap.push { cls:=.type "range",data:=.fields #[.int i t,.int j t',.int k t''] }=hr at I2 ⊢;refine⟨hr.objs.size,[hr.objs.size],_,_,H1,ca,I2.kept (t':=s1.toks) λ b o e=>aA _ e,Ff _ i k (Builtin.Range.rangeSize i j k).toNat,?_,λ b hb=>?_,q⟩
    ·have e1:i+((0:Nat):Int)*k=i:=by simp
     have e2:(((Builtin.Range.rangeSize i j k).toNat:Nat):Int)-((0:Nat):Int)=Builtin.Range.rangeSize i j k:=by have:=Fh i j k c0;lia
     show IsRangeIter _ _ (i+((0:Nat):Int)*k) ((((Builtin.Range.rangeSize i j k).toNat:Nat):Int)-((0:Nat):Int)) k;rw[e1,e2];exact aR _ rfl
    ·have e:b=hr.objs.size:=by simpa using hb
     subst e;exact I2.fpOk (av _) (I2.hok.fresh (av _))
open AutoSeq1 (wpAny_loadPart')
section
variable {prog:Program}{w:World}{A:Around}{R:Result->Shared->Prop}{s:Shared}
theorem Fk{elt target iter cnd:Expr}{it acc:Value}(I:Nat->Shared->Prop)
  (turn:∀n s,I n s->wpAny (model prog w) A (pyNext it) (λ r s₁=>match r with
   |none=>R (.ok .next) s₁
   | some v=>wpAny (model prog w) A (letOwnedTupleGo target it v) (λ _ s₀=>wpAny (model prog w) A (assign target env v) (λ _ s₂=>wpAny (model prog w) A (isTrue cnd env (eval cnd env)) (λ b s₃ =>
     if b=true then wpAny (model prog w) A (eval elt env) (λ x s₄ =>
      wpAny (model prog w) A (call (.builtin "list.append") [acc,x]) (λ _ s₅=>∃m,m<n/\I m s₅) (λ _ _=>False) s₄) (λ _ _=>False) s₃
     else ∃m,m<n/\I m s₃)
     (λ _ _=>False) s₂) (λ _ _=>False) s₀) (λ _ _=>False) s₁) (λ _ _=>False) s)
  (n:Nat) (h:I n s) :
  codeAny (model prog w) A (.compLoop (.ListComp elt [⟨target,iter,[cnd],0⟩] scope pos) 0 it acc env) R s:=by
 refine codeAny_loop rfl I (λ n s hI=>?_) n h;show wpAny _ _ ((compTurn (.ListComp elt [⟨target,iter,[cnd],0⟩] scope pos) 0 it acc env).onRaise (λ x=>do noteFrame x env;theTreesLotGoes x)) _ _ s;refine wpAny_noted ?_;rw[compTurn_list];refine af (gj (af (bQ (turn n s hI) (λ r s₁ h₁=>?_) λ _ _ h'=>h'.elim)))
 cases r with
 |none=>exact aj h₁
 |some v=>
  refine af (bQ h₁ (λ _ s₀ h₀=>?_) λ _ _ h'=>h'.elim);refine af (bQ h₀ (λ _ s₂ h₂=>?_) λ _ _ h'=>h'.elim);refine af (bQ (wpAny_tests_one h₂) (λ ok s₃ h₃=>?_) λ _ _ h'=>h'.elim)
  cases ok with
  |false=>exact aj ⟨rfl,h₃⟩
  |true=>exact af (af (bQ h₃ (λ x s₄ h₄=>af (bQ h₄ (λ _ s₅ h₅=>aj (aj ⟨rfl,h₅⟩)) λ _ _ z=>z.elim)) λ _ _ z=>z.elim))
end
noncomputable def vW(cnd:Expr):oz:=λ p w A env k s=>wpAny (model p w) A (isTrue cnd env (eval cnd env)) k (λ _ _=>False) s
def Fl{cnd:Expr}:rJ [cnd] (vW cnd):=⟨λ I t n h=>Fk I t n h,λ h m=>bQ h m λ _ _ z=>z⟩
def pmI{X:Cx}(hx:X.xe=λ _ _=>False)(h:PT X cnd tc):PM X (vW cnd) tc:=λ pins s σ H K I k=>by
 have z:=h pins s σ H K I k;rw[hx] at z;exact z
theorem vX{X:Cx}{elt tg iter cnd:Expr}{cl:LA}{own fv:List Str}{js:List Nat}
  (hc:X.calm=true) (hi:PI X tg iter wi) (hclos:closureFor scope X.env=pure cl) (hcell:∀y∈scope.names,y.2≠.cell) (hkind:scope.kind=.function)
  (hnames:∀y∈scope.names,y.2=.local->scope.names.lookup y.1=some .local)
  (hcl:∀x c,cl.lookup x=some c->X.env.cells.lookup x=some c)
  (hhas:∀x,((relabel scope X.env).names.lookup x=some .cell\/(relabel scope X.env).names.lookup x=some .free)->∃c,cl.lookup x=some c)
  (hlen:js.length=fv.length) (hcap:∀(i:Nat) x j,fv[i]?=some x->js[i]?=some j->Cap X scope cl x j)
  (hg:∀(C:Addr) (ex:List Addr) (s:Shared) (H:Hp),PG (bp X (own++fv) scope cl C ex s H) tg g)
  (he:∀(C:Addr) (ex:List Addr) (s:Shared) (H:Hp),PE (bp X (own++fv) scope cl C ex s H) elt te)
  (ht:∀(C:Addr) (ex:List Addr) (s:Shared) (H:Hp),PT (bp X (own++fv) scope cl C ex s H) cnd tc)
  (hs:∀x,foldedSetIterable iter X.env x=pure x)(I:Inv X pins σ H s) (h:jf wi own.length js g tc te σ H Q)
  (fin:∀(a C:Addr) (s5:Shared) (H5:Hp) (fl:Flow),Inv X pins σ H5 s5->H5 C=none->C≠X.env.locals->X.s₀.heap.objs.size<=C->(∀x c,X.env.cells.lookup x=some c->c≠C)->(∀p∈X.pn++pins,p.1≠C)->(∃m,s5.heap.Ns C m)->Q (.ref a) H5->compPost (model X.prog X.w) X.A X.xe use QQ (.ref a) C (.ok fl) s5) :
  wpAny (model X.prog X.w) X.A (comprehension (.ListComp elt [⟨tg,iter,[cnd],0⟩] scope pos) scope X.env fpos (newList []) false (firstIter [⟨tg,iter,[cnd],0⟩] X.env) use) QQ X.xe s :=
 vB hc hi hclos hcell hkind hnames hcl hhas hlen hcap hg he (λ C ex s H=>pmI rfl (ht C ex s H)) Fl hs I h fin
theorem Fm{X:Cx}{elt tg iter cnd:Expr}{cl:LA}{own fv:List Str}{js:List Nat}
  (hc:X.calm=true) (hi:PI X tg iter wi) (hclos:closureFor scope X.env=pure cl) (hcell:∀y∈scope.names,y.2≠.cell) (hkind:scope.kind=.function)
  (hnames:∀y∈scope.names,y.2=.local->scope.names.lookup y.1=some .local)
  (hcl:∀x c,cl.lookup x=some c->X.env.cells.lookup x=some c)
  (hhas:∀x,((relabel scope X.env).names.lookup x=some .cell\/(relabel scope X.env).names.lookup x=some .free)->∃c,cl.lookup x=some c)
  (hlen:js.length=fv.length) (hcap:∀(i:Nat) x j,fv[i]?=some x->js[i]?=some j->Cap X scope cl x j)
  (hg:∀(C:Addr) (ex:List Addr) (s:Shared) (H:Hp),PG (bp X (own++fv) scope cl C ex s H) tg g)
  (he:∀(C:Addr) (ex:List Addr) (s:Shared) (H:Hp),PE (bp X (own++fv) scope cl C ex s H) elt te)
  (ht:∀(C:Addr) (ex:List Addr) (s:Shared) (H:Hp),PT (bp X (own++fv) scope cl C ex s H) cnd tc)
  (hs:∀x,foldedSetIterable iter X.env x=pure x:=by intro _;rfl) :
  PE X (.ListComp elt [⟨tg,iter,[cnd],0⟩] scope pos) (jf wi own.length js g tc te):=by
 intro pins s σ H Q I h;rw[eval_ListComp];refine vX (use:=none) (QQ:=EP X pins σ Q) hc hi hclos hcell hkind hnames hcl hhas hlen hcap hg he ht hs I h λ a C s5 H5 fl I5 zC zL zS zc zp ⟨m,hn⟩ q=>⟨m,hn,λ h' sc=>?_⟩;exact⟨.ref a,H5,I5.turned (t':=s5.toks) (it:=C) (λ d o nd e=>sc.extBut d o nd e) zC zL (.inr zS) zc zp,ca,q⟩
section
variable {pg:Program}{wd:World}{B:Around}{X0:VS}{s0:Shared}
end
section
variable {es:List Expr}{x1:Nat}{pp:Pos}
end
noncomputable def mq(K:FG):List (Addr×TS)->Value->(TS->Prop)->Prop
 |[],_,_=>False
 |(C,ts)::r,c,k=>(W.exmOne K c (.ref C)=some true/\k ts)\/(W.exmOne K c (.ref C)=some false/\mq K r c k)
noncomputable def vY(K:FG)(cs:List (Addr×TS))(D:Ends):St->XK:=λ σ1 c _ H1=>mq K cs c λ ts=>ts D σ1 H1
noncomputable def Fn(K:FG)(cs:List (Addr×TS))(tb:(St->XK)->TS):TS:=λ D σ H=>tb (vY K cs D) D σ H
inductive Clauses (X:Cx):List ExceptHandler->List (Addr×TS)->Prop
 |nil:Clauses X [] []
 |cons {x:Str}{C:Addr}{b₀:Stmt}{suite:List Stmt}{np hpos:Pos}{ts:TS}{r:List ExceptHandler}{tr:List (Addr×TS)}(hg:Gl X x) (hn:W.nsIn X.K mainGlobals x=some (some (.ref C)))
   (hs:∀(a:Addr) (pn:LO),PSs (X.suite a pn) (b₀::suite) ts) (hr:Clauses X r tr) (hd:(x == ("__debug__" : Str))=false):Clauses X (.ExceptHandler (some (.Name x np)) none (b₀::suite) hpos::r) ((C,ts)::tr)
theorem Fo{X:Cx}{h₀:ExceptHandler}{hl:List ExceptHandler}{tb:(St->XK)->TS}(hstk:X.stack=X.env::X.outer/\X.env.frame=some X.env.locals)
  (hb:∀(xe:VS) (pn:LO) (EE:St->XK),(∀σ,ma (CX1 X.prog X.w) (X.more xe pn) (EE σ) σ)->PSs (X.more xe pn) body (tb EE)) (hc:Clauses X (h₀::hl) cs) :
  PS X (.Try body (h₀::hl) [] [] pos) (Fn X.K cs tb):=by
 intro pins s σ H D I h;refine wpAny_Try_except ?_;generalize hXE:(λ e s₁=>wpAny (model X.prog X.w) X.A (noteFrame e X.env) (λ _ s₂=>wpAny (model X.prog X.w) X.A (setFlight e none) (λ _ s₃=>wpAny (model X.prog X.w) X.A (handleBy e X.env (h₀::hl)) (SP X pins D) X.xe s₃) X.xe s₂) X.xe s₁:VS)=XE;have toY:∀ {σ':St}{H':Hp}{s':Shared},Inv X pins σ' H' s'->Inv (X.more XE (X.pn++pins)) [] σ' H' s':=λ J=>⟨J.ok.more _ _,J.os,J.bare,J.base,J.loc,J.cell,J.free,J.freeC,λ p hp=>J.pin p (by simpa using hp),J.hok,J.len⟩;have ofY:∀ {σ':St}{H':Hp}{s':Shared}{pp:LO},Inv (X.more XE (X.pn++pins)) pp σ' H' s'->Inv X pins σ' H' s':=λ J=>⟨I.ok,J.os,J.bare,J.base,J.loc,J.cell,J.free,J.freeC,λ p hp=>J.pin p (iV _ hp),J.hok,J.len⟩;have body_ok:=hb XE (X.pn++pins) (vY X.K cs D) ?_ [] s σ H D (toY I) h
 ·refine thn body_ok λ fl s' q=>?_
  cases fl with
  |next=>obtain⟨σ',H',J,z⟩:=q;exact nQ ⟨σ',H',ofY J,z⟩
  |brk=>obtain⟨σ',H',J,z⟩:=q;exact⟨σ',H',ofY J,z⟩
  |cont=>obtain⟨σ',H',J,z⟩:=q;exact⟨σ',H',ofY J,z⟩
  |ret u=>obtain⟨v,σ',H',J,r,z⟩:=q;exact⟨v,σ',H',ofY J,r,z⟩
 intro σ1 pins1 H1 s1 e s' I1 hx;obtain⟨a,C',a0,H',B,rfl,os,bare,fl,inB,thB,un,okB,hcatch⟩:=hx;have hcatch:mq X.K cs (.ref C') λ ts=>ts D σ1 H':=hcatch;subst hXE
 have fl:Heap.FlyingW B (X.env::X.outer) a (.ref C') a0 s'.heap:=by
  have z:Heap.FlyingW B X.stack a (.ref C') a0 s'.heap:=fl;rw[hstk.1] at z;exact z
 have hfr:X.A.frames=some (X.env::X.outer):=by rw[I.ok.frames,hstk.1]
 have at_:∀h2:Heap,Heap.FlyingW B (X.env::X.outer) a (.ref C') a0 h2->s'.heap.UpToSlots h2->∀t2:Nat,Inv X pins σ1 H' { s' with heap:=h2,toks:=t2 }:=λ h2 f2 u2 t2=>by
  have J1:Inv X pins σ1 H1 s1:=ofY I1
  have slot:∀b o,s1.heap.get? b=some o->H1 b=none->b∈frs X.stack->∃sl,h2.get? b=some { o with slots:=sl }:=λ b o e nn hb=>by
   obtain⟨sl2,e2⟩:=un.slot b o e nn hb pv;obtain⟨_,o3,e3,nf⟩:=J1.stack.mem hb;rw[e] at e3;cases e3;obtain⟨sl3,e4⟩:=u2 b _ e2 nf;exact⟨sl3,e4⟩
  refine J1.call' (s':={ s' with heap:=h2,toks:=t2 }) (ch:=[]) os ⟨λ b o e nn hb _=>f2.1 _ _ (inB b o e nn hb),λ b o e nn hb _=>slot b o e nn hb,un.free,λ b o e _=>?_,un.tups,un.frzs,un.tbls⟩ (okB.kept f2.1) bare (λ b z=>nomatch z);by_cases hb:b∈frs X.stack
  ·obtain⟨sl,q⟩:=slot b o e (J1.stkFree b hb) hb;exact⟨_,q⟩
  ·obtain⟨o',q⟩:=thB b o e hb;exact⟨o',f2.1 _ _ q⟩
 refine wpAny_looks_onW hfr hstk.2 fl λ h4 held4 up4=>?_;refine wpAny_landsW held4 λ h5 fl5 up5=>?_;have J5:=at_ h5 fl5 (up4.trans up5) s'.toks;obtain⟨oe5,ve5,he5,hc5,hd5,_⟩:=fl5.first
 have toZ:∀ {σ':St}{H':Hp}{s':Shared},Inv X pins σ' H' s'->Inv (X.suite a (X.pn++pins)) [] σ' H' s':=λ J=>⟨J.ok.suite _ _,J.os,J.bare,J.base,J.loc,J.cell,J.free,J.freeC,λ p hp=>J.pin p (by simpa using hp),J.hok,J.len⟩;have ofZ:∀ {σ':St}{H':Hp}{s':Shared},Inv (X.suite a (X.pn++pins)) [] σ' H' s'->Inv X pins σ' H' s':=λ J=>⟨I.ok,J.os,J.bare,J.base,J.loc,J.cell,J.free,J.freeC,λ p hp=>J.pin p (iV _ hp),J.hok,J.len⟩;have LT:Looks (model X.prog X.w) h5 (typeOf (.ref a)) (.ref C'):=hc5 ▸ (Looks.ld he5).andThen .now
 have all:∀(hs':List ExceptHandler) (cs':List (Addr×TS)),Clauses X hs' cs'->(mq X.K cs' (.ref C') λ ts=>ts D σ1 H')->wpAny (model X.prog X.w) X.A (handleBy (.ref a) X.env hs') (SP X pins D) X.xe { s' with heap:=h5 }:=by
  intro hs' cs' hcl
  induction hcl with
  |nil=>intro z;exact z.elim
  |cons hg hn hs hr hd ih=>
   intro z;have bnd:=W.mg_of J5.ok.mod.kin J5.ok.mod.glob hn;refine wpAny_handleBy_cons (codeAny_handlers_test ?_) (by intro q;cases q);refine hZ (X:=X.suite a (X.pn++pins)) (toZ J5) hg bnd ?_ hd
   rcases z with ⟨z1,z2⟩|⟨z1,z2⟩
   ·refine(W.exm_one (M:=model X.prog X.w) J5.kIn LT z1).here ?_;refine codeAny_handlers_suite ?_;refine lands_againW fl5 λ h6 fl6 up6=>?_;have J6:=at_ h6 fl6 ((up4.trans up5).trans up6) s'.toks;refine bQ (hs a (X.pn++pins) [] _ _ _ D (toZ J6) z2) (λ fl s9 q=>?_) λ _ _ z=>z.elim
    cases fl with
    |next=>obtain⟨σ9,H9,J9,z⟩:=q;exact⟨_,H9,ofZ J9,z⟩
    |brk=>obtain⟨σ9,H9,J9,z⟩:=q;exact⟨_,H9,ofZ J9,z⟩
    |cont=>obtain⟨σ9,H9,J9,z⟩:=q;exact⟨_,H9,ofZ J9,z⟩
    |ret u=>obtain⟨v,σ9,H9,J9,r,z⟩:=q;exact⟨v,_,H9,ofZ J9,r,z⟩
   ·refine(W.exm_one (M:=model X.prog X.w) J5.kIn LT z1).here ?_;exact ih z2
 exact all _ _ hc hcatch
noncomputable def Fp(i j:Int):Prop:=0<j/\j<1606938044258990275541962092341162602522202993782792835301376
def Fq{y:Int}(h0:0<y)(h1:y<1606938044258990275541962092341162602522202993782792835301376):y.natAbs.log2<9000:=by
 have z:y.natAbs≠0:=by omega
 exact bC ((Nat.log2_lt z).mpr (show y.natAbs<2 ^ 200 by omega)) on
def Fs:OpR X (binaryOp .FloorDiv) (rI Fp λ i j=>.int (i/j)):=opI λ i j _ _ _ _ _ hc q=>floordiv_int (by have:=hc.1;lia) (by rw[lO i (by have:=hc.1;lia)];exact q) (.inl (vH (Fq hc.1 hc.2)))
end _L
namespace _H
open PySem PySem.Spec PyProof.Rows _L
theorem whole_tup{s:Shared}{lo hi:Option Int}{R:VS}(ht:IsTup s.heap t its)(hs:s.heap.IsSliceOf sl vl vu .none)(pl:IsPart vl lo)(pu:IsPart vu hi)
  (h0:sIx its.size 0 lo=0) (h1:sIx its.size its.size hi=its.size) (h:R (.ref t) s):wpAny (model prog w) A (getItem (.ref t) (.ref sl)) R E s:=by
 obtain⟨os,hos,hcs,hds⟩:=id hs;have hTs:s.TypeIs (.ref sl) "slice" := ⟨os,hos,hcs⟩;unfold getItem;try with_reducible refine du ?_
 first|refine af (aj ?_)|skip
 refine af (wpAny_sequenceKey ht.typeIs on ?_);refine af (iZ (name:=Str.ofString "__getitem__") ht.typeIs oj (fJ oj ht.typeIs s0u ?_ (s1f _ _)));show wpAny _ _ (Builtin.Tuple.tupleItemsOf (.ref t) >>= _) _ _ s;refine af (tupleItemsOf_ ht ?_);refine af (ja hTs ?_);rw[if_pos on];refine af (vf hs pl pu ?_);show wpAny _ _ (if (((sIx its.size 0 lo:Nat):Int) == 0&&(1:Int) == 1&&(sIx its.size its.size hi-sIx its.size 0 lo) == its.size)=true then _ else _) _ _ s;rw[if_pos (by rw[h0,h1];simp)];unfold Builtin.Tuple.tupleIsExact;exact af (af (ja ht.typeIs (aj (af (kr (aj ⟨_,ca,aj h⟩))))))
end _H
namespace _L
open PySem PySem.Spec PyProof.Rows
variable {X:Cx}
def Fu:typeLookup (.type "reversed") "__len__"=pure none:=by rw[fN,fO];kernel_rfl
def Fv:typeLookup (.type "reversed") "__length_hint__"=pure (some (.builtin "reversed.__length_hint__")):=by rw[fN,fO];kernel_rfl
theorem Fw{B:Around}(hh:B.handled=none)(I t:Addr)(hne:t≠I)(its:Array Value)(hz:(its.size:Int)<2 ^ 63) :
  Walks pg wd B I [I,t] [I] its.size (λ i v=>its[its.size-1-i]?=some v) (λ i h=>i<=its.size/\IsRv h I t ((its.size:Int)-1-(i:Int))/\IsTup h t its) where
 sub:=λ b hb=>by simp at hb;simp[hb]
 frame:=λ _ _ _ st k=>⟨st.1,let ⟨o,g,r⟩:=st.2.1;⟨o,k I pv o g,r⟩,let ⟨o,g,r⟩:=st.2.2;⟨o,k t pv o g,r⟩⟩
 item:=λ i s R X0 hi st f=>by
  obtain⟨_,q1,q2⟩:=st;have e:(its.size:Int)-1-(i:Int)=((its.size-1-i:Nat):Int):=fu;rw[e] at q1;have hx:its[its.size-1-i]?=some (its[its.size-1-i]' fu):=oF fu;refine vN q1 q2 hx hz λ m tk q sb=>f _ m tk hx ⟨hi,?_,?_⟩ λ b o nb g=>sb.extBut b o (by simpa using nb) g
  ·have e2:((its.size-1-i:Nat):Int)-1=(its.size:Int)-1-((i+1:Nat):Int):=by lia
   rw[e2] at q;exact q
  ·obtain⟨o,g,r⟩:=q2;exact⟨o,sb.extBut _ _ hne g,r⟩
 done:=λ s R X0 st f=>by
  obtain⟨_,q1,q2⟩:=st;have e:(its.size:Int)-1-(its.size:Int)=-1:=fu;rw[e] at q1;exact vP hh q1 λ m tk eb=>f m tk λ b o nb g=>eb b o (by simpa using nb) g
 self:=λ _ _ _ _ st h=>rY st.2.1 h
def Fx(v:Value):bindSpecial (.builtin "reversed.__length_hint__") v=pure (.builtin "reversed.__length_hint__",[v]):=by
 unfold bindSpecial;rw[show typeOf (.builtin "reversed.__length_hint__")=pure (.type "method_descriptor") by show builtinType _=_;rw[builtinType_eq_fast];kernel_rfl];rfl
def Fy:Slot "reversed" "__length_hint__" "reversed.__length_hint__" := .of (owner := "reversed") (n := "__length_hint__") (by rw[fN,fO];kernel_rfl) (by decide +kernel) (by decide +kernel) (by decide +kernel) (.inr (by decide +kernel)) (by rw[jh];kernel_rfl)
def FC:entryFor table "reversed.__length_hint__"=some Builtin.«reversed.__length_hint__»:=entryFor_of_tree (by kernel_rfl)
def FD(a:Value):argsOk "reversed.__length_hint__" ⟨[a],[]⟩:=by unfold argsOk;kernel_rfl
theorem FE{R:VS}{z:Shared}{its:Array Value}(q1:IsRv z.heap J t ((its.size:Int)-1))(q2:IsTup z.heap t its)(hz:(its.size:Int)<2 ^ 63)
  (f:∀u tk,z.toks<=tk->R (.int its.size u) { z with toks:=tk }):wpAny (model pg wd) B (call (.builtin "reversed.__length_hint__") [.ref J]) R X0 z:=by
 obtain⟨o,ho,hc,hd⟩:=id q1;refine fJ Fy q1.typeIs FC ?_ (FD _);show wpAny _ _ (field (.ref J) 0 >>= _) _ _ z;refine af (cK ho hd (x:=.ref t) rfl ?_);show wpAny _ _ (if (Value.ref t == Value.none)=true then _ else _) _ _ z;rw[if_neg (show ¬((Value.ref t == Value.none)=true) from bG)];show wpAny _ _ (call (.builtin "len") [.ref t] >>= _) _ _ z;refine af (s1g q2 hz ?_);refine af (m:=asInt? _) (aj ?_);show wpAny _ _ (field (.ref J) 1 >>= _) _ _ _;refine af (cK ho hd (x:=rawInt ((its.size:Int)-1)) rfl ?_);show wpAny _ _ (if (its.size:Int)<(its.size:Int)-1+1 then _ else retInt ((its.size:Int)-1+1)) _ _ _;rw[if_neg fu,show(its.size:Int)-1+1=its.size by lia];exact af (wpAny_mkInt (aj ⟨_,ca,f _ _ (by show z.toks<=z.toks+1+1+1;lia)⟩))
section
variable {pg:Program}{wd:World}{B:Around}{X0:VS}{s0:Shared}{J:Addr}{fs ws:List Addr}{Gg:Array GenState->Array GenState->Prop}{m:Nat}{Pr:Nat->Value->Prop}{Sx:Nat->Shared->Prop}
theorem FF{R:LV->Shared->Prop}(hint:∀(z:Shared) (R':VS) (E':VS),Sx 0 z->(∀u tk,z.toks<=tk->R' (.int m u) { z with toks:=tk })->wpAny (model pg wd) B.in1 (call (.builtin "reversed.__length_hint__") [.ref J]) R' E' z)(wk:WalksS pg wd B.in1 J fs ws Gg m Pr Sx)(ty:∀j z,Sx j z->z.TypeIs (.ref J) "reversed")(z0:Sx 0 s0)(lt:∀b∈fs,b<s0.heap.objs.size)(mJ:J∈fs)(sm:m<=sizeLine)
  (fin:∀z' ac,Moved ws Gg s0 z'->ItemsOf Pr ac m->R ac.toList z'):wpAny (model pg wd) B (collect (.ref J)) R X0 s0:=by
 have out:s0.heap.objs.size ∉ fs:=λ q=>absurd (lt _ q) (cQ _);have neJ:s0.heap.objs.size≠J:=by rintro rfl;exact out mJ
 let nu:Obj:={ cls:=.type "list",data:=.seq ([]:LV).toArray }
 unfold collect;refine af (wpAny_runValue (gz vQ ?_));rw[gC vR _];show wpAny _ B.in1 (newList [] >>= λ q=>again (.builtin "list.__iadd__" ⟨[q,.ref J],[]⟩)) _ _ s0;refine af (cS ?_);refine aj ⟨eY oD _,gz F.entry_list_iadd ?_⟩;rw[gC oD _];have z1:=wk.frame 0 s0 (s0.heap.push nu) s0.toks z0 (av _) λ b _ o e=>aA _ e;have at1:(s0.heap.push nu).get? s0.heap.objs.size=some nu:=aR _ rfl;have dif:Builtin.List.listSameRef (.ref s0.heap.objs.size) (.ref J)=false:=by simp[Builtin.List.listSameRef,neJ]
 show wpAny _ B.in1 (Builtin.List.listExtendWith (.ref s0.heap.objs.size) (.ref J) (.ref s0.heap.objs.size)) _ _ _;unfold Builtin.List.listExtendWith;refine af (ja (ty 0 _ z1) ?_);rw[if_neg (by rw[dif];decide)];refine af (wk.self 0 _ _ _ z1 ?_);refine af (du ?_);unfold Builtin.List.listLengthHint;refine af (iq (ty 0 _ z1) Fu ?_);show wpAny _ B.in1 (specialOf (Value.ref J) (Str.ofString "__length_hint__") >>= _) _ _ _;refine af (iq (ty 0 _ z1) Fv ?_)
 (generalize hid:("reversed.__length_hint__" : String)=id0;wp_delta;rw[show splitId id0=some ("reversed","__length_hint__") from by subst hid;decide +kernel];subst hid)
 refine af (mf (b:=true) (ty 0 _ z1) (by rw[jh];kernel_rfl) ?_);rw[if_neg on];dsimp only;rw[if_neg (by decide +kernel)];refine af (kr ?_);refine af (dZ (Fx _) ?_);dsimp only;refine af (mh (hint _ _ _ z1 λ u tk htk=>?_));have z2:=wk.frame 0 _ _ tk z1 htk λ b _ o e=>e;have l63:=oC;have fi:Builtin.List.listFitsIndex (m:Int)=true:=by simp[Builtin.List.listFitsIndex];lia
 have tl:Builtin.List.listTooLong (m:Int).toNat=false:=by simp[Builtin.List.listTooLong];lia
 generalize hk:(m:Int)=kk at fi tl ⊢;show wpAny _ B.in1 (asInt? (.int kk u) >>= _) _ _ _;refine af (m:=asInt? (.int kk u)) (aj ?_);dsimp only;rw[if_neg (by rw[fi];decide)];try dsimp only
 rw[if_neg fu];try dsimp only
 rw[if_neg (by rw[tl];decide)];refine aj ?_;by_cases m0:m=0
 ·rw[if_neg (by subst m0;subst hk;decide +kernel)];refine aj ⟨eY rZ _,se wk sm _ out _ m 0 _ _ _ rfl (bS _) z2 at1 (s1w Pr) λ z' ac cc mv at2 its=>?_⟩;show wpAny _ B (load s0.heap.objs.size >>= _) _ _ z';exact af (s1p at2 (aj (fin z' ac (s0p (o:=nu) (tk:=tk) mv htk) its)))
 ·rw[if_pos (by simp;left;lia)];refine af (kr ?_);refine af ?_;show wpAny _ B.in1 (updateSeq s0.heap.objs.size (·.push .none) >>= λ _=>updateSeq s0.heap.objs.size (·.pop)) _ _ _;refine af (kt at1 rfl ?_);have a2:=gu (Obj.mapSeq (·.push Value.none)) at1 rfl;refine kt a2 rfl ?_;have a3:=gu (Obj.mapSeq (·.pop)) a2 rfl
  have oth:∀b o,b≠s0.heap.objs.size->(s0.heap.push nu).get? b=some o->(((s0.heap.push nu).update s0.heap.objs.size (Obj.mapSeq (·.push Value.none))).update s0.heap.objs.size (Obj.mapSeq (·.pop))).get? b=some o :=
   λ b o hb e=>(dY _ _ (bW hb)).trans ((dY _ _ (bW hb)).trans e)
  refine aj ⟨eY rZ _,se wk sm _ out _ m 0 _ _ _ rfl (bS _)
   (wk.frame 0 ({ s0 with heap:=s0.heap.push nu,toks:=tk }:Shared) _ tk z2 (av _) λ b hb o e=>oth b o (λ q=>out (q ▸ hb)) e) a3 (s1w Pr) λ z' ac cc mv at2 its=>?_⟩
  show wpAny _ B (load s0.heap.objs.size >>= _) _ _ z';refine af (s1p at2 ?_);refine aj (fin z' ac (s0p (o:=nu) (tk:=tk) (Moved.trans wk.gtrans ((Moved.refl wk.grefl).then_heap (av _) λ b o hb e=>?_) mv) htk) its);exact oth b o (λ q=>hb (q ▸ bz)) e
theorem FH{R:VS}(hint:∀(z:Shared) (R':VS) (E':VS),Sx 0 z->(∀u tk,z.toks<=tk->R' (.int m u) { z with toks:=tk })->wpAny (model pg wd) B.in1.in1 (call (.builtin "reversed.__length_hint__") [.ref J]) R' E' z)(wk:WalksS pg wd B.in1.in1 J fs ws Gg m Pr Sx)(ty:∀j z,Sx j z->z.TypeIs (.ref J) "reversed")(z0:Sx 0 s0)(lt:∀b∈fs,b<s0.heap.objs.size)(mJ:J∈fs)(sm:m<=sizeLine)
  (fin:∀z' ac,Moved ws Gg s0 z'->ItemsOf Pr ac m->R (.ref z'.heap.objs.size) { z' with heap:=z'.heap.push { cls:=.type "tuple",data:=.seq ac } }) :
  codeAny (model pg wd) B (.call (.builtin "tuple.__new__") ⟨[.type "tuple",.ref J],[]⟩) (wants R X0) s0:=by
 refine sg ?_;show wpAny _ B.in1 (do checkBuiltinCall "tuple.__new__" ⟨[.type "tuple",.ref J],[]⟩;again (.builtin "tuple.__new__" ⟨[.type "tuple",.ref J],[]⟩)) _ _ s0;refine af (dZ (F.newCall_tuple_1 _) (aj ⟨eY oE _,gz F.entry_tuple_new ?_⟩));rw[gC oE _];have q1:=sub_tuple_self;have q2:=init_tuple_lookup;have q3:=madeHere_tuple;have q4:=ty 0 s0 z0;wp_walk using ja q4,FF (sm:=sm) hint wk ty z0 lt mJ;intro z' ac mv its;show wpAny _ _ (Builtin.Tuple.tupleExact ac.toList.toArray >>= λ q=>ret q) _ _ _;have e:ac.toList.toArray=ac:=pv;rw[e];unfold Builtin.Tuple.tupleExact;exact af (cS (aj (fin z' ac mv its)) (by show ac.size<=sizeLine;rw[its.1];exact sm))
theorem FJ{R:VS}(hint:∀(z:Shared) (R':VS) (E':VS),Sx 0 z->(∀u tk,z.toks<=tk->R' (.int m u) { z with toks:=tk })->wpAny (model pg wd) B.in1.in1.in1 (call (.builtin "reversed.__length_hint__") [.ref J]) R' E' z)(wk:WalksS pg wd B.in1.in1.in1 J fs ws Gg m Pr Sx)(ty:∀j z,Sx j z->z.TypeIs (.ref J) "reversed")(z0:Sx 0 s0)(lt:∀b∈fs,b<s0.heap.objs.size)(mJ:J∈fs)(sm:m<=sizeLine)
  (fin:∀z' ac,Moved ws Gg s0 z'->ItemsOf Pr ac m->R (.ref z'.heap.objs.size) { z' with heap:=z'.heap.push { cls:=.type "tuple",data:=.seq ac } }) :
  wpAny (model pg wd) B (call (.type "tuple") [.ref J]) R X0 s0 :=
 callType_codes (Q₁:=λ ob z=>z.TypeIs ob "tuple" /\ R ob z) F.called_tuple (s1j _) s0x
  (FH (sm:=sm) hint wk ty z0 lt mJ λ z' ac mv its=>⟨⟨_,aR _ rfl,rfl⟩,fin z' ac mv its⟩)
  λ ob z q=>⟨q.1,rQ ob _,object_init_meets F.called_tuple.init.lookup F.called_tuple.made on pg wd B.in1 _ z ⟨q.1,rfl,q.2⟩⟩
end
noncomputable def FK(K:FG)(te:TE):TE:=λ σ H Q=>te σ H λ x H1=>∃a xs,x=.ref a/\SqT K H1 a xs/\∀p,H1 p=none->Q (.ref p) (upd H1 p (.tup xs.reverse))
theorem FL{p1 p2 pos pos':Pos}(hc:X.calm=true)(ht:Gl X "tuple")(hr:Gl X "reversed")(mt:X.mg "tuple"=none)(mr:X.mg "reversed"=none)(he:PE X e te)(hs:starEach [e] X.env=[(false,eval e X.env)]:=by rfl) :
  PE X (.Call (.Name "tuple" p1) [.Call (.Name "reversed" p2) [e] [] pos'] [] pos) (FK X.K te):=by
 intro pins s σ H Q I h;refine Call_ (dG I ht mt boot_tuple (gp ?_ rfl rfl));refine qV ?_;have hA:=(bJ he (pa_nil (X:=X)) hs) pos' pins s σ H (λ vs H1=>match vs with|[x]=>∃a xs,x=.ref a/\SqT X.K H1 a xs/\∀p,H1 p=none->Q (.ref p) (upd H1 p (.tup xs.reverse))|_=>False) I h;refine Call_ (dG I hr mr s1i (gp (thn hA λ us s1 ⟨vs,H1,I1,r1,q1⟩=>?_) hs rfl))
 match vs,q1 with
 |[x],⟨a,xs,e,hq,q⟩=>
  subst e;obtain⟨u,rfl,ru⟩:=cB r1;cases (show u=Value.ref a from ru);obtain⟨its,rv,pl,hz⟩:=I1.tuple hq;have hl:=rv.length;have z63:=oC;refine vM pl (by simp;lia) λ tk=>?_;refine qU ?_;have I2:Inv X pins σ H1 { s1 with heap:=s1.heap.push (ip a ((its.toArray.size:Int)-1)),toks:=tk }:=I1.kept (t':=tk) λ b o e=>aA _ e;have al:a<s1.heap.objs.size:=by obtain⟨o,ho,_⟩:=pl;exact aB ho
  have hne:a≠s1.heap.objs.size:=aZ al
  have ir:IsRv (s1.heap.push (ip a ((its.toArray.size:Int)-1))) s1.heap.objs.size a ((its.toArray.size:Int)-1-((0:Nat):Int)):=by
   refine⟨_,aR _ rfl,ca,?_⟩;have e:(its.toArray.size:Int)-1-((0:Nat):Int)=(its.toArray.size:Int)-1:=fu;rw[e];rfl
  have sz:(s1.heap.push (ip a ((its.toArray.size:Int)-1))).objs.size=s1.heap.objs.size+1:=by simp[Heap.push]
  have ff:=I1.fpOk (av s1.heap.objs.size) (I1.hok.fresh (av _))
  refine FJ (m:=its.toArray.size) (Sx:=_) (λ z R' E' q f=>FE (its:=its.toArray) (by have:=q.2.1;rw[show(its.toArray.size:Int)-1-((0:Nat):Int)=(its.toArray.size:Int)-1 by lia] at this;exact this) q.2.2 (by simp;lia) f) (Fw (B:=X.A.in1.in1.in1) (I.ok.hd hc) s1.heap.objs.size a hne its.toArray (by simp;lia)).toS (λ j z q=>let ⟨o,ho,hk,_⟩:=q.2.1;⟨o,ho,hk⟩)
   ⟨bS _,ir,let ⟨o,g,r⟩:=pl;⟨o,aA _ g,r⟩⟩ (λ b hb=>?_) (bz ..) (by simp only[aM];lia) λ z' ac mv io=>?_
  ·show b<(s1.heap.push (ip a ((its.toArray.size:Int)-1))).objs.size;rw[sz];simp only[bf,fP,fQ] at hb
   rcases hb with rfl|rfl
   ·exact im _
   ·exact dJ al
  have I3:Inv X pins σ H1 z':=by
   obtain⟨zh,zg,zd,zt,zo⟩:=z';have e1:zg=s1.gens:=mv.gens;have e2:zd=s1.drawn:=mv.drawn;have e3:zo=s1.os:=mv.os;subst e1 e2 e3;obtain⟨f0,f1,f2,f3,f4,f5⟩:=ff;exact I1.turned (t':=zt) (λ b o hb e=>mv.heap b o (by simpa using hb) (aA _ e)) f0 f1 f3 f4 f5
  have er:ac=its.reverse.toArray:=by
   have sz2:ac.size=its.length:=by simpa using io.1
   apply Array.ext
   ·simp[sz2]
   ·intro j h1 h2;have q:=io.2 j _ (oF h1);simp only[aM,vS] at q;have q2:its.reverse[j]?=some ac[j]:=by rw[ji fu];exact q
    rw[s0j];exact(bj ((az (by simpa using h2)).symm.trans q2)).symm
  subst er
  have I4:Inv X pins σ (upd H1 z'.heap.objs.size (.tup xs.reverse)) { z' with heap:=z'.heap.push { cls:=.type "tuple",data:=.seq its.reverse.toArray } } :=
   I3.laid (t':=z'.toks) (λ b o e=>aA _ e) (av _) (show ObjOk X.prog X.w _ _ _ (.tup xs.reverse) from ⟨by simpa using hz,its.reverse,rv.reverse,TupO.new _ _⟩)
  exact⟨.ref z'.heap.objs.size,_,I4,ca,q _ (I3.hok.fresh (av _))⟩
noncomputable def okS(k:Nat)(x:Str):Prop:=x.length<=k/\∀c∈x.cps.toList,c<1000
def okS.repr(h:okS k x):(reprText x).length<=10*k+2:=by
 have:=StrLaws.reprText_len x λ c hc=>bC (h.2 c hc) on;have:=h.1;lia
noncomputable def tFR(t1 t2:TE):TE:=λ σ H Q=>t1 σ H λ x H1=>∃a,x=.str a/\okS 1000 a/\t2 σ H1 λ y H2=>∃b,y=.str b/\okS 1000 b/\∀z,Q (.str z) H2
def FM{t1 t2:TE}(h1:PE X e1 t1)(h2:PE X e2 t2):PE X (.JoinedStr [e1,.FormattedValue e2 114 none p2] pos) (tFR t1 t2):=by
 intro pins s σ H Q I h;refine wpAny_JoinedStr (thn (h1 pins s σ H _ I h) λ v s1 ⟨x,H1,I1,r1,q1⟩=>?_);obtain⟨a,rfl,oa,q2⟩:=q1;obtain⟨ta,rfl⟩:=r1;have s20:20000<=sizeLine:=by rw[jW];decide
 have e0:∀z:Str,Str.empty++z=z:=λ z=>by show(⟨#[]++z.cps⟩:Str)=z;simp
 refine⟨a,ta,ca,?_,wpAny_FormattedValue_repr (thn (h2 pins s1 σ H1 _ I1 q2) λ v s2 ⟨y,H2,I2,r2,q3⟩=>?_)⟩
 ·rw[e0];have:=oa.1;lia
 obtain⟨b,rfl,ob,q⟩:=q3;obtain⟨tb,rfl⟩:=r2;have rb:=ob.repr;refine wpAny_pyReprObj_str (formatField_str (λ t' tk=>⟨_,t',ca,?_,?_,?_⟩) fu) fu
 ·rw[e0,strLen_append];have:=oa.1;lia
 ·rw[e0,strLen_append];have:=oa.1;lia
 ·exact⟨.str _,H2,(I2.tok _).tok _,⟨_,ca⟩,q _⟩
section
variable {es:List Expr}{x1:Nat}{pp:Pos}
end
instance (k:Nat)(x:Str):Decidable (okS k x):=by unfold okS;infer_instance
section
variable {tg:Expr}
end
noncomputable def FN(K:FG):R2:=λ x y H Q=>∃l b xs zs,x=.ref l/\y=.ref b/\SqL K H l xs/\SqL K H b zs/\xs.length+zs.length<=sizeLine/\∀p,H p=none->Q (.ref p) (upd H p (.lst (xs++zs)))
def sh:OpR X (binaryOp .Add) (FN X.K):=by
 intro pins s σ H x y v u Q I rx ry h;obtain⟨l,b,xs,zs,rfl,rfl,hH,hB,hz,q⟩:=h;cases rx;cases ry;obtain⟨its,r,⟨⟨c1,d1,z1,l1⟩,n,e,hc,hd,hs⟩,_⟩:=I.list hH;obtain⟨its2,r2,⟨⟨c2,d2,z2,l2⟩,n2,e2,hc2,hd2,hs2⟩,_⟩:=I.list hB;simp only at hc hd hs hc2 hd2 hs2;subst hc hd hs hc2 hd2 hs2;have a1:=r.length;have a2:=r2.length;have ea:its.toArray++its2.toArray=(its++its2).toArray:=pv;refine oi ⟨_,e,ca⟩ ⟨_,e2,ca⟩ noFill_list_add seq_list_add F.slot_list_add F.entry_list_add (F.args_list_add_2 _ _) (list_addW l b its.toArray its2.toArray n n2 _ _ _ _ (by rw[aM,aM];lia)) ⟨e,e2,?_⟩;rw[ea];exact⟨.ref _,_,I.lnew (t':=s.toks) (r.append r2) (by rw[aK];lia),ca,q _ I.fresh⟩
section
variable {pg:Program}{wd:World}{B:Around}{X0:VS}{s0:Shared}
end
section
variable {es:List Expr}{x1:Nat}{pp:Pos}
end
end _L
namespace _L
open PySem PySem.Spec PyProof.Rows PySem.W PySem.Calls
def FO(i j:Int):Prop:=IntMulOk i j
def FP:OpR X (binaryOp .Mult) (rI FO λ i j=>.int (i*j)):=opI λ _ _ _ _ _ _ _ hc q=>mul_int q hc
section
variable {prog:Program}{w:World}{A:Around}{E:VS}{s:Shared}
theorem vZ{l:Addr}{T:String}{vs:LV}{Q:VS}(hT:T="list" \/ T="tuple")(ho:s.heap.get? l=some o)(hc:o.cls=.type T)(hd:o.data=.seq vs.toArray n)(hI:IntsAre vs ns)(h64:vs.length<64)
  (h:∀(h1 h2:Heap) (vs':LV) (ns':LI) (e:Nat),(∀b u,s.heap.get? b=some u->h1.get? b=some u)->(∀b u,h1.get? b=some u->h2.get? b=some u)->h2.get? h1.objs.size=some (seqObj "list" vs'.toArray e)->IntsAre vs' ns'->ns'.Perm ns->ns'.Pairwise (·<=·)->Q (.ref h1.objs.size) { s with heap:=h2 }) :
  wpAny (model prog w) A (call (.builtin "sorted") [.ref l]) Q E s:=by
 refine Calls.call_function_entry kind_sorted plain_sorted entry_sorted (args_sorted1 _) ?_;unfold Builtin.«sorted»;refine af (m:=checkCount "sorted" 1 1 _) (aj ?_);refine af (wpAny_collect_seq l hT ho hc hd (λ h1 k1=>?_) (by simp only[aM];exact dq (aX fu)));rw[show vs.toArray.toList=vs by simp];refine af (wpAny_newList ?_);have hoL:(h1.push (seqObj "list" vs.toArray 0)).get? h1.objs.size=some (seqObj "list" vs.toArray 0):=aR _ rfl;refine af (du (fJ slot_list_sort ⟨_,hoL,ca⟩ entry_list_sort (list_sort_tree hoL hI h64 λ out ns' a1 a2 a3=>⟨_,ca,?_⟩) (args_list_sort _)));refine aj ⟨_,ca,?_⟩;obtain⟨e,he⟩:=sortedHeap_at (vs:=vs) (out:=out) hoL;refine h h1 _ out.toList ns' e k1 (λ b u q=>?_) (by rw[s0k];exact he) a1 a2 a3;have hlt:=aB q;rw[sortedHeap_old (aZ hlt) (by rw[size_push'];exact dJ hlt)];exact aA _ q
end
theorem wa:∀ {xs:List V}{us:LV},xs.length=us.length->(∀(i:Nat) u,us[i]?=some u->∃x,xs[i]?=some x/\RelV x u)->Vals xs us
 |[],[],_,_=>.nil
 |[],_::_,h,_=>by simp at h
 |_::_,[],h,_=>by simp at h
 |x::xs,u::us,h,f=>by
  obtain⟨y,e,r⟩:=f 0 u rfl;cases (bj e);exact .cons r (wa (by simpa using h) λ i v e=>f (i+1) v e)
variable {X:Cx}
def FQ:bR X (.builtin "sorted") (λ xs H Q=>∃p ns,xs=[.ref p]/\(SqL X.K H p (List.map V.int ns)\/SqT X.K H p (List.map V.int ns))/\ns.length<64/\∀ns':LI,ns'.Perm ns->ns'.Pairwise (·<=·)->∀l,H l=none->Q (.ref l) (upd H l (.lst (ns'.map V.int)))):=by
 intro pins s σ H xs us Q I r h;obtain⟨p,ns,rfl,hq,h64,q⟩:=h;obtain⟨u,rfl,rx⟩:=cB r;cases rx
 have fin:∀(h1 h2:Heap) (vs':LV) (ns':LI) (e:Nat),(∀b u,s.heap.get? b=some u->h1.get? b=some u)->(∀b u,h1.get? b=some u->h2.get? b=some u)->h2.get? h1.objs.size=some (seqObj "list" vs'.toArray e)->IntsAre vs' ns'->ns'.Perm ns->ns'.Pairwise (·<=·)->EP X pins σ Q (.ref h1.objs.size) { s with heap:=h2 }:=by
  intro h1 h2 vs' ns' e k1 k2 g a1 a2 a3;have I1:Inv X pins σ H { s with heap:=h1 }:=I.kept (t':=s.toks) k1;have hz:(ns'.map V.int).length<=sizeLine:=by rw[ak,a2.length_eq];exact dq (aX fu)
  have I2:Inv X pins σ (upd H h1.objs.size (.lst (ns'.map V.int))) { s with heap:=h2 }:=I1.laid (t':=s.toks) k2 (av _) (show ObjOk X.prog X.w _ _ _ (.lst (ns'.map V.int)) from ⟨hz,vs',e,rG a1,g⟩);exact⟨.ref h1.objs.size,_,I2,ca,q ns' a2 a3 _ (I1.hok.fresh (av _))⟩
 rcases hq with hq|hq
 ·obtain⟨its,r',pl,hz⟩:=I.list hq;have hi:=lT r';obtain⟨o,ho,hc,n,hd⟩:=pl.isList;exact vZ (.inl rfl) ho hc hd hi (by rw[hi.length];exact h64) fin
 ·obtain⟨its,r',pl,hz⟩:=I.tuple hq;have hi:=lT r';obtain⟨o,ho,hc,n,hd⟩:=pl;exact vZ (.inr rfl) ho hc hd hi (by rw[hi.length];exact h64) fin
def FR:bR X (.type "range") (λ xs H Q=>∃j:Int,xs=[.int j]/\∀r,H r=none->Q (.ref r) (upd H r (.rng 0 j))):=by
 intro pins s σ H xs us Q I r h;obtain⟨j,rfl,q⟩:=h;obtain⟨u,rfl,t,rfl⟩:=cB r;refine call_range_1 ⟨.ref s.heap.objs.size,_,I.laid (λ b o e=>aA _ e) (av _) ?_,ca,q _ (I.hok.fresh (av _))⟩;exact⟨_,_,_,aR _ rfl⟩
def upL(n:Nat):LI:=(List.range n).map λ(i:Nat)=>(i:Int)
def FS(hc:X.calm=true):bR X (.type "list") (λ xs H Q=>∃p n,xs=[.ref p]/\H p=some (.rng 0 (Int.ofNat n))/\n<=1000/\∀l,H l=none->Q (.ref l) (upd H l (.lst ((upL n).map V.int)))):=by
 intro pins s σ H xs us Q I r h;obtain⟨p,n,rfl,hp,hn,q⟩:=h;obtain⟨u,rfl,rx⟩:=cB r;cases rx;obtain⟨t,u,v,e⟩:=I.hok p _ hp
 have hs:Builtin.Range.small 0 (Int.ofNat n) 1=true:=by
  have z:∀m:Fin 1001,Builtin.Range.small 0 (Int.ofNat m.val) 1=true:=by decide +kernel
  exact z ⟨n,fu⟩
 have hsz:Builtin.Range.rangeSize 0 (Int.ofNat n) 1=n:=by
  unfold Builtin.Range.rangeSize;rw[if_pos on];split
  ·show(Int.ofNat n-0-1)/1+1=_;simp; 
  ·simp at *;lia
 refine call_list_range (I.ok.hd hc) e hs hsz fu λ h' tk acc' c' k g it=>?_
 have rv:Vals ((upL n).map V.int) acc'.toList:=by
  refine wa (by simp[upL,it.1]) λ i v e=>?_;rw[rF] at e;obtain⟨tt,rfl⟩:=it.2 i v e;have hi:i<n:=by rw[<- it.1];exact(vO.mp e).1
  exact⟨.int i,by simp[upL,hi],tt,pv⟩
 exact⟨.ref s.heap.objs.size,_,I.laid k (av _) (show ObjOk X.prog X.w _ _ _ (.lst _) from ⟨by simp[upL];exact dq (aX hn),acc'.toList,c',rv,by rw[s0k];exact g⟩),ca,q _ (I.hok.fresh (av _))⟩
def FU:MtR X "list.pop" lZ:=Ed
theorem FV{X:Cx}{i:Nat}{elt tg iter:Expr}{cl:LA}{pos pos' lpos:Pos}{own fv:List Str}{js:List Nat}
  (hN:X.N.Nodup) (hx1:X.N[i]?=some x) (hx:Loc X.env.scope x) (hf:X.fn x=true\/X.env.scope.names.lookup x=some .local)
  (hc:X.calm=true) (hi:PI X tg iter wi) (hclos:closureFor scope X.env=pure cl) (hcell:∀y∈scope.names,y.2≠.cell) (hkind:scope.kind=.function)
  (hnames:∀y∈scope.names,y.2=.local->scope.names.lookup y.1=some .local)
  (hcl:∀x c,cl.lookup x=some c->X.env.cells.lookup x=some c)
  (hhas:∀x,((relabel scope X.env).names.lookup x=some .cell\/(relabel scope X.env).names.lookup x=some .free)->∃c,cl.lookup x=some c)
  (hlen:js.length=fv.length) (hcap:∀(i:Nat) x j,fv[i]?=some x->js[i]?=some j->Cap X scope cl x j)
  (hg:∀(C:Addr) (ex:List Addr) (s:Shared) (H:Hp),PG (bp X (own++fv) scope cl C ex s H) tg g)
  (he:∀(C:Addr) (ex:List Addr) (s:Shared) (H:Hp),PE (bp X (own++fv) scope cl C ex s H) elt te)
  (hsw:swapsWith (.ListComp elt [⟨tg,iter,[],0⟩] scope lpos) (some (.Name x pos')) pos.line X.env=pure true:=by rfl)
  (hs:∀x,foldedSetIterable iter X.env x=pure x:=by intro _;rfl) :
  PS X (.Assign [.Name x pos'] (.ListComp elt [⟨tg,iter,[],0⟩] scope lpos) pos) (jT (kn wi own.length js g te) (dH i)):=by
 intro pins s σ H D I h;rw[wb _ _ _ _ hsw];refine af (gj ?_);rw[wc];have core:=vC (use:=some (assign (.Name x pos') X.env)) (QQ:=λ _ s'=>SP X pins D .next s') (fpos:=firstIterPos [⟨tg,iter,[],0⟩] lpos) (pos:=lpos) hc hi hclos hcell hkind hnames hcl hhas hlen hcap hg he hs I h (λ a C s5 H5 fl I5 zC zL zS zc zp ⟨m,hn⟩ q=>?_)
 ·refine af (af (thn core λ _ s' hq=>?_));exact aj (aj hq)
 ·show wpAny (model X.prog X.w) X.A (assign (.Name x pos') X.env (.ref a)) _ X.xe s5;show wpAny (model X.prog X.w) X.A (do standAt pos';bindName X.env x (.ref a)) _ X.xe s5;refine af (gj ?_);refine bindName_ ?_;refine qI I5 hN hx1 hx (show RelV (.ref a) (.ref a) from rfl) (λ s6 I6 ⟨b,sb,hb⟩=>?_) hf
  have cb:C≠b:=by
   rcases hb with rfl|hb
   ·exact zL
   ·exact λ z=>zc x b hb z.symm
  obtain⟨o,es,ep,e,r⟩:=hn;refine⟨m,⟨o,es,ep,(sb.2 C cb).trans e,r⟩,λ h' sc=>?_⟩;exact⟨_,H5,I6.turned (t':=s6.toks) (it:=C) (λ d o nd e=>sc.extBut d o nd e) zC zL (.inr zS) zc zp,q⟩
noncomputable def FW:V->Option Int->Option Int->Hp->VK->Prop:=λ x lo hi H Q=>∃z,x=.str z/\z.length<=4000000/\Q (.str (Txt.slice z lo hi)) H
def FY:SlR X FW:=by
 intro pins s σ H x v vl vu lo hi sl Q I rx hs pl pu h;obtain⟨z,rfl,hz,q⟩:=h;obtain⟨t,rfl⟩:=rx;have s20:4000000<=sizeLine:=by rw[jW];decide
 have part:∀ {u:Value}{o:Option Int},IsPart u o->∃l,u=partValue l/\o=l.map λ p:Int×Tok=>p.1:=λ p=>by
  cases p with
  |none=>exact⟨none,rfl,rfl⟩
  |int i t=>exact⟨some (i,t),rfl,rfl⟩
 obtain⟨l,rfl,rfl⟩:=part pl;obtain⟨u,rfl,rfl⟩:=part pu;obtain⟨o,ho,hc,hd⟩:=hs;refine⟨"str",_,F.slot_str_getitem.lookup,typeIs_str _ _ _,wpAny_getItem_str_slice (l:=l) (u:=u) (st:=none) ⟨o,ho,hc,hd⟩ rfl ?_⟩;have le:=Txt.slice_le z (l.map λ p:Int×Tok=>p.1) (u.map λ p:Int×Tok=>p.1);exact post_val_or_str ⟨cI le fu,λ t' k=>⟨.str _,H,I.tok k,⟨t',ca⟩,q⟩⟩
theorem we:∀ {bs:List Bool}{us:LV},Vals (bs.map V.bl) us->us=bs.map Value.bool
 |[],_,.nil=>rfl
 |b::bs,_,.cons r t=>by
  cases (show _=Value.bool b from r);rw[we t];rfl
def FZ(hc:X.calm=true):bR X (.builtin "any") (λ xs H Q=>∃(a:Addr) (bs:List Bool),xs=[.ref a]/\SqL X.K H a (bs.map V.bl)/\Q (.bl (bs.any id)) H):=by
 intro pins s σ H xs us Q I r h;obtain⟨a,bs,rfl,hq,q⟩:=h;obtain⟨u,rfl,ru⟩:=cB r;cases (show u=Value.ref a from ru);obtain⟨its,rv,pl,hz⟩:=I.list hq;have hl:=pl.isList;have hlt:a<s.heap.objs.size:=by obtain⟨_,e,_⟩:=hl;exact aB e
 have hb:=we rv;subst hb;refine call_any_walk (si hl ?_)
 refine⟨s.heap.objs.size,[s.heap.objs.size,a],[s.heap.objs.size],(bs.map Value.bool).toArray.size,_,_,λ i=>(bs[i]?).getD false,ca,Walks.list (A:=X.A.in1) (I.ok.hd hc) _ a (aZ hlt) (bs.map Value.bool).toArray,
  ⟨⟨_,aR _ rfl,rfl,rfl⟩,hl.push _⟩,λ i v s' Q' E' hP hQ=>?_,λ h' tk hk=>?_⟩
 ·have hP:(bs.map Value.bool)[i]?=some v:=by simpa using hP
  rw[aL] at hP
  cases e:bs[i]? with
  |none=>rw[e] at hP;cases hP
  |some b=>
   rw[e] at hP;cases hP;simp only[e,Option.getD_some] at hQ;exact fG hQ
 ·have e:((List.range (bs.map Value.bool).toArray.size).any λ i=>(bs[i]?).getD false)=bs.any id:=by
   rw[aM,ak];exact LSm.range_any bs
  rw[e];exact⟨.bl _,H,I.kept (t':=tk) (LSm.kept_iter hk),ca,q⟩
section
variable {κ:Type} [DecidableEq κ]
noncomputable def jm(kvs:List (κ×V))(k:κ):Option V:=(kvs.find? λ kv=>decide (kv.1=k)).map (·.2)
def wf{p:κ×V}{r:List (κ×V)}{k:κ}(e:p.1=k):jm (p::r) k=some p.2:=by simp[jm,List.find?_cons,e]
def wg{p:κ×V}{r:List (κ×V)}{k:κ}(e:¬p.1=k):jm (p::r) k=jm r k:=by simp[jm,List.find?_cons,e]
def RelO.getD(r:RelO o u)(rd:RelV d d'):RelV (o.getD d) (u.getD d'):=by
 cases o with
 |none=>cases u with
  |none=>exact rd
  |some _=>exact(show False from r).elim
 |some _=>cases u with
  |none=>exact(show False from r).elim
  |some _=>exact r
def KV.val{vs:List (κ×Value)}(r:KV kvs vs)(k:κ):RelO (jm kvs k) (valueAt vs k):=by
 unfold KV at r
 induction r with
 |nil=>exact ky
 |@cons p q ps qs h t ih=>
  obtain⟨h1,h2⟩:=h;by_cases e:p.1=k
  ·have e':q.1=k:=h1.symm.trans e;have b:valueAt (q::qs) k=some q.2:=by simp[valueAt,List.find?_cons,e']
   rw[wf e,b];exact h2
  ·have e':¬q.1=k:=λ z=>e (h1.trans z);have b:valueAt (q::qs) k=valueAt qs k:=by simp[valueAt,List.find?_cons,e']
   rw[wg e,b];exact ih
end
noncomputable abbrev KT(H:Hp):List (List Key×V)->List (List Key×Addr×Value)->Prop:=Paired λ p q=>p.1=q.1/\H q.2.1=some (.tup (p.1.map kV))/\RelV p.2 q.2.2
def KT.val(r:KT H kvs xs)(k:List Key):RelO (jm kvs k) ((atKey xs k).map (·.2)):=by
 induction r with
 |nil=>exact ky
 |@cons p q ps qs h t ih=>
  obtain⟨h1,_,h2⟩:=h;by_cases e:p.1=k
  ·have e':q.1=k:=h1.symm.trans e;have b:atKey (q::qs) k=some q.2:=by simp[atKey,List.find?_cons,e']
   rw[wf e,b];exact h2
  ·have e':¬q.1=k:=λ z=>e (h1.trans z);have b:atKey (q::qs) k=atKey qs k:=by simp[atKey,List.find?_cons,e']
   rw[wg e,b];exact ih
section
variable {P:Program}{w:World}{H:Hp}{h:Heap}{a:Addr}
end
section
variable {pins:LO}{σ:St}{H:Hp}{s:Shared}{a:Addr}{y v:V}{u r:Value}{o:Option V}{A:Around}{E:VS}
def Inv.big(I:Inv X pins σ H s):sysModules<s.heap.objs.size:=by
 have h:mainGlobals<s.heap.objs.size:=(I.mod.glob.keeps I.bk).lt;exact oH on h
end
section
variable {pins:LO}{σ:St}{H:Hp}{s:Shared}{a:Addr}{kvs:List (Key×V)}{k:Key}{u:Value}{A:Around}{E:VS}
end
noncomputable def wj(i:Expr):Prop:=∀ov iv,subscripted i false ov iv=operate [ov,iv] (getItem ov iv)
theorem Ga{T id:String}
  (hl:typeLookup (.type T) "__getitem__"=pure (some (.builtin id))) (hs:wj slice)
  (h:wpAny (model prog w) A (eval value env) (λ o s₁=>wpAny (model prog w) A (eval slice env) (λ i s₂=>s₂.TypeIs o T/\wpAny (model prog w) A (getItem o i) Q E s₂) E s₁) E s) :
  wpAny (model prog w) A (eval (.Subscript value slice pos) env) Q E s:=by
 refine Subscript_ (bQ h (λ o s₁ h₁=>bQ h₁ (λ i s₂ h₂=>?_) λ _ _ x=>x) λ _ _ x=>x);obtain⟨hT,h₂⟩:=h₂;unfold subscriptTail;refine af ?_;rw[getitemInPython_of_ne hT.not_modules];refine af (iq hT hl ?_)
 have fin:wpAny (model prog w) A (subscripted slice false o i) (λ r s₃=>wpAny (model prog w) A (letTemporaryGo value o r >>= λ _=>pure r) Q E s₃) E s₂:=by
  rw[hs o i];exact wpAny_operating (bQ h₂ (λ r s₃ h₃=>af (wpAny_letTemporaryGo (aj h₃))) λ _ _ x=>x)
 first
  |exact aj (af fin)
  |exact af (aj (af fin))
  |exact af fin
section
variable {o i e value:Expr}{pos pos' tpos:Pos}{td ty tv:TE}
end
section
variable {pos:Pos}
end
structure M1 (X:Cx)(o:Expr)(m:Str)(apos:Pos)(e:Expr)(cpos:Pos):Prop where
 base:attributeBase o m X.env (eval o X.env)=eval o X.env
 few:((backTo cpos (starEach [e] X.env)).all (λ x=>!x.1) && (backToKw cpos (keywordEach [] X.env)).all (λ x=>x.1.isSome)
  && decide (([e]:List Expr).length+([]:List Keyword).length+(if ([]:List Keyword).isEmpty then 0 else 1)<30))=true
 line:(apos.endLine == cpos.line)=true
 trees:backTo cpos (starEach [e] X.env)=[(false,eval e X.env)]
section
variable {pins:LO}{σ:St}{H:Hp}{s:Shared}{a:Addr}{y d:V}{u r:Value}{o:Option V}{A:Around}{E:VS}
end
section
variable {o e f:Expr}{apos cpos:Pos}{td ty tx:TE}
end
section
variable {pins:LO}{σ:St}{H:Hp}{s:Shared}{a:Addr}{kvs:List (Key×V)}{A:Around}{E:VS}
end
section
variable {pins:LO}{σ:St}{H:Hp}{s:Shared}{a:Addr}{y:V}{u:Value}{A:Around}{E:VS}
end
section
variable {κ:Type} [DecidableEq κ]
end
noncomputable def KTab(P:Program)(w:World)(K:FG)(d:Addr)(kvs:LA):Prop:=(d == sysModules)=false/\∀h:Heap,K.In h->h.DictOf (qG P w) d (kvs.map λ p=>((Sum.inr p.1:Key),Value.ref p.2))
noncomputable def Gb(pm:Params)(l:List (Str×Tok×Addr)):List DictEntry:=l.map λ p=>⟨PyData.keyHash pm p.1,.str p.1 p.2.1,.ref p.2.2⟩
theorem KTab.mk{w:World}{K:FG}{d:Addr}(hd:(d == sysModules)=false)(hl:K.lookup d=some { cls:=.type "dict",data:=.dict es n })(he:es.toList=Gb w.params l)(nd:(l.map (·.1)).Nodup) :
  KTab P w K d (l.map λ p=>(p.1,p.2.2)):=by
 refine⟨hd,λ h KI=>⟨_,es,n,KI d _ hl,⟨ca,ca,ca⟩,ca,?_,?_,?_⟩⟩
 ·intro e hm;have hm:e∈es.toList:=Array.mem_toList_iff.mpr hm;rw[he] at hm;obtain⟨p,_,rfl⟩:=bD.mp hm;exact⟨Sum.inr p.1,qE p.1 p.2.1,ca⟩
 ·rw[he];clear he nd hl
  induction l with
  |nil=>exact .nil
  |cons p r ih=>exact .cons (qE p.1 p.2.1) rfl ih
 ·rw[bK,bK];have e:((λ x:Key×Value=>x.1) ∘ (λ p:Str×Addr=>((Sum.inr p.1:Key),Value.ref p.2))) ∘ (λ p:Str×Tok×Addr=>(p.1,p.2.2))=(λ x:Str=>(Sum.inr x:Key)) ∘ λ p=>p.1:=rfl;rw[<- bK] at *
  have z:(l.map λ p=>(Sum.inr p.1:Key)).Nodup:=by
   have:(l.map λ p=>(Sum.inr p.1:Key))=(l.map (·.1)).map (λ x:Str=>(Sum.inr x:Key)):=by rw[bK];rfl
   rw[this];exact List.Pairwise.map _ (λ a b (h:a≠b) z=>h (s1u z)) nd
  simpa [bK,Function.comp_def] using z
def Gc{kvs:LA}:valueAt (kvs.map λ p=>((Sum.inr p.1:Key),Value.ref p.2)) (Sum.inr x)=(kvs.lookup x).map Value.ref:=by
 induction kvs with
 |nil=>rfl
 |cons p r ih=>
  obtain⟨k,a⟩:=p;unfold valueAt at *;rw[bA,List.find?_cons,ef];by_cases e:x=k
  ·subst e;simp
  ·have h1:decide ((Sum.inr k:Key)=Sum.inr x)=false:=bo λ z=>e (s1u z).symm;have h2:(x == k)=false:=qF.mpr e;rw[h2];simp only[h1];exact ih
noncomputable def Gd(kvs:LA):V->Hp->VK->Prop:=λ y H Q=>∃x a,y=.str x/\kvs.lookup x=some a/\Q (.ref a) H
noncomputable def Ge(kvs:LA)(te:TE):TE:=λ σ H Q=>te σ H λ y H1=>Gd kvs y H1 Q
theorem Gf(hg:Gl X n)(hm:X.mg n=some (.ref d))(T:KTab X.prog X.w X.K d kvs)(hi:PE X i te)(hs:wj i)(hdb:(n == ("__debug__" : Str))=false:=by decide) :
  PE X (.Subscript (.Name n np) i pos) (Ge kvs te):=by
 intro pins s σ H Q I h;refine Ga PySem.F.slot_dict_getitem.lookup hs (hZ I hg hm (thn (hi pins s σ H _ I h) λ iv s2 ⟨y,H2,I2,ry,x,a,ey,l,q⟩=>?_) hdb);subst ey;obtain⟨t,rfl⟩:=ry;have dd:=T.2 s2.heap I2.kIn;refine⟨dd.typeIs,wpAny_getItem_of (qE x t) dd.mapOf (v:=.ref a) (by rw[Gc,l];rfl) ⟨.ref a,H2,I2.tok _,ca,q⟩⟩
noncomputable def KTup(K:FG)(a:Addr)(xs:List V):Prop:=∃(o:Obj) (its:Array Value) (n:Nat),K.lookup a=some o/\o.cls=.type "tuple" /\ o.dict=none/\o.data=.seq its n/\its.size<=sizeLine/\Vals xs its.toList
def KTup.sq{K:FG}(h:KTup K a xs):SqT K H a xs:=.inr h
section
variable {pg:Program}{wd:World}{B:Around}{X0:VS}{s0:Shared}
end
section
variable {es:List Expr}{x1:Nat}{pp:Pos}
end
section
variable {P:Program}{w:World}{K:FG}{mg:SV}{base:Heap}
end
section
variable {CX:CXT}{k:Nat}{ps:List Str}{dvs:List V}{sp:Sp}{E:XK}{x:Str}{p pos:Pos}{e:Expr}{es:List Expr}{t:TA}
end
section
open PySem.Builtin PySem.Builtin.Str
end
section
variable {pg:Program}{wd:World}{B:Around}{X0:VS}{s0:Shared}{J d:Addr}{m:Nat}{Pr:Nat->Value->Prop}{OK:Heap->Prop}
end
section
variable {pg:Program}{wd:World}{B:Around}{X0:VS}{z0:Shared}
end
def Gh(r:Vals xs us){j:Nat}(h:j<us.toArray.size):∃z,xs[j]?=some z/\RelV z us.toArray[j]:=by
 have l:=r.length;have k:j<xs.length:=by rw[l];simpa using h
 obtain⟨u,hu,ru⟩:=r.get (az k)
 have e:us.toArray[j]=u:=by
  have z:us[j]?=some (us[j]'(by simpa using h)):=az _;rw[z] at hu;simpa using hu
 exact⟨_,az k,by rw[e];exact ru⟩
section
variable {pins:LO}{σ:St}{H:Hp}{s:Shared}
end
noncomputable def Gi(K:FG)(tl:TE):TI:=λ σ H R=>tl σ H λ x H1=>(∃a,x=.ref a/\(∃xs,SqL K H1 a xs)/\R (Itl K a) H1)\/(∃a,x=.ref a/\(∃xs,SqT K H1 a xs)/\R (Itt K a) H1)
def Gj(hl:PE X l tl):PI X tg l (Gi X.K tl):=by
 intro pins s σ H R I h;refine thn (hl pins s σ H _ I h) λ v s1 ⟨x,H1,I1,r1,q1⟩=>?_
 rcases q1 with ⟨a,e,⟨xs,hq⟩,q⟩|⟨a,e,⟨xs,hq⟩,q⟩
 ·subst e;cases r1;obtain⟨its,rv,p,hz⟩:=I1.list hq;refine si p.isList ?_;refine⟨s1.heap.objs.size,[s1.heap.objs.size],_,_,H1,ca,I1.kept (t':=s1.toks) λ b o e=>aA _ e,Cp a _,⟨_,aR _ rfl,ca,ca⟩,λ b hb=>?_,q⟩;have e:b=s1.heap.objs.size:=by simpa using hb
  subst e;exact I1.fpOk (av _) (I1.hok.fresh (av _))
 ·subst e;cases r1;obtain⟨its,rv,p,hz⟩:=I1.tuple hq;refine sj (show s1.heap.IsTuple a its.toArray from p) ?_;refine⟨s1.heap.objs.size,[s1.heap.objs.size],_,_,H1,ca,I1.kept (t':=s1.toks) λ b o e=>aA _ e,Cu a _,⟨_,aR _ rfl,ca,ca⟩,λ b hb=>?_,q⟩;have e:b=s1.heap.objs.size:=by simpa using hb
  subst e;exact I1.fpOk (av _) (I1.hok.fresh (av _))
section
variable {tg:Expr}
end
theorem my:∀(names:List (Str×NameKind)) (n:Nat) (acc:LA),cellsFrom n names acc=cellsFrom n names []++acc
 |[],_,_=>rfl
 |(x,k)::r,n,acc=>by
  unfold cellsFrom;split
  ·rw[my r (n+1) ((x,n)::acc),my r (n+1) [(x,n)],jd];rfl
  ·exact my r n acc
theorem gD{α:Type}:∀ {a b:List (Str×α)}{x:Str},(a++b).lookup x=match a.lookup x with|some c=>some c|none=>b.lookup x
 |[],_,_=>rfl
 |(y,c)::a,b,x=>by
  rw[jn,ef,ef]
  cases x == y with
  |true=>rfl
  |false=>exact gD
theorem wl{α:Type}{y:Str}:∀ {cl:List (Str×α)}{q:Str×α},q∈cl->q.1=y->(cl.lookup y).isSome=true
 |a::r,q,hq,e=>by
  rw[ef]
  cases q0:y == a.1 with
  |true=>rfl
  |false=>
   rcases bf.mp hq with z|z
   ·rw[<- z,e,kz] at q0;cases q0
   ·exact wl z e
theorem wn{α:Type}:∀ {cl:List (Str×α)}{q:Str×α},(cl.map (·.1)).Nodup->q∈cl->cl.lookup q.1=some q.2
 |a::r,q,nd,hq=>by
  rw[ef]
  rcases bf.mp hq with z|z
  ·rw[<- z,kz]
  ·have na:=(fH.mp nd).1
   have:(q.1 == a.1)=false:=by
    cases q0:q.1 == a.1 with
    |false=>rfl
    |true=>exact absurd (bD.mpr ⟨q,z,kh q0⟩) na
   rw[this];exact wn (fH.mp nd).2 z
theorem oJ{x:Str}:∀ {names:List (Str×NameKind)}{n:Nat},(∀y∈names,y.2=.cell->y.1≠x)->(cellsFrom n names []).lookup x=none
 |[],_,_=>rfl
 |(y,k)::r,n,h=>by
  unfold cellsFrom;split
  ·rename_i hk;rw[my,gD,oJ λ z hz=>h z (aW _ hz)];have hy:y≠x:=h (y,k) bz (kh hk);show List.lookup x [(y,n)]=none;rw[ef]
   have:(x == y)=false:=by
    cases q:x == y with
    |false=>rfl
    |true=>exact absurd (kh q).symm hy
   rw[this];rfl
  ·exact oJ λ z hz=>h z (aW _ hz)
section
variable {M:Model}{A:Around}{E:VS}{s₀ s:Shared}{m cm:SV}{env:Env}{cs:LA}
theorem Gk{v:Value}{Q:Unit->Shared->Prop}(x:InCallC s₀ env.locals m cs cm s)(hk:env.scope.kind=.function)(hl:env.kindOf n=some .local)
  (h:∀s',InCallC s₀ env.locals (λ y=>if y=n then some v else m y) cs cm s'->Q () s'):wpAny M A (storeName env n v) Q E s:=by
 refine uB hl x.toInCall.ns (λ h' hn' hs'=>h _ ⟨⟨?_,hn',λ b o e=>?_,x.toInCall.fresh⟩,λ k c hc=>?_,x.apart,x.above⟩) (by rw[hk];rfl)
 ·obtain⟨h₁,tk,rfl⟩:=x.toInCall.same;exact⟨h',_,ca⟩
 ·exact hs'.extBut b o (aZ (bC (aB e) x.toInCall.fresh)) (x.toInCall.keep b o e)
 ·exact(x.cell k c hc).sameBut hs' (lJ (x.above k c (dw hc)))
theorem Gm{v:Value}{Q:Unit->Shared->Prop}(x:InCallC s₀ env.locals m cs cm s)(hk:env.scope.kind=.function)(hl:env.kindOf n=some .cell)
  (hc:cs.lookup n=some c) (he:env.cells.lookup n=some c)
  (h:∀s',InCallC s₀ env.locals m cs (λ y=>if y=n then some v else cm y) s'->Q () s'):wpAny M A (storeName env n v) Q E s:=by
 have hLc:=x.above n c (dw hc);refine s0g hk hl he (x.cell n c hc) λ h' hc' hs'=>h _ ⟨⟨?_,x.toInCall.ns.sameBut hs' (aZ hLc),λ b o e=>?_,x.toInCall.fresh⟩,λ k c' hk'=>?_,x.apart,x.above⟩
 ·obtain⟨h₁,tk,rfl⟩:=x.toInCall.same;exact⟨h',_,ca⟩
 ·exact hs'.extBut b o (aZ (oH (bC (aB e) x.toInCall.fresh) hLc)) (x.toInCall.keep b o e)
 ·by_cases hkn:k=n
  ·subst hkn;rw[hc] at hk';cases hk';simpa using hc'
  ·rw[if_neg hkn];exact(x.cell k c' hk').sameBut hs' λ e=>hkn (og x.apart (dw hk') (e ▸ dw hc))
theorem sr(f:Str×Value->PUnit->Sem (ForInStep PUnit))(hf:∀n v u,f (n,v) u=(do storeName env n v;pure (.yield ⟨⟩)))(hk:env.scope.kind=.function)(hcs:∀n c,cs.lookup n=some c->env.cells.lookup n=some c) :
  ∀(binds:List (Str×Value)) (m cm:SV) (s:Shared) (Q:PUnit->Shared->Prop),InCallC s₀ env.locals m cs cm s ->
   (∀x∈binds,env.kindOf x.1=some .local\/(env.kindOf x.1=some .cell/\(cs.lookup x.1).isSome=true)) ->
   (∀s',InCallC s₀ env.locals (bindL env.kindOf binds m) cs (bindC env.kindOf binds cm) s'->Q ⟨⟩ s')->wpAny M A (forIn binds ⟨⟩ f) Q E s
 |[],m,cm,s,Q,x,_,h=>by rw[List.forIn_nil];exact aj (h s x)
 |(n,v)::r,m,cm,s,Q,x,hkind,h=>by
  rw[mB,hf];have hr:∀y∈r,env.kindOf y.1=some .local\/(env.kindOf y.1=some .cell/\(cs.lookup y.1).isSome=true):=λ y hy=>hkind y (aW _ hy)
  rcases hkind (n,v) bz with hl|⟨hl,hc⟩
  ·refine af (af (Gk x hk hl λ s' x'=>aj (sr f hf hk hcs r _ _ s' Q x' hr λ s'' x''=>h s'' ?_)));unfold bindL bindC;rw[if_pos hl,if_pos hl];exact x''
  ·obtain⟨c,hc⟩:=ka.mp hc;have hnl:¬env.kindOf n=some .local:=by rw[hl];decide
   refine af (af (Gm x hk hl hc (hcs n c hc) λ s' x'=>aj (sr f hf hk hcs r _ _ s' Q x' hr λ s'' x''=>h s'' ?_)));unfold bindL bindC;rw[if_neg hnl,if_neg hnl];exact x''
end
section
variable {M:Model}{A:Around}{E:VS}{s:Shared}
theorem wo{scope:Scope}{globals:Addr}{cl:LA}{binds:List (Str×Value)}{code:Value}{Q:Env->Shared->Prop}
  (hk:scope.kind=.function)
  (hkind:∀x∈binds,scope.names.lookup x.1=some .local\/(scope.names.lookup x.1=some .cell/\((cellsFrom (s.heap.objs.size+1) scope.names []).lookup x.1).isSome=true))
  (hQ:∀env,env=newEnv scope s.heap.objs.size globals (cellsFrom (s.heap.objs.size+1) scope.names []++cl) qual func code none builtins ->
   ∀s',InCallC s env.locals (bindL env.kindOf binds λ _=>none) (cellsFrom (s.heap.objs.size+1) scope.names []) (bindC env.kindOf binds λ _=>none) s'->Q env s') :
  wpAny M A (newFunctionEnv scope globals cl binds qual func code none builtins) Q E s:=by
 simp only[newFunctionEnv,Option.isSome_none,oK,s0f];refine af (wpAny_alloc ?_);refine af (wpAny_layCells _ (λ name kind cells=>by cases hkc:kind == NameKind.cell<;>simp[hkc]) _ _ _ _ ?_);have ok:=cellsFrom_ok scope.names (s.heap.push { cls:=.type "frame",data:=.dict #[] }) (s.heap.objs.size+1) [] ⟨λ _ _ hm=>(nomatch hm),List.Pairwise.nil⟩ (by rw[fK];exact av _);rw[fK] at ok;rw[show({ s with heap:=s.heap.push { cls:=.type "frame",data:=.dict #[] } }:Shared).heap.objs.size=s.heap.objs.size+1 from fK ..];rw[my scope.names (s.heap.objs.size+1) cl]
 refine af (sr (s₀:=s) (cs:=cellsFrom (s.heap.objs.size+1) scope.names []) (env:=newEnv scope s.heap.objs.size globals (cellsFrom (s.heap.objs.size+1) scope.names []++cl) qual func code none builtins)
  _ (λ _ _ _=>rfl) hk (λ n c hc=>by show List.lookup n (cellsFrom (s.heap.objs.size+1) scope.names []++cl)=some c;rw[gD,hc]) binds (λ _=>none) (λ _=>none) _ _
  ⟨⟨⟨_,_,rfl⟩,(Heap.Ns.new s.heap (.type "frame")).keeps (pushCells_keeps _ _),λ b o e=>pushCells_keeps _ _ b o (aA _ e),av _⟩,
   λ n c hc=>(ok.empty n c (dw hc)).1,ok.apart,λ n c hm=>(ok.empty n c hm).2⟩
  hkind λ s' x=>aj (hQ _ rfl s' x))
end
noncomputable def kA(c:Addr)(v:V):HO:=.ext λ h=>∃u,RelV v u/\h.IsCell c (some u)
noncomputable def cz(c:Addr)(qual:Str):HO:=.ext λ h=>h.CodeRec (.ref c) qual
noncomputable def eh(fa c':Addr)(qual:Str)(params:Arguments)(body:Expr)(scope:Scope)(cl:LA):HO:=.ext λ h=>∃pm ctv,h.get? fa=some (kla_obj "<lambda>" qual params body scope cl pm c' ctv)
structure CelAt (H:Hp)(cl:LA)(vcs:List V):Prop where
 len:cl.length=vcs.length
 at_:∀(i:Nat) q,cl[i]?=some q->∃v o,vcs[i]?=some v/\H q.2=some (.frz o (kA q.2 v))
 apart:cl.Pairwise λ x y=>x.2≠y.2
def CelAt.mem{cl:LA}(h:CelAt H cl vcs){q:Str×Addr}(hq:q∈cl):∃o v,H q.2=some (.frz o (kA q.2 v)):=by
 obtain⟨i,e⟩:=kB.mp hq;obtain⟨v,o,_,e2⟩:=h.at_ i q e;exact⟨o,v,e2⟩
open Classical in
noncomputable def minC(H:Hp)(cl:LA):Hp:=λ b=>if ∃q∈cl,q.2=b then none else H b
open Classical in
noncomputable def resC(H H':Hp)(cl:LA):Hp:=λ b=>if ∃q∈cl,q.2=b then H b else H' b
def kC{cl:LA}{q:Str×Addr}(h:q∈cl):minC H cl q.2=none:=if_pos ⟨q,h,rfl⟩
def cO{cl:LA}{b:Addr}(h:∀q∈cl,q.2≠b):minC H cl b=H b:=if_neg λ⟨q,hq,e⟩=>h q hq e
def Gn{cl:LA}(h:minC H cl b=some o):H b=some o/\∀q∈cl,q.2≠b:=by
 by_cases c:∃q∈cl,q.2=b
 ·rw[show minC H cl b=none from if_pos c] at h;cases h
 ·rw[show minC H cl b=H b from if_neg c] at h;exact⟨h,λ q hq e=>c ⟨q,hq,e⟩⟩
def gE{H:Hp}{cl:LA}(h:H b=none):minC H cl b=none:=by
 by_cases c:∃q∈cl,q.2=b
 ·exact if_pos c
 ·rw[show minC H cl b=H b from if_neg c];exact h
def fR{cl:LA}{q:Str×Addr}(h:q∈cl):resC H H' cl q.2=H q.2:=if_pos ⟨q,h,rfl⟩
def cU{cl:LA}{b:Addr}(h:∀q∈cl,q.2≠b):resC H H' cl b=H' b:=if_neg λ⟨q,hq,e⟩=>h q hq e
def HOk.minC{cl:LA}(x:HOk P w H h)(hc:CelAt H cl vcs):HOk P w (minC H cl) h:=λ b o e=>by
 obtain⟨e1,_⟩:=Gn e
 have nf:∀c u,H c=some u->(∀ob v,u≠.frz ob v)->_L.minC H cl c=some u:=λ c u e2 n=>by
  rw[cO λ q hq z=>?_]
  ·exact e2
  ·obtain⟨ob,v,e3⟩:=hc.mem hq;rw[z,e2] at e3;exact n _ _ (bj e3)
 exact(x b o e1).stay (λ _ _ _ q=>q) (λ c q=>nf c _ q λ _ _ z=>nomatch z) λ c xs q=>nf c _ q λ _ _ z=>nomatch z
structure LmScope (N ps fv:List Str)(sc:Scope):Prop where
 kind:sc.kind=.function
 co:sc.isCoroutine=false
 gen:sc.isGenerator=false
 nd:N.Nodup
 pre:N.take (ps++fv).length=ps++fv
 par:∀x∈ps,sc.names.lookup x=some .local\/sc.names.lookup x=some .cell
 fre:∀x∈fv,sc.names.lookup x=some .free
 has:∀y∈sc.names,y.2=.free->y.1∈fv
 own:∀x∈fv,∀y∈sc.names,y.2=.cell->y.1≠x
noncomputable def iy(P:Program)(w:World)(K:FG)(mg:SV)(base:Heap)(N:List Str)(qual:Str)(scope:Scope)(f:Addr)(cd:Value)(cl:LA)(A:Around)(outer:List Env)(s:Shared)(H:Hp):Cx where
 prog:=P
 w:=w
 K:=K
 mg:=mg
 base:=base
 A:=A.deeper (envX qual scope s.heap.objs.size f cd (cellsFrom (s.heap.objs.size+1) scope.names []++cl))
 N:=N
 s₀:=s
 H₀:=H
 env:=envX qual scope s.heap.objs.size f cd (cellsFrom (s.heap.objs.size+1) scope.names []++cl)
 outer:=outer
 stack:=envX qual scope s.heap.objs.size f cd (cellsFrom (s.heap.objs.size+1) scope.names []++cl)::outer
 ex:=[]
 calm:=true
 fn:=λ x=>decide (scope.names.lookup x=some .cell)
 pn:=[]
 xe:=λ _ _=>False
def Go{vs:List V}{i:Nat}(h:(start N vs)[i]?=some (some v)):vs[i]?=some v:=by
 unfold start at h
 have hi:i<vs.length:=by
  by_cases hi:i<vs.length
  ·exact hi
  ·rw[dW (by simpa using hi),iY] at h;split at h<;>cases h
 rw[cZ (by simpa using hi),aL] at h
 cases e:vs[i]? with
 |none=>rw[e] at h;cases h
 |some a=>rw[e] at h;cases h;rfl
theorem wp{K:FG}{N ps fv:List Str}{cl:LA}{A:Around}{s s1:Shared}{vs vcs:List V}
  (S:LmScope N ps fv scope) (hd:A.handled=none) (e0:Env0 P w K mg base A outer s H) (hl:vs.length=ps.length) (r:Vals vs us) (hcl:cl.map (·.1)=fv) (hc:CelAt H cl vcs)
  (x:InCallC s s.heap.objs.size (bindL (λ x=>scope.names.lookup x) (ps.zip us) λ _=>none) (cellsFrom (s.heap.objs.size+1) scope.names []) (bindC (λ x=>scope.names.lookup x) (ps.zip us) λ _=>none) s1) :
  Inv (iy P w K mg base N qual scope f cd cl A outer s (minC H cl)) [] (start N (vs++vcs)) (minC H cl) s1:=by
 obtain⟨h1,tk,rfl,hk⟩:=x.done;have cll:cl.length=fv.length:=by rw[<- hcl,ak]
 have hpl:(ps++fv).length<=N.length:=by have:=br List.length S.pre;rw[bc] at this;lia
 have noA:∀b:Addr,b ∉ (iy P w K mg base N qual scope f cd cl A outer s (minC H cl)).ex:=λ b z=>absurd (show b∈([]:List Addr) from z) pv
 have old:∀q∈cl,q.2<s.heap.objs.size:=λ q hq=>by
  obtain⟨o,v,e⟩:=hc.mem hq;exact e0.hok.lt e
 have celv:∀(i:Nat) q,cl[i]?=some q->∃v u,vcs[i]?=some v/\RelV v u/\h1.IsCell q.2 (some u):=λ i q e=>by
  obtain⟨v,o,e1,e2⟩:=hc.at_ i q e;obtain⟨_,⟨u,ru,ic⟩,_⟩:=e0.hok _ _ e2;exact⟨v,u,e1,ru,ic.keeps hk⟩
 have lk:∀y c,(cellsFrom (s.heap.objs.size+1) scope.names []++cl).lookup y=some c->(y,c)∈cellsFrom (s.heap.objs.size+1) scope.names []\/(y,c)∈cl:=λ y c e=>cJ.mp (dw e);have abv:∀y c,(y,c)∈cellsFrom (s.heap.objs.size+1) scope.names []->s.heap.objs.size<=c:=λ y c e=>dq (x.above y c e)
 refine⟨⟨e0.mod,S.kind,ca,ca,av _,λ y z c h1 h2=>?_,λ y hy=>?_,λ y c hf h=>?_,λ _=>hd,s0h e0.frames,.inr ⟨ca,ca⟩,λ b z=>absurd z (noA b),λ b o e=>⟨(e0.bs b o e).1,gE (e0.bs b o e).2⟩,e0.bsz,λ b _ _=>noA b,λ b z=>absurd z (noA b),e0.funs,λ b hb=>gE (e0.frf b hb)⟩,
  rfl,e0.bare,Un.kept hk,⟨_,x.toInCall.ns,λ i y v h1 h2 h3=>?_⟩,λ y c h=>?_,(e0.hok.minC hc).fresh (av _),λ y c h=>?_,λ p hp=>absurd (show p∈([]:LO) from hp) pv,(e0.hok.minC hc).kept hk,?_⟩
 ·rcases lk y c h1 with m1|m1<;>rcases lk z c h2 with m2|m2
  ·exact og x.apart m1 m2
  ·exact absurd (abv y c m1) (Nat.not_le_of_lt (old _ m2))
  ·exact absurd (abv z c m2) (Nat.not_le_of_lt (old _ m1))
  ·exact og hc.apart m1 m2
 ·have hy:scope.names.lookup y=some .cell\/scope.names.lookup y=some .free:=hy
  rcases hy with hy|hy
  ·obtain⟨c,e⟩:=lR (n:=s.heap.objs.size+1) hy;exact⟨c,by show List.lookup y (cellsFrom (s.heap.objs.size+1) scope.names []++cl)=some c;rw[gD,e]⟩
  ·have hm:=S.has _ (dw hy) rfl;have hm:y∈cl.map (·.1):=by rw[hcl];exact hm
   obtain⟨q,hq,e⟩:=bD.mp hm;have iss:(cl.lookup y).isSome=true:=wl hq e;obtain⟨c,ec⟩:=ka.mp iss;have e1:(cellsFrom (s.heap.objs.size+1) scope.names []).lookup y=none:=oJ (S.own y (by rw[<- hcl];exact hm));exact⟨c,by show List.lookup y (cellsFrom (s.heap.objs.size+1) scope.names []++cl)=some c;rw[gD,e1];exact ec⟩
 ·have hf:scope.names.lookup y=some .cell:=au hf;obtain⟨c',e⟩:=lR (n:=s.heap.objs.size+1) hf;have h:List.lookup y (cellsFrom (s.heap.objs.size+1) scope.names []++cl)=some c:=h;rw[gD,e] at h;cases h;exact abv y _ (dw e)
 ·have ha:=Go h2;have hi:i<(vs++vcs).length:=(be.mp ha).1;have lv:(vs++vcs).length=(ps++fv).length:=by rw[aK,aK,hl,<- hc.len,cll]
  have hp:(ps++fv)[i]?=some y:=by
   rw[<- S.pre,kg fu];exact h1
  have ndA:(ps++fv).Nodup:=by rw[<- S.pre];exact S.nd.sublist (List.take_sublist _ _)
  have ndP:ps.Nodup:=ndA.sublist (List.sublist_append_left _ _);by_cases hil:i<ps.length
  ·rw[cZ fu] at ha;rw[cZ hil] at hp;obtain⟨u,hu,rv⟩:=r.get ha;refine⟨u,rv,?_⟩
   rcases S.par y (aD hp) with k|k
   ·exact .inl ⟨k,qW ndP hp hu k⟩
   ·obtain⟨c,e⟩:=lR (n:=s.heap.objs.size+1) k;refine .inr ⟨.inl k,c,by show List.lookup y (cellsFrom (s.heap.objs.size+1) scope.names []++cl)=some c;rw[gD,e],?_⟩;have q:=x.cell y c e;rw[qX ndP hp hu (by rw[k];decide)] at q;exact q
  ·rw[dW fu,hl] at ha;rw[dW fu] at hp;have hm:=aD hp;have hqc:(cl.map (·.1))[i-ps.length]?=some y:=by rw[hcl];exact hp
   rw[aL] at hqc
   obtain⟨q,eq,e1⟩:∃q,cl[i-ps.length]?=some q/\q.1=y:=by
    cases z:cl[i-ps.length]? with
    |none=>rw[z] at hqc;cases hqc
    |some q=>rw[z] at hqc;exact⟨q,rfl,bj hqc⟩
   obtain⟨v',u,e2,ru,ic⟩:=celv _ q eq;rw[ha] at e2;cases e2;have ndF:(cl.map (·.1)).Nodup:=by rw[hcl];exact ndA.sublist (List.sublist_append_right _ _)
   have lkq:cl.lookup y=some q.2:=by rw[<- e1];exact wn ndF (aD eq)
   have own0:(cellsFrom (s.heap.objs.size+1) scope.names []).lookup y=none:=oJ (S.own y hm);exact⟨u,ru,.inr ⟨.inr (S.fre y hm),q.2,by show List.lookup y (cellsFrom (s.heap.objs.size+1) scope.names []++cl)=some q.2;rw[gD,own0];exact lkq,ic⟩⟩
 ·rcases lk y c h with m|m
  ·have h:List.lookup y (cellsFrom (s.heap.objs.size+1) scope.names []++cl)=some c:=h;rw[gD] at h
   cases e:(cellsFrom (s.heap.objs.size+1) scope.names []).lookup y with
   |some c2=>rw[e] at h;cases h;exact⟨_,x.cell y _ e⟩
   |none=>
    rw[e] at h;obtain⟨i,ei⟩:=kB.mp (dw h);obtain⟨v,u,_,_,ic⟩:=celv i _ ei;exact⟨_,ic⟩
  ·obtain⟨i,ei⟩:=kB.mp m;obtain⟨v,u,_,_,ic⟩:=celv i _ ei;exact⟨_,ic⟩
 ·rcases lk y c h with m|m
  ·exact(e0.hok.minC hc).fresh (abv y c m)
  ·exact kC m
 ·unfold start;show _=N.length;have lv:(vs++vcs).length=(ps++fv).length:=by rw[aK,aK,hl,<- hc.len,cll]
  rw[aK,ak,dX];lia
noncomputable def jo(P:Program)(w:World)(K:FG)(mg:SV)(base:Heap)(k:Nat)(fa:Addr)(vs:List V)(H:Hp)(Q:VK):Prop :=
 ∀(A:Around) (outer:List Env) (s:Shared) (us:LV),Room k A->Env0 P w K mg base A outer s H->Vals vs us->codeAny (model P w) A (.call (.ref fa) ⟨us,[]⟩) (CR CX0 outer P w H s Q λ _ _ _=>False) s
end _L
namespace _L
open PySem PySem.Spec PyProof.Rows PySem.W PySem.Calls
noncomputable def FnV(H:Hp)(fa:Addr):Prop:=∃φ,H fa=some (.ext φ)/\∀h,φ h->FnAt fa h
def FnV.lam{H:Hp}{cl:LA}(h:H fa=some (eh fa c' qual params body scope cl)):FnV H fa:=⟨_,h,λ _ ⟨_,_,e⟩=>⟨_,_,_,_,e⟩⟩
noncomputable def wq(P:Program)(w:World)(K:FG)(mg:SV)(base:Heap)(k i:Nat)(t:TA):TE:=λ σ H Q=>∃fa,σ[i]?=some (some (.ref fa))/\FnV H fa/\t σ H λ vs H1=>FnV H1 fa/\jo P w K mg base k fa vs H1 Q
variable {X:Cx}
section
variable {k:Nat}{x:Str}{p pos:Pos}{e:Expr}{es:List Expr}{t:TA}
theorem Gp{i:Nat}(hr:Room k X.A)(hN:X.N[i]?=some x)(hv:Vis X.env.scope x)(ha:PA X (e::es) t)(hd:(x == ("__debug__" : Str))=false:=by decide)(hcd:(x == ("__classdict__" : Str))=false:=by decide)
  (he:starEach (e::es) X.env=(false,eval e X.env)::starEach es X.env:=by rfl) (hpl:(backTo pos (starEach es X.env)).any (·.1)=false:=by rfl) :
  PE X (.Call (.Name x p) (e::es) [] pos) (wq X.prog X.w X.K X.mg X.base k i t):=by
 intro pins s σ H Q I h;obtain⟨fa,es',fn,h⟩:=h;refine ik (thn ((iW (pos:=p) hN hv hd hcd) pins s σ H (λ v H1=>v=.ref fa/\H1=H) I (by unfold cR;rw[es'];exact⟨ca,ca⟩)) λ u s1 ⟨v,H1,I1,r1,e1,e2⟩=>?_);subst e1 e2;cases r1;have at1:∀ {H':Hp}{s':Shared},Inv X pins σ H' s'->FnV H' fa->FnAt fa s'.heap:=λ J ⟨φ,e,k⟩=>k _ (J.hok _ _ e).1;refine callWith_F (at1 I1 fn) (thn (ha pos pins s1 σ _ _ I1 h) λ us s2 ⟨vs,H2,I2,r2,fn2,cv⟩=>⟨at1 I2 fn2,?_⟩) he hpl;refine jX (iX (cv X.A X.stack s2 us hr I2.env0 r2) λ r s' hq=>?_)
 cases r with
 |error e=>exact False.elim hq
 |ok fl=>
  cases fl with
  |ret u=>exact I2.after hq
  |next=>exact False.elim hq
  |brk=>exact False.elim hq
  |cont=>exact False.elim hq
end
noncomputable def OwnCl(ec:LA)(fv:List Str)(cl:LA):Prop:=cl.map (·.1)=fv/\∀q∈cl,ec.lookup q.1=some q.2
theorem OwnCl.uniq:∀ {fv:List Str}{cl cl':LA},OwnCl ec fv cl->OwnCl ec fv cl'->cl=cl'
 |[],[],[],_,_=>rfl
 |[],_::_,_,h,_=>by cases h.1
 |[],[],_::_,_,h=>by cases h.1
 |_::_,[],_,h,_=>by cases h.1
 |_::_,_::_,[],_,h=>by cases h.1
 |n::fv,(a,c)::cl,(b,d)::cl',h,h'=>by
  have e1:a=n:=(mC h.1).1;have e2:b=n:=(mC h'.1).1;subst e1 e2;have l1:=h.2 (b,c) bz;have l2:=h'.2 (b,d) bz;rw[show ec.lookup b=some c from l1] at l2;cases l2;rw[OwnCl.uniq (fv:=fv) ⟨(mC h.1).2,λ q hq=>h.2 q (aW _ hq)⟩ ⟨(mC h'.1).2,λ q hq=>h'.2 q (aW _ hq)⟩]
noncomputable def TabOk(H:Hp)(T:Addr)(pos:Pos)(qual:Str):Prop:=∃ps,H T=some (.tbl ps)/\TriplesOk ps.toList/\(codeAmong pos ps.toList=none\/∃c',codeAmong pos ps.toList=some (.ref c')/\H c'=some (cz c' qual))
def wt{c:Value}(l:LV)(h:TriplesOk l):TriplesOk (l++[rawInt a,rawInt b,c]):=by
 fun_induction TriplesOk l with
 |case1=>simp[TriplesOk,rawInt]
 |case2 i t j u v rest ih=>simpa [TriplesOk] using ih h
 |case3=>exact h.elim
structure TabF (base:Heap)(mg:SV)(c T:Addr):Prop where
 hd:CodeHd base c T
 none_:base.get? T=none
 blt:∃bm o,mg "__builtins__"=some (.ref bm)/\bm≠builtinsNs/\bm≠mainGlobals/\bm≠T/\base.get? bm=some o/\o.cls=.type "module" /\ o.dict=some builtinsNs/\o.data=.plain
 ne:mainGlobals≠T
noncomputable def Gq(ec:LA)(fv:List Str)(T:Addr)(pos:Pos)(qual:Str)(params:Arguments)(body:Expr)(scope:Scope):TE:=λ _ H Q=>TabOk H T pos qual /\
 ∀fa c' cl H2,OwnCl ec fv cl->H fa=none->H2 fa=some (eh fa c' qual params body scope cl)->H2 c'=some (cz c' qual)->TabOk H2 T pos qual->(∀b o,b≠T->H b=some o->H2 b=some o)->Q (.ref fa) H2
def oM{h1 h2:Heap}(x:h1.CodeRec (.ref c) qual)(k:∀o,h1.get? c=some o->h2.get? c=some o):h2.CodeRec (.ref c) qual:=by
 obtain⟨c',o,vs,t,e,ho,r⟩:=x;cases e;exact⟨c,o,vs,t,ca,k _ ho,r⟩
section
variable {params:Arguments}{body:Expr}{scope:Scope}{pos:Pos}{fv:List Str}{c T:Addr}{cl:LA}
theorem Gr{qual:Str}(hq:X.env.qual ++ "<lambda>"=qual)(hcode:X.env.code=.ref c)(TF:TabF X.base X.mg c T)(hdef:defaultsOf params X.env=([],[]))(hcl:closureFor scope X.env=pure cl)(own:OwnCl X.env.cells fv cl) :
  PE X (.Lambda params body scope pos) (Gq X.env.cells fv T pos qual params body scope):=by
 intro pins s σ H Q I h;obtain⟨⟨ps,hT,ht,hz⟩,h⟩:=h;subst hq;have eT:s.heap.get? T=some (tabObj ps):=I.hok _ _ hT;have hg:s.heap.Ns mainGlobals X.mg:=I.mod.glob.keeps I.bk;obtain⟨bm,ob,b1,b2,b3,b4,b5,b6⟩:=TF.blt;have hb:s.heap.BuiltinsAt X.mg T:=⟨bm,ob,b1,b2,b3,b4,I.bk _ _ b5,b6⟩;have C:CodeHd s.heap c T:=TF.hd.keeps I.bk;refine kla_eval hdef ?_
 rcases hz with hnf|⟨c',hf,hc'⟩
 ·refine kla_makeFunction hcl I.ok.glob hg hcode C eT ht hnf TF.ne hb λ c' ctv h' tk hx hge hlt hrec htb=>?_;have hfa:H h'.objs.size=none:=I.hok.fresh (dq (rH hge hlt));have hc0:H c'=none:=I.hok.fresh hge;have nTc:c'≠T:=λ z=>by rw[z,hT] at hc0;cases hc0
  have nTf:h'.objs.size≠T:=λ z=>by rw[z,hT] at hfa;cases hfa
  have ncf:c'≠h'.objs.size:=aZ hlt;have old:∀b o,b≠T->s.heap.get? b=some o->(h'.push (kla_obj "<lambda>" (X.env.qual ++ "<lambda>") params body scope cl ((X.mg "__name__").getD .none) c' ctv)).get? b=some o:=λ b o n e=>aA _ (hx b o n e);have eP:(h'.push (kla_obj "<lambda>" (X.env.qual ++ "<lambda>") params body scope cl ((X.mg "__name__").getD .none) c' ctv)).get? T=some (tabObj (ps++#[rawInt pos.line,rawInt pos.col,.ref c'])):=aA _ htb;have eF:(h'.push (kla_obj "<lambda>" (X.env.qual ++ "<lambda>") params body scope cl ((X.mg "__name__").getD .none) c' ctv)).get? h'.objs.size=some (kla_obj "<lambda>" (X.env.qual ++ "<lambda>") params body scope cl ((X.mg "__name__").getD .none) c' ctv):=aR _ rfl;have eC:(h'.push (kla_obj "<lambda>" (X.env.qual ++ "<lambda>") params body scope cl ((X.mg "__name__").getD .none) c' ctv)).CodeRec (.ref c') (X.env.qual ++ "<lambda>"):=oM hrec λ o e=>aA _ e;generalize h'.push (kla_obj "<lambda>" (X.env.qual ++ "<lambda>") params body scope cl ((X.mg "__name__").getD .none) c' ctv)=h2 at *;generalize h'.objs.size=fa at *;have lowT:∀b o,s.heap.get? b=some o->b≠c'/\(H b=none->b≠T):=λ b o e=>⟨aZ (bC (aB e) hge),λ n z=>by rw[z,hT] at n;cases n⟩;have lowF:∀b o,s.heap.get? b=some o->b≠fa:=λ b o e=>aZ (oH (bC (aB e) hge) hlt);have out:∀b,b≠T->b≠c'->b≠fa->upd (upd (upd H T (.tbl (ps++#[rawInt pos.line,rawInt pos.col,.ref c']))) c' (cz c' (X.env.qual ++ "<lambda>"))) fa (eh fa c' (X.env.qual ++ "<lambda>") params body scope cl) b=H b:=λ b n1 n2 n3=>by rw[ay n3,ay n2,ay n1]
  have trk:∀b o,H b=some o->b≠c'/\b≠fa:=λ b o e=>⟨(λ z=>by rw[z,hc0] at e;cases e),(λ z=>by rw[z,hfa] at e;cases e)⟩;have _H:upd (upd (upd H T (.tbl (ps++#[rawInt pos.line,rawInt pos.col,.ref c']))) c' (cz c' (X.env.qual ++ "<lambda>"))) fa (eh fa c' (X.env.qual ++ "<lambda>") params body scope cl) T=some (.tbl (ps++#[rawInt pos.line,rawInt pos.col,.ref c'])):=by rw[ay nTf.symm,ay nTc.symm,bP]
  have HC:upd (upd (upd H T (.tbl (ps++#[rawInt pos.line,rawInt pos.col,.ref c']))) c' (cz c' (X.env.qual ++ "<lambda>"))) fa (eh fa c' (X.env.qual ++ "<lambda>") params body scope cl) c'=some (cz c' (X.env.qual ++ "<lambda>")):=by rw[ay ncf,bP]
  have HF:upd (upd (upd H T (.tbl (ps++#[rawInt pos.line,rawInt pos.col,.ref c']))) c' (cz c' (X.env.qual ++ "<lambda>"))) fa (eh fa c' (X.env.qual ++ "<lambda>") params body scope cl) fa=some (eh fa c' (X.env.qual ++ "<lambda>") params body scope cl):=bP;generalize upd (upd (upd H T (.tbl (ps++#[rawInt pos.line,rawInt pos.col,.ref c']))) c' (cz c' (X.env.qual ++ "<lambda>"))) fa (eh fa c' (X.env.qual ++ "<lambda>") params body scope cl)=H2 at *;have same:∀b o,b≠T->H b=some o->H2 b=some o:=λ b o n e=>by rw[out b n (trk b o e).1 (trk b o e).2];exact e
  have un:Un X.fs [] H H2 s.heap h2:=⟨λ b o e n _ _=>old b o ((lowT b o e).2 n) e,λ b o e n _ _=>⟨o.slots,old b o ((lowT b o e).2 n) e⟩,λ b o e n _=>by rw[out b ((lowT b o e).2 n) (lowT b o e).1 (lowF b o e)];exact n,λ b o e _=>by
   by_cases z:b=T
   ·rw[z];exact⟨_,eP⟩
   ·exact⟨o,old b o z e⟩,λ b xs e=>same b _ (λ z=>by rw[z,hT] at e;cases e) e,λ b o u e=>same b _ (λ z=>by rw[z,hT] at e;cases e) e,λ b qs e=>by
   by_cases z:b=T
   ·subst z;rw[hT] at e;cases e;exact⟨_,_H⟩
   ·exact⟨#[],by rw[same b _ z e];simp⟩⟩
  have hok:HOk X.prog X.w H2 h2:=λ b o e=>by
   by_cases zf:b=fa
   ·subst zf;rw[HF] at e;cases e;exact⟨⟨_,_,eF⟩,⟨_,eF⟩,λ h1 h3 ⟨pm,cv,e1⟩ k=>⟨pm,cv,k _ e1⟩⟩
   ·by_cases zc:b=c'
    ·subst zc;rw[HC] at e;cases e;obtain⟨c2,o2,vs2,t2,e2,ho2,r2⟩:=id eC;cases e2;exact⟨eC,⟨_,ho2⟩,λ h1 h3 x k=>oM x k⟩
    ·by_cases zT:b=T
     ·subst zT;rw[_H] at e;cases e;exact eP
     ·rw[out b zT zc zf] at e;refine(I.hok b o e).stay (λ d u hd q=>old d u (λ z=>?_) q) (λ d q=>same d _ (λ z=>by rw[z,hT] at q;cases q) q) λ d xs q=>same d _ (λ z=>by rw[z,hT] at q;cases q) q
      rcases hd with hd|hd
      ·exact zT (hd.symm.trans z)
      ·rw[z,hT] at hd;cases hd
  exact⟨.ref fa,H2,I.un un hok,ca,h fa c' cl H2 own hfa HF HC ⟨_,_H,by simpa using wt ps.toList ht,.inr ⟨c',by simpa using codeAmong_snoc ps.toList ht hnf,HC⟩⟩ same⟩
 ·refine kla_makeFunctionHit hcl I.ok.glob hg hcode C eT ht hf hb λ ctv h' tk hx hsz=>?_;have hfa:H h'.objs.size=none:=I.hok.fresh hsz;have same:∀b o,H b=some o->upd H h'.objs.size (eh h'.objs.size c' (X.env.qual ++ "<lambda>") params body scope cl) b=some o:=λ b o e=>by rw[ay (iU e hfa)];exact e
  refine⟨.ref h'.objs.size,upd H h'.objs.size (eh h'.objs.size c' (X.env.qual ++ "<lambda>") params body scope cl),I.laid (t':=tk) (λ b u e=>aA _ (hx b u e)) hsz ?_,ca,h _ c' cl _ own hfa bP (same _ _ hc') ⟨ps,same _ _ hT,ht,.inr ⟨c',hf,same _ _ hc'⟩⟩ λ b o _ e=>same b o e⟩;exact⟨⟨_,_,aR _ rfl⟩,⟨_,aR _ rfl⟩,λ h1 h3 ⟨pm,cv,e1⟩ k=>⟨pm,cv,k _ e1⟩⟩
end
noncomputable def addC(h:Heap)(H:Hp):LA->List V->Hp
 |q::cl,v::vs=>upd (addC h H cl vs) q.2 (.frz ((h.get? q.2).getD { cls:=.none,data:=.plain }) (kA q.2 v))
 |_,_=>H
theorem wu{b:Addr}:∀ {cl:LA}{vs:List V},(∀q∈cl,q.2≠b)->addC h H cl vs b=H b
 |[],_,_=>rfl
 |_::_,[],_=>rfl
 |q::cl,v::vs,n=>by
  show upd _ _ _ b=_;rw[ay (bW (n q bz))];exact wu λ q' hq=>n q' (aW _ hq)
theorem wv:∀ {cl:LA}{vs:List V},(cl.Pairwise λ x y=>x.2≠y.2)->cl.length=vs.length->∀(i:Nat) q,cl[i]?=some q->∃v,vs[i]?=some v/\addC h H cl vs q.2=some (.frz ((h.get? q.2).getD { cls:=.none,data:=.plain }) (kA q.2 v))
 |[],_,_,_,i,q,e=>by simp at e
 |_::_,[],_,l,_,_,_=>by simp at l
 |a::cl,v::vs,pw,l,0,q,e=>by
  cases (bj e);exact⟨v,ca,bP⟩
 |a::cl,v::vs,pw,l,i+1,q,e=>by
  have e:cl[i]?=some q:=by simpa using e
  obtain⟨u,e1,e2⟩:=wv (mD.mp pw).2 (by simpa using l) i q e;refine⟨u,by simpa using e1,?_⟩;show upd _ _ _ _=_;rw[ay (bW ((mD.mp pw).1 q (aD e)))];exact e2
noncomputable def Gs(ec:LA)(fv:List Str)(js:List Nat)(sp:Sp)(t:TA):TE:=λ σ H Q=>t σ H λ vs H1=>∃vcs:List V,js.map (λ j=>σ[j]?)=vcs.map (λ v=>some (some v)) /\
 ∀cl H2,OwnCl ec fv cl->(∀q∈cl,H1 q.2=none)->CelAt H2 cl vcs->(∀b,(∀q∈cl,q.2≠b)->H2 b=H1 b)->sp vs H2 (λ v H'=>Q v (minC H' cl)) E0
section
variable {k:Nat}{x:Str}{ps:List Str}{sp:Sp}{p pos:Pos}{e:Expr}{es:List Expr}{t:TA}{fv:List Str}{js:List Nat}{cl:LA}
theorem ww(c:Callee X.prog X.w X.K X.mg X.base CX0 k x ps sp)(hr:Room k X.A)(hg:Gl X x)(own:OwnCl X.env.cells fv cl)(hj:js.map (λ j=>X.N[j]?)=fv.map some)(hk:∀n∈fv,X.env.scope.names.lookup n=some .cell)(hf:∀n∈fv,X.fn n=true)(nd:fv.Nodup)
  (ha:PA X (e::es) t) (hdb:(x == ("__debug__" : Str))=false:=by decide)
  (he:starEach (e::es) X.env=(false,eval e X.env)::starEach es X.env:=by rfl) (hpl:(backTo pos (starEach es X.env)).any (·.1)=false:=by rfl) :
  PE X (.Call (.Name x p) (e::es) [] pos) (Gs X.env.cells fv js sp t):=by
 obtain⟨f,fd,F,hm,kp,hb⟩:=c.has;intro pins s0 σ H0 Q I0 h;refine ik (hZ I0 hg hm ?_ hdb);refine nZ (h₀:=X.base) I0.ok.mod.kin kp (thn (ha pos pins s0 σ H0 _ I0 h) λ us s ⟨vs,H,I,r,vcs,hv,q⟩=>⟨I.kIn,?_⟩) he hpl;have mfv:∀q∈cl,q.1∈fv:=λ q hq=>by rw[<- own.1];exact bD.mpr ⟨q,hq,rfl⟩
 have free:∀q∈cl,H q.2=none:=λ q hq=>I.freeC q.1 q.2 (own.2 q hq)
 have apart:cl.Pairwise λ x y=>x.2≠y.2:=by
  have nd':(cl.map (·.1)).Nodup:=by rw[own.1];exact nd
  have ec:=own.2;clear own mfv free
  induction cl with
  |nil=>exact .nil
  |cons a r ih=>
   refine mD.mpr ⟨λ y hy z=>?_,ih (fH.mp nd').2 (λ q hq=>ec q (aW _ hq))⟩;have:=I.ok.inj a.1 y.1 a.2 (ec a bz) (by rw[z];exact ec y (aW _ hy));exact(fH.mp nd').1 (bD.mpr ⟨y,hy,this.symm⟩)
 have lf:js.length=fv.length:=by have:=br List.length hj;simpa using this
 have lv:js.length=vcs.length:=by have:=br List.length hv;simpa using this
 have lc:cl.length=fv.length:=by rw[<- own.1,ak]
 have l:cl.length=vcs.length:=by rw[lc,<- lf,lv]
 have holds:∀(i:Nat) q,cl[i]?=some q->∃v u,vcs[i]?=some v/\RelV v u/\s.heap.IsCell q.2 (some u):=λ i q e=>by
  have il:i<cl.length:=(be.mp e).1;have ej:=az (l:=js) (i:=i) fu;have ev:=az (l:=vcs) (i:=i) fu
  have en:X.N[js[i]' fu]?=some q.1:=by
   have z:=br (λ l=>l[i]?) hj;simp only[aL,ej,Option.map_some] at z;have y:fv[i]?=some q.1:=by rw[<- own.1,aL,e];rfl
   rw[y] at z;exact bj z
  have eσ:σ[js[i]' fu]?=some (some (vcs[i]' fu)):=by
   have z:=br (λ l=>l[i]?) hv;simp only[aL,ej,ev,Option.map_some] at z;exact bj z
  obtain⟨m,_,lo⟩:=I.loc;have kq:=hk q.1 (mfv q (aD e));obtain⟨u,ru,lk⟩:=lo _ _ _ en eσ (.inr (.inl kq));refine⟨_,u,ev,ru,?_⟩
  rcases lk with ⟨k1,_⟩|⟨_,c,ec,ic⟩
  ·have k1:X.env.scope.names.lookup q.1=some .local:=k1;rw[kq] at k1;cases k1
  ·rw[own.2 q (aD e)] at ec;cases ec;exact ic
 have hat:=wv (h:=s.heap) (H:=H) apart l;have hC:CelAt (addC s.heap H cl vcs) cl vcs:=⟨l,λ i q e=>let ⟨v,e1,e2⟩:=hat i q e;⟨v,_,e1,e2⟩,apart⟩;have hout:∀b,(∀q∈cl,q.2≠b)->addC s.heap H cl vcs b=H b:=λ b n=>wu n
 have split:∀b,(∃q∈cl,q.2=b)\/∀q∈cl,q.2≠b:=λ b=>by
  by_cases c:∃q∈cl,q.2=b
  ·exact .inl c
  ·exact .inr λ q hq e=>c ⟨q,hq,e⟩
 have gobj:∀q∈cl,∃o v,addC s.heap H cl vcs q.2=some (.frz o (kA q.2 v))/\s.heap.get? q.2=some o/\∃u,RelV v u/\s.heap.IsCell q.2 (some u):=λ q hq=>by
  obtain⟨i,e⟩:=kB.mp hq;obtain⟨v,e1,e2⟩:=hat i q e;obtain⟨v',u,e3,ru,ic⟩:=holds i q e;rw[e1] at e3;cases e3;obtain⟨o,eo,d⟩:=id ic;rw[eo] at e2;exact⟨o,v,e2,eo,u,ru,ic⟩
 have trk:∀b o,H b=some o->addC s.heap H cl vcs b=some o:=λ b o e=>by
  rw[hout b λ q hq z=>by rw[<- z,free q hq] at e;cases e];exact e
 have hok:HOk X.prog X.w (addC s.heap H cl vcs) s.heap:=λ b o e=>by
  rcases split b with ⟨q,hq,rfl⟩|hn
  ·obtain⟨o',v,e1,eo,u,ru,ic⟩:=gobj q hq;rw[e1] at e;cases e;exact⟨eo,⟨u,ru,ic⟩,⟨_,eo⟩,λ h1 h2 ⟨u,ru,o2,e2,d2⟩ k=>⟨u,ru,o2,k _ e2,d2⟩⟩
  ·rw[hout b hn] at e;exact(I.hok b o e).stay (λ _ _ _ z=>z) (λ d z=>trk d _ z) λ d xs z=>trk d _ z
 have abv:∀q∈cl,X.s₀.heap.objs.size<=q.2:=λ q hq=>I.ok.cab q.1 q.2 (hf q.1 (mfv q hq)) (own.2 q hq)
 have nfr:∀b∈frs X.stack,∀q∈cl,q.2≠b:=λ b hb q hq z=>by
  rcases bf.mp (I.stkSub b hb) with y|y
  ·exact I.cne q.1 q.2 (own.2 q hq) (z.trans y)
  ·obtain⟨_,o,eo,_⟩:=I.ok.funs.mem y;have:=aB eo;rw[<- z] at this;exact absurd this (Nat.not_lt_of_le (abv q hq))
 have e0:Env0 X.prog X.w X.K X.mg X.base X.A X.stack s (addC s.heap H cl vcs):=by
  have b0:=I.env0;refine⟨b0.frames,b0.mod,λ b o e=>⟨(b0.bs b o e).1,?_⟩,b0.bsz,b0.funs,λ b hb=>?_,hok,b0.bare⟩
  ·rw[hout b λ q hq z=>?_]
   ·exact(b0.bs b o e).2
   ·have:=aB e;rw[<- z] at this;exact absurd (bC this I.ok.bsz) (Nat.not_lt_of_le (abv q hq))
  ·rw[hout b (nfr b hb)];exact b0.frf b hb
 have hl:us.length=ps.length:=by rw[<- r.length];exact F.len _ _ _ _ (q cl _ own free hC hout)
 have hb':=hb s us I.kIn (by simpa using hl);rw[cu] at hb';refine jX (iX (F.run X.A X.stack s (addC s.heap H cl vcs) ⟨us,[]⟩ us vs _ E0 hr e0 hb' r (q cl _ own free hC hout)) λ r s' hq=>?_)
 cases r with
 |error e=>exact False.elim hq
 |ok fl=>
  cases fl with
  |next=>exact False.elim hq
  |brk=>exact False.elim hq
  |cont=>exact False.elim hq
  |ret u=>
   obtain⟨v,H',os,bare,un,hok',rv,q'⟩:=hq;have hC':CelAt H' cl vcs:=⟨l,λ i q e=>let ⟨v,o,e1,e2⟩:=hC.at_ i q e;⟨v,o,e1,un.frzs _ _ _ e2⟩,apart⟩;obtain⟨hh,gg,dd,tt,os'⟩:=s';obtain rfl:os'=s.os:=os
   have un2:Un (frs X.stack) [] H (minC H' cl) s.heap hh:=by
    refine⟨λ b o e n hb hx=>?_,λ b o e n hb hx=>?_,λ b o e n hx=>?_,un.there,λ b xs e=>?_,λ b o u e=>?_,λ b qs e=>?_⟩
    ·rcases split b with ⟨q,hq,rfl⟩|hn
     ·obtain⟨o',v',e1,eo,_⟩:=gobj q hq;rw[e] at eo;cases eo;exact(hok' _ _ (un.frzs _ _ _ e1)).1
     ·exact un.keep b o e (by rw[hout b hn];exact n) hb hx
    ·exact un.slot b o e (by rw[hout b (nfr b hb)];exact n) hb hx
    ·rcases split b with ⟨q,hq,rfl⟩|hn
     ·exact kC hq
     ·exact gE (un.free b o e (by rw[hout b hn];exact n) hx)
    ·have hn:∀q∈cl,q.2≠b:=λ q hq z=>by rw[<- z,free q hq] at e;cases e
     rw[cO hn];exact un.tups b xs (trk b _ e)
    ·have hn:∀q∈cl,q.2≠b:=λ q hq z=>by rw[<- z,free q hq] at e;cases e
     rw[cO hn];exact un.frzs b o u (trk b _ e)
    ·have hn:∀q∈cl,q.2≠b:=λ q hq z=>by rw[<- z,free q hq] at e;cases e
     rw[cO hn];exact un.tbls b qs (trk b _ e)
   exact⟨v,minC H' cl,I.call (h':=hh) (g':=gg) (d':=dd) (t':=tt) (ch:=[]) un2 (hok'.minC hC') bare (λ b z=>absurd z pv),rv,q'⟩
end
theorem Fun.okT{K:FG}{st:Stmt}{sp:Sp}(F:Fun K x qual st f fd)(hcd:fd.code=.ref c)(S:FnScope N ps (ah st))(len:∀vs H Q E,sp vs H Q E->vs.length=ps.length)
  (hbody:∀(A:Around) (outer:List Env) (s:Shared) (H:Hp) (vs:List V) (Q:VK) (E:XK),Room k (A.deeper (envOfC qual (ah st) s.heap.objs.size f (.ref c)))->sp vs H Q E ->
   ∃t,PSs (bH CX0 P w K mg base N qual (ah st) f (.ref c) A outer s H E).nox (aN st) t/\t { nx:=λ _ H'=>Q .non H',rt:=Q } (start N vs) H):FnOk P w K mg base CX0 (k+1) f fd ps sp:=by
 obtain⟨oc,od,kV,doc,pm,an,cdv,ct,osl,rfl,lk,hc⟩:=F.ex;obtain rfl:cdv=.ref c:=hcd;refine qY lk hc S len λ A outer s H vs Q E hr hsp=>?_;obtain⟨t,h,q⟩:=hbody A outer s H vs Q E hr hsp;exact⟨t,h.nox,q⟩
theorem Gu{K:FG}{mg mb:SV}{fa a:Addr}{x:Str}{s₁:Shared}{vs:LV}(tbs:List (Addr×Addr))
  (hT:TabsAt tbs s₁.heap) (hK0:noTabs K=true) (hbm:∃bm ob,mg "__builtins__"=some (.ref bm)/\bm≠builtinsNs/\s₁.heap.get? bm=some ob/\ob.cls=.type "module" /\ ob.dict=some builtinsNs/\ob.data=.plain)
  (KX:K.In s₁.heap) (hns:s₁.heap.Ns mainGlobals mg) (hb:s₁.heap.Ns builtinsNs mb) (hbb:∀x:Str,x ≠ "__name__" -> mb x=bootBuiltins x) (hlim:s₁.heap.NoLimit) (hg:s₁.gens=#[])
  (ha:s₁.heap.get? a=some { cls:=.type "list",data:=.seq vs.toArray }) (hi:IntsAre vs ns) (hl:ns.length<=sizeLine) (hr:Room k callerA)
  (F:∀base:Heap,K.In base->base.Ns mainGlobals mg->(∀q∈tbs,TabF base mg q.1 q.2)->FnOk P w K mg base CX k fa fd [x] sp) (hbind:∀(s:Shared) (u:Value),BindsTo s fd ⟨[u],[]⟩ [(x,u)])
  (hsp:∀H:Hp,(∀q∈tbs,H q.2=some (.tbl #[]))->SqL K H a (ns.map V.int)->sp [.ref a] H (λ v _=>v=.bl true) λ _ _ _=>False)
  (hCX:∀H e s',CX [] H s₁ (λ _ _ _=>False) e s'->False) :
  codeAny (model P w) callerA (.call (.ref fa) ⟨[.ref a],[]⟩) (λ r s'=>r=.ok (.ret (.bool true))/\OldK s₁.heap s'.heap/\s'.os=s₁.os/\AllBare s'.gens) s₁:=by
 have rv:=rG hi;have lenV:=hi.length;have tab:∀q∈tbs,s₁.heap.get? q.2=some (tabObj #[]):=λ q hq=>(hT q hq).2
 have naT:∀q∈tbs,q.2≠a:=λ q hq z=>by
  have e:=tab q hq;rw[z,ha] at e;cases e
 have kT:∀q∈tbs,K.lookup q.2=none:=λ q hq=>by
  cases e:K.lookup q.2 with
  |none=>rfl
  |some o=>
   have e1:=KX _ _ e;rw[tab q hq] at e1;have h2:=gF.mp hK0 (q.2,o) (mem_of_lookupK e);cases e1;exact absurd (show false=true from h2) bG
 have core:∀H:Hp,(∀q∈tbs,H q.2=some (.tbl #[]))->(∀b,H b=none\/(∃o xs,H b=some (.frz o (.lst xs)))\/∃q∈tbs,q.2=b)->SqL K H a (ns.map V.int)->HOk P w H s₁.heap->(∀b,H b≠none->b=a\/∃q∈tbs,q.2=b)->(H a≠none->K.lookup a=none) ->
   codeAny (model P w) callerA (.call (.ref fa) ⟨[.ref a],[]⟩) (λ r s'=>r=.ok (.ret (.bool true))/\OldK s₁.heap s'.heap/\s'.os=s₁.os/\AllBare s'.gens) s₁:=by
  intro H hH hO hS hok hA hK;have base_of:∀ {b:Addr}{o:Obj},s₁.heap.get? b=some o->H b=none->(eR s₁.heap H).get? b=some o:=λ e n=>BH e n
  have noA:∀ {b:Addr}{o:Obj},s₁.heap.get? b=some o->o≠{ cls:=.type "list",data:=.seq vs.toArray }->o≠tabObj #[]->H b=none:=λ {b o} e n1 n2=>by
   cases q:H b with
   |none=>rfl
   |some u=>
    rcases hA b (by rw[q];simp) with z|⟨p,hp,z⟩
    ·subst z;rw[ha] at e;cases e;exact absurd rfl n1
    ·subst z;rw[tab p hp] at e;cases e;exact absurd rfl n2
  have nsK:∀ {b:Addr}{m:SV},s₁.heap.Ns b m->(eR s₁.heap H).Ns b m:=λ {b m} ⟨o,es,ep,e,d,r⟩=>⟨o,es,ep,base_of e (noA e (λ z=>by rw[z] at d;cases d) (λ z=>by rw[z] at d;cases d)),d,r⟩
  have hKb:K.In (eR s₁.heap H):=λ b o e=>base_of (KX b o e) (by
   cases q:H b with
   |none=>rfl
   |some u=>
    rcases hA b (by rw[q];simp) with z|⟨p,hp,z⟩
    ·subst z;rw[hK (by rw[q];simp)] at e;cases e
    ·subst z;rw[kT p hp] at e;cases e)
  have hM:Mod K mg (eR s₁.heap H):=⟨hKb,nsK hns,⟨mb,nsK hb,hbb⟩,let ⟨mc,h1,h2⟩:=hlim;⟨mc,nsK h1,h2⟩⟩;have e0:Env0 P w K mg (eR s₁.heap H) callerA [] s₁ H:=⟨rfl,hM,λ b o e=>uz e,Nat.le_of_eq (BG _ _),trivial,λ b hb=>absurd (show b∈([]:List Addr) from hb) pv,hok,.of_eq hg⟩
  have tf:∀q∈tbs,TabF (eR s₁.heap H) mg q.1 q.2:=λ q hq=>by
   obtain⟨o,vs',file,tf,flags,tg,inF,text,tt,e1,r1,r2⟩:=(hT q hq).1;obtain⟨bm,ob,b1,b2,b3,b4,b5,b6⟩:=hbm;have bmT:bm≠q.2:=λ z=>by rw[z,tab q hq] at b3;cases b3;cases b4
   have bmG:bm≠mainGlobals:=λ z=>by
    obtain⟨o,es,ep,e,d,_⟩:=hns;rw[<- z,b3] at e;cases e;rw[b6] at d;cases d
   have gT:mainGlobals≠q.2:=λ z=>by
    obtain⟨o,es,ep,e,d,_⟩:=hns;rw[z,tab q hq] at e;cases e;cases d
   refine⟨⟨o,vs',file,tf,flags,tg,inF,text,tt,base_of e1 (noA e1 (λ z=>by rw[z] at r1;exact absurd (show Value.type "list"=Value.type "code" from r1) on) (λ z=>by rw[z] at r1;cases r1)),r1,r2⟩,?_,⟨bm,ob,b1,b2,bmG,bmT,base_of b3 (noA b3 (λ z=>by rw[z] at b4;exact absurd (show Value.type "list"=Value.type "module" from b4) on) (λ z=>by rw[z] at b4;cases b4)),b4,b5,b6⟩,gT⟩
   cases e:(eR s₁.heap H).get? q.2 with
   |none=>rfl
   |some o=>have:=(uz e).2;rw[hH q hq] at this;cases this
  refine iX ((F _ hKb (nsK hns) tf).run callerA [] s₁ H ⟨[.ref a],[]⟩ [.ref a] [.ref a] _ _ hr e0 (hbind s₁ (.ref a)) (.cons rfl .nil) (hsp H hH hS)) λ r s' h=>?_
  cases r with
  |error e=>exact(hCX H e s' h).elim
  |ok fl=>
   cases fl with
   |next=>exact False.elim h
   |brk=>exact False.elim h
   |cont=>exact False.elim h
   |ret u=>
    obtain⟨v,H',os,bare,un,hok',r',q⟩:=h;have q':v=.bl true:=q;subst q';obtain rfl:u=Value.bool true:=r';refine⟨ca,⟨λ b o e=>?_,λ b o e=>un.there b o e pv⟩,os,bare⟩
    rcases hO b with z|⟨ob,xs,z⟩|⟨p,hp,z⟩
    ·exact .inl (un.keep b o e z (by intro z;exact absurd (show b∈([]:List Addr) from z) pv) pv)
    ·have z2:=un.frzs b ob _ z;obtain⟨e1,_⟩:=hok b _ z;obtain⟨e2,_⟩:=hok' b _ z2;rw[e] at e1;cases e1;exact .inl e2
    ·subst z;obtain⟨more,z2⟩:=un.tbls p.2 #[] (hH p hp);have e2:s'.heap.get? p.2=some (tabObj (#[]++more)):=hok' _ _ z2;have e1:=tab p hp;rw[e] at e1;cases e1;obtain⟨o,vs',file,tf,flags,tg,inF,text,tt,c1,c2,c3,c4,_⟩:=(hT p hp).1;exact .inr (.inl ⟨⟨p.1,o,vs',c1,c2,c3,c4⟩,ca,#[],more,ca,e2⟩)
 have withT:∀H:Hp,(∀b,H b=none\/∃o xs,H b=some (.frz o (.lst xs)))->SqL K H a (ns.map V.int)->HOk P w H s₁.heap->(∀b,H b≠none->b=a)->(H a≠none->K.lookup a=none) ->
   codeAny (model P w) callerA (.call (.ref fa) ⟨[.ref a],[]⟩) (λ r s'=>r=.ok (.ret (.bool true))/\OldK s₁.heap s'.heap/\s'.os=s₁.os/\AllBare s'.gens) s₁:=by
  intro H hO hS hok hA hK;have inT:∀q∈tbs,(λ b=>if (tbs.any λ q=>q.2 == b)=true then some (HO.tbl #[]) else H b) q.2=some (.tbl #[]):=λ q hq=>if_pos (List.any_eq_true.mpr ⟨q,hq,pv⟩)
  have split:∀b,(∃q∈tbs,q.2=b)\/(λ b=>if (tbs.any λ q=>q.2 == b)=true then some (HO.tbl #[]) else H b) b=H b:=λ b=>by
   by_cases c:(tbs.any λ q=>q.2 == b)=true
   ·obtain⟨q,hq,e⟩:=List.any_eq_true.mp c;exact .inl ⟨q,hq,kh e⟩
   ·exact .inr (if_neg c)
  have aT:(λ b=>if (tbs.any λ q=>q.2 == b)=true then some (HO.tbl #[]) else H b) a=H a:=by
   rcases split a with ⟨q,hq,z⟩|z
   ·exact absurd z (naT q hq)
   ·exact z
  generalize (λ b=>if (tbs.any λ q=>q.2 == b)=true then some (HO.tbl #[]) else H b)=G at *
  have noneT:∀q∈tbs,H q.2=none:=λ q hq=>by
   cases e:H q.2 with
   |none=>rfl
   |some u=>exact absurd (hA q.2 (by rw[e];simp)) (naT q hq)
  refine core G inT (λ b=>?_) ?_ (λ b o e=>?_) (λ b n=>?_) (λ n=>hK (by rw[<- aT];exact n))
  ·rcases split b with z|z
   ·exact .inr (.inr z)
   ·rw[z];rcases hO b with y|y
    ·exact .inl y
    ·exact .inr (.inl y)
  ·rcases hS with (z|⟨o,z⟩)|z
   ·exact .inl (.inl (by rw[aT];exact z))
   ·exact .inl (.inr ⟨o,by rw[aT];exact z⟩)
   ·exact .inr z
  ·rcases split b with ⟨q,hq,z⟩|z
   ·subst z;rw[inT q hq] at e;cases e;exact tab q hq
   ·rw[z] at e
    rcases hO b with y|⟨ob,xs,y⟩
    ·rw[y] at e;cases e
    ·rw[y] at e;cases e;obtain⟨e1,l,its,n,r,e2⟩:=hok b _ y;exact⟨e1,l,its,n,r,e2⟩
  ·rcases split b with z|z
   ·exact .inr z
   ·rw[z] at n;exact .inl (hA b n)
 cases hk:K.lookup a with
 |some o=>
  have e:=KX a o hk;rw[ha] at e;cases e;refine withT (λ _=>none) (λ _=>.inl rfl) (.inr ⟨_,vs.toArray,_,hk,ca,ca,ca,by rw[aM,lenV];exact hl,by simpa using rv⟩) (λ b u z=>by have z':(none:Option HO)=some u:=z;cases z') (λ b z=>absurd rfl z) λ z=>absurd rfl z
 |none=>
  refine withT (λ b=>if b=a then some (.frz { cls:=.type "list",data:=.seq vs.toArray } (.lst (ns.map V.int))) else none) (λ b=>?_) (.inl (.inr ⟨{ cls:=.type "list",data:=.seq vs.toArray },if_pos rfl⟩)) (λ b u z=>?_) (λ b z=>?_) λ _=>hk
  ·by_cases hb:b=a
   ·exact .inr ⟨_,_,if_pos hb⟩
   ·exact .inl (if_neg hb)
  ·by_cases hb:b=a
   ·have z':=(if_pos hb).symm.trans z;cases z';subst hb;exact⟨ha,by rw[ak];exact hl,vs,_,rv,ha⟩
   ·have z':=(if_neg hb).symm.trans z;cases z'
  ·by_cases hb:b=a
   ·exact hb
   ·exact absurd (if_neg hb) z
def Gv{K:FG}{oc oc2:Value}{od od2:OA}{fd:FuncData}{sl sl2:AV}{vs:Array Value}(h1:nsIn K mainGlobals x=some (some (.ref f)))(h2:K.lookup f=some ⟨oc,od,.func fd,sl⟩)(h3:fd.code=.ref c)(h4:K.lookup c=some ⟨oc2,od2,.fields vs,sl2⟩)(h5:vs[11]?=some (.ref T)):tabIn K x=some (c,T):=by
 unfold tabIn;simp only[h1,h2,h3,h4,h5]
theorem walk_ofT{l:W.OpenLaw}{YP:World->Heap->Prop}{d:DefRec}{K:Params->FG}{CX:World->CXT}{sp:World->List Addr->Sp}{x:Str}
  (hn:l.most=some n) (hn2:n<=sizeLine) (hdf:d.params.defaults=[]) (hr:Room k callerA)
  (hY:∀(w:World) (h:Heap),YP w h->(K w.params).In h) (hK0:∀w:World,noTabs (K w.params)=true)
  (F:∀(w:World) (mg:SV) (fa:Addr) (h:Heap),(K w.params).In h->h.Ns mainGlobals mg->mg d.name=some (.ref fa) ->
   ∃(fd:FuncData) (tbs:List (Str×Addr×Addr)),(∀p∈tbs,tabIn (K w.params) p.1=some p.2/\((recsOf q).find? λ e=>e.name == p.1).isSome=true)/\(∀(s:Shared) (u:Value),BindsTo s fd ⟨[u],[]⟩ [(x,u)]) /\
    ∀base:Heap,(K w.params).In base->base.Ns mainGlobals mg->(∀p∈tbs,TabF base mg p.2.1 p.2.2)->FnOk l.prog w (K w.params) mg base (CX w) k fa fd [x] (sp w (tbs.map λ p=>p.2.2)))
  (hsp:∀(w:World) (H:Hp) (a:Addr) (ns:LI) (ts:List Addr),ns.length<=n->(∀T∈ts,H T=some (.tbl #[]))->SqL (K w.params) H a (ns.map V.int)->sp w ts [.ref a] H (λ v _=>v=.bl true) λ _ _ _=>False)
  (hCX:∀(w:World) (H:Hp) (s:Shared) (e:Value) (s':Shared),CX w [] H s (λ _ _ _=>False) e s'->False) :
  W.WalkO q loose XP YP l.row.toRowW d [] (λ f vs=>PySem.call f vs):=by
 refine Att.attach_call hn hdf λ w s₀ s₁ mg mb fa o pm cd doc a vs ns G Y ho hd hcd hmg hobj hints hlen hg=>?_;have KX:=hY w _ Y;obtain⟨fd,tbs,ht,hb,hF⟩:=F w mg fa _ KX G.T.g hmg
 have hT:TabsAt (tbs.map (·.2)) s₁.heap:=λ p hp=>by
  obtain⟨t,htm,rfl⟩:=bD.mp hp;obtain⟨h1,h2⟩:=ht t htm;obtain⟨d',hd'⟩:=ka.mp h2;exact tab_of G.T KX hd' (show tabIn (K w.params) t.1=some (t.2.1,t.2.2) from h1)
 refine Gu (tbs.map (·.2)) hT (hK0 w) G.T.bmain KX G.T.g G.T.b G.T.builtins G.T.nolimit hg hobj hints (cI hlen hn2) hr (λ base kb nb tf=>hF base kb nb λ p hp=>tf p.2 (bD.mpr ⟨p,hp,ca⟩)) hb (λ H hH hS=>hsp w H a ns _ hlen (λ T hT=>?_) hS) λ H e s'=>hCX w H s₁ e s';obtain⟨t,htm,rfl⟩:=bD.mp hT;exact hH t.2 (bD.mpr ⟨t,htm,ca⟩)
noncomputable def dL(fa c':Addr)(name qual:Str)(params:Arguments)(body:List Stmt)(scope:Scope)(cl:LA):HO:=.ext λ h=>∃doc pm ctv,h.get? fa=some (fnMade name qual params body scope cl doc pm c' ctv)
def FnV.dfn{H:Hp}{cl:LA}(h:H fa=some (dL fa c' name qual params body scope cl)):FnV H fa:=⟨_,h,λ _ ⟨_,_,_,e⟩=>⟨_,_,_,_,e⟩⟩
section
variable {params:Arguments}{scope:Scope}{pos:Pos}{fv:List Str}{c T:Addr}{cl:LA}
theorem Gw{Q:VK}(I:Inv X pins σ H s)(hcode:X.env.code=.ref c)(TF:TabF X.base X.mg c T)(hcl:closureFor scope X.env=pure cl)(own:OwnCl X.env.cells fv cl)
  (h:TabOk H T pos qual/\∀fa c' cl H2,OwnCl X.env.cells fv cl->H fa=none->H2 fa=some (dL fa c' name qual params body scope cl)->H2 c'=some (cz c' qual)->TabOk H2 T pos qual->(∀b o,b≠T->H b=some o->H2 b=some o)->Q (.ref fa) H2) :
  wpAny (model X.prog X.w) X.A (makeFunction name qual params (.stmts body) scope X.env [] [] [] pos pos.line) (EP X pins σ Q) X.xe s:=by
 obtain⟨⟨ps,hT,ht,hz⟩,h⟩:=h;have eT:s.heap.get? T=some (tabObj ps):=I.hok _ _ hT;have hg:s.heap.Ns mainGlobals X.mg:=I.mod.glob.keeps I.bk;obtain⟨bm,ob,b1,b2,b3,b4,b5,b6⟩:=TF.blt;have hb:s.heap.BuiltinsAt X.mg T:=⟨bm,ob,b1,b2,b3,b4,I.bk _ _ b5,b6⟩;have C:CodeHd s.heap c T:=TF.hd.keeps I.bk
 rcases hz with hnf|⟨c',hf,hc'⟩
 ·refine makeFunction_K hcl I.ok.glob hg hcode C eT ht hnf TF.ne hb λ c' ctv doc h' tk hx hge hlt hrec htb=>?_;have hfa:H h'.objs.size=none:=I.hok.fresh (dq (rH hge hlt));have hc0:H c'=none:=I.hok.fresh hge;have nTc:c'≠T:=λ z=>by rw[z,hT] at hc0;cases hc0
  have nTf:h'.objs.size≠T:=λ z=>by rw[z,hT] at hfa;cases hfa
  have ncf:c'≠h'.objs.size:=aZ hlt;have old:∀b o,b≠T->s.heap.get? b=some o->(h'.push (fnMade name qual params body scope cl doc ((X.mg "__name__").getD .none) c' ctv)).get? b=some o:=λ b o n e=>aA _ (hx b o n e);have eP:(h'.push (fnMade name qual params body scope cl doc ((X.mg "__name__").getD .none) c' ctv)).get? T=some (tabObj (ps++#[rawInt pos.line,rawInt pos.col,.ref c'])):=aA _ htb;have eF:(h'.push (fnMade name qual params body scope cl doc ((X.mg "__name__").getD .none) c' ctv)).get? h'.objs.size=some (fnMade name qual params body scope cl doc ((X.mg "__name__").getD .none) c' ctv):=aR _ rfl;have eC:(h'.push (fnMade name qual params body scope cl doc ((X.mg "__name__").getD .none) c' ctv)).CodeRec (.ref c') qual:=oM hrec λ o e=>aA _ e;generalize h'.push (fnMade name qual params body scope cl doc ((X.mg "__name__").getD .none) c' ctv)=h2 at *;generalize h'.objs.size=fa at *;have lowT:∀b o,s.heap.get? b=some o->b≠c'/\(H b=none->b≠T):=λ b o e=>⟨aZ (bC (aB e) hge),λ n z=>by rw[z,hT] at n;cases n⟩;have lowF:∀b o,s.heap.get? b=some o->b≠fa:=λ b o e=>aZ (oH (bC (aB e) hge) hlt);have out:∀b,b≠T->b≠c'->b≠fa->upd (upd (upd H T (.tbl (ps++#[rawInt pos.line,rawInt pos.col,.ref c']))) c' (cz c' qual)) fa (dL fa c' name qual params body scope cl) b=H b:=λ b n1 n2 n3=>by rw[ay n3,ay n2,ay n1]
  have trk:∀b o,H b=some o->b≠c'/\b≠fa:=λ b o e=>⟨(λ z=>by rw[z,hc0] at e;cases e),(λ z=>by rw[z,hfa] at e;cases e)⟩;have _H:upd (upd (upd H T (.tbl (ps++#[rawInt pos.line,rawInt pos.col,.ref c']))) c' (cz c' qual)) fa (dL fa c' name qual params body scope cl) T=some (.tbl (ps++#[rawInt pos.line,rawInt pos.col,.ref c'])):=by rw[ay nTf.symm,ay nTc.symm,bP]
  have HC:upd (upd (upd H T (.tbl (ps++#[rawInt pos.line,rawInt pos.col,.ref c']))) c' (cz c' qual)) fa (dL fa c' name qual params body scope cl) c'=some (cz c' qual):=by rw[ay ncf,bP]
  have HF:upd (upd (upd H T (.tbl (ps++#[rawInt pos.line,rawInt pos.col,.ref c']))) c' (cz c' qual)) fa (dL fa c' name qual params body scope cl) fa=some (dL fa c' name qual params body scope cl):=bP;generalize upd (upd (upd H T (.tbl (ps++#[rawInt pos.line,rawInt pos.col,.ref c']))) c' (cz c' qual)) fa (dL fa c' name qual params body scope cl)=H2 at *;have same:∀b o,b≠T->H b=some o->H2 b=some o:=λ b o n e=>by rw[out b n (trk b o e).1 (trk b o e).2];exact e
  have un:Un X.fs [] H H2 s.heap h2:=⟨λ b o e n _ _=>old b o ((lowT b o e).2 n) e,λ b o e n _ _=>⟨o.slots,old b o ((lowT b o e).2 n) e⟩,λ b o e n _=>by rw[out b ((lowT b o e).2 n) (lowT b o e).1 (lowF b o e)];exact n,λ b o e _=>by
   by_cases z:b=T
   ·rw[z];exact⟨_,eP⟩
   ·exact⟨o,old b o z e⟩,λ b xs e=>same b _ (λ z=>by rw[z,hT] at e;cases e) e,λ b o u e=>same b _ (λ z=>by rw[z,hT] at e;cases e) e,λ b qs e=>by
   by_cases z:b=T
   ·subst z;rw[hT] at e;cases e;exact⟨_,_H⟩
   ·exact⟨#[],by rw[same b _ z e];simp⟩⟩
  have hok:HOk X.prog X.w H2 h2:=λ b o e=>by
   by_cases zf:b=fa
   ·subst zf;rw[HF] at e;cases e;exact⟨⟨_,_,_,eF⟩,⟨_,eF⟩,λ h1 h3 ⟨dc,pm,cv,e1⟩ k=>⟨dc,pm,cv,k _ e1⟩⟩
   ·by_cases zc:b=c'
    ·subst zc;rw[HC] at e;cases e;obtain⟨c2,o2,vs2,t2,e2,ho2,r2⟩:=id eC;cases e2;exact⟨eC,⟨_,ho2⟩,λ h1 h3 x k=>oM x k⟩
    ·by_cases zT:b=T
     ·subst zT;rw[_H] at e;cases e;exact eP
     ·rw[out b zT zc zf] at e;refine(I.hok b o e).stay (λ d u hd q=>old d u (λ z=>?_) q) (λ d q=>same d _ (λ z=>by rw[z,hT] at q;cases q) q) λ d xs q=>same d _ (λ z=>by rw[z,hT] at q;cases q) q
      rcases hd with hd|hd
      ·exact zT (hd.symm.trans z)
      ·rw[z,hT] at hd;cases hd
  exact⟨.ref fa,H2,I.un un hok,ca,h fa c' cl H2 own hfa HF HC ⟨_,_H,by simpa using wt ps.toList ht,.inr ⟨c',by simpa using codeAmong_snoc ps.toList ht hnf,HC⟩⟩ same⟩
 ·refine makeFunction_hit hcl I.ok.glob hg hcode C eT ht hf hb λ ctv doc h' tk hx hsz=>?_;have hfa:H h'.objs.size=none:=I.hok.fresh hsz;have same:∀b o,H b=some o->upd H h'.objs.size (dL h'.objs.size c' name qual params body scope cl) b=some o:=λ b o e=>by rw[ay (iU e hfa)];exact e
  refine⟨.ref h'.objs.size,upd H h'.objs.size (dL h'.objs.size c' name qual params body scope cl),I.laid (t':=tk) (λ b u e=>aA _ (hx b u e)) hsz ?_,ca,h _ c' cl _ own hfa bP (same _ _ hc') ⟨ps,same _ _ hT,ht,.inr ⟨c',hf,same _ _ hc'⟩⟩ λ b o _ e=>same b o e⟩;exact⟨⟨_,_,_,aR _ rfl⟩,⟨_,aR _ rfl⟩,λ h1 h3 ⟨dc,pm,cv,e1⟩ k=>⟨dc,pm,cv,k _ e1⟩⟩
noncomputable def Gy(ec:LA)(fv:List Str)(T:Addr)(pos:Pos)(i:Nat)(name qual:Str)(params:Arguments)(body:List Stmt)(scope:Scope):TS:=λ D σ H=>TabOk H T pos qual /\
 ∀fa c' cl H2,OwnCl ec fv cl->H fa=none->H2 fa=some (dL fa c' name qual params body scope cl)->H2 c'=some (cz c' qual)->TabOk H2 T pos qual->(∀b o,b≠T->H b=some o->H2 b=some o)->D.nx (σ.set i (some (.ref fa))) H2
theorem Gz{i:Nat}{name qual:Str}(hN:X.N.Nodup)(hi:X.N[i]?=some name)(hx:Loc X.env.scope name)(hq:qualnameIn X.env name name=qual)(hcode:X.env.code=.ref c)(TF:TabF X.base X.mg c T)(hcl:closureFor scope X.env=pure cl)(own:OwnCl X.env.cells fv cl)
  (hd0:params.defaults=[]) (hk0:params.kw_defaults=[]) (ha:annTrees params none X.env=[]) (hf:X.fn name=true\/X.env.scope.names.lookup name=some .local:=by first|exact .inl rfl|exact .inr rfl) :
  PS X (.FunctionDef name params body [] none [] scope none name pos) (Gy X.env.cells fv T pos i name qual params body scope):=by
 intro pins s σ H D I h;refine nestDef_K hd0 hk0 ha ?_;rw[hq];refine thn (Gw (Q:=λ v H2=>∃fa,v=.ref fa/\D.nx (σ.set i (some (.ref fa))) H2) I hcode TF hcl own ⟨h.1,λ fa c' cl H2 o1 n1 a1 a2 a3 a4=>⟨fa,ca,h.2 fa c' cl H2 o1 n1 a1 a2 a3 a4⟩⟩) λ u s1 ⟨v,H2,J,r,fa,e,q⟩=>?_;subst e;exact qJ J hN hi hx r (λ s2 J2=>⟨_,H2,J2,q⟩) hf
end
theorem mE:∀ {xs:List V}{us:LV},Vals xs us->xs.all cD=true->∀(j:Nat) (h1:j<xs.length) (h2:j<us.length),eqU x us[j]=eqV xs[j] x
 |y::xs,u::us,.cons r t,f,j,h1,h2=>by
  rw[cw,aU] at f
  cases j with
  |zero=>exact rB r f.1
  |succ j=>exact mE t f.2 j (oN h1) (oN h2)
noncomputable def GA(K:FG):V->List V->Hp->VK->Prop:=λ x ys H Q=>∃a xs y j,x=.ref a/\ys=[y]/\SqL K H a xs/\xs.all cD=true/\cD y=true/\(∃z,xs[j]?=some z/\eqV z y=true)/\(∀m z,m<j->xs[m]?=some z->eqV z y=false)/\Q (.int (j:Nat)) H
def wx:MtR X "list.index" (GA X.K):=by
 intro pins s σ H x ys v us Q I rx rv h;obtain⟨a,xs,y,j,rfl,rfl,ha,hfl,fy,⟨z,ez,hz⟩,hn,q⟩:=h;cases rx;obtain⟨u,rfl,ru⟩:=cB rv;obtain⟨its,r',pl,zl⟩:=I.list ha;have hlen:=r'.length;obtain⟨⟨oc,od,odt,osl⟩,g1,hc,n,hd⟩:=pl.isList;simp only at hc hd;subst hc hd;have jl:=(be.mp ez).1;have jl2:j<its.length:=fu;have big:(sizeLine:Int)<2 ^ 63-1:=by decide +kernel
 refine gv F.slot_list_index ⟨_,g1,ca⟩ F.entry_list_index (F.args_list_index_2 _ _) (SeqAt.list_indexAt a its.toArray n od osl u (eqU y) j (by simpa using jl2) fu ?_ ?_) ⟨g1,λ w hw=>jb ru fy r' hfl w (by simpa using hw),?_⟩
 ·show eqU y its[j]=true;rw[mE r' hfl j jl jl2];rw[az jl] at ez;cases (bj ez);exact hz
 ·intro m hm hlt;show eqU y its[m]=false;have ml:m<xs.length:=by simp only[aM] at hm;lia
  rw[mE r' hfl m ml (by simpa using hm)];exact hn m _ hlt (az ml)
 ·exact⟨.int _,H,I.tok _,⟨_,ca⟩,q⟩
def GC(l:Addr)(its:Array Value)(n:Nat)(dd:OA)(sl:AV)(x:Value)(e:Value->Bool)(j:Nat)(hj:j<its.size)(hit:e its[j]=true)(hno:∀m (hm:m<its.size),m<j->e its[m]=false):Meets (Builtin.«tuple.index» ⟨[.ref l,x],[]⟩) (λ A R s=>s.heap.get? l=some ⟨.type "tuple",dd,.seq its n,sl⟩/\(∀y,y∈its->SeqAt.EqAt A.in1 s y x (e y))/\R (.ok (.ret (.int j s.toks))) { s with toks:=s.toks+1 }) :=
 .of_wp λ prog w A R s h=>by
  obtain⟨hp,g,d,tk,os⟩:=s;obtain⟨hl,he,h⟩:=h;unfold Builtin.«tuple.index»;simp only[Std.Legacy.Range.forIn_eq_forIn_range',Std.Legacy.Range.size,Nat.sub_zero,Nat.add_sub_cancel,Nat.div_one];wp_walk using AutoSeq1.wpAny_loadPart' hl,su _ (λ rest b s'=>b.1=none/\s'=⟨hp,g,d,tk,os⟩/\∃i,i<=j/\rest=List.range' i (its.size-i)) _
  case turn=>
   rintro y rest b s' ⟨hb,rfl,i,ij,er⟩;have il:i<its.size:=fu;rw[show its.size-i=(its.size-(i+1))+1 by lia,List.range'_succ] at er;obtain⟨rfl,rfl⟩:=mC er;rw[oF il];refine af (he _ (Array.getElem_mem il) prog w _ _ ?_);by_cases c:y=j
   ·subst c;rw[hit];wp_walk;exact⟨_,ca,h⟩
   ·rw[hno y il fu];wp_walk;exact⟨ca,ca,y+1,fu,ca⟩
  case fin=>
   rintro b s' ⟨hb,rfl,i,ij,er⟩;have:=br List.length er;rw[List.length_nil,List.length_range'] at this;lia
  case h=>
   exact⟨ca,ca,0,bS _,pv⟩
section
variable {prog:Program}{w:World}{A:Around}{R:Result->Shared->Prop}{I:Addr}{fp wr:List Addr}{n:Nat}{P:Nat->Value->Prop}{St:Nat->Heap->Prop}
end
def GD(hc:X.calm=true):bR X (.builtin "min") (λ xs H Q=>∃a ns,xs=[.ref a]/\SqL X.K H a (List.map V.int ns)/\0<ns.length/\∀M:Int,M∈ns->(∀z∈ns,M<=z)->Q (.int M) H):=by
 intro pins s σ H xs us Q I r h;obtain⟨a,ns,rfl,hq,hne,q⟩:=h;obtain⟨u,rfl,ru⟩:=cB r;cases (show u=Value.ref a from ru);obtain⟨its,rv,pl,hz⟩:=I.list hq;have hi:=lT rv;obtain⟨xs,e⟩:=hi.allInts.items;have hns:ns=xs.toList.map (·.1):=by rw[<- hi.numsOf,<- s1k,<- e]
 have hl:=pl.isList;rw[e] at hl;have hsz:0<xs.size:=by rw[hns,ak,Array.length_toList] at hne;exact hne
 refine min_intList (I.ok.hd hc) hl hsz λ v h' tk hv kk=>?_;obtain⟨t,rfl⟩:=intItems_at hv;obtain⟨h1,h2⟩:=argBest_lt (numAt xs) (xs.size-1);refine⟨.int _,H,I.kept kk,⟨t,ca⟩,q _ ?_ λ z hz=>?_⟩
 ·rw[hns,s1z];exact getD_mem (by rw[ak,Array.length_toList];lia)
 ·rw[hns] at hz;obtain⟨j,hj,rfl⟩:=mem_getD hz;rw[ak,Array.length_toList] at hj;rw[<- s1z];exact h2 j fu
def GE(hc:X.calm=true):bR X (.builtin "max") (λ xs H Q=>∃a ns,xs=[.ref a]/\SqL X.K H a (List.map V.int ns)/\0<ns.length/\∀M:Int,M∈ns->(∀z∈ns,z<=M)->Q (.int M) H):=by
 intro pins s σ H xs us Q I r h;obtain⟨a,ns,rfl,hq,hne,q⟩:=h;obtain⟨u,rfl,ru⟩:=cB r;cases (show u=Value.ref a from ru);obtain⟨its,rv,pl,hz⟩:=I.list hq;have hi:=lT rv;obtain⟨xs,e⟩:=hi.allInts.items;have hns:ns=xs.toList.map (·.1):=by rw[<- hi.numsOf,<- s1k,<- e]
 have hl:=pl.isList;rw[e] at hl;have hsz:0<xs.size:=by rw[hns,ak,Array.length_toList] at hne;exact hne
 refine max_intList (I.ok.hd hc) hl hsz λ v h' tk hv kk=>?_;obtain⟨t,rfl⟩:=intItems_at hv;obtain⟨h1,h2⟩:=argBest_gt (numAt xs) (xs.size-1);refine⟨.int _,H,I.kept kk,⟨t,ca⟩,q _ ?_ λ z hz=>?_⟩
 ·rw[hns,s1z];exact getD_mem (by rw[ak,Array.length_toList];lia)
 ·rw[hns] at hz;obtain⟨j,hj,rfl⟩:=mem_getD hz;rw[ak,Array.length_toList] at hj;rw[<- s1z];exact h2 j fu
section
variable {pg:Program}{wd:World}{B:Around}{X0:VS}{s0:Shared}
end
section
variable {es:List Expr}{x1:Nat}{pp:Pos}
end
noncomputable def oO:V->List V->Hp->VK->Prop:=λ x vs H Q=>∃l xs i y,x=.ref l/\vs=[.int i,y]/\H l=some (.lst xs)/\0<=i/\i<=xs.length/\xs.length<sizeLine/\Q .non (upd H l (.lst (xs.take i.toNat++y::xs.drop i.toNat)))
def GF:MtR X "list.insert" oO:=by
 intro pins s σ H x vs v us Q I rx rv h;obtain⟨l,xs,i,y,rfl,rfl,hH,i0,i1,hz,q⟩:=h;cases rx;obtain⟨u,w,rfl,⟨t,rfl⟩,rw'⟩:=lP rv;obtain⟨z,its,n,r,hl,e⟩:=I.lstM hH;have s63:sizeLine<=2 ^ 62:=by rw[jW];decide
 have hf:Builtin.List.listFitsIndex i=true:=s0o fu fu
 refine gv F.slot_list_insert ⟨_,e,ca⟩ F.entry_list_insert (F.args_list_insert_3 _ _ _)
  (AutoSeq1.list_insert_list_int_val_1 l its.toArray n i t w (by simp[hf]) (by rw[aM];lia)) ⟨e,?_⟩
 refine⟨.non,_,I.lset (its':=its.take i.toNat++w::its.drop i.toNat) hH e ?_ ((r.take _).append (.cons rw' (r.drop _))) ?_,ca,q⟩
 ·show(its.toArray.extract 0 (if i<0 then (i+(its.toArray.size:Int)).toNat else min i.toNat its.toArray.size)).push w++its.toArray.extract (if i<0 then (i+(its.toArray.size:Int)).toNat else min i.toNat its.toArray.size)=_;rw[if_neg fu,aM,fT fu];apply Array.ext';simp[List.extract_eq_take_drop,iw]
 ·rw[aK,List.length_cons,bc,da];lia
section
variable {pg:Program}{wd:World}{B:Around}{X0:VS}{s0:Shared}
end
section
variable {es:List Expr}{x1:Nat}{pp:Pos}
end
section
variable {prog:Program}{w:World}{A:Around}{R:Result->Shared->Prop}{I:Addr}{fp wr:List Addr}{n:Nat}{P:Nat->Value->Prop}{St:Nat->Heap->Prop}
noncomputable def wy(h0:Heap)(S:Addr)(wr:List Addr)(kf:Nat->Int)(P:Nat->Value->Prop):Prop:=∀i v,P i v->∃a its,v=.ref a/\¬a∈wr/\a≠S/\h0.IsTuple a its/\(its.size:Int)<2 ^ 63/\kf i=its.size
noncomputable def sw(kf:Nat->Int)(m i:Nat):Prop:=∀j,j<m->kf j<=kf i/\(j<i->kf j<kf i)
theorem GG(W:Walks prog w A.in1 I fp wr n P St)(kf:Nat->Int)(S:Addr)(hSf:¬S∈fp)(h0:Heap)(hk:wy h0 S wr kf P):∀(k j i:Nat) (s:Shared) (vb:Value) (tb:Tok) (c:Nat),n-(j+1)=k->j+1<=n->St (j+1) s.heap->P i vb->i<=j->sw kf (j+1) i->(∀b o,¬b∈wr->b≠S->h0.get? b=some o->s.heap.get? b=some o)->s.heap.get? S=some ⟨.type "list",none,.seq #[vb,.int (kf i) tb] c,#[]⟩ ->
  (∀i v h' tk,P i v->i<n->sw kf n i->(∀b o,¬b∈wr->b≠S->h0.get? b=some o->h'.get? b=some o)->R (.ok (.ret v)) { s with heap:=h',toks:=tk })->codeAny (model prog w) A (.builtin "max.loop" ⟨[.ref I,.builtin "len",.ref S],[]⟩) R s:=by
 have hSw:¬S∈wr:=λ h=>hSf (W.sub _ h);have nm:(toString "max" ++ toString ".loop" : String)="max.loop" := by decide
 intro k;induction k with
 |zero=>
  intro j i s vb tb c hk' hj hst hPb hij hb kp0 hS hR;have e0:j+1=n:=fu;refine gz sC ?_;rw[gC jp _];show wpAny (model prog w) A.in1 (seqItems? (.ref S) >>= _) _ _ s;refine af (m:=seqItems? (.ref S)) (iu hS rfl ?_);show wpAny (model prog w) A.in1 (tryCatch (pyNext (.ref I)) _ >>= _) _ _ s;refine af (m:=tryCatch (pyNext (.ref I)) _) (kD (W.done s _ _ (e0 ▸ hst) λ h' tk kp=>?_));have hS1:=kp S _ hSw hS;show wpAny (model prog w) A.in1 (updateSeq S (λ _=>#[]) >>= _) _ _ _;refine af (m:=updateSeq S (λ _=>#[])) (kt hS1 rfl (af (mF (aj ?_))));exact hR i vb _ tk hPb fu (e0 ▸ hb) λ b o hbw hbS e=>(dY _ _ (bW hbS)).trans (kp b o hbw (kp0 b o hbw hbS e))
 |succ k ih=>
  intro j i s vb tb c hk' hj hst hPb hij hb kp0 hS hR;have lt0:j+1<n:=fu;refine gz sC ?_;rw[gC jp _];show wpAny (model prog w) A.in1 (seqItems? (.ref S) >>= _) _ _ s;refine af (m:=seqItems? (.ref S)) (iu hS rfl ?_);show wpAny (model prog w) A.in1 (tryCatch (pyNext (.ref I)) _ >>= _) _ _ s;refine af (m:=tryCatch (pyNext (.ref I)) _) (kD (W.item (j+1) s _ _ lt0 hst λ v h' tk hP hst1 kp=>?_));have hS1:=kp S _ hSw hS;have kp1:∀b o,¬b∈wr->b≠S->h0.get? b=some o->h'.get? b=some o:=λ b o hbw hbS e=>kp b o hbw (kp0 b o hbw hbS e);obtain⟨a,its,rfl,aw,aS,at0,a63,ek⟩:=hk _ _ hP;show wpAny (model prog w) A.in1 (tryCatch (holding [.ref a] (call (.builtin "len") [.ref a])) _ >>= _) _ _ _;refine af (kD (du (s1g (vV at0 λ o e=>kp1 a o aw aS e) a63 ?_)));rw[<- ek];show wpAny (model prog w) A.in1 (tryCatch (holding [.ref a,.int (kf (j+1)) _] (richCompare .Gt (.int (kf (j+1)) _) (.int (kf i) tb) >>= _)) _ >>= _) _ _ _;refine af (kD (du (af (CmpOf.ints_gt (prog:=prog) (w:=w) (A:=A.in1) (P:=λ i v=>∃t,v=.int (kf i) t) kf (λ i v h=>h) (j+1) i _ _ _ _ _ ⟨_,ca⟩ ⟨tb,ca⟩ ?_))));refine af (du (fG ?_));refine af (mF (aj ?_));by_cases hb':kf (j+1) > kf i
  ·simp only[hb',decide_true,dI];refine af (m:=updateSeq S _) (kt hS1 rfl (af (mF ?_)));rw[nm];refine aj (a:=_) ⟨eY jp _,ih (j+1) (j+1) _ (.ref a) _ _ fu lt0 (W.frame _ _ _ hst1 λ b hbf o e=>(dY _ _ (λ h:S=b=>hSf (by rw[h];exact hbf))).trans e) hP (av _) (λ j' hj'=>?_) (λ b o hbw hbS e=>(dY _ _ (bW hbS)).trans (kp1 b o hbw hbS e)) (gu _ hS1 rfl) λ i2 v2 h2 tk2 q1 q2 q3 q4=>hR i2 v2 h2 tk2 q1 q2 q3 q4⟩;by_cases e:j'=j+1
   ·subst e;exact⟨jq _,λ z=>absurd z (cQ _)⟩
   ·have:=(hb j' fu).1;exact⟨fu,λ _=>by lia⟩
  ·simp only[hb',decide_false,oK,s0f];refine af (m:=letGo _) (mF ?_);rw[nm];refine aj (a:=_) ⟨eY jp _,ih (j+1) i _ vb tb c fu lt0 hst1 hPb fu (λ j' hj'=>?_) kp1 hS1 λ i2 v2 h2 tk2 q1 q2 q3 q4=>hR i2 v2 h2 tk2 q1 q2 q3 q4⟩;by_cases e:j'=j+1
   ·subst e;exact⟨fu,λ z=>by lia⟩
   ·exact hb j' fu
theorem GH(W:Walks prog w A.in1 I fp wr n P St)(kf:Nat->Int)(S:Addr)(hSf:¬S∈fp)(h0:Heap)(hk:wy h0 S wr kf P)(hn:0<n){s:Shared}(hst:St 0 s.heap)(kp0:∀b o,¬b∈wr->b≠S->h0.get? b=some o->s.heap.get? b=some o)(hS:s.heap.get? S=some ⟨.type "list",none,.seq #[] c,#[]⟩)
  (hR:∀i v h' tk,P i v->i<n->sw kf n i->(∀b o,¬b∈wr->b≠S->h0.get? b=some o->h'.get? b=some o)->R (.ok (.ret v)) { s with heap:=h',toks:=tk }):codeAny (model prog w) A (.builtin "max.loop" ⟨[.ref I,.builtin "len",.ref S],[]⟩) R s:=by
 have hSw:¬S∈wr:=λ h=>hSf (W.sub _ h);have nm:(toString "max" ++ toString ".loop" : String)="max.loop" := by decide
 refine gz sC ?_;rw[gC jp _];show wpAny (model prog w) A.in1 (seqItems? (.ref S) >>= _) _ _ s;refine af (m:=seqItems? (.ref S)) (iu hS rfl ?_);show wpAny (model prog w) A.in1 (tryCatch (pyNext (.ref I)) _ >>= _) _ _ s;refine af (m:=tryCatch (pyNext (.ref I)) _) (kD (W.item 0 s _ _ hn hst λ v h' tk hP hst1 kp=>?_));have hS1:=kp S _ hSw hS;have kp1:∀b o,¬b∈wr->b≠S->h0.get? b=some o->h'.get? b=some o:=λ b o hbw hbS e=>kp b o hbw (kp0 b o hbw hbS e);obtain⟨a,its,rfl,aw,aS,at0,a63,ek⟩:=hk _ _ hP;show wpAny (model prog w) A.in1 (tryCatch (holding [.ref a] (call (.builtin "len") [.ref a])) _ >>= _) _ _ _;refine af (kD (du (s1g (vV at0 λ o e=>kp1 a o aw aS e) a63 ?_)));rw[<- ek];show wpAny (model prog w) A.in1 (updateSeq S (λ _=>#[.ref a,.int (kf 0) _]) >>= _) _ _ _;refine af (m:=updateSeq S _) (kt hS1 rfl ?_);rw[nm];refine aj (a:=_) ⟨eY jp _,GG W kf S hSf h0 hk _ 0 0 _ (.ref a) _ _ rfl hn (W.frame _ _ _ hst1 λ b hbf o e=>(dY _ _ (λ h:S=b=>hSf (by rw[h];exact hbf))).trans e) hP (av _) (λ j' hj'=>?_) (λ b o hbw hbS e=>(dY _ _ (bW hbS)).trans (kp1 b o hbw hbS e)) (gu _ hS1 rfl) λ i2 v2 h2 tk2 q1 q2 q3 q4=>hR i2 v2 h2 tk2 q1 q2 q3 q4⟩;have z:j'=0:=fu;subst z;exact⟨jq _,λ z=>absurd z (cQ _)⟩
end
section
variable {st:Stmt}{rest:List Stmt}{t u:TS}{e:Expr}{es:List Expr}{te:TE}{ta:TA}{pos:Pos}
end
section
variable {prog:Program}{w:World}{A:Around}
def GI(a b v:Value):argsOk "max" ⟨[a,b],[(Str.ofString "key",v)]⟩:=by unfold argsOk;kernel_rfl
theorem GJ{s:Shared}{i1 i2:Array Value}{Q:VS}(hh:A.handled=none)(h1:s.heap.IsTuple a1 i1)(h2:s.heap.IsTuple a2 i2)(z1:(i1.size:Int)<2 ^ 63)(z2:(i2.size:Int)<2 ^ 63)
  (hQ:∀v h' tk,(v=.ref a1/\i2.size<=i1.size\/v=.ref a2/\i1.size<i2.size)->(∀b o,s.heap.get? b=some o->h'.get? b=some o)->Q v { s with heap:=h',toks:=tk }):wpAny (model prog w) A (call (.builtin "max") [.ref a1,.ref a2] [(Str.ofString "key",.builtin "len")]) Q E s:=by
 have nm:(toString "max" ++ toString ".loop" : String)="max.loop" := by decide
 have hT:(s.heap.push { cls:=.type "tuple",data:=.seq #[.ref a1,.ref a2] }).IsTuple s.heap.objs.size #[.ref a1,.ref a2]:=⟨_,aR _ rfl,rfl,0,rfl⟩;have hsz:(s.heap.push { cls:=.type "tuple",data:=.seq #[.ref a1,.ref a2] }).objs.size=s.heap.objs.size+1:=fK ..;refine kmb_tree PySem.F.kind_max PySem.F.plain_max PySem.F.entry_max (GI _ _ _) ?_;show wpAny _ A.in1 (Builtin.Builtins.bindParams "max" ["key","default"] 0 ⟨[],[(Str.ofString "key",.builtin "len")]⟩ >>= _) _ _ s;refine af (dZ (show Builtin.Builtins.bindParams "max" ["key","default"] 0 ⟨[],[(Str.ofString "key",.builtin "len")]⟩=pure [some (.builtin "len"),none] from rfl) ?_);show wpAny _ A.in1 (newTuple [.ref a1,.ref a2] >>= _) _ _ s;refine af (cS ?_);refine af (m:=pyIter _) (sj hT ?_);refine af (m:=newList _) (cS ?_);rw[nm];have W:=Walks.tuple (prog:=prog) (w:=w) (A:=A.in1) hh (s.heap.push { cls:=.type "tuple",data:=.seq #[.ref a1,.ref a2] }).objs.size s.heap.objs.size (by rw[hsz];exact aZ (im _)) #[.ref a1,.ref a2];have hI:((s.heap.push { cls:=.type "tuple",data:=.seq #[.ref a1,.ref a2] }).push { cls:=.type "tuple_iterator",data:=.fields #[.ref s.heap.objs.size,.int 0 0] }).objs.size=s.heap.objs.size+2:=by rw[fK,hsz]
 have e1:a1<s.heap.objs.size:=by obtain⟨o,g,_⟩:=h1;exact aB g
 have e2:a2<s.heap.objs.size:=by obtain⟨o,g,_⟩:=h2;exact aB g
 refine aj (a:=_) ⟨eY jp _,GH W (λ i=>([(i1.size:Int),(i2.size:Int)].getD i 0)) ((s.heap.push { cls:=.type "tuple",data:=.seq #[.ref a1,.ref a2] }).push { cls:=.type "tuple_iterator",data:=.fields #[.ref s.heap.objs.size,.int 0 0] }).objs.size ?_ s.heap (λ i v hv=>?_) (mG _) ?_ (λ b o _ _ e=>aA _ (aA _ (aA _ e))) (aR _ rfl) λ i v h' tk q1 q2 q3 q4=>?_⟩
 ·rw[hI,hsz];intro z
  rcases bf.mp z with z|z
  ·exact absurd z (Nat.succ_ne_self _)
  ·exact absurd (bY.mp z) (lJ (dJ (im _)))
 ·have nw:∀a,a<s.heap.objs.size->¬a∈[(s.heap.push { cls:=.type "tuple",data:=.seq #[.ref a1,.ref a2] }).objs.size]:=λ a h z=>by
   have:=bY.mp z;rw[hsz] at this;exact aZ (dJ h) this
  match i,hv with
  |0,hv=>cases hv;exact⟨a1,i1,rfl,nw _ e1,by rw[hI];exact aZ (dJ (dJ e1)),h1,z1,rfl⟩
  |1,hv=>cases hv;exact⟨a2,i2,rfl,nw _ e2,by rw[hI];exact aZ (dJ (dJ e2)),h2,z2,rfl⟩
  |i+2,hv=>simp at hv
 ·exact W.frame _ _ _ ⟨⟨_,aR _ rfl,ca,ca⟩,hT.push _⟩ λ b _ o e=>aA _ e
 ·have kp:∀b o,s.heap.get? b=some o->h'.get? b=some o:=λ b o e=>by
   have bl:=aB e;exact q4 b o (λ z=>by have:=bY.mp z;rw[hsz] at this;exact aZ (dJ bl) this) (by rw[hI];exact aZ (dJ (dJ bl))) e
  match i,q1 with
  |0,q1=>
   cases q1;have b:=(q3 1 (im _)).1;have b:(i2.size:Int)<=(i1.size:Int):=b;exact hQ _ _ _ (.inl ⟨ca,fu⟩) kp
  |1,q1=>
   cases q1;have b:=(q3 0 (mG _)).2 (mG _);have b:(i1.size:Int)<(i2.size:Int):=b;exact hQ _ _ _ (.inr ⟨ca,fu⟩) kp
  |i+2,q1=>simp at q1
end
noncomputable def GK(r:V->V->Hp->VK->Prop)(te tf:TE):TE:=λ σ H Q=>te σ H λ x H1=>tf σ H1 λ y H2=>r x y H2 Q
theorem GL{X:Cx}{i:Nat}{elt tg iter cnd:Expr}{cl:LA}{pos pos' lpos:Pos}{own fv:List Str}{js:List Nat}
  (hN:X.N.Nodup) (hx1:X.N[i]?=some x) (hx:Loc X.env.scope x) (hf:X.fn x=true\/X.env.scope.names.lookup x=some .local)
  (hc:X.calm=true) (hi:PI X tg iter wi) (hclos:closureFor scope X.env=pure cl) (hcell:∀y∈scope.names,y.2≠.cell) (hkind:scope.kind=.function)
  (hnames:∀y∈scope.names,y.2=.local->scope.names.lookup y.1=some .local)
  (hcl:∀x c,cl.lookup x=some c->X.env.cells.lookup x=some c)
  (hhas:∀x,((relabel scope X.env).names.lookup x=some .cell\/(relabel scope X.env).names.lookup x=some .free)->∃c,cl.lookup x=some c)
  (hlen:js.length=fv.length) (hcap:∀(i:Nat) x j,fv[i]?=some x->js[i]?=some j->Cap X scope cl x j)
  (hg:∀(C:Addr) (ex:List Addr) (s:Shared) (H:Hp),PG (bp X (own++fv) scope cl C ex s H) tg g)
  (he:∀(C:Addr) (ex:List Addr) (s:Shared) (H:Hp),PE (bp X (own++fv) scope cl C ex s H) elt te)
  (ht:∀(C:Addr) (ex:List Addr) (s:Shared) (H:Hp),PT (bp X (own++fv) scope cl C ex s H) cnd tc)
  (hsw:swapsWith (.ListComp elt [⟨tg,iter,[cnd],0⟩] scope lpos) (some (.Name x pos')) pos.line X.env=pure true:=by rfl)
  (hs:∀x,foldedSetIterable iter X.env x=pure x:=by intro _;rfl) :
  PS X (.Assign [.Name x pos'] (.ListComp elt [⟨tg,iter,[cnd],0⟩] scope lpos) pos) (jT (jf wi own.length js g tc te) (dH i)):=by
 intro pins s σ H D I h;rw[wb _ _ _ _ hsw];refine af (gj ?_);rw[wc];have core:=vX (use:=some (assign (.Name x pos') X.env)) (QQ:=λ _ s'=>SP X pins D .next s') (fpos:=firstIterPos [⟨tg,iter,[cnd],0⟩] lpos) (pos:=lpos) hc hi hclos hcell hkind hnames hcl hhas hlen hcap hg he ht hs I h (λ a C s5 H5 fl I5 zC zL zS zc zp ⟨m,hn⟩ q=>?_)
 ·refine af (af (thn core λ _ s' hq=>?_));exact aj (aj hq)
 ·show wpAny (model X.prog X.w) X.A (assign (.Name x pos') X.env (.ref a)) _ X.xe s5;show wpAny (model X.prog X.w) X.A (do standAt pos';bindName X.env x (.ref a)) _ X.xe s5;refine af (gj ?_);refine bindName_ ?_;refine qI I5 hN hx1 hx (show RelV (.ref a) (.ref a) from rfl) (λ s6 I6 ⟨b,sb,hb⟩=>?_) hf
  have cb:C≠b:=by
   rcases hb with rfl|hb
   ·exact zL
   ·exact λ z=>zc x b hb z.symm
  obtain⟨o,es,ep,e,r⟩:=hn;refine⟨m,⟨o,es,ep,(sb.2 C cb).trans e,r⟩,λ h' sc=>?_⟩;exact⟨_,H5,I6.turned (t':=s6.toks) (it:=C) (λ d o nd e=>sc.extBut d o nd e) zC zL (.inr zS) zc zp,q⟩
noncomputable def GM(B h:Heap)(e:Addr)(cls:Value)(dx:Addr)(hd:Value):Prop :=
 ∃oe vs,h.get? e=some oe/\(oe.cls=cls/\oe.dict=some dx)/\oe.data=.fields vs/\vs[1]?=some hd
noncomputable def GO(B h:Heap)(e:Addr)(hd fl:Value):Prop:=∃T oT ts,hd=.ref T/\B.get? T=none/\T≠e/\h.get? T=some oT/\oT.data=.fields ts/\ts[3]?=some fl
noncomputable def GP(B:Heap)(l:List Env)(e:Addr)(cls:Value)(dx:Addr)(fl:Value)(h:Heap):Prop :=
 B.StaysIn h/\B.get? e=none/\h.FunFrames B l/\∃hd,GM B h e cls dx hd/\GO B h e hd fl
section
variable {M:Model}{A:Around}{E:VS}{s:Shared}{B:Heap}{env:Env}{outer:List Env}{L e dx:Addr}{cls:Value}
end
end _L
namespace _L
open PySem PySem.Spec PyProof.Rows Builtin Builtin.ObjectAttr
noncomputable def oP(K:FG)(C:Addr)(bmB:LV)(nid:String):Bool:=match K.lookup C with
 |some ⟨.type "type",_,.cls cd,kk⟩=>cd.hasDict&&(match cd.mro,kk.toList with|.ref C2::tl,[_,_,_,_,some (.builtin n2),_]=>C2 == C&&(n2 == nid&&(!cd.hasDel&&W.tailIn K bmB tl))|_,_=>false)
 |_=>false
structure HasX (h:Heap)(C:Addr)(bmB:LV)(nid:String):Prop where
 ex:∃(nm q:Str) (N:Addr) (bs bm:LV) (sn:List Str) (sub:LV) (ab:Bool) (col:Option Bool) (dd:OA) (k0 k1 k2 k3 k5:Option Value),
  h.get? C=some (excClassObj nm q C N bs bm true sn sub ab col dd k0 k1 k2 k3 k5 nid)/\OwnTail h bmB bm
set_option tactic.hygienic true in
def wz{K:FG}(KI:K.In h)(q:oP K C bmB nid=true):HasX h C bmB nid:=by
 unfold oP at q;split at q
 ·rename_i ddx cdx slx hlk;rw[aU] at q;obtain⟨hdict,q⟩:=q;split at q
  ·rename_i C2 bm2 f0 f1 f2 f3 nn f5 hmro hsl0;simp only[aU,jg,rK] at q;obtain⟨eC,eN,hdl,htl⟩:=q;subst eC eN;obtain⟨c1,c2,c3,c4,c5,c6,c7,c8,c9,c10,c11⟩:=cdx;dsimp only at hmro hdl hdict;subst hmro hdl hdict
   have hsl1:slx=#[f0,f1,f2,f3,some (.builtin nn),f5]:=by
    obtain⟨lst⟩:=slx;simp only at hsl0;rw[hsl0]
   subst hsl1;exact⟨⟨_,_,_,_,_,_,_,_,_,_,_,_,_,_,_,KI _ _ hlk,W.tail_of_in KI htl⟩⟩
  ·cases q
 ·cases q
noncomputable abbrev fU(C t:Addr)(d:OA):Obj:={ cls:=.ref C,dict:=d,data:=.fields #[.ref t,.none,.none,.none,.bool false,.none] }
noncomputable def iz(a C:Addr)(d:OA):HO:=.ext λ h=>∃t,h.get? a=some (fU C t d)
def GQ{h:Heap}{a C t:Addr}(e:h.get? a=some (fU C t d)):ObjOk P w H h a (iz a C d):=⟨⟨t,e⟩,⟨_,e⟩,λ _ _ ⟨t2,q⟩ k=>⟨t2,k _ q⟩⟩
noncomputable def oQ(d:Addr)(fs:List (Str×V)):HO:=.ext λ h=>fs.length<=1000/\∃mA,h.Ns1 d mA/\(∀f,RelO (fs.lookup f) (mA f))/\PySem.Within mA (fs.map (·.1))
section
variable {prog:Program}{w:World}{A:Around}{E:VS}{h:Heap}{g:Array GenState}{dr:Drawn}{tk:Nat}{os:OsState}{C:Addr}{bmB:LV}{B nid initId:String}
theorem GR{K:FG}{us:LV}{Q:VS}(F:ExcBaseFacts B nid initId bmB)(KI:K.In h)(X:HasX h C bmB nid)(hi:W.findIn K (.ref C) "__init__"=some (some (.ref fI)))(hf:W.typeIn K (.ref fI)=some (.type "function"))
  (hq:wpAny (model prog w) (A.under (.builtin "type.__call__" ⟨.ref C::us,[]⟩)) (call (.ref fI) (.ref (h.objs.size+1)::us)) (λ r s2=>r=.none/\Q (.ref (h.objs.size+1)) s2) E ⟨(h.push { cls:=.type "tuple",data:=.seq us.toArray }).push (fU C h.objs.size none),g,dr,tk,os⟩)
  (hz:us.length<=sizeLine):wpAny (model prog w) A (call (.ref C) us) Q E ⟨h,g,dr,tk,os⟩:=by
 obtain⟨nm,q,N,bs,bm,sn,sub,ab,col,dd,k0,k1,k2,k3,k5,hC,T⟩:=X.ex;have tcl:=tc_lookup;have tcb:=tc_bind (.ref C);have isT:(⟨h,g,dr,tk,os⟩:Shared).TypeIs (.ref C) "type" := ⟨_,hC,rfl⟩;refine jX (sg ?_);show wpAny _ _ (callAny (.ref C) _) _ _ _
 repeat (any_goals (first|assumption|wp_step|with_reducible refine mH hC ?_))
 refine fV rfl (codeAny_call_builtin_at (s1l _ (by decide +kernel)) entry_typeCall (wpAny_check_type_call_sub hC ?_))
 repeat (first|wp_step|with_reducible refine wpAny_madeBy_exc hC ?_|with_reducible refine mH hC ?_)
 refine codeAny_call_builtin_code (s1l _ F.quiet) (wpAny_check_new_subT F T hC (codeAny_exc_new_subT F T hC ?_ hz));show wpAny _ _ _ _ _ (⟨(h.push { cls:=.type "tuple",data:=.seq us.toArray }).push (fU C h.objs.size none),g,dr,tk,os⟩:Shared);generalize hh2:(h.push { cls:=.type "tuple",data:=.seq us.toArray }).push (fU C h.objs.size none)=h2 at hq ⊢;have kk:∀b o,h.get? b=some o->h2.get? b=some o:=λ b o e=>by rw[<- hh2];exact aA _ (aA _ e)
 have hg2:h2.get? (h.objs.size+1)=some (fU C h.objs.size none):=by rw[<- hh2];heap_get
 have hC2:=kk _ _ hC;have cc:(Value.ref C::bm).contains (.ref C)=true:=pv;unfold isInstance
 repeat (first|wp_step|with_reducible refine mH hg2 ?_|(with_reducible refine s0y hC2 ?_;rw[cc]))
 refine(W.looks_findIn (KI.keeps kk) hi).at ?_;refine du (af ((W.bind_fn (KI.keeps kk) _ hf).at (af (bQ hq (λ r s2 hr=>?_) λ _ _ z=>z))));obtain⟨rfl,z⟩:=hr;wp_walk;exact z
end
section
variable {prog:Program}{w:World}{A:Around}{E:VS}{h:Heap}{g:Array GenState}{dr:Drawn}{tk:Nat}{os:OsState}{C x:Addr}{bmB:LV}{B nid initId:String}{K:FG}
noncomputable def wA:LV->Bool
 |.ref _::r=>wA r
 |l=>l == [.type "ValueError",.type "Exception",.type "BaseException",.type "object"]
structure AtX (K:FG)(C:Addr):Prop where
 over:(W.clsIn K C).any (λ cd=>cd.hasDict&&wA cd.mro)=true
 sa:W.findIn K (.ref C) "__setattr__"=some (some (.builtin "object.__setattr__"))
 ga:W.findIn K (.ref C) "__getattribute__"=some (some (.builtin "BaseException.__getattribute__"))
end
def rm(H:Hp)(a:Addr):Hp:=λ b=>if b=a then none else H b
def sD{a b:Addr}(h:b≠a):rm H a b=H b:=by unfold rm;rw[if_neg h]
def GS:rm H a a=none:=by unfold rm;rw[if_pos rfl]
noncomputable def CX2(P:Program)(w:World):CXT:=λ outer H s E e s'=>
 ∃(a C dx:Addr) (H':Hp) (B:Heap),e=.ref a/\s'.os=s.os/\AllBare s'.gens/\GP B outer a (.ref C) dx .none s'.heap /\
  (∀b o,s.heap.get? b=some o->H b=none->b ∉ frs outer->B.get? b=some o)/\(∀b o,s.heap.get? b=some o->b ∉ frs outer->∃o',B.get? b=some o') /\
  Un (frs outer) [] H H' s.heap s'.heap/\HOk P w H' B/\E (.ref C) (some dx) H'
section
variable {P:Program}{w:World}{K:FG}{mg:SV}{base:Heap}{N:List Str}{qual:Str}{scope:Scope}{f:Addr}{cd:Value}{A:Around}{outer:List Env}{s:Shared}{H:Hp}{E:XK}
noncomputable def wB(X:Cx)(Ex:XK):Prop:=∀(pins:LO) (σ:St) (H:Hp) (s:Shared) (a C dx:Addr),Inv X pins σ H s->H a=some (iz a C (some dx))->X.s₀.heap.objs.size<=a->Ex (.ref C) (some dx) (rm H a)->X.xe (.ref a) s
end
section
variable {M:Model}{A:Around}{E:VS}{env:Env}{C:Addr}{bmB:LV}{nid:String}
theorem GU(hb:bmB.contains (.type "BaseException")=true)(hh:A.handled=none)
  (q:wpAny M A v (λ u s1=>∃e t d,u=.ref e/\HasX s1.heap C bmB nid/\s1.heap.get? e=some (fU C t d)/\E (.ref e) s1) E s):wpAny M A (raiseStmt env (some v) none) Q E s:=by
 unfold raiseStmt;refine af (bQ q (λ u s1 z=>?_) λ _ _ z=>z);obtain⟨e,t,d,rfl,X,he,hE⟩:=z;obtain⟨nm,qn,N,bs,bm,sn,sub,ab,col,dd,k0,k1,k2,k3,k5,hC,T⟩:=X.ex;obtain⟨hp,g,dr,tk,os⟩:=s1;have isB:(Value.ref C::bm).contains (.type "BaseException")=true:=by rw[List.contains_cons,T.hasType hb,Bool.or_true]
 repeat (first|with_reducible refine mH he ?_|(with_reducible refine s0y hC ?_;rw[isB])|with_reducible refine mH hC ?_|wp_step)
 exact wpAny_raiseNew_none hh hE
end
structure MkX (K:FG)(C f:Addr)(bmB:LV)(nid:String):Prop where
 cls:oP K C bmB nid=true
 init:W.findIn K (.ref C) "__init__"=some (some (.ref f))
 fn:W.isFn K (.ref f)=true
 kp:W.keepIn K (.ref C)=true
noncomputable def GV(C:Addr)(sp:Sp)(Ex:XK)(t:TA):TS:=λ _ σ H=>t σ H λ vs H1=>vs.length<=sizeLine/\∀a,H1 a=none ->
 sp (.ref a::vs) (upd H1 a (iz a C none)) (λ v H2=>v=.non/\∃dx,H2 a=some (iz a C (some dx))/\Ex (.ref C) (some dx) (rm H2 a)) E0
theorem GW{X:Cx}{e₀:Expr}{es:List Expr}
  (FB:ExcBaseFacts B nid initId bm) (hc:X.calm=true) (hg:Gl X x) (hm:X.mg x=some (.ref C)) (M:MkX X.K C f bm nid) (F:FnOk X.prog X.w X.K X.mg X.base CX0 k f fd ps sp) (hr:Room (k+1) X.A) (hbi:Binds X.K fd ps []) (hx:wB X Ex) (ha:PA X (e₀::es) t)
  (hdb:(x == ("__debug__" : Str))=false:=by decide) (he:starEach (e₀::es) X.env=(false,eval e₀ X.env)::starEach es X.env:=by rfl) (hpl:(backTo cpos (starEach es X.env)).any (·.1)=false:=by rfl) :
  PS X (.Raise (some (.Call (.Name x np) (e₀::es) [] cpos)) none pos) (GV C sp Ex t):=by
 intro pins s σ H D I h;rw[arm_exec_Raise];show wpAny (model X.prog X.w) X.A (do standAt pos;raiseStmt X.env (some (do let v <- eval (.Call (.Name x np) (e₀::es) [] cpos) X.env;standAt pos;pure v)) none) _ _ s;refine af (gj (GU (C:=C) (bmB:=bm) (nid:=nid) FB.hasBase (I.ok.hd hc) (af ?_)));refine ik (hZ I hg hm ?_ hdb);refine nZ (h₀:=X.base) I.ok.mod.kin M.kp (thn (ha cpos pins s σ H _ I h) λ us s1 ⟨vs,H1,I1,r,hz,q⟩=>⟨I1.kIn,?_⟩) he hpl;have hzu:us.length<=sizeLine:=by rw[<- r.length];exact hz
 obtain⟨hp,g,dr,tk,os⟩:=s1;have hX:=wz I1.kIn M.cls;have hq:=q (hp.objs.size+1) (I1.hok.fresh (s0v _));show wpAny _ _ (call (.ref C) us) _ _ _;refine GR FB I1.kIn hX M.init (jg.mp M.fn) ?_ hzu;have gx:((hp.push { cls:=.type "tuple",data:=.seq us.toArray }).push (fU C hp.objs.size none)).get? (hp.objs.size+1)=some (fU C hp.objs.size none):=by heap_get
 generalize hh2:(hp.push { cls:=.type "tuple",data:=.seq us.toArray }).push (fU C hp.objs.size none)=h2 at gx ⊢;have kk:∀b o,hp.get? b=some o->h2.get? b=some o:=λ b o e=>by rw[<- hh2];exact aA _ (aA _ e)
 have I2:Inv X pins σ (upd H1 (hp.objs.size+1) (iz (hp.objs.size+1) C none)) ⟨h2,g,dr,tk,os⟩:=I1.laid (t':=tk) kk (s0v _) (GQ gx);have r2:Vals (V.ref (hp.objs.size+1)::vs) (Value.ref (hp.objs.size+1)::us):=.cons rfl r
 have hl:(Value.ref (hp.objs.size+1)::us++[]).length=ps.length:=by
  have e:=r2.length;rw[F.len _ _ _ _ hq] at e;simpa using e.symm
 have hl2:=hbi ⟨h2,g,dr,tk,os⟩ (Value.ref (hp.objs.size+1)::us) I2.kIn hl;rw[cu] at hl2;refine jX (iX (F.run _ X.stack _ _ ⟨Value.ref (hp.objs.size+1)::us,[]⟩ (Value.ref (hp.objs.size+1)::us) _ _ E0 (hr.make C us []) (I2.env0.make C us []) hl2 r2 hq) λ r s' hq'=>?_)
 cases r with
 |error e=>exact False.elim hq'
 |ok fl=>
  cases fl with
  |ret u=>
   obtain⟨v,H',I3,rv,ev,dx,ha3,q3⟩:=I2.after hq';subst ev;refine⟨rv,af (gj (aj ?_))⟩;obtain⟨⟨t3,hr3⟩,_⟩:=(show ObjOk X.prog X.w H' s'.heap (hp.objs.size+1) (iz (hp.objs.size+1) C (some dx)) from I3.hok _ _ ha3);exact⟨_,t3,some dx,ca,wz I3.kIn M.cls,hr3,hx pins σ H' s' _ C dx I3 ha3 (cI I1.sz (s0v _)) q3⟩
  |next=>exact False.elim hq'
  |brk=>exact False.elim hq'
  |cont=>exact False.elim hq'
end _L
namespace _L
open PySem PySem.Spec PyProof.Rows PySem.W
variable {X:Cx}
section
variable {o e value:Expr}{f:Str}{pos pos' tpos:Pos}{ta tv:TE}
end
section
variable {CX:CXT}{k:Nat}{f C:Addr}{fd:FuncData}{ps:List Str}{sp:Sp}{dvs:List V}{ds:LV}{E:XK}{EE:St->XK}{x m:Str}{p pos apos:Pos}{e o:Expr}{es:List Expr}{ta:TE}{t:TA}
end
section
open PySem.Builtin PySem.Builtin.Str
end
section
variable {a b e:Expr}{es:List Expr}{ta tb te:TE}{t:TA}{u v:TS}{st:Stmt}{rest bl:List Stmt}{pos p pos':Pos}{x:Str}
end
section
variable {k j:Nat}{ps:List Str}{sp:Sp}{E:XK}{x:Str}{p pos:Pos}{e:Expr}{es:List Expr}{t:TA}
end
end _L
namespace _L
open PySem PyProof.Rows
section
variable {a p q:Addr}{b:Bool}{i j:Int}{x y:Str}{v:V}{vs:List V}{r:_L.St}{H:Hp}{Q:VK}{K:FG}{o:Option V}{n:Nat}{α β:Type}
end
variable {X:Cx}
section
variable {st:Stmt}{rest:List Stmt}{t u:TS}{e a b:Expr}{es:List Expr}{te tb:TE}{ta:TA}{pos:Pos}
end
section
variable {CX:CXT}{k:Nat}{f:Addr}{fd:FuncData}{ps:List Str}{sp:Sp}{E:XK}{x:Str}{p pos:Pos}{e:Expr}{es:List Expr}{te:TE}{t:TA}{st:Stmt}{rest:List Stmt}{ts u:TS}
end
section
open PySem.W
end
end _L
namespace _L
open PySem PySem.Spec PyProof.Rows PySem.W PySem.Calls
variable {X:Cx}
section
variable {pg:Program}{wd:World}{B:Around}{X0:VS}{s0:Shared}{r:Addr}{j:Int}{t u v:Tok}{n:Nat}
end
end _L
namespace _H
open PySem PyProof.Rows
section
open PySem.SeqAt
open PySem.AutoSeq1 (wpAny_loadPart')
open PySem.MeetsSeq PySem.MeetsSeq2 PySem.MeetsSeq3
end
section
variable {prog:Program}{w:World}{A:Around}{E:VS}{s:Shared}
end
end _H
namespace _L
open PySem PySem.Spec PyProof.Rows
variable {X:Cx}
end _L
namespace _L
open PySem PySem.Spec PyProof.Rows
noncomputable def Wk(h:Heap)(c:Bool)(j t:Addr)(k:Nat):Prop:=cond c (h.IsTupleIter j t k) (h.IsListIter j t k)
noncomputable def Wq(h:Heap)(c:Bool)(t:Addr)(its:Array Value):Prop:=cond c (h.IsTuple t its) (h.IsList t its)
def Wk.out(p:Wk h c j t k):∃o,h.get? j=some o/\(∀v,o.data≠.cell v)/\∀h':Heap,h'.get? j=some o->Wk h' c j t k:=by
 cases c<;>obtain⟨o,g,r,d⟩:=p<;>exact⟨o,g,λ v z=>(by rw[d] at z;cases z),λ h' e=>⟨o,e,r,d⟩⟩
def Wq.out(p:Wq h c t its):∃o,h.get? t=some o/\∀h':Heap,h'.get? t=some o->Wq h' c t its:=by
 cases c<;>obtain⟨o,g,r⟩:=p<;>exact⟨o,g,λ h' e=>⟨o,e,r⟩⟩
def Wk.to{h h':Heap}(p:Wk h c j t k)(f:∀o,h.get? j=some o->h'.get? j=some o):Wk h' c j t k:=let ⟨o,g,_,q⟩:=p.out;q h' (f o g)
def Wq.to{h h':Heap}(p:Wq h c t its)(f:∀o,h.get? t=some o->h'.get? t=some o):Wq h' c t its:=let ⟨o,g,q⟩:=p.out;q h' (f o g)
noncomputable abbrev TuO(us:LV):Obj:={ cls:=.type "tuple",data:=.seq us.toArray }
structure Zs (S:List (Bool×Addr))(N:Nat)(f0:Value)(us:LV)(kk:Nat->Nat)(h:Heap):Prop where
 z:IsZip h (N+S.length+2) (N+S.length) (N+S.length+1) f0
 ti:h.get? (N+S.length)=some (TuO ((List.range' N S.length).map Value.ref))
 ox:h.get? (N+S.length+1)=some (TuO us)
 ul:us.length=S.length
 it:∀(i:Nat) (s:Bool×Addr),S[i]?=some s->Wk h s.1 (N+i) s.2 (kk i)
def nl{a b:Nat}(h:a<b\/b<a):a≠b:=fu
def GX{a c:Nat}(h1:a<=c)(h2:c<a+3):c=a\/c=a+1\/c=a+2:=fu
def eZ{α:Type}{S:List α}{i:Nat}{s:α}(h:S[i]?=some s):i<S.length:=by
 obtain⟨q,_⟩:=be.mp h;exact q
section
variable {pg:Program}{wd:World}{B:Around}{X0:VS}{s0:Shared}
theorem GY{R:VS}(p:Wk s0.heap c j t k)(q:Wq s0.heap c t its)(e:its[k]?=some x)
  (f:∀h',Wk h' c j t (k+1)->Heap.SameBut j s0.heap h'->R x { s0 with heap:=h' }):wpAny (model pg wd) B (Builtin.SmallTypes.nextOf (.ref j)) R X0 s0:=by
 cases c
 ·exact wpAny_nextOf_list_item p q e f
 ·exact Fc p q e f
theorem GZ(hh:B.handled=none)(p:Wk s0.heap c j t k)(q:Wq s0.heap c t its)(e:its[k]?=none)
  (f:∀h' z,Heap.ExtBut j s0.heap h'->(∃o,h'.get? z=some o/\o.cls=.type "StopIteration")->X0 (.ref z) { s0 with heap:=h' }):wpAny (model pg wd) B (Builtin.SmallTypes.nextOf (.ref j)) R X0 s0:=by
 cases c
 ·exact wpAny_nextOf_list_end hh p q e f
 ·exact Fd hh p q e f
theorem Ha{T:Addr}{Q:Unit->Shared->Prop}(hT:s0.heap.get? T=some (TuO us))(hz:us.length<=1000)
  (h:∀h':Heap,h'.get? T=some (TuO (us.set k x))->Heap.SameBut T s0.heap h'->Q () { s0 with heap:=h' }):wpAny (model pg wd) B (updateSeq T (·.setIfInBounds k x)) Q X0 s0:=by
 refine kt hT rfl (h _ ?_ (oA ..)) (small (by simpa using hz)) (Nat.le_succ_of_le (small (by simpa using hz)));rw[gu _ hT rfl];simp[Obj.mapSeq]
theorem wC{S:List (Bool×Addr)}{N k e:Nat}{xs:Nat->Value}{R:Option Value->Shared->Prop}(hh:B.handled=none)(hn:S≠[])(hz9:S.length<=1000)(Z:Zs S N .none us (λ _=>k) s0.heap)(lo:∀(i:Nat) (s:Bool×Addr),S[i]?=some s->s.2<N)
  (src:∀(i:Nat) (s:Bool×Addr),S[i]?=some s->∃its,Wq s0.heap s.1 s.2 its/\(i<e->its[k]?=some (xs i))/\(i=e->its[k]?=none))
  (fi:S.length<=e->∀h' us',(∀i,i<S.length->us'[i]?=some (xs i))->Zs S N (rawInt s0.heap.objs.size) us' (λ _=>k+1) h'->h'.get? s0.heap.objs.size=some (TuO us')->(∀c o,c<N\/N+S.length+2<c->s0.heap.get? c=some o->h'.get? c=some o)->R (some (.ref s0.heap.objs.size)) { s0 with heap:=h' })
  (fe:e<S.length->∀h',(∀c o,c<N\/N+S.length+2<c->s0.heap.get? c=some o->h'.get? c=some o)->R none { s0 with heap:=h' }) :
  wpAny (model pg wd) B (pyNext (.ref (N+S.length+2))) R X0 s0:=by
 have n0:0<S.length:=kE.mpr hn;obtain⟨hz,hi,ho,ul,hit⟩:=Z;have ty:s0.TypeIs (.ref (N+S.length+2)) "zip" := ⟨_,hz,rfl⟩;unfold pyNext;refine af (mh (iZ (name:=Str.ofString "__next__") ty F.slot_zip_next (fJ F.slot_zip_next ty F.entry_zip_next ?_ (F.args_zip_next_1 _))));show wpAny _ _ (field (.ref (N+S.length+2)) 2 >>= _) _ _ _;refine af (cK hz rfl (x:=.bool false) rfl ?_);show wpAny _ _ (field (.ref (N+S.length+2)) 3 >>= _) _ _ _;refine af (cK hz rfl (x:=.ref (N+S.length)) rfl ?_);refine af (iu hi rfl ?_);have ne:((List.range' N S.length).map Value.ref).toArray.isEmpty=false:=by simp;lia
 simp only[ne];show wpAny _ _ (Builtin.SmallTypes.ownedTupleIsFree (.ref (N+S.length+2)) >>= _) _ _ _;refine af ?_;unfold Builtin.SmallTypes.ownedTupleIsFree;refine af (cK hz rfl (x:=.none) rfl (aj ?_));simp only[dI];refine af (kr ?_);refine af (cK hz rfl (x:=.ref (N+S.length+1)) rfl ?_);refine af (oR hz pv λ m1 zm1 sb1=>?_);refine af ?_
 refine su _ (λ rest b s'=>b.1=none/\∃d m us',s'={ s0 with heap:=m }/\rest=((List.range' N S.length).map Value.ref).zipIdx.drop d/\d≤S.length/\d≤e/\m.objs.size=s0.heap.objs.size/\(∀i,i < d->us'[i]?=some (xs i)) /\
  Zs S N .ellipsis us' (λ i=>if i<d then k+1 else k) m/\∀c o,c<N\/N+S.length+2<c->s0.heap.get? c=some o->m.get? c=some o) _ ?_ ?_ _ _ ⟨rfl,0,m1,us,rfl,rfl,bS _,bS _,sb1.1,λ i q=>absurd q (kF _),⟨zm1,sb1.extBut _ _ (nl fu) hi,sb1.extBut _ _ (nl fu) ho,ul,λ i s q=>(hit i s q).to λ o g=>sb1.extBut _ _ (nl (by have:=eZ q;lia)) g⟩,λ c o q g=>sb1.extBut _ _ (nl fu) g⟩
 ·rintro⟨x,d'⟩ rest ⟨b1,b2⟩ s' ⟨hb,d,m,us',rfl,hr,h1,h2,h3,h4,Z,out⟩;simp only at hb;subst hb
  have hd:d<S.length:=by
   have:=br List.length hr;simp at this;lia
  rw[kG (by simpa using hd)] at hr
  injection hr with hx hr
  rw[List.getElem_zipIdx] at hx;simp at hx;obtain⟨rfl,rfl⟩:=hx;obtain⟨s,hs⟩:∃s,S[d']?=some s:=⟨S[d'],az hd⟩;have w:Wk m s.1 (N+d') s.2 k:=by simpa using Z.it d' s hs
  obtain⟨its,q,e1,e2⟩:=src d' s hs;have q:Wq m s.1 s.2 its:=q.to λ o g=>out _ o (.inl (lo d' s hs)) g;refine af (wpAny_onRaise ?_);show wpAny _ _ (Builtin.SmallTypes.nextOf (.ref (N+d')) >>= _) _ _ _
  rcases Nat.lt_or_eq_of_le h2 with hlt|heq
  ·refine af (GY w q (e1 hlt) λ m2 pm2 sb2=>aj ?_);have om2:m2.get? (N+S.length+1)=some (TuO us'):=sb2.extBut _ _ (nl fu) Z.ox;refine af (iu om2 rfl ?_);refine af (Ha om2 (by rw[Z.ul];exact hz9) λ m3 om3 sb3=>?_);refine af (mF (aj ?_));have to3:∀c o,c≠N+d'->c≠N+S.length+1->m.get? c=some o->m3.get? c=some o:=λ c o a1 a2 g=>sb3.extBut _ _ a2 (sb2.extBut _ _ a1 g);refine⟨ca,d' + 1,m3,us'.set d' (xs d'),ca,hr,hd,hlt,by rw[sb3.1,sb2.1];exact h3,λ i hi=>?_,⟨to3 _ _ (nl fu) (nl fu) Z.z,to3 _ _ (nl fu) (nl fu) Z.ti,om3,by rw[bu];exact Z.ul,λ i s' hs'=>?_⟩,λ c o a g=>to3 c o (nl fu) (nl fu) (out c o a g)⟩
   ·by_cases hid:i=d'
    ·subst hid;rw[eW (by rw[Z.ul];exact hd)]
    ·rw[eX (bW hid)];exact h4 i fu
   ·have li:=eZ hs';by_cases hid:i=d'
    ·subst hid;rw[hs] at hs';cases hs';rw[if_pos (im _)];exact pm2.to λ o g=>sb3.extBut _ _ (nl fu) g
    ·have:=(Z.it i s' hs').to (h':=m3) λ o g=>to3 _ o (nl fu) (nl fu) g;by_cases hl:i<d'
     ·rw[if_pos hl] at this;rw[if_pos fu];exact this
     ·rw[if_neg hl] at this;rw[if_neg fu];exact this
  ·refine af (GZ hh w q (e2 heq) λ m2 e' xb he=>?_);obtain⟨oe,ge,ce⟩:=he;have zm2:IsZip m2 (N+S.length+2) (N+S.length) (N+S.length+1) .ellipsis:=xb _ _ (nl fu) Z.z;have ez:e'≠N+S.length+2:=λ q=>by subst q;rw[zm2] at ge;cases ge;simp at ce
   exact oR zm2 pv λ m3 _ sb3=>af (mf (T := "StopIteration") (b:=true) ⟨oe,sb3.extBut _ _ ez ge,ce⟩ isSubtype_stop (aj (fe (heq ▸ hd) _ λ c o a g=>sb3.extBut _ _ (nl fu) (xb _ _ (nl fu) (out c o a g)))))
 ·rintro⟨b1,b2⟩ s' ⟨hb,d,m,us',rfl,hr,h1,h2,h3,h4,Z,out⟩;simp only at hb;subst hb
  have hd:d=S.length:=by
   have:=br List.length hr;simp at this;lia
  subst hd;refine af (iu Z.ox rfl ?_);refine af (s0q ?_ (small (by simpa [Z.ul] using hz9)));have zlt:N+S.length+2<m.objs.size:=aB Z.z;show wpAny _ _ (Builtin.SmallTypes.ownedTupleHandOut (.ref (N+S.length+2)) (.ref m.objs.size) >>= _) _ _ _;refine af ?_;unfold Builtin.SmallTypes.ownedTupleHandOut;have zm6:IsZip (m.push (TuO us')) (N+S.length+2) (N+S.length) (N+S.length+1) .ellipsis:=aA _ Z.z;refine af (oR zm6 pv λ m7 zm7 sb7=>?_);refine oR zm7 pv λ m8 zm8 sb8=>?_;have to8:∀c o,c≠N+S.length+2->m.get? c=some o->m8.get? c=some o:=λ c o a1 g=>sb8.extBut _ _ a1 (sb7.extBut _ _ a1 (aA _ g));have np8:m8.get? m.objs.size=some (TuO us'):=sb8.extBut _ _ (lJ zlt) (sb7.extBut _ _ (lJ zlt) (aR _ rfl));have zm8:IsZip m8 (N+S.length+2) (N+S.length) (N+S.length+1) (rawInt m.objs.size):=zm8;rw[h3] at zm8 np8;refine aj ⟨_,ca,aj ?_⟩;show R (some (.ref m.objs.size)) _;rw[h3]
  exact fi h2 m8 us' h4 ⟨zm8,to8 _ _ (nl fu) Z.ti,to8 _ _ (nl fu) Z.ox,Z.ul,λ i s hs=>by
   have:=(Z.it i s hs).to (h':=m8) λ o g=>to8 _ o (nl (by have:=eZ hs;lia)) g
   rwa [if_pos (eZ hs)] at this⟩ np8 λ c o a g=>to8 c o (nl fu) (out c o a g)
theorem Hb{Q:VS}(q:Wq s0.heap c t its)
  (f:∀h':Heap,Wk h' c s0.heap.objs.size t 0->h'.objs.size=s0.heap.objs.size+1->(∀c o,s0.heap.get? c=some o->h'.get? c=some o)->Q (.ref s0.heap.objs.size) { s0 with heap:=h' }):wpAny (model pg wd) B (pyIter (.ref t)) Q X0 s0:=by
 cases c
 ·exact si q (f _ ⟨_,aR _ rfl,ca,ca⟩ (fK ..) λ _ _ g=>aA _ g)
 ·exact sj q (f _ ⟨_,aR _ rfl,ca,ca⟩ (fK ..) λ _ _ g=>aA _ g)
theorem Hc(S:List (Bool × Addr))(hz9:S.length≤1000):Meets (Builtin.«zip.__new__» ⟨.type "zip" :: S.map (λ s=>Value.ref s.2),[]⟩) (λ _ R s=>(∀(i:Nat) (p:Bool × Addr),S[i]?=some p->∃its,Wq s.heap p.1 p.2 its) /\
   ∀h':Heap,Zs S s.heap.objs.size .none (S.map λ _=>.none) (λ _=>0) h'->(∀c o,s.heap.get? c=some o->h'.get? c=some o)->R (.ok (.ret (.ref (s.heap.objs.size+S.length+2)))) { s with heap:=h' }) :=
 .of_wp λ prog w A R s h=>by
  obtain⟨hp,g,dd,tk,os⟩:=s;obtain⟨hq,h⟩:=h;have q0:=sub_zip
  wp_walk using su _ (λ rest (b:Array Value) s'=>∃d m,s'=⟨m,g,dd,tk,os⟩/\rest=(S.map (λ s=>Value.ref s.2)).drop d/\d≤S.length/\b=((List.range' hp.objs.size d).map Value.ref).toArray/\m.objs.size=hp.objs.size+d /\
   (∀(i:Nat) (p:Bool×Addr),S[i]?=some p->i<d->Wk m p.1 (hp.objs.size+i) p.2 0)/\∀c o,hp.get? c=some o->m.get? c=some o) _
  case turn=>
   rintro x rest b s ⟨d,m,rfl,hr,h1,rfl,h3,h4,h5⟩
   have hd:d<S.length:=by
    have:=br List.length hr;simp at this;lia
   rw[kG (by simpa using hd)] at hr
   injection hr with hx hr
   rw[List.getElem_map] at hx;subst hx;have hs:S[d]?=some S[d]:=az hd;obtain⟨its,q⟩:=hq d _ hs;refine af (du (Hb (q.to λ o e=>h5 _ o e) λ m2 w2 z2 k2=>aj ?_));refine⟨d+1,m2,ca,hr,hd,?_,by rw[z2];show m.objs.size+1=_;lia,λ i p hp hi=>?_,λ c o e=>k2 c o (h5 c o e)⟩
   ·show Array.push _ (Value.ref m.objs.size)=_;rw[h3,List.range'_concat];simp
   ·by_cases hid:i=d
    ·subst hid;rw[hs] at hp;cases hp;have w2:Wk m2 _ m.objs.size _ 0:=w2;rw[h3] at w2;exact w2
    ·exact(h4 i p hp fu).to λ o e=>k2 _ o e
  case fin=>
   rintro b s ⟨d,m,rfl,hr,h1,rfl,h3,h4,h5⟩
   have hd:d=S.length:=by
    have:=br List.length hr;simp at this;lia
   subst hd;refine aj (af (s0q (af (s0q ?_ ?_)) ?_))
   ·wp_walk;refine⟨_,ca,?_⟩;dsimp only;generalize e1:m.push _=m1;generalize e2:m1.push _=m2;have n1:m1.objs.size=hp.objs.size+S.length+1:=by rw[<- e1,fK,h3]
    have n2:m2.objs.size=hp.objs.size+S.length+2:=by rw[<- e2,fK,n1]
    rw[show List.map (λ _=>Value.none) (List.map Value.ref (List.range' hp.objs.size S.length))=S.map λ _=>Value.none by simp[List.map_const',Function.comp_def]] at e2;have k1:∀c o,m.get? c=some o->m1.get? c=some o:=λ c o g=>e1 ▸ aA _ g;have k2:∀c o,m1.get? c=some o->m2.get? c=some o:=λ c o g=>e2 ▸ aA _ g;have g1:m1.get? m.objs.size=some (TuO _):=e1 ▸ aR _ rfl;have g2:m2.get? m1.objs.size=some (TuO _):=e2 ▸ aR _ rfl;rw[h3] at g1;rw[n1] at g2;rw[n2,h3,n1];refine h _ ⟨?_,aA _ (k2 _ _ g1),aA _ g2,pv,λ i s hs=>(h4 i s hs (eZ hs)).to λ o e=>aA _ (k2 _ _ (k1 _ _ e))⟩ λ c o e=>aA _ (k2 _ _ (k1 _ _ (h5 c o e)));rw[<- n2];exact aR _ rfl
   ·exact small (by simpa using hz9)
   ·exact small (by simpa using hz9)
  case h=>exact⟨0,hp,rfl,rfl,bS _,rfl,rfl,λ i _ _ q=>absurd q (kF _),λ _ _ e=>e⟩
end
noncomputable def SqB(K:FG)(b:Bool)(H:Hp)(a:Addr)(vs:List V):Prop:=if b=true then SqT K H a vs else SqL K H a vs
variable {X:Cx}
section
variable {pins:LO}{σ:St}{H:Hp}{s:Shared}
def Inv.sq(I:Inv X pins σ H s)(h:SqB X.K b H a xs):∃its:LV,Vals xs its/\Wq s.heap b a its.toArray:=by
 cases b
 ·obtain⟨its,r,p,_⟩:=I.list h;exact⟨its,r,p.isList⟩
 ·obtain⟨its,r,p,_⟩:=I.tuple h;exact⟨its,r,p⟩
def Inv.sq_inj(I:Inv X pins σ H s)(h:SqB X.K b H a xs)(h':SqB X.K b H a ys):xs=ys:=by
 cases b
 ·exact I.list_inj h h'
 ·exact I.tuple_inj h h'
end
def wD{α β:Type} [Nonempty β] {S:List α}{P:Nat->α->β->Prop}(h:∀d s,S[d]?=some s->∃u,P d s u):∃f:Nat->β,∀d s,S[d]?=some s->P d s (f d) :=
 ⟨λ d=>Classical.epsilon λ u=>∀s,S[d]?=some s->P d s u,λ d s hs=>by
  obtain⟨u,hu⟩:=h d s hs
  exact Classical.epsilon_spec (p:=λ u=>∀s,S[d]?=some s->P d s u) ⟨u,λ s' hs'=>by rw[hs] at hs';cases hs';exact hu⟩ s hs⟩
theorem wF(f:Nat->V×Value):∀l:List Nat,(∀d∈l,RelV (f d).1 (f d).2)->Vals (l.map λ d=>(f d).1) (l.map λ d=>(f d).2)
 |[],_=>.nil
 |d::l,h=>.cons (h d pv) (wF f l λ e he=>h e (by simp[he]))
noncomputable def Itn(K:FG)(S:List (Bool × Addr)):It:=⟨λ i H=>∀(d:Nat) (s:Bool × Addr),S[d]?=some s->∃xs,SqB K s.1 H s.2 xs/\i < xs.length,
 λ i H v H'=>∃T vs,v=.ref T/\H T=none/\H'=upd H T (.tup vs)/\vs.length=S.length/\∀(d:Nat) (s:Bool×Addr) xs,S[d]?=some s->SqB K s.1 H s.2 xs->vs[d]?=xs[i]?,
 λ i H=>∃e,e<S.length/\∀(d:Nat) (s:Bool×Addr),S[d]?=some s->∃xs,SqB K s.1 H s.2 xs/\(d<e->i<xs.length)/\(d=e->xs.length<=i)⟩
def wG{N n c:Nat}(h:c ∉ List.range' N (n+3)):c<N\/N+n+2<c:=by rw[jr] at h;lia
theorem Hd{K:FG}{S:List (Bool×Addr)}{N:Nat}(hn:S≠[])(hz:S.length<=1000)(lo:∀(i:Nat) (s:Bool×Addr),S[i]?=some s->s.2<N) :
  Turn P w K (.Tuple es x1 pp) (Itn K S) (List.range' N (S.length+3)) (N+S.length+2) (λ i h=>∃us,Zs S N .none us (λ _=>i) h) where
 mem:=by rw[jr];lia
 obj:=λ i h ⟨us,Z⟩ c hc=>by
  rw[jr] at hc
  rcases s1r c (N+S.length) with q|q
  ·have hd:c-N<S.length:=Nat.sub_lt_left_of_lt_add hc.1 q;obtain⟨o,g,d,_⟩:=(Z.it (c-N) S[c-N] (az hd)).out;rw[Nat.add_sub_cancel' hc.1] at g;exact⟨o,g,d⟩
  ·rcases GX q hc.2 with rfl|rfl|rfl
   ·exact⟨_,Z.ti,λ v z=>nomatch z⟩
   ·exact⟨_,Z.ox,λ v z=>nomatch z⟩
   ·exact⟨_,Z.z,λ v z=>nomatch z⟩
 keep:=λ i h h' ⟨us,Z⟩ k=>by
  have k:∀c,N<=c->c<N+(S.length+3)->∀o,h.get? c=some o->h'.get? c=some o:=λ c a b=>k c (jr.mpr ⟨a,b⟩);exact⟨us,k _ fu fu _ Z.z,k _ fu fu _ Z.ti,k _ fu fu _ Z.ox,Z.ul,λ i s hs=>(Z.it i s hs).to λ o g=>k _ fu (by have:=eZ hs;lia) o g⟩
 item:=by
  intro X hP hw hK hc i pins s σ H E I hf ⟨us,Z⟩ hg;subst hP hw hK
  haveI:Nonempty (V×Value):=⟨(.int 0,.none)⟩
  obtain⟨f,hf'⟩:=wD (β:=V×Value) (P:=λ d (s':Bool×Addr) p=>∃xs its,SqB X.K s'.1 H s'.2 xs/\Wq s.heap s'.1 s'.2 (List.toArray its)/\xs[i]?=some p.1/\its[i]?=some p.2/\RelV p.1 p.2) λ d s' hs=>by
   obtain⟨xs,q,l⟩:=hg d s' hs;obtain⟨its,r,p⟩:=I.sq q;obtain⟨u,hu,ru⟩:=r.get (az l);exact⟨(xs[i],u),xs,its,q,p,az l,hu,ru⟩
  refine wC (I.ok.hd hc) hn hz Z lo (e:=S.length) (xs:=λ d=>(f d).2) (λ d s' hs=>?_) (λ _ h' us' hu Z' np bt=>?_) λ q=>absurd q (cQ _)
  ·obtain⟨xs,its,q,p,_,hu,_⟩:=hf' d s' hs;exact⟨_,p,λ _=>by simpa using hu,λ q=>absurd (eZ hs) fu⟩
  have eu:us'=(List.range S.length).map λ d=>(f d).2:=by
   refine jt λ d=>?_
   rcases s1r d S.length with q|q
   ·rw[hu d q];simp[q]
   ·rw[fb (by rw[Z'.ul];exact q)];simp[q]
  have rl:Vals ((List.range S.length).map λ d=>(f d).1) us':=by
   rw[eu]
   exact wF f _ λ d hd=>by
    obtain⟨xs,its,_,_,_,_,r⟩:=hf' d _ (az (eV.mp hd));exact r
  have I1:Inv X pins σ H { s with heap:=h' }:=I.turnedL (t':=s.toks) (fl:=List.range' N (S.length+3)) (λ c o hc e=>bt c o (wG hc) e) hf;obtain⟨f0,f1,f2,f3,f4,f5⟩:=I.fpOk (av s.heap.objs.size) (I.hok.fresh (av _))
  have n0:X.s₀.heap.get? s.heap.objs.size=none:=by
   cases q:X.s₀.heap.get? s.heap.objs.size with
   |none=>rfl
   |some o=>exact absurd (bC (aB q) I.sz) (cQ _)
  have I2:Inv X pins σ (upd H s.heap.objs.size (.tup ((List.range S.length).map λ d=>(f d).1))) { s with heap:=h' }:=I1.track f0 ⟨small (by simpa using hz),us',rl,⟨_,np,⟨rfl,_,rfl⟩,rfl⟩⟩ f1 f4 f5 n0;have zl:N+S.length+2<s.heap.objs.size:=aB Z.z;have mz:N+S.length+2∈List.range' N (S.length+3):=by rw[jr];lia
  obtain⟨e0,e1,e2,e3,e4,e5⟩:=hf _ mz;refine⟨_,ca,wpAny_letOwnedTupleGo_zip Z'.z λ h2 z2 sb=>?_⟩;have I3:Inv X pins σ (upd H s.heap.objs.size (.tup ((List.range S.length).map λ d=>(f d).1))) { s with heap:=h2 }:=Inv.turned (s:={ s with heap:=h' }) (h':=h2) (t':=s.toks) (it:=N+S.length+2) I2 (λ c o hc e=>sb.extBut _ _ hc e) (by rw[ay (aZ zl)];exact e0) e1 e3 e4 e5;refine⟨.ref s.heap.objs.size,_,I3,ca,⟨_,_,ca,f0,ca,pv,λ d s' xs hs hq=>?_⟩,⟨us',z2,sb.extBut _ _ (nl fu) Z'.ti,sb.extBut _ _ (nl fu) Z'.ox,Z'.ul,λ i s hs=>(Z'.it i s hs).to λ o g=>sb.extBut _ _ (nl (by have:=eZ hs;lia)) g⟩,λ c hc=>?_⟩
  ·obtain⟨ys,its,q,_,hy,_⟩:=hf' d s' hs;rw[I.sq_inj hq q,hy];simp[eZ hs]
  ·have:=jr.mp hc;rw[ay (show c≠s.heap.objs.size from nl fu)];exact(hf c hc).1
 done:=by
  intro X hP hw hK hc i pins s σ H E I hf ⟨us,Z⟩ ⟨e,he,hg⟩;subst hP hw hK
  haveI:Nonempty Value:=⟨.none⟩
  obtain⟨f,hf'⟩:=wD (β:=Value) (P:=λ d (s':Bool×Addr) u=>∃its,Wq s.heap s'.1 s'.2 its/\(d<e->its[i]?=some u)/\(d=e->its[i]?=none)) λ d s' hs=>by
   obtain⟨xs,q,l,l'⟩:=hg d s' hs;obtain⟨its,r,p⟩:=I.sq q;have ln:=r.length;refine⟨(its[i]?).getD .none,_,p,λ q=>?_,λ q=>?_⟩
   ·have:=l q;rw[az (show i<its.length by lia)];simp
   ·have:=l' q;simp;lia
  exact wC (I.ok.hd hc) hn hz Z lo hf' (λ q=>absurd he fu) λ _ h' bt=>⟨ca,I.turnedL (t':=s.toks) (fl:=List.range' N (S.length+3)) (λ c o hc e=>bt c o (wG hc) e) hf⟩
 self:=λ _ _ _ _ _ ⟨_,Z⟩ h=>wpAny_pyIter_zip Z.z h
section
variable {es:List Expr}{x1:Nat}{pp:Pos}
noncomputable def iZn(K:FG)(n:Nat)(ta:TA):TI:=λ σ H R=>ta σ H λ vs H1=>∃S:List (Bool×Addr),S.length=n/\vs=S.map (λ s=>V.ref s.2)/\(∀(i:Nat) (s:Bool×Addr),S[i]?=some s->∃xs,SqB K s.1 H1 s.2 xs)/\R (Itn K S) H1
noncomputable def wI(n:Nat):Prop:=(0<n/\n<=1000)/\∀us:LV,us.length=n->checkTypeCall "zip" ⟨us,[]⟩=pure ()/\checkBuiltinCall "zip.__new__" ⟨.type "zip" :: us,[]⟩=pure ()/\∀ob,argsOk "object.__init__" ⟨ob::us,[]⟩
def He:∀ {S:List (Bool×Addr)},Vals (S.map λ s=>V.ref s.2) us->us=S.map λ s=>Value.ref s.2:=by
 intro S r;generalize e:(S.map λ s=>V.ref s.2)=vs at r
 induction r generalizing S with
 |nil=>cases S with|nil=>rfl|cons=>cases e
 |cons h t ih=>
  cases S with
  |nil=>cases e
  |cons s S=>injection e with a b;subst a;rw[ih b];cases h;rfl
theorem Hf{e:Expr}{rest:List Expr}{p pos:Pos}(za:wI n)(hg:Gl X "zip")(hm:X.mg "zip"=none)(ha:PA X (e::rest) ta)(he:starEach (e::rest) X.env=(false,eval e X.env)::starEach rest X.env)(hr:(backTo pos (starEach rest X.env)).any (·.1)=false) :
  PI X (.Tuple es x1 pp) (.Call (.Name "zip" p) (e::rest) [] pos) (iZn X.K n ta):=by
 intro pins s σ H R I h;have hA:=ha pos pins s σ H _ I h;refine Call_ (dG I hg hm boot_zip (gp (thn hA λ us s1 ⟨vs,H1,I1,r1,q1⟩=>?_) he hr));obtain⟨S,rfl,rfl,hS,q⟩:=q1;cases He r1;obtain⟨⟨n0,n9⟩,za⟩:=za;obtain⟨z1,z2,z3⟩:=za _ (ak _)
 have src:∀(i:Nat) (s:Bool×Addr),S[i]?=some s->∃its,Wq s1.heap s.1 s.2 its:=λ i s hs=>by
  obtain⟨xs,q⟩:=hS i s hs;obtain⟨its,_,p⟩:=I1.sq q;exact⟨_,p⟩
 refine callType_new F.called_zip on z1 z2 z3 F.entry_zip_new (Hc S n9) ⟨src,λ h' Z kk=>⟨⟨_,Z.z,ca⟩,?_⟩⟩;have I2:Inv X pins σ H1 { s1 with heap:=h' }:=I1.kept (t':=s1.toks) kk;refine wpAny_pyIter_zip Z.z ⟨_,_,_,_,H1,ca,I2,Hd (kE.mp n0) n9 (λ i s hs=>?_),⟨_,Z⟩,λ c hc=>?_,q⟩
 ·obtain⟨its,p⟩:=src i s hs;obtain⟨o,g,_⟩:=p.out;exact aB g
 ·have ge:s1.heap.objs.size<=c:=(jr.mp hc).1;exact I1.fpOk ge (I1.hok.fresh ge)
def Hg:wI 2:=⟨on,λ us h=>by
 match us,h with
 |[a,b],_=>exact⟨F.typeCall_zip_2 _ _,F.newCall_zip_2 _ _,λ ob=>F.args_object_init_3 ob _ _⟩⟩
end
inductive TV where
 |non|bl (b:Bool)|int (i:Int)|str (x:Str)|tup (l:List TV)|lst (l:List TV)|bor (l:List TV)|own (l:List TV)|dct (l:List (Int×Int))
noncomputable abbrev dcO(l:List (Int×Int)):HO:=.dK (l.map λ q=>((Sum.inl q.1:Key),V.int q.2))
abbrev Fz:=Addr->Prop
noncomputable def Ls(K:FG)(F:Fz)(H:Hp)(a:Addr)(vs:List V):Prop:=(F a/\SqL K H a vs) \/
 ∃(o:Obj) (its:Array Value) (n:Nat),K.lookup a=some o/\o.cls=.type "list" /\ o.dict=none/\o.data=.seq its n/\its.size<=sizeLine/\Vals vs its.toList
def Ls.sq{K:FG}{vs:List V}(h:Ls K F H a vs):SqL K H a vs:=h.elim (λ h=>h.2) λ h=>.inr h
def Ls.imp{K:FG}{F F':Fz}{vs:List V}(h:Ls K F H a vs)(i:F a->SqL K H a vs->F' a/\SqL K H' a vs):Ls K F' H' a vs:=h.elim (λ h=>.inl (i h.1 h.2)) .inr
mutual
def Rp(K:FG)(F:Fz)(H:Hp):TV->V->Prop
 |.non,v=>v=.non
 |.bl b,v=>v=.bl b
 |.int i,v=>v=.int i
 |.str x,v=>v=.str x
 |.tup l,v=>∃a vs,v=.ref a/\SqT K H a vs/\RpL K F H l vs
 |.lst l,v=>∃a vs,v=.ref a/\Ls K F H a vs/\RpL K F H l vs
 |.bor _,_=>False
 |.own _,_=>False
 |.dct _,_=>False
def RpL(K:FG)(F:Fz)(H:Hp):List TV->List V->Prop
 |[],vs=>vs=[]
 |t::ts,vs=>∃v r,vs=v::r/\Rp K F H t v/\RpL K F H ts r
end
structure Wd (J:Hp->Prop)(F:Fz)(H:Hp):Prop where
 j:J H
 d:∀a,F a->H a≠none
structure Grow (J:Hp->Prop)(F:Fz)(H:Hp)(F':Fz)(H':Hp):Prop where
 sm:∀a o,(∀ps,o≠.tbl ps)->H a=some o->H' a=some o
 dm:∀a,H a≠none->H' a≠none
 up:∀a,F a->F' a
 nw:∀a,F' a->F a\/H a=none
 w:Wd J F' H'
section
variable {K:FG}{J:Hp->Prop}{F F' F1 F2:Fz}{H H' H1 H2:Hp}
def Grow.refl(w:Wd J F H):Grow J F H F H:=⟨λ _ _ _ e=>e,λ _ e=>e,λ _ e=>e,λ _ e=>.inl e,w⟩
def Grow.trans(g:Grow J F H F1 H1)(k:Grow J F1 H1 F2 H2):Grow J F H F2 H2 :=
 ⟨λ a o n e=>k.sm a o n (g.sm a o n e),λ a e=>k.dm a (g.dm a e),λ a e=>k.up a (g.up a e),λ a e=>by
  rcases k.nw a e with q|q
  ·exact g.nw a q
  ·by_cases z:H a=none
   ·exact .inr z
   ·exact absurd q (g.dm a z),k.w⟩
def Rd.sm{a:Addr}{u:HO}(s:∀a o,(∀ps,o≠.tbl ps)->H a=some o->H' a=some o)(n:∀ps,u≠.tbl ps)(h:Rd H a u):Rd H' a u:=by
 rcases h with h|⟨o,h⟩
 ·exact .inl (s _ _ n h)
 ·exact .inr ⟨o,s _ _ (λ ps z=>by cases z) h⟩
def SqT.sm{a:Addr}{vs:List V}(s:∀a o,(∀ps,o≠.tbl ps)->H a=some o->H' a=some o)(h:SqT K H a vs):SqT K H' a vs:=by
 rcases h with h|h
 ·exact .inl (h.sm s λ ps z=>by cases z)
 ·exact .inr h
def SqL.sm{a:Addr}{vs:List V}(s:∀a o,(∀ps,o≠.tbl ps)->H a=some o->H' a=some o)(h:SqL K H a vs):SqL K H' a vs:=by
 rcases h with h|h
 ·exact .inl (h.sm s λ ps z=>by cases z)
 ·exact .inr h
structure Ke (K:FG)(F:Fz)(H:Hp)(F':Fz)(H':Hp):Prop where
 t:∀a vs,SqT K H a vs->SqT K H' a vs
 l:∀a vs,Ls K F H a vs->Ls K F' H' a vs
mutual
theorem Rp.ke(k:Ke K F H F' H'):∀ {t:TV}{v:V},Rp K F H t v->Rp K F' H' t v
 |.non,_,h=>h
 |.bl _,_,h=>h
 |.int _,_,h=>h
 |.str _,_,h=>h
 |.tup _,_,⟨a,vs,e,q,r⟩=>⟨a,vs,e,k.t _ _ q,RpL.ke k r⟩
 |.lst _,_,⟨a,vs,e,f,r⟩=>⟨a,vs,e,k.l _ _ f,RpL.ke k r⟩
 |.bor _,_,h=>h.elim
 |.own _,_,h=>h.elim
 |.dct _,_,h=>h.elim
theorem RpL.ke(k:Ke K F H F' H'):∀ {ts:List TV}{vs:List V},RpL K F H ts vs->RpL K F' H' ts vs
 |[],_,h=>h
 |_::_,_,⟨v,r,e,h1,h2⟩=>⟨v,r,e,Rp.ke k h1,RpL.ke k h2⟩
end
def Grow.ke(g:Grow J F H F' H'):Ke K F H F' H':=⟨λ _ _ h=>h.sm g.sm,λ a _ h=>h.imp λ f h=>⟨g.up a f,h.sm g.sm⟩⟩
def Ke.up(h:∀a,F a->F' a):Ke K F H F' H:=⟨λ _ _ h=>h,λ a _ q=>q.imp λ f q=>⟨h a f,q⟩⟩
noncomputable def Rr(K:FG)(H:Hp)(F':Fz)(H':Hp):TV->V->Prop
 |.own l,v=>∃a vs,v=.ref a/\H a=none/\¬F' a/\H' a=some (.lst vs)/\RpL K F' H' l vs
 |.bor l,v=>∃a vs,v=.ref a/\¬F' a/\H' a=some (.lst vs)/\RpL K F' H' l vs
 |t,v=>Rp K F' H' t v
def Rr.of(h:Rp K F' H' t v):Rr K H F' H' t v:=by
 cases t<;>first|exact h|exact h.elim
def Rr.grow(g:Grow J F1 H1 F2 H2)(h:Rr K H F1 H1 t v):Rr K H F2 H2 t v:=by
 have nf:∀ {a vs},¬F1 a->H1 a=some (.lst vs)->¬F2 a:=λ n e z=>by
  rcases g.nw _ z with q|q
  ·exact n q
  ·rw[q] at e;cases e
 cases t with
 |own l=>obtain⟨a,vs,e,n,f,q,r⟩:=h;exact⟨a,vs,e,n,nf f q,g.sm _ _ (λ ps z=>by cases z) q,r.ke g.ke⟩
 |bor l=>obtain⟨a,vs,e,f,q,r⟩:=h;exact⟨a,vs,e,nf f q,g.sm _ _ (λ ps z=>by cases z) q,r.ke g.ke⟩
 |_=>exact Rp.ke g.ke h
def Rr.late(g:Grow J F H F1 H1)(h:Rr K H1 F2 H2 t v):Rr K H F2 H2 t v:=by
 cases t with
 |own l=>
  obtain⟨a,vs,e,n,f,q,r⟩:=h;refine⟨a,vs,e,?_,f,q,r⟩;by_cases z:H a=none
  ·exact z
  ·exact absurd n (g.dm a z)
 |_=>exact h
noncomputable abbrev RrL(K:FG)(H:Hp)(F':Fz)(H':Hp):List TV->List V->Prop:=Paired (Rr K H F' H')
def RrL.grow{vs:List V}(g:Grow J F1 H1 F2 H2)(h:RrL K H F1 H1 ts vs):RrL K H F2 H2 ts vs:=Paired.mapP h λ _ _ r=>r.grow g
theorem RpL.length:∀ {ts:List TV}{vs:List V},RpL K F H ts vs->ts.length=vs.length
 |[],_,h=>by cases h;rfl
 |_::_,_,⟨_,_,e,_,h⟩=>by rw[e,List.length_cons,List.length_cons,RpL.length h]
theorem RpL.get:∀ {ts:List TV}{vs:List V}{i:Nat}{t:TV},RpL K F H ts vs->ts[i]?=some t->∃v,vs[i]?=some v/\Rp K F H t v
 |[],_,_,_,_,e=>by simp at e
 |_::_,_,0,_,⟨v,r,e,h1,_⟩,q=>by cases q;exact⟨v,by rw[e];rfl,h1⟩
 |_::_,_,i+1,_,⟨v,r,e,_,h2⟩,q=>by
  obtain⟨w,e1,h⟩:=RpL.get (i:=i) h2 q;exact⟨w,by rw[e];exact e1,h⟩
theorem RpL.append:∀ {ts us:List TV}{vs ws:List V},RpL K F H ts vs->RpL K F H us ws->RpL K F H (ts++us) (vs++ws)
 |[],_,_,_,h,g=>by cases h;exact g
 |_::_,_,_,_,⟨v,r,e,h1,h2⟩,g=>by subst e;exact⟨v,_,rfl,h1,RpL.append h2 g⟩
theorem RpL.take:∀ {ts:List TV}{vs:List V}(n:Nat),RpL K F H ts vs->RpL K F H (ts.take n) (vs.take n)
 |_,_,0,_=>rfl
 |[],_,_+1,h=>by cases h;rfl
 |_::_,_,n+1,⟨v,r,e,h1,h2⟩=>by subst e;exact⟨v,_,rfl,h1,RpL.take n h2⟩
theorem RpL.drop:∀ {ts:List TV}{vs:List V}(n:Nat),RpL K F H ts vs->RpL K F H (ts.drop n) (vs.drop n)
 |_,_,0,h=>h
 |[],_,_+1,h=>by cases h;rfl
 |_::_,_,n+1,⟨v,r,e,h1,h2⟩=>by subst e;exact RpL.drop n h2
theorem RpL.set(h:Rp K F H t v):∀ {ts:List TV}{vs:List V}(i:Nat),RpL K F H ts vs->RpL K F H (ts.set i t) (vs.set i v)
 |[],_,_,q=>by cases q;rfl
 |_::_,_,0,⟨w,r,e,_,h2⟩=>by subst e;exact⟨v,r,rfl,h,h2⟩
 |_::_,_,i+1,⟨w,r,e,h1,h2⟩=>by subst e;exact⟨w,_,rfl,h1,RpL.set h i h2⟩
def RpL.reverse{vs:List V}(h:RpL K F H ts vs):RpL K F H ts.reverse vs.reverse:=by
 induction ts generalizing vs with
 |nil=>cases h;rfl
 |cons t r ih=>
  obtain⟨v,q,e,h1,h2⟩:=h;subst e;rw[ki,ki];exact(ih h2).append ⟨v,[],ca,h1,ca⟩
theorem RpL.ints:∀ {ns:LI}{vs:List V},RpL K F H (ns.map TV.int) vs->vs=ns.map V.int
 |[],_,h=>h
 |_::_,_,⟨v,r,e,h1,h2⟩=>by rw[e,RpL.ints h2,show v=_ from h1];rfl
theorem RpL.ofInts:∀(ns:LI),RpL K F H (ns.map TV.int) (ns.map V.int)
 |[]=>rfl
 |_::r=>⟨_,_,rfl,rfl,RpL.ofInts r⟩
theorem RpL.bls:∀ {ns:List Bool}{vs:List V},RpL K F H (ns.map TV.bl) vs->vs=ns.map V.bl
 |[],_,h=>h
 |_::_,_,⟨v,r,e,h1,h2⟩=>by rw[e,RpL.bls h2,show v=_ from h1];rfl
noncomputable def TV.items:TV->Option (Bool×List TV)
 |.tup l=>some (true,l)
 |.lst l=>some (false,l)
 |.bor l=>some (false,l)
 |.own l=>some (false,l)
 |_=>none
def Rr.sq{b:Bool}{l:List TV}(h:Rr K H F' H' t v)(e:t.items=some (b,l)):∃a vs,v=.ref a/\RpL K F' H' l vs/\((b=true/\SqT K H' a vs)\/(b=false/\SqL K H' a vs)):=by
 cases t<;>cases e
 ·obtain⟨a,vs,e,q,r⟩:=h;exact⟨a,vs,e,r,.inl ⟨rfl,q⟩⟩
 ·obtain⟨a,vs,e,q,r⟩:=h;exact⟨a,vs,e,r,.inr ⟨rfl,q.sq⟩⟩
 ·obtain⟨a,vs,e,_,q,r⟩:=h;exact⟨a,vs,e,r,.inr ⟨rfl,.of q⟩⟩
 ·obtain⟨a,vs,e,_,_,q,r⟩:=h;exact⟨a,vs,e,r,.inr ⟨rfl,.of q⟩⟩
structure JS (J:Hp->Prop):Prop where
 nw:∀(H:Hp) (p:Addr) (o:HO),H p=none->J H->J (upd H p o)
 mu:∀(H:Hp) (p:Addr) (vs ws:List V),H p=some (.lst vs)->J H->J (upd H p (.lst ws))
def Grow.new(hJ:JS J)(w:Wd J F H)(o:HO)(h:H p=none):Grow J F H F (upd H p o):=by
 have k:∀a x,H a=some x->upd H p o a=some x:=λ a x e=>by rw[ay (λ z=>by rw[z,h] at e;cases e)];exact e
 have d:∀a,H a≠none->upd H p o a≠none:=λ a e z=>by
  cases q:H a with
  |none=>exact e q
  |some x=>rw[k a x q] at z;cases z
 exact⟨λ a x _ e=>k a x e,d,λ _ e=>e,λ _ e=>.inl e,hJ.nw H p o h w.j,λ a f=>d a (w.d a f)⟩
def Grow.frz(g:Grow J F H F1 H1)(n:H a=none)(e:H1 a≠none):Grow J F H (λ b=>F1 b\/b=a) H1 :=
 ⟨g.sm,g.dm,λ b f=>.inl (g.up b f),λ b f=>by
  rcases f with f|rfl
  ·exact g.nw b f
  ·exact .inr n,g.w.j,λ b f=>by
  rcases f with f|rfl
  ·exact g.w.d b f
  ·exact e⟩
def TV.fz:TV->TV
 |.own l=>.lst l
 |.bor l=>.lst l
 |t=>t
def TV.nb:TV->Bool
 |.bor _=>false
 |_=>true
def Rr.frz(g:Grow J F H F1 H1)(h:Rr K H F1 H1 t v)(n:t.nb=true):∃F2,Grow J F H F2 H1/\(∀a,F1 a->F2 a)/\(∀a,F2 a->F1 a\/v=.ref a)/\Rp K F2 H1 t.fz v:=by
 cases t with
 |own l=>
  obtain⟨a,vs,e,n,f,q,r⟩:=h;refine⟨λ b=>F1 b\/b=a,g.frz n (by rw[q];simp),λ _ f=>.inl f,λ b f=>?_,a,vs,e,.inl ⟨.inr rfl,.of q⟩,r.ke (.up λ _ f=>.inl f)⟩
  rcases f with f|rfl
  ·exact .inl f
  ·exact .inr e
 |bor l=>cases n
 |_=>exact⟨F1,g,λ _ f=>f,λ _ f=>.inl f,h⟩
end
mutual
def eqT:TV->TV->Bool
 |.non,.non=>true
 |.bl a,.bl b=>a == b
 |.bl a,.int b=>(if a then 1 else 0) == b
 |.int a,.bl b=>a == (if b then 1 else 0)
 |.int a,.int b=>decide (a=b)
 |.str a,.str b=>decide (a=b)
 |.tup l,.tup m=>eqTL l m
 |.lst l,.lst m=>eqTL l m
 |_,_=>false
def eqTL:List TV->List TV->Bool
 |[],[]=>true
 |x::xs,y::ys=>eqT x y&&eqTL xs ys
 |_,_=>false
end
def oU(l m:List TV):eqT (.lst l) (.lst m)=eqTL l m:=rfl
def wJ(l m:List TV):eqT (.tup l) (.tup m)=eqTL l m:=rfl
def eqTL_c(x y:TV)(xs ys:List TV):eqTL (x::xs) (y::ys)=(eqT x y&&eqTL xs ys):=rfl
noncomputable def dp:Nat->TV->Prop
 |_,.non=>True|_,.bl _=>True|_,.int _=>True|_,.str _=>True
 |n+1,.tup l=>∀x∈l,dp n x
 |n+1,.lst l=>∀x∈l,dp n x
 |_,_=>False
theorem kH:∀ {l m:List TV},l.length≠m.length->eqTL l m=false
 |[],[],h=>absurd rfl h
 |[],_::_,_=>rfl
 |_::_,[],_=>rfl
 |x::xs,y::ys,h=>by rw[eqTL_c,kH (l:=xs) (m:=ys) (λ z=>h (by rw[List.length_cons,List.length_cons,z])),oV]
theorem kI:∀ {l m:List TV},l.length=m.length->(List.range l.length).all (λ j=>eqT (l.getD j .non) (m.getD j .non))=eqTL l m
 |[],[],_=>rfl
 |x::xs,y::ys,h=>by
  rw[List.length_cons,List.range_succ_eq_map,cw,List.all_map];show(eqT x y&&(List.range xs.length).all λ j=>eqT (xs.getD j .non) (ys.getD j .non))=eqTL (x::xs) (y::ys);rw[kI (l:=xs) (m:=ys) (by simpa using h),eqTL_c]
mutual
theorem Hh:∀ {t:TV}{n:Nat},dp n t->eqT t t=true
 |.non,_,_=>rfl
 |.bl b,_,_=>kz b
 |.int _,_,_=>cL rfl
 |.str _,_,_=>cL rfl
 |.tup l,0,h=>h.elim
 |.tup l,n+1,h=>eqTL_self (l:=l) (n:=n) h
 |.lst l,0,h=>h.elim
 |.lst l,n+1,h=>eqTL_self (l:=l) (n:=n) h
 |.bor _,0,h=>h.elim
 |.bor _,_+1,h=>h.elim
 |.own _,0,h=>h.elim
 |.own _,_+1,h=>h.elim
 |.dct _,0,h=>h.elim
 |.dct _,_+1,h=>h.elim
theorem eqTL_self:∀ {l:List TV}{n:Nat},(∀x∈l,dp n x)->eqTL l l=true
 |[],_,_=>rfl
 |x::xs,n,h=>by rw[eqTL_c,Hh (h x pv),eqTL_self λ y hy=>h y (by simp[hy])];rfl
end
def RelV.uniq(h:RelV x u)(g:RelV y u):x=y:=by
 cases x<;>cases y<;>first
  |(cases h;cases g;rfl)
  |(obtain⟨_,rfl⟩:=h;obtain⟨_,e⟩:=g;cases e;rfl)
  |(cases h;cases g;done)
  |(cases h;obtain⟨_,e⟩:=g;cases e;done)
  |(obtain⟨_,rfl⟩:=h;cases g;done)
  |(obtain⟨_,rfl⟩:=h;obtain⟨_,e⟩:=g;cases e;done)
theorem Vals.uniq:∀ {xs ys:List V}{us:LV},Vals xs us->Vals ys us->xs=ys
 |_,_,_,.nil,.nil=>rfl
 |_,_,_,.cons r t,.cons r' t'=>by rw[r.uniq r',Vals.uniq t t']
section
variable {pins:LO}{σ:St}{H:Hp}{s:Shared}{F:Fz}
def Inv.tup_uniq(I:Inv X pins σ H s)(h:SqT X.K H a xs)(g:SqT X.K H a ys):xs=ys:=by
 obtain⟨us,r1,p1,_⟩:=I.tuple h;obtain⟨ws,r2,p2,_⟩:=I.tuple g;obtain⟨o,e,_,n,d⟩:=p1;obtain⟨o',e',_,n',d'⟩:=p2;rw[e] at e';cases e';rw[d] at d';have:us.toArray=ws.toArray:=by injection d'
 have:us=ws:=by simpa using br Array.toList this
 subst this;exact r1.uniq r2
def Inv.lst_uniq(I:Inv X pins σ H s)(h:SqL X.K H a xs)(g:SqL X.K H a ys):xs=ys:=by
 obtain⟨us,r1,p1,_⟩:=I.list h;obtain⟨ws,r2,p2,_⟩:=I.list g;obtain⟨o,n,e,_,_,d⟩:=p1;obtain⟨o',n',e',_,_,d'⟩:=p2;rw[e] at e';cases e';rw[d] at d';have:us.toArray=ws.toArray:=by injection d'
 have:us=ws:=by simpa using br Array.toList this
 subst this;exact r1.uniq r2
def Inv.tl(I:Inv X pins σ H s)(h:SqT X.K H a xs)(g:SqL X.K H a ys):False:=by
 obtain⟨us,r1,p1,_⟩:=I.tuple h;obtain⟨ws,r2,p2,_⟩:=I.list g;obtain⟨o,e,c,_⟩:=p1;obtain⟨o',n',e',c',_⟩:=p2;rw[e] at e';cases e';rw[c] at c';simp at c'
mutual
theorem Inv.rp_uniq(I:Inv X pins σ H s):∀ {t u:TV}{v:V},Rp X.K F H t v->Rp X.K F H u v->t=u
 |.non,u,v,h,g=>by cases h;cases u<;>first|rfl|(cases g;done)|(obtain⟨_,_,e,_⟩:=g;cases e)|exact g.elim
 |.bl _,u,v,h,g=>by cases h;cases u<;>first|(cases g;rfl)|(cases g;done)|(obtain⟨_,_,e,_⟩:=g;cases e)|exact g.elim
 |.int _,u,v,h,g=>by cases h;cases u<;>first|(cases g;rfl)|(cases g;done)|(obtain⟨_,_,e,_⟩:=g;cases e)|exact g.elim
 |.str _,u,v,h,g=>by cases h;cases u<;>first|(cases g;rfl)|(cases g;done)|(obtain⟨_,_,e,_⟩:=g;cases e)|exact g.elim
 |.tup l,u,v,⟨a,vs,e,q,r⟩,g=>by
  subst e
  cases u with
  |tup m=>
   obtain⟨b,ws,e,q',r'⟩:=g;cases e;have:=I.tup_uniq q q';subst this;rw[Inv.rpl_uniq I r r']
  |lst m=>obtain⟨b,ws,e,q',r'⟩:=g;cases e;exact(I.tl q q'.sq).elim
  |_=>first|exact g.elim|cases g
 |.lst l,u,v,⟨a,vs,e,q,r⟩,g=>by
  subst e
  cases u with
  |lst m=>
   obtain⟨b,ws,e,q',r'⟩:=g;cases e;have:=I.lst_uniq q.sq q'.sq;subst this;rw[Inv.rpl_uniq I r r']
  |tup m=>obtain⟨b,ws,e,q',r'⟩:=g;cases e;exact(I.tl q' q.sq).elim
  |_=>first|exact g.elim|cases g
 |.bor _,_,_,h,_=>h.elim
 |.own _,_,_,h,_=>h.elim
 |.dct _,_,_,h,_=>h.elim
theorem Inv.rpl_uniq(I:Inv X pins σ H s):∀ {ts us:List TV}{vs:List V},RpL X.K F H ts vs->RpL X.K F H us vs->ts=us
 |[],us,_,h,g=>by
  cases h
  cases us with
  |nil=>rfl
  |cons t r=>obtain⟨_,_,e,_⟩:=g;cases e
 |t::ts,us,_,⟨v,r,e,h1,h2⟩,g=>by
  subst e
  cases us with
  |nil=>cases g
  |cons u us=>obtain⟨_,_,e,g1,g2⟩:=g;cases e;rw[Inv.rp_uniq I h1 g1,Inv.rpl_uniq I h2 g2]
end
def iA{K:FG}{vs:List V}(r:RpL K F H l vs)(q:Vals vs us){j:Nat}(h:j<us.toArray.size):∃z,Rp K F H (l.getD j .non) z/\RelV z us.toArray[j]/\l.getD j .non∈l:=by
 obtain⟨z,e,rz⟩:=Gh q h;have k:j<l.length:=by rw[r.length,q.length];simpa using h
 obtain⟨v,e',rv⟩:=r.get (az k);rw[e] at e';cases e';have ee:l.getD j .non=l[j]:=by simp[aO,az k]
 rw[ee];exact⟨z,rv,rz,kJ k⟩
def wK(I:Inv X pins σ H s){n:Nat}(ih:∀m,n=m+1->∀(A:Around) (t u:TV) (x y:V) (v w:Value),A.units+m<cLine->dp m t->Rp X.K F H t x->Rp X.K F H u y->RelV x v->RelV y w->SeqAt.EqAt A s v w (eqT t u))(A:Around)(t u:TV)(x y:V)(v w:Value)(hu:A.units+n<cLine)(d:dp n t)(h:Rp X.K F H t x)(g:Rp X.K F H u y)(rx:RelV x v)(ry:RelV y w):SeqAt.EqAt A s v w (eqT t u):=by
 have hu0:A.units<cLine:=fu;have tupI:∀ {a vs},SqT X.K H a vs->∃us:LV,Vals vs us/\s.heap.IsTuple a us.toArray:=λ q=>by obtain⟨us,r,p,_⟩:=I.tuple q;exact⟨us,r,p⟩
 have lstI:∀ {a vs},SqL X.K H a vs->∃us:LV,Vals vs us/\s.heap.IsList a us.toArray:=λ q=>by obtain⟨us,r,p,_⟩:=I.list q;exact⟨us,r,p.isList⟩
 cases t with
 |bor l=>exact h.elim
 |own l=>exact h.elim
 |dct l=>exact h.elim
 |tup l=>
  obtain⟨a,vs,rfl,q,r⟩:=h;cases rx;obtain⟨us,r1,p1⟩:=tupI q
  cases u with
  |bor l=>exact g.elim
  |own l=>exact g.elim
  |dct l=>exact g.elim
  |non=>cases g;cases ry;exact SeqAt.EqAt.tuple_none p1 hu0
  |bl b=>cases g;cases ry;exact SeqAt.EqAt.tuple_bool b p1 hu0
  |int b=>cases g;obtain⟨tk,rfl⟩:=ry;exact SeqAt.EqAt.tuple_int b tk p1 hu0
  |str b=>cases g;obtain⟨tk,rfl⟩:=ry;exact SeqAt.EqAt.tuple_str b tk p1 hu0
  |lst m=>
   obtain⟨b,ws,rfl,q',r'⟩:=g;cases ry;obtain⟨us2,r2,p2⟩:=lstI q'.sq;exact SeqAt.EqAt.tuple_list p1 p2 hu0
  |tup m=>
   obtain⟨b,ws,rfl,q',r'⟩:=g;cases ry;obtain⟨us2,r2,p2⟩:=tupI q'
   cases n with
   |zero=>exact False.elim d
   |succ n=>
    have d':∀x∈l,dp n x:=d;by_cases ab:a=b
    ·subst ab;have:=I.tup_uniq q q';subst this;have:=I.rpl_uniq r r';subst this;rw[wJ,eqTL_self d'];exact rq _
    ·refine s1m ab ?_
     have z:=SeqAt.RcAt.tuples (A:=A) p1 p2 (e:=λ j=>eqT (l.getD j .non) (m.getD j .non)) hu0 (λ j k1 k2=>by
      obtain⟨z1,h1,r1',m1⟩:=iA r r1 k1;obtain⟨z2,h2,r2',_⟩:=iA r' r2 k2
      exact ih n rfl A.in1 _ _ z1 z2 _ _ (by show A.units+1+n<cLine;lia) (d' _ m1) h1 h2 r1' r2')
     have e1:us.toArray.size=l.length:=by simp[r.length,r1.length]
     have e2:us2.toArray.size=m.length:=by simp[r'.length,r2.length]
     rw[e1,e2] at z;rw[wJ];by_cases c:l.length=m.length
     ·rw[<- c,s1s,kI c] at z;simpa using z
     ·rw[kH c];have c':(l.length == m.length)=false:=by simpa using c
      rw[c',oV] at z;exact z
 |lst l=>
  obtain⟨a,vs,rfl,q,r⟩:=h;cases rx;obtain⟨us,r1,p1⟩:=lstI q.sq
  cases u with
  |bor l=>exact g.elim
  |own l=>exact g.elim
  |dct l=>exact g.elim
  |non=>cases g;cases ry;exact SeqAt.EqAt.list_none p1 hu0
  |bl b=>cases g;cases ry;exact SeqAt.EqAt.list_bool b p1 hu0
  |int b=>cases g;obtain⟨tk,rfl⟩:=ry;exact SeqAt.EqAt.list_int b tk p1 hu0
  |str b=>cases g;obtain⟨tk,rfl⟩:=ry;exact SeqAt.EqAt.list_str b tk p1 hu0
  |tup m=>
   obtain⟨b,ws,rfl,q',r'⟩:=g;cases ry;obtain⟨us2,r2,p2⟩:=tupI q';exact SeqAt.EqAt.list_tuple p1 p2 hu0
  |lst m=>
   obtain⟨b,ws,rfl,q',r'⟩:=g;cases ry;obtain⟨us2,r2,p2⟩:=lstI q'.sq
   cases n with
   |zero=>exact False.elim d
   |succ n=>
    have d':∀x∈l,dp n x:=d;have e1:us.toArray.size=l.length:=by simp[r.length,r1.length]
    have e2:us2.toArray.size=m.length:=by simp[r'.length,r2.length]
    by_cases ab:a=b
    ·subst ab;have:=I.lst_uniq q.sq q'.sq;subst this;have:=I.rpl_uniq r r';subst this;rw[oU,eqTL_self d'];exact rq _
    ·refine s1m ab ?_;rw[oU];by_cases c:l.length=m.length
     ·have z:=SeqAt.RcAt.lists (A:=A) p1 p2 (e:=λ j=>eqT (l.getD j .non) (m.getD j .non)) (by rw[e1,e2,c]) hu0 (λ j k1 k2=>by
       obtain⟨z1,h1,r1',m1⟩:=iA r r1 k1;obtain⟨z2,h2,r2',_⟩:=iA r' r2 k2
       exact ih n rfl A.in1 _ _ z1 z2 _ _ (by show A.units+1+n<cLine;lia) (d' _ m1) h1 h2 r1' r2')
      rwa [e1,kI c] at z
     ·rw[kH c];exact SeqAt.RcAt.lists_lengths p1 p2 (by rw[e1,e2];simpa using c) hu0
 |non=>
  cases h
  cases u with
  |bor l=>exact g.elim
  |own l=>exact g.elim
  |dct l=>exact g.elim
  |tup m=>obtain⟨b,ws,rfl,q',_⟩:=g;cases ry;obtain⟨us2,r2,p2⟩:=tupI q';cases rx;exact SeqAt.EqAt.none_tuple p2 hu0
  |lst m=>obtain⟨b,ws,rfl,q',_⟩:=g;cases ry;obtain⟨us2,r2,p2⟩:=lstI q'.sq;cases rx;exact SeqAt.EqAt.none_list p2 hu0
  |_=>cases g;exact lU rx ry rfl rfl
 |bl k=>
  cases h
  cases u with
  |bor l=>exact g.elim
  |own l=>exact g.elim
  |dct l=>exact g.elim
  |tup m=>obtain⟨b,ws,rfl,q',_⟩:=g;cases ry;obtain⟨us2,r2,p2⟩:=tupI q';cases rx;exact SeqAt.EqAt.bool_tuple k p2 hu0
  |lst m=>obtain⟨b,ws,rfl,q',_⟩:=g;cases ry;obtain⟨us2,r2,p2⟩:=lstI q'.sq;cases rx;exact SeqAt.EqAt.bool_list k p2 hu0
  |_=>cases g;exact lU rx ry rfl rfl
 |int k=>
  cases h
  cases u with
  |bor l=>exact g.elim
  |own l=>exact g.elim
  |dct l=>exact g.elim
  |tup m=>obtain⟨b,ws,rfl,q',_⟩:=g;cases ry;obtain⟨us2,r2,p2⟩:=tupI q';obtain⟨tk,rfl⟩:=rx;exact SeqAt.EqAt.int_tuple k tk p2 hu0
  |lst m=>obtain⟨b,ws,rfl,q',_⟩:=g;cases ry;obtain⟨us2,r2,p2⟩:=lstI q'.sq;obtain⟨tk,rfl⟩:=rx;exact SeqAt.EqAt.int_list k tk p2 hu0
  |_=>cases g;exact lU rx ry rfl rfl
 |str k=>
  cases h
  cases u with
  |bor l=>exact g.elim
  |own l=>exact g.elim
  |dct l=>exact g.elim
  |tup m=>obtain⟨b,ws,rfl,q',_⟩:=g;cases ry;obtain⟨us2,r2,p2⟩:=tupI q';obtain⟨tk,rfl⟩:=rx;exact SeqAt.EqAt.str_tuple k tk p2 hu0
  |lst m=>obtain⟨b,ws,rfl,q',_⟩:=g;cases ry;obtain⟨us2,r2,p2⟩:=lstI q'.sq;obtain⟨tk,rfl⟩:=rx;exact SeqAt.EqAt.str_list k tk p2 hu0
  |_=>cases g;exact lU rx ry rfl rfl
def wM(I:Inv X pins σ H s)(n:Nat):∀(A:Around) (t u:TV) (x y:V) (v w:Value),A.units+n<cLine->dp n t->Rp X.K F H t x->Rp X.K F H u y->RelV x v->RelV y w->SeqAt.EqAt A s v w (eqT t u):=by
 induction n with
 |zero=>exact wK I λ m e=>nomatch e
 |succ n ih=>exact wK I λ m e=>by cases e;exact ih
end
inductive BI where
 |len|tuple|list|sum|max|min|abs|int|str|sorted|any|all|isI|isB|isT|isL|isS|maxlen|trev (b:Bool)|lrange (k:Bool)
 deriving DecidableEq
inductive IK where
 |seq|rng|rng2|rng3|zip (a b:Bool)|zip3|enum (a:Bool)|rev (a:Bool)|str
 deriving DecidableEq
inductive Cd where
 |v (i:Nat)|c (t:TV)|g (k:Nat)
 |bin (o:Operator) (a b:Cd)|neg (a:Cd)|not (a:Cd)|cmp (o:CmpOp) (a b:Cd)|cm2 (o o':CmpOp) (a b c:Cd)
 |and (a b:Cd)|or (a b:Cd)|ite (c a b:Cd)
 |nil|cons (a r:Cd)|tup (l:Cd)|lst (l:Cd)|ix (a b:Cd)|sl (a lo hi:Cd)
 |call (f:Nat) (l:Cd)|bi (f:BI) (l:Cd)|isi (f:BI) (a:Cd)|mxl (a b:Cd)|trev (k:Bool) (a:Cd)|lrng (k:Bool) (a:Cd)|idx (i:Nat) (b:Cd)|dk (k:Nat) (a:Cd)
 |comp (own:List Str) (fv:List Str) (js:List Nat) (tg:List Nat) (k:IK) (it:Cd) (e:Cd)|compI (own:List Str) (fv:List Str) (js:List Nat) (tg:List Nat) (k:IK) (it:Cd) (c e:Cd)
abbrev PSp:=List TV->(TV->Prop)->Prop
abbrev En:=List (Option TV)
noncomputable def i2(t u:TV)(P:Int->Int->Prop):Prop:=match t,u with|.int i,.int j=>P i j|_,_=>False
noncomputable def i1(t:TV)(P:Int->Prop):Prop:=match t with|.int i=>P i|_=>False
noncomputable def b1(t:TV)(P:Bool->Prop):Prop:=match t with|.bl i=>P i|_=>False
noncomputable def l1(t:TV)(P:List TV->Prop):Prop:=match t with|.lst l=>P l|.bor l=>P l|.own l=>P l|_=>False
noncomputable def s1(t:TV)(P:List TV->Prop):Prop:=match t with|.lst l=>P l|.bor l=>P l|.own l=>P l|.tup l=>P l|_=>False
def aE(i j:Int):Int:=if 0<j then i%j else i.fmod j
def aI(i j:Int):Int:=if 0<j then i/j else i.fdiv j
noncomputable def sG(t u:TV)(K:TV->Prop):Prop:=match t,u with
 |.int i,.int j=>K (.int (i+j))
 |.tup l,.tup m=>l.length+m.length<=sizeLine/\K (.tup (l++m))
 |t,u=>l1 t λ l=>l1 u λ m=>l.length+m.length<=sizeLine/\K (.own (l++m))
noncomputable def sH(t u:TV)(K:TV->Prop):Prop:=match t,u with
 |.int i,.int j=>IntMulOk i j/\K (.int (i*j))
 |t,.int k=>(match t with|.own l=>(0<=k/\k<2 ^ 63)/\l.length*k.toNat<=sizeLine/\K (.own (List.replicate k.toNat l).flatten)|_=>False)
 |_,_=>False
noncomputable def opP:Operator->TV->TV->(TV->Prop)->Prop
 |.Add,t,u,K=>sG t u K
 |.Sub,t,u,K=>i2 t u λ i j=>K (.int (i-j))
 |.Mult,t,u,K=>sH t u K
 |.FloorDiv,t,u,K=>i2 t u λ i j=>(j≠0/\-18446744073709551616<j/\j<1606938044258990275541962092341162602522202993782792835301376)/\K (.int (aI i j))
 |.Mod,t,u,K=>i2 t u λ i j=>j≠0/\K (.int (aE i j))
 |.Pow,t,u,K=>i2 t u λ i j=>lN i j/\K (.int (i ^ j.toNat))
 |.RShift,t,u,K=>i2 t u λ i j=>0<=j/\K (.int (i/2 ^ j.toNat))
 |.BitAnd,t,u,K=>i2 t u λ i j=>K (.int (Builtin.bitAnd i j))
 |.BitOr,t,u,K=>i2 t u λ i j=>K (.int (Builtin.bitOr i j))
 |.BitXor,t,u,K=>i2 t u λ i j=>K (.int (Builtin.bitXor i j))
 |_,_,_,_=>False
noncomputable def eqC(t u:TV):Prop:=match t,u with
 |.tup l,.tup _=>dp 9 (.tup l)
 |.lst l,.lst _=>dp 9 (.lst l)
 |.int _,.int _=>True|.str _,.str _=>True|.bl _,.bl _=>True|.non,.non=>True
 |.non,.int _=>True|.int _,.non=>True|.non,.str _=>True|.str _,.non=>True|.int _,.str _=>True|.str _,.int _=>True
 |.non,.bl _=>True|.bl _,.non=>True
 |_,_=>False
noncomputable def flT:TV->Bool
 |.non=>true|.bl _=>true|.int _=>true|.str _=>true|_=>false
def inT(x:TV)(l:List TV):Bool:=l.any λ y=>eqT y x
noncomputable def gtQ(t u:TV)(K:TV->Prop):Prop:=match t,u with
 |t,u=>i2 t u λ i j=>K (.bl (decide (j<i)))
noncomputable def iB:CmpOp->TV->TV->(TV->Prop)->Prop
 |.Eq,t,u,K=>eqC t.fz u.fz/\K (.bl (eqT t.fz u.fz))
 |.NotEq,t,u,K=>eqC t.fz u.fz/\K (.bl (!eqT t.fz u.fz))
 |.Lt,t,u,K=>i2 t u λ i j=>K (.bl (decide (i<j)))
 |.LtE,t,u,K=>i2 t u λ i j=>K (.bl (decide (i<=j)))
 |.Gt,t,u,K=>gtQ t u K
 |.GtE,t,u,K=>i2 t u λ i j=>K (.bl (decide (j<=i)))
 |.In,t,u,K=>s1 u λ l=>flT t=true/\(∀x∈l,flT x=true)/\K (.bl (inT t l))
 |.NotIn,t,u,K=>s1 u λ l=>flT t=true/\(∀x∈l,flT x=true)/\K (.bl (!inT t l))
 |.Is,t,u,K=>u=.non/\K (.bl (match t with|.non=>true|_=>false))
 |.IsNot,t,u,K=>u=.non/\K (.bl (match t with|.non=>false|_=>true))
noncomputable def aq(l:List TV)(lo hi:Option Int):List TV:=(l.drop (_H.sIx l.length 0 lo)).take (_H.sIx l.length l.length hi-_H.sIx l.length 0 lo)
noncomputable def oI(t:TV)(P:Option Int->Prop):Prop:=match t with|.non=>P none|.int i=>P (some i)|_=>False
noncomputable def slK(t:TV)(a b:Option Int)(K:TV->Prop):Prop:=match t with
 |.tup l=>K (.tup (aq l a b))
 |.str x=>x.length<=4000000/\K (.str (Txt.slice x a b))
 |t=>l1 t λ l=>K (.own (aq l a b))
noncomputable def ixP(t u:TV)(K:TV->Prop):Prop:=match t with
 |.str x=>i1 u λ i=>x.length<=sizeLine/\∃c,atI x.cps.toList i=some c/\K (.str ⟨#[c]⟩)
 |t=>s1 t λ l=>i1 u λ i=>∃x,atI l i=some x/\K x
noncomputable def LF:TV->Prop
 |.tup l=>∀x∈l,LF x
 |.lst _=>False|.bor _=>False|.own _=>False|.dct _=>False
 |_=>True
noncomputable def k1(b:Bool)(t:TV)(P:List TV->Prop):Prop:=if b=true then (match t with|.tup l=>P l|_=>False) else l1 t P
noncomputable def biP:BI->List TV->(TV->Prop)->Prop
 |.len,[t],K=>(match t with|.str x=>x.length<=sizeLine/\K (.int x.length)|t=>s1 t λ l=>K (.int l.length))
 |.tuple,[t],K=>s1 t λ l=>K (.tup l)
 |.list,[t],K=>s1 t λ l=>K (.own l)
 |.sum,[t],K=>l1 t λ l=>∃ns:LI,l=ns.map .int/\K (.int ns.sum)
 |.max,[t,u],K=>i2 t u λ i j=>K (.int (if j > i then j else i))
 |.max,[t],K=>l1 t λ l=>∃ns:LI,l=ns.map .int/\0<ns.length/\∀M:Int,M∈ns->(∀z∈ns,z<=M)->K (.int M)
 |.min,[t],K=>l1 t λ l=>∃ns:LI,l=ns.map .int/\0<ns.length/\∀M:Int,M∈ns->(∀z∈ns,M<=z)->K (.int M)
 |.min,[t,u],K=>i2 t u λ i j=>K (.int (if j<i then j else i))
 |.abs,[t],K=>i1 t λ i=>K (.int (if i<0 then -i else i))
 |.int,[t],K=>(match t with|.int i=>K (.int i)|.bl k=>K (.int (if k then 1 else 0))|_=>False)
 |.str,[t],K=>i1 t λ i=>i.natAbs.log2<1920/\K (.str (Str.ofString (toString i)))
 |.sorted,[t],K=>s1 t λ l=>∃ns:LI,l=ns.map .int/\ns.length<64/\∀ns':LI,ns'.Perm ns->ns'.Pairwise (·<=·)->K (.own (ns'.map .int))
 |.any,[t],K=>l1 t λ l=>∃bs:List Bool,l=bs.map .bl/\K (.bl (bs.any id))
 |.all,[t],K=>l1 t λ l=>∃bs:List Bool,l=bs.map .bl/\K (.bl (bs.all id))
 |.isI,[t],K=>(match t with|.int _=>K (.bl true)|.bl _=>K (.bl true)|.str _=>K (.bl false)|.non=>K (.bl false)|.tup _=>K (.bl false)|_=>False)
 |.isB,[t],K=>(match t with|.bl _=>K (.bl true)|.int _=>K (.bl false)|.str _=>K (.bl false)|.non=>K (.bl false)|.tup _=>K (.bl false)|_=>False)
 |.isT,[t],K=>(match t with|.tup _=>K (.bl true)|.int _=>K (.bl false)|.str _=>K (.bl false)|.non=>K (.bl false)|.bl _=>K (.bl false)|_=>False)
 |.isL,[t],K=>(match t with|.tup _=>K (.bl false)|.int _=>K (.bl false)|.str _=>K (.bl false)|.non=>K (.bl false)|.bl _=>K (.bl false)|.lst _=>K (.bl true)|.bor _=>K (.bl true)|.own _=>K (.bl true)|.dct _=>False)
 |.isS,[t],K=>(match t with|.tup _=>K (.bl false)|.int _=>K (.bl false)|.str _=>K (.bl true)|.non=>K (.bl false)|.bl _=>K (.bl false)|_=>False)
 |.trev b,[t],K=>k1 b t λ l=>K (.tup l.reverse)
 |.maxlen,[t,u],K=>(match t,u with|.tup l,.tup m=>K (.tup (if l.length<m.length then m else l))|_,_=>False)
 |.lrange k,[t],K=>i1 t λ j=>(0<=j/\j<=1000)/\K (if k=true then .tup ((List.range j.toNat).map λ i=>.int (i:Nat)) else .own ((List.range j.toNat).map λ i=>.int (i:Nat)))
 |_,_,_=>False
noncomputable def z3(l m n:List TV):List TV:=List.zipWith (λ x (p:TV×TV)=>.tup [x,p.1,p.2]) l (m.zip n)
noncomputable def itP:IK->List TV->(List TV->Prop)->Prop
 |.seq,[t],K=>s1 t K
 |.rng,[t],K=>i1 t λ j=>(-(2 ^ 62)<=j/\j<2 ^ 62)/\K ((List.range j.toNat).map λ i=>.int (i:Nat))
 |.rng2,[t,u],K=>i2 t u λ i j=>(-(2 ^ 62)<=i/\i<2 ^ 62/\-(2 ^ 62)<=j/\j<2 ^ 62)/\K ((List.range (j-i).toNat).map λ k=>.int (i+(k:Nat)))
 |.rng3,[t,u,w],K=>i2 t u λ i j=>i1 w λ c=>(c≠0/\c.natAbs<1073741824/\Builtin.Range.small i j c=true)/\K ((List.range (Builtin.Range.rangeSize i j c).toNat).map λ k=>.int (i+(k:Nat)*c))
 |.zip a b,[t,u],K=>k1 a t λ l=>k1 b u λ m=>K (List.zipWith (λ x y=>.tup [x,y]) l m)
 |.zip3,[t,u,w],K=>k1 true t λ l=>k1 true u λ m=>k1 true w λ n=>(m.length=l.length/\n.length=l.length)/\K (z3 l m n)
 |.enum a,[t],K=>k1 a t λ l=>K (l.mapIdx λ i x=>.tup [.int (i:Nat),x])
 |.rev a,[t],K=>k1 a t λ l=>K l.reverse
 |.str,[t],K=>(match t with|.str x=>K (x.cps.toList.map λ c=>.str ⟨#[c]⟩)|_=>False)
 |_,_,_=>False
noncomputable def gtP(s:Option TV)(K:TV->Prop):Prop:=match s with|some (.bor _)=>False|some t=>K t|none=>False
noncomputable def dcP(s:Option TV)(P:List TV->Prop):Prop:=match s with|some (.bor l)=>P l|_=>False
noncomputable def t1(t:TV)(P:Str->Prop):Prop:=match t with|.str x=>P x|_=>False
noncomputable def dlk:List TV->Str->Option TV
 |.tup [.str k,t]::r,x=>if decide (k=x)=true then some t else dlk r x
 |_,_=>none
noncomputable def idP(l:List TV)(y:TV)(K:TV->Prop):Prop:=flT y=true/\(∀z∈l,flT z=true)/\∃(j:Nat) (z:TV),l[j]?=some z/\eqT z y=true/\(∀(m:Nat) (z:TV),m<j->l[m]?=some z->eqT z y=false)/\K (.int (j:Nat))
abbrev kT(k:LI):TV:=.tup (k.map .int)
noncomputable def rdV:Option (Option TV)->(TV->Prop)->Prop
 |some (some (.dct _)),_=>False
 |some (some t),K=>K (match t with|.own l=>.bor l|t=>t)
 |_,_=>False
noncomputable def stE(ρ:En)(is:List Nat)(t:TV)(K:En->Prop):Prop:=match is with
 |[i]=>K (ρ.set i (some t))
 |[i,j]=>(match t with|.tup [x,y]=>K ((ρ.set i (some x)).set j (some y))|_=>False)
 |[i,j,k]=>(match t with|.tup [x,y,z]=>K (((ρ.set i (some x)).set j (some y)).set k (some z))|_=>False)
 |_=>False
noncomputable def cmF(b:TV->(List TV->Prop)->Prop):List TV->(List TV->Prop)->Prop
 |[],K=>K []
 |t::r,K=>b t λ y=>cmF b r λ ys=>K (y++ys)
section
variable (FT:List PSp)(GT:List TV)
mutual
def wE:Cd->En->(TV->Prop)->Prop
 |.v i,ρ,K=>rdV ρ[i]? K
 |.c t,_,K=>K t
 |.g k,_,K=>gtP GT[k]? K
 |.bin o a b,ρ,K=>wE a ρ λ x=>wE b ρ λ y=>opP o x y K
 |.neg a,ρ,K=>wE a ρ λ x=>i1 x λ i=>K (.int (-i))
 |.not a,ρ,K=>wE a ρ λ x=>b1 x λ i=>K (.bl (!i))
 |.cmp o a b,ρ,K=>wE a ρ λ x=>wE b ρ λ y=>iB o x y K
 |.cm2 o o' a b c,ρ,K=>wE a ρ λ x=>wE b ρ λ y=>iB o x y λ z=>b1 z λ k=>if k=true then wE c ρ λ w=>iB o' y w K else K (.bl false)
 |.and a b,ρ,K=>wE a ρ λ x=>b1 x λ k=>if k=true then wE b ρ K else K (.bl false)
 |.or a b,ρ,K=>wE a ρ λ x=>b1 x λ k=>if k=true then K (.bl true) else wE b ρ K
 |.ite c a b,ρ,K=>wE c ρ λ x=>b1 x λ k=>if k=true then wE a ρ K else wE b ρ K
 |.tup l,ρ,K=>wL l ρ λ ts=>ts.all TV.nb=true/\ts.length<=sizeLine/\K (.tup (ts.map .fz))
 |.lst l,ρ,K=>wL l ρ λ ts=>ts.all TV.nb=true/\ts.length<=sizeLine/\K (.own (ts.map .fz))
 |.ix a b,ρ,K=>wE a ρ λ x=>wE b ρ λ y=>ixP x y K
 |.sl a lo hi,ρ,K=>wE a ρ λ x=>wE lo ρ λ y=>oI y λ p=>wE hi ρ λ z=>oI z λ q=>slK x p q K
 |.call f l,ρ,K=>wL l ρ λ ts=>∃P,(∃S,FT[f]?=some S/\S (ts.map .fz) P)/\∀t,P t->(ts.all TV.nb=false->LF t)/\K t
 |.bi f l,ρ,K=>wL l ρ λ ts=>biP f ts K
 |.isi f a,ρ,K=>wE a ρ λ t=>biP f [t] K
 |.mxl a b,ρ,K=>wE a ρ λ t=>wE b ρ λ u=>biP .maxlen [t,u] K
 |.trev k a,ρ,K=>wE a ρ λ t=>biP (.trev k) [t] K
 |.lrng k a,ρ,K=>wE a ρ λ t=>biP (.lrange k) [t] K
 |.idx i b,ρ,K=>rdV ρ[i]? λ x=>s1 x λ l=>wE b ρ λ y=>idP l y K
 |.dk k a,ρ,K=>dcP GT[k]? λ kvs=>wE a ρ λ y=>t1 y λ x=>∃t,dlk kvs x=some t/\K t
 |.comp own _ js tg k it e,ρ,K=>wL it ρ λ ts=>itP k ts λ its=>its.length<sizeLine /\
   cmF (λ t K'=>stE (List.replicate own.length none++js.map λ j=>(ρ[j]?).join) tg t λ ρ'=>wE e ρ' λ y=>(y.nb=true/\K' [y.fz])) its λ ys=>K (.own ys)
 |.compI own _ js tg k it c e,ρ,K=>wL it ρ λ ts=>itP k ts λ its=>its.length<sizeLine /\
   cmF (λ t K'=>stE (List.replicate own.length none++js.map λ j=>(ρ[j]?).join) tg t λ ρ'=>wE c ρ' λ x=>b1 x λ q=>if q=true then wE e ρ' λ y=>(y.nb=true/\K' [y.fz]) else K' []) its λ ys=>K (.own ys)
 |_,_,_=>False
def wL:Cd->En->(List TV->Prop)->Prop
 |.nil,_,K=>K []
 |.cons a r,ρ,K=>wE a ρ λ t=>wL r ρ λ ts=>K (t::ts)
 |_,_,_=>False
end
end
section
variable {K K':TV->Prop}{t u w:TV}
def kK{P P':Int->Int->Prop}(h:∀i j,P i j->P' i j)(q:i2 t u P):i2 t u P':=by
 cases t<;>cases u<;>first|exact h _ _ q|exact q.elim
def fc{P P':Int->Prop}(h:∀i,P i->P' i)(q:i1 t P):i1 t P':=by
 cases t<;>first|exact h _ q|exact q.elim
def cj{P P':Bool->Prop}(h:∀i,P i->P' i)(q:b1 t P):b1 t P':=by
 cases t<;>first|exact h _ q|exact q.elim
def kL{P P':List TV->Prop}(h:∀i,P i->P' i)(q:l1 t P):l1 t P':=by
 cases t<;>first|exact h _ q|exact q.elim
def oW{P P':List TV->Prop}(h:∀i,P i->P' i)(q:s1 t P):s1 t P':=by
 cases t<;>first|exact h _ q|exact q.elim
def gG{P P':List TV->Prop}(h:∀i,P i->P' i)(q:k1 b t P):k1 b t P':=by
 cases b
 ·exact kL h q
 ·cases t<;>first|exact h _ q|exact q.elim
def oX{P P':Option Int->Prop}(h:∀i,P i->P' i)(q:oI t P):oI t P':=by
 cases t<;>first|exact h _ q|exact q.elim
def Hi(h:∀t,K t->K' t)(q:sG t u K):sG t u K':=by
 cases t<;>cases u<;>first|exact h _ q|exact fV q.1 (h _ q.2)|exact q.elim
def Hj(h:∀t,K t->K' t)(q:sH t u K):sH t u K':=by
 cases t<;>cases u<;>first|exact q.elim|exact fV q.1 (h _ q.2)|exact fV q.1 (fV q.2.1 (fV q.2.2.1 (h _ q.2.2.2)))|exact fV q.1 (fV q.2.1 (h _ q.2.2))
def Hk(h:∀t,K t->K' t)(q:opP o t u K):opP o t u K':=by
 cases o<;>first
  |exact q.elim
  |exact Hi h q
  |exact Hj h q
  |exact kK (λ _ _ q=>h _ q) q
  |exact kK (λ _ _ q=>⟨q.1,h _ q.2⟩) q
def Hl(h:∀t,K t->K' t)(q:gtQ t u K):gtQ t u K':=by
 cases t<;>cases u<;>first|exact q.elim|exact h _ q|(obtain⟨ns,ms,a,b,q⟩:=q;exact⟨ns,ms,a,b,h _ q⟩)
def gH(h:∀t,K t->K' t)(q:iB o t u K):iB o t u K':=by
 cases o<;>first
  |exact⟨q.1,h _ q.2⟩
  |exact kK (λ _ _ q=>h _ q) q
  |exact Hl h q
  |exact oW (λ _ q=>⟨q.1,q.2.1,h _ q.2.2⟩) q
def Hn(h:∀t,K t->K' t)(q:slK t a b K):slK t a b K':=by
 cases t<;>first|exact h _ q|exact fV q.1 (h _ q.2)|exact q.elim
def Ho(h:∀t,K t->K' t)(q:ixP t u K):ixP t u K':=by
 have a:∀l,(i1 u λ i=>∃x,atI l i=some x/\K x)->i1 u λ i=>∃x,atI l i=some x/\K' x:=λ l q=>fc (λ i ⟨c,e,q⟩=>⟨c,e,h _ q⟩) q;have b:∀x:Str,(i1 u λ i=>x.length<=sizeLine/\∃c,atI x.cps.toList i=some c/\K (.str ⟨#[c]⟩))->i1 u λ i=>x.length<=sizeLine/\∃c,atI x.cps.toList i=some c/\K' (.str ⟨#[c]⟩):=λ l q=>fc (λ i ⟨z,c,e,q⟩=>⟨z,c,e,h _ q⟩) q
 cases t with
 |str x=>exact b x q
 |tup l=>exact a l q
 |lst l=>exact a l q
 |bor l=>exact a l q
 |own l=>exact a l q
 |_=>exact q.elim
def mI(h:∀t,K t->K' t)(q:biP f ts K):biP f ts K':=by
 have sl:∀ {t:TV}{g:List TV->TV},(s1 t λ l=>K (g l))->s1 t λ l=>K' (g l):=λ q=>oW (λ _ q=>h _ q) q;have il:∀ {t:TV}{g:Int->TV},(i1 t λ l=>K (g l))->i1 t λ l=>K' (g l):=λ q=>fc (λ _ q=>h _ q) q;have i2l:∀ {t u:TV}{g:Int->Int->TV},(i2 t u λ i j=>K (g i j))->i2 t u λ i j=>K' (g i j):=λ q=>kK (λ _ _ q=>h _ q) q
 rcases ts with _|⟨t,_|⟨u,_|⟨w,r⟩⟩⟩
 ·cases f<;>exact q.elim
 ·cases f with
  |len=>cases t<;>first|exact h _ q|exact q.elim|exact fV q.1 (h _ q.2)
  |tuple=>exact sl q
  |list=>exact sl q
  |trev b=>exact gG (λ _ q=>h _ q) q
  |sum=>exact kL (λ _ ⟨ns,e,q⟩=>⟨ns,e,h _ q⟩) q
  |max=>exact kL (λ _ ⟨ns,e,l,q⟩=>⟨ns,e,l,λ M m z=>h _ (q M m z)⟩) q
  |min=>exact kL (λ _ ⟨ns,e,l,q⟩=>⟨ns,e,l,λ M m z=>h _ (q M m z)⟩) q
  |abs=>exact il q
  |int=>cases t<;>first|exact h _ q|exact q.elim
  |str=>exact fc (λ _ ⟨a,q⟩=>⟨a,h _ q⟩) q
  |sorted=>exact oW (λ _ ⟨ns,e,l,q⟩=>⟨ns,e,l,λ M m z=>h _ (q M m z)⟩) q
  |any=>exact kL (λ _ ⟨ns,e,q⟩=>⟨ns,e,h _ q⟩) q
  |all=>exact kL (λ _ ⟨ns,e,q⟩=>⟨ns,e,h _ q⟩) q
  |isI=>cases t<;>first|exact h _ q|exact q.elim
  |isB=>cases t<;>first|exact h _ q|exact q.elim
  |isT=>cases t<;>first|exact h _ q|exact q.elim
  |isL=>cases t<;>first|exact h _ q|exact q.elim
  |isS=>cases t<;>first|exact h _ q|exact q.elim
  |lrange k=>exact fc (λ _ ⟨a,q⟩=>⟨a,h _ q⟩) q
  |maxlen=>exact q.elim
 ·cases f with
  |max=>exact i2l q
  |min=>exact i2l q
  |maxlen=>cases t<;>cases u<;>first|exact h _ q|exact q.elim
  |_=>exact q.elim
 ·cases f<;>exact q.elim
def iC{K K':List TV->Prop}(h:∀t,K t->K' t)(q:itP k ts K):itP k ts K':=by
 rcases ts with _|⟨t,_|⟨u,_|⟨w,_|⟨y,r⟩⟩⟩⟩
 ·cases k<;>exact q.elim
 ·cases k with
  |seq=>exact oW h q
  |rng=>exact fc (λ _ ⟨a,q⟩=>⟨a,h _ q⟩) q
  |enum a=>exact gG (λ _ q=>h _ q) q
  |rev a=>exact gG (λ _ q=>h _ q) q
  |str=>cases t<;>first|exact h _ q|exact q.elim
  |_=>exact q.elim
 ·cases k with
  |rng2=>exact kK (λ _ _ ⟨a,q⟩=>⟨a,h _ q⟩) q
  |zip a b=>exact gG (λ _ q=>gG (λ _ q=>h _ q) q) q
  |_=>exact q.elim
 ·cases k with
  |rng3=>exact kK (λ _ _ q=>fc (λ _ ⟨a,q⟩=>⟨a,h _ q⟩) q) q
  |zip3=>exact gG (λ _ q=>gG (λ _ q=>gG (λ _ ⟨a,q⟩=>⟨a,h _ q⟩) q) q) q
  |_=>exact q.elim
 ·cases k<;>exact q.elim
def Hq(h:∀t,K t->K' t)(q:gtP s K):gtP s K':=by
 cases s with
 |none=>exact q
 |some t=>cases t<;>first|exact h _ q|exact q.elim
def wN(q:dcP s P):∃l,s=some (.bor l)/\P l:=by
 cases s with
 |none=>exact q.elim
 |some t=>cases t<;>first|exact⟨_,rfl,q⟩|exact q.elim
def Hr{P P':List TV->Prop}(h:∀l,P l->P' l)(q:dcP s P):dcP s P':=by
 obtain⟨l,e,p⟩:=wN q;subst e;exact h l p
def wO(q:t1 t P):∃x,t=.str x/\P x:=by cases t<;>first|exact⟨_,rfl,q⟩|exact q.elim
def Hs{P P':Str->Prop}(h:∀x,P x->P' x)(q:t1 t P):t1 t P':=by
 obtain⟨x,e,p⟩:=wO q;subst e;exact h x p
def Ht{P P':List TV->Prop}(h:∀x,P x->P' x)(q:s1 t P):s1 t P':=by cases t<;>first|exact h _ q|exact q.elim
def wP(h:∀t,K t->K' t)(q:rdV s K):rdV s K':=by
 rcases s with _|_|t
 ·exact q
 ·exact q
 ·cases t<;>first|exact h _ q|exact q.elim
def fg{K K':En->Prop}(h:∀t,K t->K' t)(q:stE ρ is t K):stE ρ is t K':=by
 rcases is with _|⟨i,_|⟨j,_|⟨k,_|⟨l,r⟩⟩⟩⟩
 ·exact q.elim
 ·exact h _ q
 ·cases t with
  |tup l=>rcases l with _|⟨x,_|⟨y,_|⟨z,r⟩⟩⟩<;>first|exact h _ q|exact q.elim
  |_=>exact q.elim
 ·cases t with
  |tup l=>rcases l with _|⟨x,_|⟨y,_|⟨z,_|⟨w,r⟩⟩⟩⟩<;>first|exact h _ q|exact q.elim
  |_=>exact q.elim
 ·exact q.elim
theorem oY{b b':TV->(List TV->Prop)->Prop}(hb:∀t K K',(∀y,K y->K' y)->b t K->b' t K'):∀ {l:List TV}{K K':List TV->Prop},(∀y,K y->K' y)->cmF b l K->cmF b' l K'
 |[],_,_,h,q=>h _ q
 |_::_,_,_,h,q=>hb _ _ _ (λ y q=>oY hb (λ ys q=>h _ q) q) q
variable {FT:List PSp}{GT:List TV}
structure Mo (FT:List PSp)(GT:List TV)(c:Cd):Prop where
 e:∀ {ρ:En}{K K':TV->Prop},(∀t,K t->K' t)->wE FT GT c ρ K->wE FT GT c ρ K'
 l:∀ {ρ:En}{K K':List TV->Prop},(∀t,K t->K' t)->wL FT GT c ρ K->wL FT GT c ρ K'
def kM{k:Bool}{A A' B B':Prop}(ha:A->A')(hb:B->B')(q:if k=true then A else B):if k=true then A' else B':=by
 cases k
 ·exact hb q
 ·exact ha q
def mo(FT:List PSp)(GT:List TV):∀c,Mo FT GT c:=λ c=>by
 induction c with
 |v i=>exact⟨λ h q=>wP h q,λ _ q=>q.elim⟩
 |c t=>exact⟨λ h q=>h _ q,λ _ q=>q.elim⟩
 |g k=>exact⟨λ h q=>Hq h q,λ _ q=>q.elim⟩
 |bin o a b ia ib=>exact⟨λ h q=>ia.e (λ x q=>ib.e (λ y q=>Hk h q) q) q,λ _ q=>q.elim⟩
 |neg a ia=>exact⟨λ h q=>ia.e (λ x q=>fc (λ _ q=>h _ q) q) q,λ _ q=>q.elim⟩
 |not a ia=>exact⟨λ h q=>ia.e (λ x q=>cj (λ _ q=>h _ q) q) q,λ _ q=>q.elim⟩
 |cmp o a b ia ib=>exact⟨λ h q=>ia.e (λ x q=>ib.e (λ y q=>gH h q) q) q,λ _ q=>q.elim⟩
 |cm2 o o' a b c ia ib ic=>exact⟨λ h q=>ia.e (λ x q=>ib.e (λ y q=>gH (λ z q=>cj (λ k q=>kM (λ q=>ic.e (λ w q=>gH h q) q) (λ q=>h _ q) q) q) q) q) q,λ _ q=>q.elim⟩
 |and a b ia ib=>exact⟨λ h q=>ia.e (λ x q=>cj (λ k q=>kM (λ q=>ib.e h q) (λ q=>h _ q) q) q) q,λ _ q=>q.elim⟩
 |or a b ia ib=>exact⟨λ h q=>ia.e (λ x q=>cj (λ k q=>kM (λ q=>h _ q) (λ q=>ib.e h q) q) q) q,λ _ q=>q.elim⟩
 |ite c a b ic ia ib=>exact⟨λ h q=>ic.e (λ x q=>cj (λ k q=>kM (λ q=>ia.e h q) (λ q=>ib.e h q) q) q) q,λ _ q=>q.elim⟩
 |nil=>exact⟨λ _ q=>q.elim,λ h q=>h _ q⟩
 |cons a r ia ir=>exact⟨λ _ q=>q.elim,λ h q=>ia.e (λ t q=>ir.l (λ ts q=>h _ q) q) q⟩
 |tup l il=>exact⟨λ h q=>il.l (λ ts ⟨a,b,q⟩=>⟨a,b,h _ q⟩) q,λ _ q=>q.elim⟩
 |lst l il=>exact⟨λ h q=>il.l (λ ts ⟨a,b,q⟩=>⟨a,b,h _ q⟩) q,λ _ q=>q.elim⟩
 |ix a b ia ib=>exact⟨λ h q=>ia.e (λ x q=>ib.e (λ y q=>Ho h q) q) q,λ _ q=>q.elim⟩
 |sl a lo hi ia il ih=>exact⟨λ h q=>ia.e (λ x q=>il.e (λ y q=>oX (λ p q=>ih.e (λ z q=>oX (λ r q=>Hn h q) q) q) q) q) q,λ _ q=>q.elim⟩
 |call f l il=>exact⟨λ h q=>il.l (λ ts q=>let ⟨P,s,q⟩:=q;⟨P,s,λ t p=>⟨(q t p).1,h _ (q t p).2⟩⟩) q,λ _ q=>q.elim⟩
 |bi f l il=>exact⟨λ h q=>il.l (λ ts q=>mI h q) q,λ _ q=>q.elim⟩
 |isi f a ia=>exact⟨λ h q=>ia.e (λ t q=>mI h q) q,λ _ q=>q.elim⟩
 |mxl a b ia ib=>exact⟨λ h q=>ia.e (λ t q=>ib.e (λ u q=>mI h q) q) q,λ _ q=>q.elim⟩
 |trev k a ia=>exact⟨λ h q=>ia.e (λ t q=>mI h q) q,λ _ q=>q.elim⟩
 |idx i b ib=>exact⟨λ h q=>wP (λ x q=>Ht (λ l q=>ib.e (λ y ⟨a,b,j,z,e,f,g,q⟩=>⟨a,b,j,z,e,f,g,h _ q⟩) q) q) q,λ _ q=>q.elim⟩
 |dk k a ia=>exact⟨λ h q=>Hr (λ kvs q=>ia.e (λ y q=>Hs (λ x ⟨t,e,q⟩=>⟨t,e,h _ q⟩) q) q) q,λ _ q=>q.elim⟩
 |lrng k a ia=>exact⟨λ h q=>ia.e (λ t q=>mI h q) q,λ _ q=>q.elim⟩
 |comp own fv js tg k it e ii ie=>exact⟨λ h q=>ii.l (λ ts q=>iC (λ its q=>⟨q.1,oY (λ t K K' h q=>fg (λ ρ' q=>ie.e (λ y q=>⟨q.1,h _ q.2⟩) q) q) (λ ys q=>h _ q) q.2⟩) q) q,λ _ q=>q.elim⟩
 |compI own fv js tg k it c e ii ic ie=>exact⟨λ h q=>ii.l (λ ts q=>iC (λ its q=>⟨q.1,oY (λ t K K' h q=>fg (λ ρ' q=>ic.e (λ x q=>cj (λ z q=>kM (λ q=>ie.e (λ y q=>⟨q.1,h _ q.2⟩) q) (λ q=>h _ q) q) q) q) q) (λ ys q=>h _ q) q.2⟩) q) q,λ _ q=>q.elim⟩
def ao(c:Cd){K K':TV->Prop}(h:∀t,K t->K' t)(q:wE FT GT c ρ K):wE FT GT c ρ K':=(mo FT GT c).e h q
def bL(c:Cd){K K':List TV->Prop}(h:∀t,K t->K' t)(q:wL FT GT c ρ K):wL FT GT c ρ K':=(mo FT GT c).l h q
end
example (FT:List PSp) (GT:List TV) (K:TV->Prop):wE FT GT (.neg (.v 0)) [some (.int 3)] K=K (.int (-3)):=rfl
section
variable {J:Hp->Prop}
noncomputable def r2(X:Cx)(J:Hp->Prop)(p:TV->TV->(TV->Prop)->Prop):R2:=λ x y H1 Q=>∃F H F1 t u,Grow J F H F1 H1/\Rr X.K H F1 H1 t x/\Rr X.K H F1 H1 u y/\p t u λ r=>∀F' H' v,Grow J F H F' H'->Rr X.K H F' H' r v->Q v H'
def dy(h:i2 t u P):∃i j,t=.int i/\u=.int j/\P i j:=by
 cases t<;>cases u<;>first|exact⟨_,_,rfl,rfl,h⟩|exact h.elim
def fW(h:i1 t P):∃i,t=.int i/\P i:=by
 cases t<;>first|exact⟨_,rfl,h⟩|exact h.elim
def iD(h:b1 t P):∃i,t=.bl i/\P i:=by
 cases t<;>first|exact⟨_,rfl,h⟩|exact h.elim
def gI(h:l1 t P):∃l,t.items=some (false,l)/\P l:=by
 cases t<;>first|exact⟨_,rfl,h⟩|exact h.elim
def kN(h:s1 t P):∃b l,t.items=some (b,l)/\P l:=by
 cases t<;>first|exact⟨_,_,rfl,h⟩|exact h.elim
def Rr.lq{K:FG}{l:List TV}(h:Rr K H F' H' t v)(e:t.items=some (false,l)):∃a vs,v=.ref a/\RpL K F' H' l vs/\SqL K H' a vs:=by
 obtain⟨a,vs,e,r,q⟩:=h.sq e
 rcases q with ⟨z,_⟩|⟨_,q⟩
 ·cases z
 ·exact⟨a,vs,e,r,q⟩
def kO(hJ:JS J){K:FG}{Q:VK}{vs:List V}(g:Grow J F H F1 H1)(r:RpL K F1 H1 l vs)(q:∀F' H' v,Grow J F H F' H'->Rr K H F' H' (.tup l) v->Q v H')(p:Addr)(hp:H1 p=none):Q (.ref p) (upd H1 p (.tup vs)) :=
 q F1 _ _ (g.trans (.new hJ g.w _ hp)) ⟨p,vs,rfl,.of bP,r.ke (Grow.new hJ g.w _ hp).ke⟩
def Grow.none(g:Grow J F H F1 H1)(h:H1 a=none):H a=none:=by
 by_cases z:H a=Option.none
 ·exact z
 ·exact absurd h (g.dm a z)
def fj(hJ:JS J){K:FG}{Q:VK}{vs:List V}(g:Grow J F H F1 H1)(r:RpL K F1 H1 l vs)(q:∀F' H' v,Grow J F H F' H'->Rr K H F' H' (.own l) v->Q v H')(p:Addr)(hp:H1 p=none):Q (.ref p) (upd H1 p (.lst vs)) :=
 q F1 _ _ (g.trans (.new hJ g.w _ hp)) ⟨p,vs,rfl,g.none hp,λ z=>g.w.d p z hp,bP,r.ke (Grow.new hJ g.w _ hp).ke⟩
def Hu(hJ:JS J)(o:Operator):OpR X (binaryOp o) (r2 X J (opP o)):=by
 intro pins s σ H1 x y v u Q I rx ry h;obtain⟨F,H,F1,t,w,g,rt,rw',p⟩:=h
 cases o with
 |Add=>
  cases t with
  |int i=>
   cases rt
   cases w with
   |int j=>cases rw';exact CK pins s σ H1 _ _ v u Q I rx ry (p F1 H1 _ g rfl)
   |_=>exact p.elim
  |tup l=>
   cases w with
   |tup m=>
    obtain⟨a,vs,rfl,q1,r1⟩:=rt;obtain⟨b,ws,rfl,q2,r2⟩:=rw';obtain⟨lz,p⟩:=p;have rr:=r1.append r2;refine Fb pins s σ H1 _ _ v u Q I rx ry ⟨a,b,vs,ws,ca,ca,q1,q2,by rw[<- r1.length,<- r2.length];exact lz,λ e=>?_,λ _ e=>?_,λ _ _=>kO hJ g rr p⟩
    ·subst e;exact p F1 H1 _ g ⟨b,_,rfl,q2,rr⟩
    ·subst e;rw[cu] at rr;exact p F1 H1 _ g ⟨a,_,rfl,q1,rr⟩
   |_=>exact p.elim
  |lst l=>
   obtain⟨m,em,lz,p⟩:=gI p;obtain⟨a,vs,rfl,r1,q1⟩:=rt.lq rfl;obtain⟨b,ws,rfl,r2,q2⟩:=rw'.lq em;exact sh pins s σ H1 _ _ v u Q I rx ry ⟨a,b,vs,ws,ca,ca,q1,q2,by rw[<- r1.length,<- r2.length];exact lz,fj hJ g (r1.append r2) p⟩
  |bor l=>
   obtain⟨m,em,lz,p⟩:=gI p;obtain⟨a,vs,rfl,r1,q1⟩:=rt.lq rfl;obtain⟨b,ws,rfl,r2,q2⟩:=rw'.lq em;exact sh pins s σ H1 _ _ v u Q I rx ry ⟨a,b,vs,ws,ca,ca,q1,q2,by rw[<- r1.length,<- r2.length];exact lz,fj hJ g (r1.append r2) p⟩
  |own l=>
   obtain⟨m,em,lz,p⟩:=gI p;obtain⟨a,vs,rfl,r1,q1⟩:=rt.lq rfl;obtain⟨b,ws,rfl,r2,q2⟩:=rw'.lq em;exact sh pins s σ H1 _ _ v u Q I rx ry ⟨a,b,vs,ws,ca,ca,q1,q2,by rw[<- r1.length,<- r2.length];exact lz,fj hJ g (r1.append r2) p⟩
  |_=>exact p.elim
 |Sub=>
  obtain⟨i,j,rfl,rfl,p⟩:=dy p;cases rt;cases rw';exact CL pins s σ H1 _ _ v u Q I rx ry (p F1 H1 _ g rfl)
 |Mult=>
  cases t with
  |int i=>
   cases rt
   cases w with
   |int j=>cases rw';exact FP pins s σ H1 _ _ v u Q I rx ry ⟨p.1,p.2 F1 H1 _ g rfl⟩
   |_=>exact p.elim
  |own l=>
   cases w with
   |int k=>
    cases rw';obtain⟨a,vs,rfl,n,f,q,r⟩:=rt;obtain⟨k0,lz,p⟩:=p
    have rr:RpL X.K F1 H1 (List.replicate k.toNat l).flatten (List.replicate k.toNat vs).flatten:=by
     generalize k.toNat=m
     induction m with
     |zero=>rfl
     |succ m ih=>rw[jc,jc,kj,kj];exact r.append ih
    exact Eg pins s σ H1 _ _ v u Q I rx ry ⟨a,k,vs,ca,ca,q,fu,k0.2,by rw[<- r.length];exact lz,fj hJ g rr p⟩
   |_=>exact p.elim
  |_=>cases w<;>exact p.elim
 |FloorDiv=>
  obtain⟨i,j,rfl,rfl,⟨c1,c2,c3⟩,p⟩:=dy p;cases rt;cases rw';by_cases c:0<j
  ·rw[show aI i j=i/j by unfold aI;rw[if_pos c]] at p;exact Fs pins s σ H1 _ _ v u Q I rx ry ⟨⟨c,c3⟩,p F1 H1 _ g rfl⟩
  ·rw[show aI i j=i.fdiv j by unfold aI;rw[if_neg c]] at p;exact EB pins s σ H1 _ _ v u Q I rx ry ⟨⟨c1,c2,fu⟩,p F1 H1 _ g rfl⟩
 |Mod=>
  obtain⟨i,j,rfl,rfl,c1,p⟩:=dy p;cases rt;cases rw';by_cases c:0<j
  ·rw[show aE i j=i%j by unfold aE;rw[if_pos c]] at p;exact CO pins s σ H1 _ _ v u Q I rx ry ⟨c,p F1 H1 _ g rfl⟩
  ·rw[show aE i j=i.fmod j by unfold aE;rw[if_neg c]] at p;exact CP pins s σ H1 _ _ v u Q I rx ry ⟨c1,p F1 H1 _ g rfl⟩
 |Pow=>
  obtain⟨i,j,rfl,rfl,c1,p⟩:=dy p;cases rt;cases rw';exact CQ pins s σ H1 _ _ v u Q I rx ry ⟨c1,p F1 H1 _ g rfl⟩
 |RShift=>
  obtain⟨i,j,rfl,rfl,c1,p⟩:=dy p;cases rt;cases rw';exact CS pins s σ H1 _ _ v u Q I rx ry ⟨c1,p F1 H1 _ g rfl⟩
 |BitAnd=>
  obtain⟨i,j,rfl,rfl,p⟩:=dy p;cases rt;cases rw';exact CT pins s σ H1 _ _ v u Q I rx ry (p F1 H1 _ g rfl)
 |BitOr=>
  obtain⟨i,j,rfl,rfl,p⟩:=dy p;cases rt;cases rw';exact CU pins s σ H1 _ _ v u Q I rx ry (p F1 H1 _ g rfl)
 |BitXor=>
  obtain⟨i,j,rfl,rfl,p⟩:=dy p;cases rt;cases rw';exact CV pins s σ H1 _ _ v u Q I rx ry (p F1 H1 _ g rfl)
 |_=>exact p.elim
end
section
variable {J:Hp->Prop}{pins:LO}{σ:St}{H H1:Hp}{s:Shared}{F F1:Fz}
def FA:Fz:=λ _=>True
def Rr.top{K:FG}(h:Rr K H F1 H1 t v):Rp K FA H1 t.fz v:=by
 have k:Ke K F1 H1 FA H1:=.up λ _ _=>trivial
 cases t with
 |own l=>obtain⟨a,vs,e,_,_,q,r⟩:=h;exact⟨a,vs,e,.inl ⟨trivial,.of q⟩,r.ke k⟩
 |bor l=>obtain⟨a,vs,e,_,q,r⟩:=h;exact⟨a,vs,e,.inl ⟨trivial,.of q⟩,r.ke k⟩
 |_=>exact Rp.ke k h
def oZ{K:FG}(h:Rp K F H t v)(f:flT t=true):cD v=true:=by
 cases t<;>first|(cases h;rfl)|(cases f)
def sJ{K:FG}(h:Rp K F H t v)(g:Rp K F H u w)(f:flT t=true)(f':flT u=true):eqV v w=eqT t u:=by
 cases t<;>cases u<;>first|(cases h;cases g;rfl)|(cases f;done)|(cases f';done)
theorem pc{K:FG}:∀ {l:List TV}{vs:List V},RpL K F H l vs->(∀x∈l,flT x=true)->vs.all cD=true
 |[],_,h,_=>by cases h;rfl
 |t::ts,_,⟨v,r,e,h1,h2⟩,f=>by subst e;rw[cw,oZ h1 (f t pv),pc h2 λ x hx=>f x (by simp[hx])];rfl
theorem sK{K:FG}(ht:Rp K F H t v)(f:flT t=true):∀ {l:List TV}{vs:List V},RpL K F H l vs->(∀x∈l,flT x=true)->inV v vs=inT t l
 |[],_,h,_=>by cases h;rfl
 |u::ts,_,⟨w,r,e,h1,h2⟩,g=>by
  subst e;have ih:=sK ht f h2 λ x hx=>g x (by simp[hx]);unfold inV inT at *;rw[lW,lW,ih,sJ h1 ht (g u pv) f]
theorem wQ(I:Inv X pins σ H s){A:Around}{vs ws:List V}(hu:A.units+9<cLine)(d:dp 9 (.tup l))(q:SqT X.K H a vs)(r:RpL X.K F H l vs)(q':SqT X.K H b ws)(r':RpL X.K F H m ws) :
  ∃(us us2:LV),s.heap.IsTuple a us.toArray/\s.heap.IsTuple b us2.toArray/\(∀j (h1:j<us.toArray.size) (h2:j<us2.toArray.size),SeqAt.EqAt A.in1 s us.toArray[j] us2.toArray[j] (eqT (l.getD j .non) (m.getD j .non))) /\
   ((List.range (min us.toArray.size us2.toArray.size)).all (λ j=>eqT (l.getD j .non) (m.getD j .non))&&us.toArray.size == us2.toArray.size)=eqTL l m:=by
 obtain⟨us,r1,p1,_⟩:=I.tuple q;obtain⟨us2,r2,p2,_⟩:=I.tuple q';have d':∀x∈l,dp 8 x:=d;refine⟨us,us2,p1,p2,λ j k1 k2=>?_,?_⟩
 ·obtain⟨z1,h1,r1',m1⟩:=iA r r1 k1;obtain⟨z2,h2,r2',_⟩:=iA r' r2 k2;exact wM I 8 A.in1 _ _ z1 z2 _ _ (by show A.units+1+8<cLine;lia) (d' _ m1) h1 h2 r1' r2'
 ·have e1:us.toArray.size=l.length:=by simp[r.length,r1.length]
  have e2:us2.toArray.size=m.length:=by simp[r'.length,r2.length]
  rw[e1,e2];by_cases c:l.length=m.length
  ·rw[<- c,s1s,kI c];simp
  ·rw[kH c];have c':(l.length == m.length)=false:=by simpa using c
   rw[c',oV]
theorem wT(I:Inv X pins σ H s){A:Around}{vs ws:List V}(hu:A.units+9<cLine)(d:dp 9 (.lst l))(q:SqL X.K H a vs)(r:RpL X.K F H l vs)(q':SqL X.K H b ws)(r':RpL X.K F H m ws) :
  ∃(us us2:LV),s.heap.IsList a us.toArray/\s.heap.IsList b us2.toArray/\(∀j (h1:j<us.toArray.size) (h2:j<us2.toArray.size),SeqAt.EqAt A.in1 s us.toArray[j] us2.toArray[j] (eqT (l.getD j .non) (m.getD j .non)))/\us.toArray.size=l.length/\us2.toArray.size=m.length:=by
 obtain⟨us,r1,p1,_⟩:=I.list q;obtain⟨us2,r2,p2,_⟩:=I.list q';have d':∀x∈l,dp 8 x:=d;refine⟨us,us2,p1.isList,p2.isList,λ j k1 k2=>?_,by simp[r.length,r1.length],by simp[r'.length,r2.length]⟩;obtain⟨z1,h1,r1',m1⟩:=iA r r1 k1;obtain⟨z2,h2,r2',_⟩:=iA r' r2 k2;exact wM I 8 A.in1 _ _ z1 z2 _ _ (by show A.units+1+8<cLine;lia) (d' _ m1) h1 h2 r1' r2'
noncomputable def r2c(X:Cx)(J:Hp->Prop)(p:TV->TV->(TV->Prop)->Prop):R2:=λ x y H1 Q=>∃F H F1 t u,Grow J F H F1 H1/\Rr X.K H F1 H1 t x/\Rr X.K H F1 H1 u y/\p t u λ r=>∀v,Rr X.K H F1 H1 r v->Q v H1
def Hv(hu:X.A.units+20<cLine):OpR X (compareOp .Eq) (r2c X J (iB .Eq)):=by
 intro pins s σ H1 x y v u Q I rx ry h;obtain⟨F,H,F1,t,w,g,rt,rw',c,p⟩:=h;replace p:=p _ rfl;have ht:=rt.top;have hw:=rw'.top;generalize t.fz=t at *;generalize w.fz=w at *;clear rt rw';have fin:EP X pins σ Q (.bool (eqT t w)) s:=⟨.bl _,H1,I,rfl,p⟩
 cases t with
 |tup l=>
  cases w with
  |tup m=>
   obtain⟨a,vs,rfl,q,r⟩:=ht;obtain⟨b,ws,rfl,q',r'⟩:=hw;cases rx;cases ry;obtain⟨us,us2,p1,p2,e,z⟩:=wQ I (A:=X.A) fu c q r q' r';exact SeqAt.eq_tupleAt p1 p2 fu e (by rw[z];exact fin)
  |_=>exact c.elim
 |lst l=>
  cases w with
  |lst m=>
   obtain⟨a,vs,rfl,q,r⟩:=ht;obtain⟨b,ws,rfl,q',r'⟩:=hw;cases rx;cases ry;obtain⟨us,us2,p1,p2,e,e1,e2⟩:=wT I (A:=X.A) fu c q.sq r q'.sq r';by_cases k:l.length=m.length
   ·exact SeqAt.eq_listAt p1 p2 (by rw[e1,e2,k]) fu e (by rw[e1,kI k];exact fin)
   ·refine SeqAt.eq_list_lengthsAt p1 p2 (by rw[e1,e2];simpa using k) fu ?_;rw[oU,kH k] at fin;exact fin
  |_=>exact c.elim
 |int i=>
  cases w with
  |int j=>cases ht;cases hw;exact dR pins s σ H1 _ _ v u Q I rx ry p
  |non=>cases ht;cases hw;exact dR pins s σ H1 _ _ v u Q I rx ry (show bF _ _=true/\_ from ⟨rfl,p⟩)
  |str j=>cases ht;cases hw;exact dR pins s σ H1 _ _ v u Q I rx ry (show bF _ _=true/\_ from ⟨rfl,p⟩)
  |_=>exact c.elim
 |str i=>
  cases w with
  |str j=>cases ht;cases hw;exact dR pins s σ H1 _ _ v u Q I rx ry p
  |non=>cases ht;cases hw;exact dR pins s σ H1 _ _ v u Q I rx ry (show bF _ _=true/\_ from ⟨rfl,p⟩)
  |int j=>cases ht;cases hw;exact dR pins s σ H1 _ _ v u Q I rx ry (show bF _ _=true/\_ from ⟨rfl,p⟩)
  |_=>exact c.elim
 |bl i=>
  cases w with
  |bl j=>cases ht;cases hw;refine dR pins s σ H1 _ _ v u Q I rx ry (show bF _ _=true/\_ from ⟨rfl,?_⟩);cases i<;>cases j<;>exact p
  |non=>cases ht;cases hw;exact dR pins s σ H1 _ _ v u Q I rx ry (show bF _ _=true/\_ from ⟨rfl,p⟩)
  |_=>exact c.elim
 |non=>
  cases w with
  |non=>cases ht;cases hw;exact dR pins s σ H1 _ _ v u Q I rx ry (show bF _ _=true/\_ from ⟨rfl,p⟩)
  |int j=>cases ht;cases hw;exact dR pins s σ H1 _ _ v u Q I rx ry (show bF _ _=true/\_ from ⟨rfl,p⟩)
  |str j=>cases ht;cases hw;exact dR pins s σ H1 _ _ v u Q I rx ry (show bF _ _=true/\_ from ⟨rfl,p⟩)
  |bl j=>cases ht;cases hw;exact dR pins s σ H1 _ _ v u Q I rx ry (show bF _ _=true/\_ from ⟨rfl,p⟩)
  |_=>exact c.elim
 |_=>exact ht.elim
def Hw(hu:X.A.units+20<cLine):OpR X (compareOp .NotEq) (r2c X J (iB .NotEq)):=by
 intro pins s σ H1 x y v u Q I rx ry h;obtain⟨F,H,F1,t,w,g,rt,rw',c,p⟩:=h;replace p:=p _ rfl;have ht:=rt.top;have hw:=rw'.top;generalize t.fz=t at *;generalize w.fz=w at *;clear rt rw';have fin:EP X pins σ Q (.bool (!eqT t w)) s:=⟨.bl _,H1,I,rfl,p⟩
 cases t with
 |tup l=>
  cases w with
  |tup m=>
   obtain⟨a,vs,rfl,q,r⟩:=ht;obtain⟨b,ws,rfl,q',r'⟩:=hw;cases rx;cases ry;obtain⟨us,us2,p1,p2,e,z⟩:=wQ I (A:=X.A) fu c q r q' r';exact SeqAt.RcNeAt.tuples p1 p2 fu e _ _ _ _ (by rw[z];exact fin)
  |_=>exact c.elim
 |lst l=>
  cases w with
  |lst m=>
   obtain⟨a,vs,rfl,q,r⟩:=ht;obtain⟨b,ws,rfl,q',r'⟩:=hw;cases rx;cases ry;obtain⟨us,us2,p1,p2,e,e1,e2⟩:=wT I (A:=X.A) fu c q.sq r q'.sq r';by_cases k:l.length=m.length
   ·exact SeqAt.RcNeAt.lists p1 p2 (by rw[e1,e2,k]) fu e _ _ _ _ (by rw[e1,kI k];exact fin)
   ·refine SeqAt.RcNeAt.lists_lengths p1 p2 (by rw[e1,e2];simpa using k) fu _ _ _ _ ?_;rw[oU,kH k] at fin;exact fin
  |_=>exact c.elim
 |int i=>
  cases w with
  |int j=>cases ht;cases hw;exact dU pins s σ H1 _ _ v u Q I rx ry p
  |non=>cases ht;cases hw;exact dU pins s σ H1 _ _ v u Q I rx ry (show bF _ _=true/\_ from ⟨rfl,p⟩)
  |str j=>cases ht;cases hw;exact dU pins s σ H1 _ _ v u Q I rx ry (show bF _ _=true/\_ from ⟨rfl,p⟩)
  |_=>exact c.elim
 |str i=>
  cases w with
  |str j=>cases ht;cases hw;exact dU pins s σ H1 _ _ v u Q I rx ry p
  |non=>cases ht;cases hw;exact dU pins s σ H1 _ _ v u Q I rx ry (show bF _ _=true/\_ from ⟨rfl,p⟩)
  |int j=>cases ht;cases hw;exact dU pins s σ H1 _ _ v u Q I rx ry (show bF _ _=true/\_ from ⟨rfl,p⟩)
  |_=>exact c.elim
 |bl i=>
  cases w with
  |bl j=>cases ht;cases hw;refine dU pins s σ H1 _ _ v u Q I rx ry (show bF _ _=true/\_ from ⟨rfl,?_⟩);cases i<;>cases j<;>exact p
  |non=>cases ht;cases hw;exact dU pins s σ H1 _ _ v u Q I rx ry (show bF _ _=true/\_ from ⟨rfl,p⟩)
  |_=>exact c.elim
 |non=>
  cases w with
  |non=>cases ht;cases hw;exact dU pins s σ H1 _ _ v u Q I rx ry (show bF _ _=true/\_ from ⟨rfl,p⟩)
  |int j=>cases ht;cases hw;exact dU pins s σ H1 _ _ v u Q I rx ry (show bF _ _=true/\_ from ⟨rfl,p⟩)
  |str j=>cases ht;cases hw;exact dU pins s σ H1 _ _ v u Q I rx ry (show bF _ _=true/\_ from ⟨rfl,p⟩)
  |bl j=>cases ht;cases hw;exact dU pins s σ H1 _ _ v u Q I rx ry (show bF _ _=true/\_ from ⟨rfl,p⟩)
  |_=>exact c.elim
 |_=>exact ht.elim
def kP(hu:X.A.units+20<cLine)(o:CmpOp):OpR X (compareOp o) (r2c X J (iB o)):=by
 cases o with
 |Eq=>exact Hv hu
 |NotEq=>exact Hw hu
 |In=>
  intro pins s σ H1 x y v u Q I rx ry h;obtain⟨F,H,F1,t,w,g,rt,rw',p⟩:=h;obtain⟨b,l,e,f1,f2,p⟩:=kN p;obtain⟨a,vs,rfl,r,q⟩:=rw'.sq e
  have ht:Rp X.K F1 H1 t x:=by cases t<;>first|exact rt|cases f1
  refine DQ pins s σ H1 _ _ v u Q I rx ry ⟨a,vs,ca,?_,oZ ht f1,pc r f2,?_⟩
  ·rcases q with ⟨_,q⟩|⟨_,q⟩
   ·exact .inr q
   ·exact .inl q
  ·rw[if_neg on,sK ht f1 r f2];exact p _ rfl
 |NotIn=>
  intro pins s σ H1 x y v u Q I rx ry h;obtain⟨F,H,F1,t,w,g,rt,rw',p⟩:=h;obtain⟨b,l,e,f1,f2,p⟩:=kN p;obtain⟨a,vs,rfl,r,q⟩:=rw'.sq e
  have ht:Rp X.K F1 H1 t x:=by cases t<;>first|exact rt|cases f1
  refine DS pins s σ H1 _ _ v u Q I rx ry ⟨a,vs,ca,?_,oZ ht f1,pc r f2,?_⟩
  ·rcases q with ⟨_,q⟩|⟨_,q⟩
   ·exact .inr q
   ·exact .inl q
  ·rw[if_pos rfl,sK ht f1 r f2];exact p _ rfl
 |Is=>
  intro pins s σ H1 x y v u Q I rx ry h;obtain⟨F,H,F1,t,w,g,rt,rw',rfl,p⟩:=h;cases rw';have hx:=rt.top;refine De pins s σ H1 _ _ v u Q I rx ry ⟨ca,?_⟩;replace p:=p _ rfl
  cases t<;>first|exact False.elim hx|(cases hx;exact p)|(obtain⟨a,vs,rfl,_⟩:=hx;exact p)
 |IsNot=>
  intro pins s σ H1 x y v u Q I rx ry h;obtain⟨F,H,F1,t,w,g,rt,rw',rfl,p⟩:=h;cases rw';have hx:=rt.top;refine Df pins s σ H1 _ _ v u Q I rx ry ⟨ca,?_⟩;replace p:=p _ rfl
  cases t<;>first|exact False.elim hx|(cases hx;exact p)|(obtain⟨a,vs,rfl,_⟩:=hx;exact p)
 |Lt=>intro pins s σ H1 x y v u Q I rx ry h;obtain⟨F,H,F1,t,w,g,rt,rw',p⟩:=h;obtain⟨i,j,rfl,rfl,p⟩:=dy p;cases rt;cases rw';exact Da pins s σ H1 _ _ v u Q I rx ry (p _ rfl)
 |LtE=>intro pins s σ H1 x y v u Q I rx ry h;obtain⟨F,H,F1,t,w,g,rt,rw',p⟩:=h;obtain⟨i,j,rfl,rfl,p⟩:=dy p;cases rt;cases rw';exact Db pins s σ H1 _ _ v u Q I rx ry (p _ rfl)
 |Gt=>
  intro pins s σ H1 x y v u Q I rx ry h;obtain⟨F,H,F1,t,w,g,rt,rw',p⟩:=h;cases t<;>cases w<;>try exact p.elim
  ·cases rt;cases rw';exact Dc pins s σ H1 _ _ v u Q I rx ry (p _ rfl)
 |GtE=>intro pins s σ H1 x y v u Q I rx ry h;obtain⟨F,H,F1,t,w,g,rt,rw',p⟩:=h;obtain⟨i,j,rfl,rfl,p⟩:=dy p;cases rt;cases rw';exact Dd pins s σ H1 _ _ v u Q I rx ry (p _ rfl)
def Hx{K:FG}{vs:List V}(r:RpL K F H l vs)(e:atI l i=some t):∃v,atI vs i=some v/\Rp K F H t v:=by
 unfold atI at *;rw[<- r.length]
 cases q:ixN l.length i with
 |none=>rw[q] at e;cases e
 |some j=>rw[q] at e;exact r.get e
def Hy:IxR X (r2 X J ixP):=by
 intro value slice pins s σ H1 x y v u Q I rx ry h hs;obtain⟨F,H,F1,t,w,g,rt,rw',p⟩:=h
 have key:∀b l,t.items=some (b,l)->(i1 w λ i=>∃x,atI l i=some x/\∀F' H' v,Grow J F H F' H'->Rr X.K H F' H' x v->Q v H')->wpAny (model X.prog X.w) X.A (subscriptTail value slice v u) (EP X pins σ Q) X.xe s:=λ b l e p=>by
  obtain⟨i,rfl,z,ez,p⟩:=fW p;cases rw';obtain⟨a,vs,rfl,r,q⟩:=rt.sq e;obtain⟨zv,e1,rz⟩:=Hx r ez;have fin:=p F1 H1 _ g (Rr.of rz)
  rcases q with ⟨_,q⟩|⟨_,q⟩
  ·exact rn value slice pins s σ H1 _ _ v u Q I rx ry (.inr (.inl ⟨a,vs,i,zv,ca,ca,q,e1,fin⟩)) hs
  ·exact rn value slice pins s σ H1 _ _ v u Q I rx ry (.inl ⟨a,vs,i,zv,ca,ca,q,e1,fin⟩) hs
 cases t with
 |str x=>
  obtain⟨i,rfl,lz,c,ec,p⟩:=fW p;cases rw';cases rt;exact rn value slice pins s σ H1 _ _ v u Q I rx ry (.inr (.inr ⟨x,i,c,ca,ca,lz,ec,p F1 H1 _ g rfl⟩)) hs
 |tup l=>exact key _ _ rfl p
 |lst l=>exact key _ _ rfl p
 |bor l=>exact key _ _ rfl p
 |own l=>exact key _ _ rfl p
 |_=>exact p.elim
noncomputable def rsl(X:Cx)(J:Hp->Prop):V->Option Int->Option Int->Hp->VK->Prop:=λ x lo hi H1 Q=>∃F H F1 t,Grow J F H F1 H1/\Rr X.K H F1 H1 t x /\
 slK t lo hi λ r=>∀F' H' v,Grow J F H F' H'->Rr X.K H F' H' r v->Q v H'
def sM{K:FG}{vs:List V}(r:RpL K F H l vs)(lo hi:Option Int):RpL K F H (aq l lo hi) (gq vs lo hi):=by
 unfold aq gq;rw[<- r.length];exact(r.drop _).take _
def Hz(hJ:JS J):SlR X (rsl X J):=by
 intro pins s σ H1 x v vl vu lo hi sl Q I rx hs pl pu h;obtain⟨F,H,F1,t,g,rt,p⟩:=h
 have key:∀l,t.items=some (false,l)->(∀F' H' v,Grow J F H F' H'->Rr X.K H F' H' (.own (aq l lo hi)) v->Q v H')->∃T id,typeLookup (.type T) "__getitem__"=pure (some (.builtin id))/\s.TypeIs v T/\wpAny (model X.prog X.w) X.A (getItem v (.ref sl)) (EP X pins σ Q) X.xe s:=λ l e p=>by
  obtain⟨a,vs,rfl,r,q⟩:=rt.lq e;exact DP pins s σ H1 _ v vl vu lo hi sl Q I rx hs pl pu ⟨a,vs,ca,q,fj hJ g (sM r lo hi) p⟩
 cases t with
 |tup l=>
  obtain⟨a,xs,rfl,ha,r⟩:=rt;by_cases c:_H.sIx xs.length 0 lo=0/\_H.sIx xs.length xs.length hi=xs.length
  ·cases rx;obtain⟨its,rr,ht,hz⟩:=I.tuple ha;have hlen:its.toArray.size=xs.length:=by rw[aM];exact rr.length.symm
   refine⟨"tuple",_,PyProof.Rows.slot_tuple_getitem.lookup,ht.typeIs,_H.whole_tup ht hs pl pu (by rw[hlen];exact c.1) (by rw[hlen];exact c.2) ⟨.ref a,H1,I,ca,p F1 H1 _ g ⟨a,xs,ca,ha,?_⟩⟩⟩;have z:=sM r lo hi;unfold gq at z
   rwa [c.1,c.2,s0r,Nat.sub_zero,fk] at z
  ·exact DD pins s σ H1 _ v vl vu lo hi sl Q I rx hs pl pu ⟨a,xs,ca,ha,c,kO hJ g (sM r lo hi) p⟩
 |str z=>cases rt;exact FY pins s σ H1 _ v vl vu lo hi sl Q I rx hs pl pu ⟨z,rfl,p.1,p.2 F1 H1 _ g rfl⟩
 |lst l=>exact key l rfl p
 |bor l=>exact key l rfl p
 |own l=>exact key l rfl p
 |_=>exact p.elim
end
section
variable {J:Hp->Prop}
noncomputable def wV(X:Cx):V->V->Hp->VK->Prop:=λ x y H Q=>∃(a b:Addr) (xs ys:List V),x=.ref a/\y=.ref b/\SqT X.K H a xs/\SqT X.K H b ys/\(ys.length<=xs.length->Q (.ref a) H)/\(xs.length<ys.length->Q (.ref b) H)
def HA{p kp pos p2:Pos}(hc:X.calm=true)(hg:Gl X "max")(hm:X.mg "max"=none)(hg2:Gl X "len")(hm2:X.mg "len"=none)(he:PE X e te)(hf:PE X f tf)(hs:starEach [e,f] X.env=(false,eval e X.env)::starEach [f] X.env:=by rfl)(hs2:starEach [f] X.env=[(false,eval f X.env)]:=by rfl):PE X (.Call (.Name "max" p) [e,f] [⟨some (Str.ofString "key"),.Name "len" p2,kp⟩] pos) (GK (wV X) te tf):=by
 intro pins s σ H Q I h;refine ik (dG I hg hm boot_max ?_);have hA:=(bJ he (bJ hf (pa_nil (X:=X)) hs2) hs) pos pins s σ H (λ vs H1=>match vs with|[x,y]=>wV X x y H1 Q|_=>False) I h;refine callWith_kw (thn hA λ us s1 ⟨vs,H1,I1,r1,q1⟩=>?_) (by rw[hs,hs2];rfl) (by rw[hs,hs2];rfl)
 match vs,q1 with
 |[x0,y0],q1=>
  obtain⟨u,v,rfl,ru,rv⟩:=lP r1;refine kws_cons (dG I1 hg2 hm2 boot_len (kws_nil ?_));obtain⟨a,b,xs,ys,rfl,rfl,ha,hb,qa,qb⟩:=q1;cases (show u=Value.ref a from ru);cases (show v=Value.ref b from rv);obtain⟨i1,t1,p1,y1⟩:=I1.tuple ha;obtain⟨i2,t2,p2',y2⟩:=I1.tuple hb;have l1:=t1.length;have l2:=t2.length;have hsz:sizeLine=16777216:=jW;refine GJ (I1.ok.hd hc) p1 p2' (by rw[aM];omega) (by rw[aM];omega) λ v h' tk hv kk=>?_;simp only[aM] at hv
  rcases hv with ⟨rfl,hl⟩|⟨rfl,hl⟩
  ·exact⟨.ref a,H1,I1.kept kk,ca,qa (by omega)⟩
  ·exact⟨.ref b,H1,I1.kept kk,ca,qb (by omega)⟩
noncomputable def rL(X:Cx)(J:Hp->Prop)(p:List TV->(TV->Prop)->Prop):List V->Hp->VK->Prop:=λ xs H1 Q=>∃F H F1 ts,Grow J F H F1 H1/\RrL X.K H F1 H1 ts xs/\p ts λ r=>∀F' H' v,Grow J F H F' H'->Rr X.K H F' H' r v->Q v H'
noncomputable def biV:BI->Value
 |.len=>.builtin "len" |.tuple=>.type "tuple" |.list=>.type "list" |.sum=>.builtin "sum" |.max=>.builtin "max" |.min=>.builtin "min" |.abs=>.builtin "abs" |.int=>.type "int" |.str=>.type "str"
 |.sorted=>.builtin "sorted" |.any=>.builtin "any" |.all=>.builtin "all" |_=>.none
def iE{K:FG}{t:TV}(h:RrL K H F1 H1 [t] xs):∃x,xs=[x]/\Rr K H F1 H1 t x:=by
 cases h with
 |cons r q=>cases q;exact⟨_,rfl,r⟩
def pd{K:FG}{t u:TV}(h:RrL K H F1 H1 [t,u] xs):∃x y,xs=[x,y]/\Rr K H F1 H1 t x/\Rr K H F1 H1 u y:=by
 cases h with
 |cons r q=>obtain⟨y,rfl,r'⟩:=iE q;exact⟨_,y,rfl,r,r'⟩
def HB(h:rL X J p xs H1 Q)(n:∀ts K,p ts K->ts.length=1):∃F H F1 t x,xs=[x]/\Grow J F H F1 H1/\Rr X.K H F1 H1 t x/\p [t] λ r=>∀F' H' v,Grow J F H F' H'->Rr X.K H F' H' r v->Q v H':=by
 obtain⟨F,H,F1,ts,g,r,q⟩:=h
 match ts,n _ _ q with
 |[t],_=>obtain⟨x,rfl,rx⟩:=iE r;exact⟨F,H,F1,t,x,rfl,g,rx,q⟩
def sO{K:FG}{b:Bool}{vs:List V}(q:(b=true/\SqT K H' a vs)\/(b=false/\SqL K H' a vs)):SqL K H' a vs\/SqT K H' a vs:=q.elim (λ z=>.inr z.2) λ z=>.inl z.2
def bi1{f:BI}(h:f=.len\/f=.tuple\/f=.list\/f=.sum\/f=.abs\/f=.int\/f=.sorted\/f=.any):∀ts K,biP f ts K->ts.length=1:=by
 intro ts K q
 rcases ts with _|⟨t,_|⟨u,_|⟨w,r⟩⟩⟩
 ·rcases h with rfl|rfl|rfl|rfl|rfl|rfl|rfl|rfl<;>exact q.elim
 ·rfl
 ·rcases h with rfl|rfl|rfl|rfl|rfl|rfl|rfl|rfl<;>exact q.elim
 ·rcases h with rfl|rfl|rfl|rfl|rfl|rfl|rfl|rfl<;>exact q.elim
def gJ(hJ:JS J)(hc:X.calm=true)(f:BI)(h:f=.len\/f=.tuple\/f=.list\/f=.sum\/f=.abs\/f=.int\/f=.sorted\/f=.any):bR X (biV f) (rL X J (biP f)):=by
 intro pins s σ H1 xs us Q I rs hh;obtain⟨F,H,F1,t,x,rfl,g,rt,p⟩:=HB hh (bi1 h)
 rcases h with rfl|rfl|rfl|rfl|rfl|rfl|rfl|rfl
 ·have key:∀b l,t.items=some (b,l)->(∀F' H' v,Grow J F H F' H'->Rr X.K H F' H' (.int l.length) v->Q v H')->wpAny (model X.prog X.w) X.A (call (biV .len) us) (EP X pins σ Q) X.xe s:=λ b l e p=>by
   obtain⟨a,vs,rfl,r,q⟩:=rt.sq e;exact DT pins s σ H1 _ us Q I rs ⟨a,vs,ca,sO q,by rw[<- r.length];exact p F1 H1 _ g rfl⟩
  cases t with
  |str z=>cases rt;exact DU pins s σ H1 _ us Q I rs ⟨z,rfl,p.1,p.2 F1 H1 _ g rfl⟩
  |tup l=>exact key _ _ rfl p
  |lst l=>exact key _ _ rfl p
  |bor l=>exact key _ _ rfl p
  |own l=>exact key _ _ rfl p
  |_=>exact p.elim
 ·obtain⟨b,l,e,p⟩:=kN p;obtain⟨a,vs,rfl,r,q⟩:=rt.sq e;refine DW pins s σ H1 _ us Q I rs ⟨a,vs,ca,?_⟩
  rcases q with ⟨_,q⟩|⟨_,q⟩
  ·exact .inr ⟨q,p F1 H1 _ g ⟨a,vs,ca,q,r⟩⟩
  ·exact .inl ⟨q,kO hJ g r p⟩
 ·obtain⟨b,l,e,p⟩:=kN p;obtain⟨a,vs,rfl,r,q⟩:=rt.sq e;exact DV pins s σ H1 _ us Q I rs ⟨a,vs,ca,sO q,fj hJ g r p⟩
 ·obtain⟨l,e,ns,rfl,p⟩:=gI p;obtain⟨a,vs,rfl,r,q⟩:=rt.lq e;cases r.ints;exact Fe hc pins s σ H1 _ us Q I rs ⟨a,ns,ca,q,p F1 H1 _ g rfl⟩
 ·obtain⟨i,rfl,p⟩:=fW p;cases rt;exact Dk pins s σ H1 _ us Q I rs ⟨i,ca,p F1 H1 _ g rfl⟩
 ·cases t with
  |int i=>cases rt;exact uW pins s σ H1 _ us Q I rs (.inl ⟨i,rfl,p F1 H1 _ g rfl⟩)
  |bl i=>cases rt;exact uW pins s σ H1 _ us Q I rs (.inr ⟨i,rfl,p F1 H1 _ g rfl⟩)
  |_=>exact p.elim
 ·obtain⟨b,l,e,ns,rfl,n64,p⟩:=kN p;obtain⟨a,vs,rfl,r,q⟩:=rt.sq e;cases r.ints;exact FQ pins s σ H1 _ us Q I rs ⟨a,ns,ca,sO q,n64,λ ns' p1 p2=>fj hJ g (RpL.ofInts ns') (p ns' p1 p2)⟩
 ·obtain⟨l,e,ns,rfl,p⟩:=gI p;obtain⟨a,vs,rfl,r,q⟩:=rt.lq e;cases r.bls;exact FZ hc pins s σ H1 _ us Q I rs ⟨a,ns,ca,q,p F1 H1 _ g rfl⟩
def HD(hc:X.calm=true):bR X (.builtin "max") (rL X J (biP .max)):=by
 intro pins s σ H1 xs us Q I rs h;obtain⟨F,H,F1,ts,g,r,p⟩:=h
 rcases ts with _|⟨t,_|⟨u,_|⟨w,r⟩⟩⟩
 ·exact p.elim
 ·obtain⟨x,rfl,rt⟩:=iE r;obtain⟨l,e,ns,rfl,l0,p⟩:=gI p;obtain⟨a,vs,rfl,r,q⟩:=rt.lq e;cases r.ints;exact GE hc pins s σ H1 _ us Q I rs ⟨a,ns,ca,q,l0,λ M m z=>p M m z F1 H1 _ g rfl⟩
 ·obtain⟨x,y,rfl,rt,ru⟩:=pd r;obtain⟨i,j,rfl,rfl,p⟩:=dy p;cases rt;cases ru;exact Dl hc pins s σ H1 _ us Q I rs ⟨i,j,ca,p F1 H1 _ g rfl⟩
 ·exact p.elim
def HE(hc:X.calm=true):bR X (.builtin "min") (rL X J (biP .min)):=by
 intro pins s σ H1 xs us Q I rs h;obtain⟨F,H,F1,ts,g,r,p⟩:=h
 rcases ts with _|⟨t,_|⟨u,_|⟨w,r⟩⟩⟩
 ·exact p.elim
 ·obtain⟨x,rfl,rt⟩:=iE r;obtain⟨l,e,ns,rfl,l0,p⟩:=gI p;obtain⟨a,vs,rfl,r,q⟩:=rt.lq e;cases r.ints;exact GD hc pins s σ H1 _ us Q I rs ⟨a,ns,ca,q,l0,λ M m z=>p M m z F1 H1 _ g rfl⟩
 ·obtain⟨x,y,rfl,rt,ru⟩:=pd r;obtain⟨i,j,rfl,rfl,p⟩:=dy p;cases rt;cases ru;exact Dm hc pins s σ H1 _ us Q I rs ⟨i,j,ca,p F1 H1 _ g rfl⟩
 ·exact p.elim
noncomputable def isN:BI->String
 |.isI=> "int" |.isB=> "bool" |.isT=> "tuple" |.isL=> "list" |.isS=> "str" |_=> ""
noncomputable def tyT:TV->String
 |.non=> "NoneType" |.bl _=> "bool" |.int _=> "int" |.str _=> "str" |.tup _=> "tuple" |_=> "list"
theorem HG{t:TV}{Q:VS}(I:Inv X pins σ H1 s)(ht:Rp X.K FA H1 t.fz x)(rx:RelV x u)
  (e:W.kitOne X.K (.type (tyT t)) (.type n)=some b) (h:∀tk,Q (.bool b) { s with toks:=tk }):wpAny (model X.prog X.w) A (call (.builtin "isinstance") [u,.type n]) Q E s:=by
 have lst:∀ {l a vs},x=.ref a->SqL X.K H1 a vs->RpL X.K FA H1 l vs->tyT t="list" -> wpAny (model X.prog X.w) A (call (.builtin "isinstance") [u,.type n]) Q E s:=λ ex q r et=>by
  subst ex;cases rx;obtain⟨its,_,⟨o,n,e1,c,_⟩,_⟩:=I.list q;rw[et] at e;exact kQ W.kitx_list I.kIn ⟨_,e1,c⟩ e (λ z=>nomatch z) h
 cases t with
 |non=>cases ht;cases rx;exact kQ W.kitx_none I.kIn ky e (λ z=>nomatch z) h
 |bl y=>cases ht;cases rx;exact kQ W.kitx_bool I.kIn ky e (λ z=>nomatch z) h
 |int i=>cases ht;obtain⟨t,rfl⟩:=rx;exact kQ W.kitx_int I.kIn ky e (λ z=>nomatch z) h
 |str i=>cases ht;obtain⟨t,rfl⟩:=rx;exact kQ W.kitx_str I.kIn ky e (λ z=>nomatch z) h
 |tup l=>
  obtain⟨a,vs,rfl,q,r⟩:=ht;cases rx;obtain⟨its,_,⟨o,e1,c,_⟩,_⟩:=I.tuple q;exact kQ W.kitx_tuple I.kIn ⟨_,e1,c⟩ e (λ z=>nomatch z) h
 |lst l=>obtain⟨a,vs,rfl,q,r⟩:=ht;exact lst rfl q.sq r rfl
 |bor l=>obtain⟨a,vs,rfl,q,r⟩:=ht;exact lst rfl q.sq r rfl
 |own l=>obtain⟨a,vs,rfl,q,r⟩:=ht;exact lst rfl q.sq r rfl
 |dct l=>exact ht.elim
def HH{K:FG}(f:BI)(h:f=.isI\/f=.isB\/f=.isT\/f=.isL\/f=.isS)(t:TV):W.kitOne K (.type (tyT t)) (.type (isN f))=some (rP (tyT t) (isN f)):=by
 have m:tyT t="NoneType" \/ tyT t="bool" \/ tyT t="int" \/ tyT t="str" \/ tyT t="tuple" \/ tyT t="list" := by cases t<;>simp[tyT]
 generalize tyT t=y at *
 rcases m with rfl|rfl|rfl|rfl|rfl|rfl<;>rcases h with rfl|rfl|rfl|rfl|rfl<;>exact EC (by decide +kernel)
def HI(f:BI)(h:f=.isI\/f=.isB\/f=.isT\/f=.isL\/f=.isS):bR X (.builtin "isinstance") (λ xs H1 Q=>∃x,xs=[x,.ty (isN f)]/\rL X J (biP f) [x] H1 Q):=by
 intro pins s σ H1 xs us Q I rs hh;obtain⟨x,rfl,F,H,F1,ts,g,r,p⟩:=hh;obtain⟨u,w',rfl,rx,ry⟩:=lP rs;cases (show w'=Value.type _ from ry)
 have n1:∃t,ts=[t]:=by
  cases r with
  |cons a b=>cases b;exact⟨_,rfl⟩
 obtain⟨t,rfl⟩:=n1;obtain⟨_,e0,rt⟩:=iE r;cases e0;refine HG I rt.top rx (HH f h t) λ tk=>⟨.bl _,H1,I.tok tk,ca,?_⟩;have e1:∀b,rP (tyT t) (isN f)=b->(∀F' H' v,Grow J F H F' H'->Rr X.K H F' H' (.bl b) v->Q v H')->Q (.bl (rP (tyT t) (isN f))) H1:=λ b e q=>by rw[e];exact q F1 H1 _ g rfl
 rcases h with rfl|rfl|rfl|rfl|rfl<;>cases t<;>first|exact p.elim|exact e1 true (by simp only[tyT,isN];decide +kernel) p|exact e1 false (by simp only[tyT,isN];decide +kernel) p
end
section
variable {K:FG}{J:Hp->Prop}
noncomputable def Vw(K:FG)(F:Fz)(H:Hp)(t:TV)(x:V):Prop:=match t.items with
 |some (true,l)=>∃a vs,x=.ref a/\SqT K H a vs/\RpL K F H l vs
 |some (false,l)=>∃a vs,x=.ref a/\SqL K H a vs/\RpL K F H l vs
 |none=>Rp K F H t x
def Vw.l{t:TV}{l:List TV}(h:Vw K F H t x)(e:t.items=some (false,l)):∃a vs,x=.ref a/\SqL K H a vs/\RpL K F H l vs:=by
 unfold Vw at h;rw[e] at h;exact h
def Vw.t{t:TV}{l:List TV}(h:Vw K F H t x)(e:t.items=some (true,l)):∃a vs,x=.ref a/\SqT K H a vs/\RpL K F H l vs:=by
 unfold Vw at h;rw[e] at h;exact h
def Rr.vw{H F1 H1}(h:Rr K H F1 H1 t x):Vw K F1 H1 t x:=by
 unfold Vw
 cases e:t.items with
 |none=>cases t<;>first|exact h|cases e
 |some p=>
  obtain⟨b,l⟩:=p;obtain⟨a,vs,rfl,r,q⟩:=h.sq e;cases b
  ·rcases q with ⟨z,_⟩|⟨_,q⟩
   ·cases z
   ·exact⟨a,vs,ca,q,r⟩
  ·rcases q with ⟨_,q⟩|⟨z,_⟩
   ·exact⟨a,vs,ca,q,r⟩
   ·cases z
def Rp.vw{F1 H1}{t:TV}(h:Rp K F1 H1 t.fz x):Vw K F1 H1 t x:=by
 cases t with
 |bor l=>obtain⟨a,vs,e,q,r⟩:=h;exact⟨a,vs,e,q.sq,r⟩
 |own l=>obtain⟨a,vs,e,q,r⟩:=h;exact⟨a,vs,e,q.sq,r⟩
 |lst l=>obtain⟨a,vs,e,q,r⟩:=h;exact⟨a,vs,e,q.sq,r⟩
 |_=>exact h
structure ItOk (K:FG)(J:Hp->Prop)(Jt:It)(its ts:List TV)(xs:List V):Prop where
 go:∀F H i,Wd J F H->Paired (Vw K F H) ts xs->i<its.length->Jt.go i H
 stop:∀F H,Wd J F H->Paired (Vw K F H) ts xs->Jt.stop its.length H
 yld:∀F H i x H',Wd J F H->Paired (Vw K F H) ts xs->i<its.length->Jt.yld i H x H'->∃t,its[i]?=some t/\Grow J F H F H'/\Rp K F H' t x
def gK{t:TV}{x:V}(h:Paired (Vw K F H) [t] [x]):Vw K F H t x:=by cases h with|cons r _=>exact r
def iF{α:Type}{l:List α}{i:Nat}(h:i<l.length):∃x,l[i]?=some x:=⟨_,az h⟩
theorem HJ{t:TV}{l:List TV}(e:t.items=some (false,l)):ItOk K J (Itl K a) l [t] [.ref a] where
 go F H i w h hi:=by
  obtain⟨b,vs,eb,q,r⟩:=(gK h).l e;cases eb;obtain⟨x,ex⟩:=iF (l:=vs) (by rw[<- r.length];exact hi);exact⟨vs,x,q,ex⟩
 stop F H w h:=by
  obtain⟨b,vs,eb,q,r⟩:=(gK h).l e;cases eb;exact⟨vs,q,by rw[r.length];exact av _⟩
 yld F H i x H' w h hi y:=by
  obtain⟨b,vs,eb,q,r⟩:=(gK h).l e;cases eb;obtain⟨rfl,y⟩:=y;obtain⟨t,et⟩:=iF hi;obtain⟨v,ev,rv⟩:=r.get et;have:=y vs q;rw[ev] at this;cases this;exact⟨t,et,.refl w,rv⟩
theorem HK{t:TV}{l:List TV}(e:t.items=some (true,l)):ItOk K J (Itt K a) l [t] [.ref a] where
 go F H i w h hi:=by
  obtain⟨b,vs,eb,q,r⟩:=(gK h).t e;cases eb;obtain⟨x,ex⟩:=iF (l:=vs) (by rw[<- r.length];exact hi);exact⟨vs,x,q,ex⟩
 stop F H w h:=by
  obtain⟨b,vs,eb,q,r⟩:=(gK h).t e;cases eb;exact⟨vs,q,by rw[r.length];exact av _⟩
 yld F H i x H' w h hi y:=by
  obtain⟨b,vs,eb,q,r⟩:=(gK h).t e;cases eb;obtain⟨rfl,y⟩:=y;obtain⟨t,et⟩:=iF hi;obtain⟨v,ev,rv⟩:=r.get et;have:=y vs q;rw[ev] at this;cases this;exact⟨t,et,.refl w,rv⟩
theorem HL(lo:Int)(n:Nat):ItOk K J (Itr lo n) ((List.range n).map λ k=>.int (lo+(k:Nat))) ts xs where
 go F H i w h hi:=by show i<n;simpa using hi
 stop F H w h:=by show n<=_;simp
 yld F H i x H' w h hi y:=by
  obtain⟨rfl,rfl⟩:=y;have hi':i<n:=by simpa using hi
  exact⟨.int (lo+(i:Nat)),by rw[aL,fX hi'];rfl,.refl w,ca⟩
theorem HM(lo st:Int)(n:Nat):ItOk K J (Its lo st n) ((List.range n).map λ k=>.int (lo+(k:Nat)*st)) ts xs where
 go F H i w h hi:=by show i<n;simpa using hi
 stop F H w h:=by show n<=_;simp
 yld F H i x H' w h hi y:=by
  obtain⟨rfl,rfl⟩:=y;have hi':i<n:=by simpa using hi
  exact⟨.int (lo+(i:Nat)*st),by rw[aL,fX hi'];rfl,.refl w,ca⟩
def HN{α:Type}{l:List α}{i:Nat}(h:i<l.length):l.reverse[i]?=l[l.length-1-i]?:=ji h
theorem HP{t:TV}{l:List TV}{n:Nat}(e:t.items=some (true,l))(hn:n=l.length):ItOk K J (oB K a n) l.reverse [t] [.ref a] where
 go F H i w h hi:=by
  obtain⟨b,vs,eb,q,r⟩:=(gK h).t e;cases eb;exact⟨vs,q,by rw[<- r.length,hn],by rw[gM] at hi;lia⟩
 stop F H w h:=by
  obtain⟨b,vs,eb,q,r⟩:=(gK h).t e;cases eb;exact⟨vs,q,by rw[<- r.length,hn],by rw[gM,hn]⟩
 yld F H i x H' w h hi y:=by
  obtain⟨b,vs,eb,q,r⟩:=(gK h).t e;cases eb;obtain⟨rfl,y⟩:=y;rw[gM] at hi;obtain⟨t,et⟩:=iF (l:=l) (i:=l.length-1-i) fu;obtain⟨v,ev,rv⟩:=r.get et;have:=y vs q;rw[hn,ev] at this;cases this;exact⟨t,by rw[HN hi];exact et,.refl w,rv⟩
theorem Vw.b{t:TV}{b:Bool}{l:List TV}(h:Vw K F H t x)(e:t.items=some (b,l)):∃a vs,x=.ref a/\SqB K b H a vs/\RpL K F H l vs:=by
 cases b
 ·exact h.l e
 ·exact h.t e
theorem wW{α β:Type}{R:α->β->Prop}{a:α}{b:β}:∀ {l:List α}{m:List β}{i:Nat},Paired R l m->l[i]?=some a->m[i]?=some b->R a b
 |_,_,0,.cons r _,e,e'=>by cases e;cases e';exact r
 |_,_,i+1,.cons _ h,e,e'=>wW (i:=i) h (by simpa using e) (by simpa using e')
theorem wY:∀ {ts:List TV}{vs:List V},ts.length=vs.length->(∀(d:Nat) t v,ts[d]?=some t->vs[d]?=some v->Rp K F H t v)->RpL K F H ts vs
 |[],[],_,_=>rfl
 |_::_,_::_,l,h=>⟨_,_,rfl,h 0 _ _ rfl rfl,wY (by simpa using l) λ d t v a b=>h (d+1) t v (by simpa using a) (by simpa using b)⟩
theorem HQ(hJ:JS J){S:List (Bool×Addr)}{ts rows:List TV}{L:Nat->List TV}(ht:∀(d:Nat) (s:Bool×Addr),S[d]?=some s->∃t,ts[d]?=some t/\t.items=some (s.1,L d))
  (hs:∃e,e<S.length/\(L e).length<=rows.length/\∀d,d<e->rows.length<(L d).length) (hy:∀i,i<rows.length->∃tl,rows[i]?=some (.tup tl)/\tl.length=S.length/\∀d,d<S.length->i<(L d).length/\tl[d]?=(L d)[i]?) :
  ItOk K J (Itn K S) rows ts (S.map λ s=>V.ref s.2):=by
 have V:∀ {F:Fz}{H:Hp},Paired (Vw K F H) ts (S.map λ s=>V.ref s.2)->∀(d:Nat) (s:Bool×Addr),S[d]?=some s->∃vs,SqB K s.1 H s.2 vs/\RpL K F H (L d) vs:=λ {F H} h d s q=>by
  obtain⟨t,e,it⟩:=ht d s q;obtain⟨a,vs,ea,q,r⟩:=(wW h e (b:=.ref s.2) (by rw[aL,q];rfl)).b it;cases ea;exact⟨vs,q,r⟩
 refine⟨λ F H i w h hi d s q=>?_,λ F H w h=>?_,λ F H i x H' w h hi y=>?_⟩
 ·obtain⟨vs,q1,r⟩:=V h d s q;obtain⟨tl,_,_,z⟩:=hy i hi;exact⟨vs,q1,r.length ▸ (z d (eZ q)).1⟩
 ·obtain⟨e,le,l1,l2⟩:=hs;refine⟨e,le,λ d s q=>?_⟩;obtain⟨vs,q1,r⟩:=V h d s q;exact⟨vs,q1,λ z=>r.length ▸ l2 d z,λ z=>r.length ▸ z ▸ l1⟩
 ·obtain⟨T,vs,rfl,hT,rfl,lv,y⟩:=y;obtain⟨tl,er,lt,z⟩:=hy i hi;have g:Grow J F H F (upd H T (.tup vs)):=.new hJ w _ hT;refine⟨_,er,g,T,vs,ca,.of bP,wY (lt.trans lv.symm) λ d t v a b=>?_⟩;have hd:d<S.length:=lt ▸ eZ a;obtain⟨ws,q1,r⟩:=V h d _ (az hd);rw[(z d hd).2] at a;obtain⟨v',ev,rv⟩:=r.get a;rw[y d _ ws (az hd) q1,ev] at b;cases b;exact rv.ke g.ke
def HR(hJ:JS J){t u:TV}{l m:List TV}{a b:Addr}{c d:Bool}(e:t.items=some (c,l))(e':u.items=some (d,m)):ItOk K J (Itn K [(c,a),(d,b)]) (List.zipWith (λ x y=>.tup [x,y]) l m) [t,u] [.ref a,.ref b]:=by
 refine HQ hJ (L:=λ k=>if k=0 then l else m) (λ k s q=>?_) ?_ λ i hi=>?_
 ·match k,q with
  |0,rfl=>exact⟨t,rfl,e⟩
  |1,rfl=>exact⟨u,rfl,e'⟩
 ·rw[mK]
  rcases s1r m.length l.length with q|q
  ·exact⟨1,Nat.le.refl,by simp;lia,λ k hk=>by rw[if_pos fu];lia⟩
  ·exact⟨0,mG _,by simp;lia,λ k hk=>absurd hk (kF _)⟩
 ·rw[mK] at hi;have l1:i<l.length:=fu;have l2:i<m.length:=fu;refine⟨_,by rw[sP,az l1,az l2],ca,λ k hk=>?_⟩
  rcases(show k=0\/k=1 by simp at hk;lia) with rfl|rfl<;>simp[l1,l2]
end
noncomputable def gl(nm:List (Str×NameKind))(x:Str):Bool:=decide (nm.lookup x=some .globalImplicit)
noncomputable def vs(nm:List (Str×NameKind))(x:Str):Bool:=decide (nm.lookup x=some .local) || decide (nm.lookup x=some .cell) || decide (nm.lookup x=some .free)
noncomputable def cf(nm:List (Str×NameKind))(x:Str):Bool:=decide (nm.lookup x=some .cell) || decide (nm.lookup x=some .free)
noncomputable def okN(x:Str):Bool:=!decide (x=("__debug__" : Str)) && !decide (x=("__classdict__" : Str)) && !decide (x=("__name__" : Str))
noncomputable def ckC:TV->Const->Bool
 |.int i,.int j=>decide (i=j)
 |.str x,.str y=>decide (x=y)
 |.bl x,.bool y=>decide (x=y)
 |.non,.none=>true
 |_,_=>false
def wZ:Cd->Bool
 |.nil=>true|_=>false
def kR:Cd->Bool
 |.c .non=>true|_=>false
def aF:Expr->Bool
 |.Starred ..=>false|_=>true
def dz:Expr->Bool
 |.Set ..=>false|_=>true
noncomputable def ju:Expr->Bool
 |.Name ..=>true|.Constant (.int _) _ _=>true|.BinOp ..=>true|.Subscript ..=>true|.Call ..=>true|.UnaryOp ..=>true|_=>false
noncomputable def xa:BI->Bool
 |.isI=>true|.isB=>true|.isT=>true|.isL=>true|.isS=>true|_=>false
noncomputable def biN:BI->Option Str
 |.len=>some "len" |.tuple=>some "tuple" |.list=>some "list" |.sum=>some "sum" |.max=>some "max" |.min=>some "min" |.abs=>some "abs" |.int=>some "int"
 |.sorted=>some "sorted" |.any=>some "any" |_=>none
noncomputable def bq(e:Expr)(k:Str->Pos->Bool):Bool:=match e with|.Name x p=>k x p|_=>false
@[elab_as_elim] theorem bg{motive:Expr->Prop}{e:Expr}{k:Str->Pos->Bool}(h:bq e k=true)(f:∀x p,k x p=true->motive (.Name x p)):motive e:=by cases e<;>first|exact f _ _ h|exact Bool.noConfusion h
def HS(h:bq e k=true):∃x p,e=.Name x p/\k x p=true:=by cases e<;>first|exact⟨_,_,rfl,h⟩|exact Bool.noConfusion h
noncomputable def jv(e:Expr)(k:Const->Nat->Pos->Bool):Bool:=match e with|.Constant x p q=>k x p q|_=>false
@[elab_as_elim] theorem gN{motive:Expr->Prop}{e:Expr}{k:Const->Nat->Pos->Bool}(h:jv e k=true)(f:∀x p q,k x p q=true->motive (.Constant x p q)):motive e:=by cases e<;>first|exact f _ _ _ h|exact Bool.noConfusion h
noncomputable def xc(e:Expr)(k:Expr->Operator->Expr->Pos->Bool):Bool:=match e with|.BinOp x p q r=>k x p q r|_=>false
@[elab_as_elim] theorem HU{motive:Expr->Prop}{e:Expr}{k:Expr->Operator->Expr->Pos->Bool}(h:xc e k=true)(f:∀x p q r,k x p q r=true->motive (.BinOp x p q r)):motive e:=by cases e<;>first|exact f _ _ _ _ h|exact Bool.noConfusion h
noncomputable def cUn(e:Expr)(k:UnaryOp->Expr->Pos->Bool):Bool:=match e with|.UnaryOp x p q=>k x p q|_=>false
@[elab_as_elim] theorem xf{motive:Expr->Prop}{e:Expr}{k:UnaryOp->Expr->Pos->Bool}(h:cUn e k=true)(f:∀x p q,k x p q=true->motive (.UnaryOp x p q)):motive e:=by cases e<;>first|exact f _ _ _ h|exact Bool.noConfusion h
noncomputable def sQ(e:Expr)(k:Expr->List CmpOp->List Expr->Pos->Bool):Bool:=match e with|.Compare x p q r=>k x p q r|_=>false
@[elab_as_elim] theorem xg{motive:Expr->Prop}{e:Expr}{k:Expr->List CmpOp->List Expr->Pos->Bool}(h:sQ e k=true)(f:∀x p q r,k x p q r=true->motive (.Compare x p q r)):motive e:=by cases e<;>first|exact f _ _ _ _ h|exact Bool.noConfusion h
noncomputable def cBo(e:Expr)(k:BoolOp->List Expr->Pos->Bool):Bool:=match e with|.BoolOp x p q=>k x p q|_=>false
@[elab_as_elim] theorem xh{motive:Expr->Prop}{e:Expr}{k:BoolOp->List Expr->Pos->Bool}(h:cBo e k=true)(f:∀x p q,k x p q=true->motive (.BoolOp x p q)):motive e:=by cases e<;>first|exact f _ _ _ h|exact Bool.noConfusion h
def xi(h:cBo e k=true):∃x p q,e=.BoolOp x p q/\k x p q=true:=by cases e<;>first|exact⟨_,_,_,rfl,h⟩|exact Bool.noConfusion h
noncomputable def cIf(e:Expr)(k:Expr->Expr->Expr->Pos->Bool):Bool:=match e with|.IfExp x p q r=>k x p q r|_=>false
@[elab_as_elim] theorem HV{motive:Expr->Prop}{e:Expr}{k:Expr->Expr->Expr->Pos->Bool}(h:cIf e k=true)(f:∀x p q r,k x p q r=true->motive (.IfExp x p q r)):motive e:=by cases e<;>first|exact f _ _ _ _ h|exact Bool.noConfusion h
noncomputable def kU(e:Expr)(k:List Expr->Nat->Pos->Bool):Bool:=match e with|.Tuple x p q=>k x p q|_=>false
@[elab_as_elim] theorem kW{motive:Expr->Prop}{e:Expr}{k:List Expr->Nat->Pos->Bool}(h:kU e k=true)(f:∀x p q,k x p q=true->motive (.Tuple x p q)):motive e:=by cases e<;>first|exact f _ _ _ h|exact Bool.noConfusion h
noncomputable def xj(e:Expr)(k:List Expr->Pos->Bool):Bool:=match e with|.List x p=>k x p|_=>false
@[elab_as_elim] theorem HW{motive:Expr->Prop}{e:Expr}{k:List Expr->Pos->Bool}(h:xj e k=true)(f:∀x p,k x p=true->motive (.List x p)):motive e:=by cases e<;>first|exact f _ _ h|exact Bool.noConfusion h
noncomputable def mL(e:Expr)(k:Expr->Expr->Pos->Bool):Bool:=match e with|.Subscript x p q=>k x p q|_=>false
@[elab_as_elim] theorem pf{motive:Expr->Prop}{e:Expr}{k:Expr->Expr->Pos->Bool}(h:mL e k=true)(f:∀x p q,k x p q=true->motive (.Subscript x p q)):motive e:=by cases e<;>first|exact f _ _ _ h|exact Bool.noConfusion h
noncomputable def xk(e:Expr)(k:Option Expr->Option Expr->Option Expr->Pos->Bool):Bool:=match e with|.Slice x p q r=>k x p q r|_=>false
@[elab_as_elim] theorem HX{motive:Expr->Prop}{e:Expr}{k:Option Expr->Option Expr->Option Expr->Pos->Bool}(h:xk e k=true)(f:∀x p q r,k x p q r=true->motive (.Slice x p q r)):motive e:=by cases e<;>first|exact f _ _ _ _ h|exact Bool.noConfusion h
noncomputable def cE(e:Expr)(k:Expr->List Expr->List Keyword->Pos->Bool):Bool:=match e with|.Call x p q r=>k x p q r|_=>false
@[elab_as_elim] theorem cF{motive:Expr->Prop}{e:Expr}{k:Expr->List Expr->List Keyword->Pos->Bool}(h:cE e k=true)(f:∀x p q r,k x p q r=true->motive (.Call x p q r)):motive e:=by cases e<;>first|exact f _ _ _ _ h|exact Bool.noConfusion h
noncomputable def sU(e:Expr)(k:Expr->Str->Pos->Bool):Bool:=match e with|.Attribute x p q=>k x p q|_=>false
@[elab_as_elim] theorem xn{motive:Expr->Prop}{e:Expr}{k:Expr->Str->Pos->Bool}(h:sU e k=true)(f:∀x p q,k x p q=true->motive (.Attribute x p q)):motive e:=by cases e<;>first|exact f _ _ _ h|exact Bool.noConfusion h
noncomputable def cLC(e:Expr)(k:Expr->List Comprehension->Scope->Pos->Bool):Bool:=match e with|.ListComp x p q r=>k x p q r|_=>false
def ph(h:cLC e k=true):∃x p q r,e=.ListComp x p q r/\k x p q r=true:=by cases e<;>first|exact⟨_,_,_,_,rfl,h⟩|exact Bool.noConfusion h
noncomputable def c1{α:Type}(l:List α)(k:α->Bool):Bool:=match l with|[x]=>k x|_=>false
noncomputable def c2{α:Type}(l:List α)(k:α->α->Bool):Bool:=match l with|[x,y]=>k x y|_=>false
noncomputable def c3{α:Type}(l:List α)(k:α->α->α->Bool):Bool:=match l with|[x,y,z]=>k x y z|_=>false
noncomputable def cC{α:Type}(l:List α)(k:α->List α->Bool):Bool:=match l with|x::r=>k x r|_=>false
section
variable {α:Type}{l:List α}{a b c d e f g h i:Bool}
@[elab_as_elim] theorem cV{motive:List α->Prop}{k:α->Bool}(h:c1 l k=true)(f:∀x,k x=true->motive ([x])):motive l:=by rcases l with _|⟨x,_|⟨_,_⟩⟩<;>first|exact f _ h|exact Bool.noConfusion h
def jw{k:α->Bool}(h:c1 l k=true):∃x,l=[x]/\k x=true:=by rcases l with _|⟨x,_|⟨_,_⟩⟩<;>first|exact⟨_,rfl,h⟩|exact Bool.noConfusion h
@[elab_as_elim] theorem jx{motive:List α->Prop}{k:α->α->Bool}(h:c2 l k=true)(f:∀x y,k x y=true->motive ([x,y])):motive l:=by rcases l with _|⟨x,_|⟨y,_|⟨_,_⟩⟩⟩<;>first|exact f _ _ h|exact Bool.noConfusion h
@[elab_as_elim] theorem HY{motive:List α->Prop}{k:α->α->α->Bool}(h:c3 l k=true)(f:∀x y z,k x y z=true->motive ([x,y,z])):motive l:=by rcases l with _|⟨x,_|⟨y,_|⟨z,_|⟨_,_⟩⟩⟩⟩<;>first|exact f _ _ _ h|exact Bool.noConfusion h
@[elab_as_elim] theorem fq{motive:List α->Prop}{k:α->List α->Bool}(h:cC l k=true)(f:∀x r,k x r=true->motive (x::r)):motive l:=by rcases l with _|⟨x,r⟩<;>first|exact f _ _ h|exact Bool.noConfusion h
@[elab_as_elim] theorem bM{motive:List α->Prop}(h:l.isEmpty=true)(f:motive []):motive l:=by cases l<;>first|exact f|exact Bool.noConfusion h
def an{a b:Bool}(h:(a&&b)=true):a=true/\b=true:=fD.mp h
def a3(z:(a&&b&&c)=true):a=true/\b=true/\c=true:=let ⟨x,y⟩:=an z;⟨(an x).1,(an x).2,y⟩
def a4(z:(a&&b&&c&&d)=true):a=true/\b=true/\c=true/\d=true:=let ⟨x,y⟩:=an z;let ⟨p,q,r⟩:=a3 x;⟨p,q,r,y⟩
def a5(z:(a&&b&&c&&d&&e)=true):a=true/\b=true/\c=true/\d=true/\e=true:=let ⟨x,y⟩:=an z;let ⟨p,q,r,s⟩:=a4 x;⟨p,q,r,s,y⟩
def a6(z:(a&&b&&c&&d&&e&&f)=true):a=true/\b=true/\c=true/\d=true/\e=true/\f=true:=let ⟨x,y⟩:=an z;let ⟨p,q,r,s,t⟩:=a5 x;⟨p,q,r,s,t,y⟩
def a7(z:(a&&b&&c&&d&&e&&f&&g)=true):a=true/\b=true/\c=true/\d=true/\e=true/\f=true/\g=true:=let ⟨x,y⟩:=an z;let ⟨p,q,r,s,t,u⟩:=a6 x;⟨p,q,r,s,t,u,y⟩
def a8(z:(a&&b&&c&&d&&e&&f&&g&&h)=true):a=true/\b=true/\c=true/\d=true/\e=true/\f=true/\g=true/\h=true:=let ⟨x,y⟩:=an z;let ⟨p,q,r,s,t,u,v⟩:=a7 x;⟨p,q,r,s,t,u,v,y⟩
def a9(z:(a&&b&&c&&d&&e&&f&&g&&h&&i)=true):a=true/\b=true/\c=true/\d=true/\e=true/\f=true/\g=true/\h=true/\i=true:=let ⟨x,y⟩:=an z;let ⟨p,q,r,s,t,u,v,w⟩:=a8 x;⟨p,q,r,s,t,u,v,w,y⟩
end
noncomputable def ckT(cells:Bool)(N:List Str)(nm:List (Str×NameKind))(is:List Nat)(tg:Expr):Bool :=
 let one (i:Nat) (e:Expr):Bool:=bq e λ x _=>decide (N[i]?=some x)&&(decide (nm.lookup x=some .local) || (cells&&decide (nm.lookup x=some .cell)))
 match is with
 |[i]=>one i tg
 |[i,j]=>kU tg λ es _ _=>c2 es λ a b=>one i a&&one j b
 |[i,j,k]=>kU tg λ es _ _=>c3 es λ a b c=>one i a&&one j b&&one k c
 |_=>false
noncomputable def tsE:Expr->Bool
 |.BoolOp ..=>false|.UnaryOp .Not ..=>false|.Compare ..=>false|.IfExp ..=>false|.NamedExpr ..=>false|.Constant ..=>false|_=>true
noncomputable def tB':Cd->Expr->Bool
 |.and ..,_=>true|.or ..,_=>true|.not ..,_=>true|.cmp ..,_=>true|.cm2 ..,_=>true
 |_,e=>tsE e
def kX:Expr->Bool
 |.Tuple ..=>true|_=>false
noncomputable def ikN:IK->Option (Str×Nat)
 |.rng=>some ("range",0)|.rng3=>some ("range",2)|.zip _ _=>some ("zip",1)|.rev true=>some ("reversed",0)|_=>none
noncomputable def ikT:IK->Bool
 |.zip _ _=>true|.zip3=>true|.enum _=>true|_=>false
noncomputable def bI(nm names:List (Str×NameKind)):List (Str×NameKind):=names.map λ(x,k)=>if (k == .free&&nm.lookup x == some .cell) then (x,.cell) else (x,k)
noncomputable def ckS(N:List Str)(nm:List (Str×NameKind))(sc:Scope)(own fv:List Str)(js:List Nat):Bool :=
 decide (sc.kind=.function)&&sc.names.all (λ y=>!decide (y.2=.cell))&&sc.names.all (λ y=>!decide (y.2=.local) || decide (sc.names.lookup y.1=some .local))&&sc.names.all (λ y=>!decide (y.2=.free) || cf nm y.1)
  && decide (js.length=fv.length)&&(fv.zip js).all (λ p=>decide (N[p.2]?=some p.1)&&cf nm p.1&&cf (bI nm sc.names) p.1)&&decide (own++fv).Nodup
section
variable (fs gs:List Str)
mutual
def ck:Cd->List Str->List (Str×NameKind)->Expr->Bool
 |.v i,N,nm,e=>bq e λ x _=>decide (N[i]?=some x)&&vs nm x&&okN x
 |.c t,_,_,e=>jv e λ k _ _=>ckC t k
 |.g k,_,nm,e=>bq e λ x _=>decide (gs[k]?=some x)&&gl nm x&&okN x
 |.bin o a b,N,nm,e=>xc e λ l op r _=>decide (op=o)&&ck a N nm l&&ck b N nm r
 |.neg a,N,nm,e=>cUn e λ op x _=>decide (op=.USub)&&ck a N nm x
 |.not a,N,nm,e=>cUn e λ op x _=>decide (op=.Not)&&tB' a x&&ck a N nm x
 |.cmp o a b,N,nm,e=>sQ e λ l os rs _=>c1 os λ op=>c1 rs λ r=>decide (op=o)&&ck a N nm l&&ck b N nm r&&dz r
 |.cm2 o o' a b c,N,nm,e=>sQ e λ l os rs _=>c2 os λ op op'=>c2 rs λ r w=>decide (op=o)&&decide (op'=o')&&ck a N nm l&&ck b N nm r&&ck c N nm w&&dz w
 | .and a b,N,nm,e=>cBo e λ op es p=>decide (op=.And) && (match es with
   |[x,y]=>tB' a x&&tB' b y&&ck a N nm x&&ck b N nm y
   |x::y::z::r=>tB' a x&&ck a N nm x&&ck b N nm (.BoolOp .And (y::z::r) p)
   |_=>false)
 | .or a b,N,nm,e=>cBo e λ op es p=>decide (op=.Or) && (match es with
   |[x,y]=>tB' a x&&tB' b y&&ck a N nm x&&ck b N nm y
   |x::y::z::r=>tB' a x&&ck a N nm x&&ck b N nm (.BoolOp .Or (y::z::r) p)
   |_=>false)
 |.ite c a b,N,nm,e=>cIf e λ x y z _=>tB' c x&&ck c N nm x&&ck a N nm y&&ck b N nm z
 |.tup l,N,nm,e=>kU e λ es _ _=>ckL l N nm es
 |.lst l,N,nm,e=>xj e λ es _=>ckL l N nm es
 |.ix a b,N,nm,e=>mL e λ x y _=>ju y&&ck a N nm x&&ck b N nm y
 |.sl a lo hi,N,nm,e=>mL e λ x y _=>xk y λ l h s _=>s.isNone&&ck a N nm x&&(match l with|none=>kR lo|some l=>ck lo N nm l && !kR lo)&&(match h with|none=>kR hi|some h=>ck hi N nm h && !kR hi)
 |.call f l,N,nm,e=>cE e λ g as w _=>bq g λ x _=>cC as λ a es=>w.isEmpty&&decide (fs[f]?=some x)&&gl nm x&&okN x&&ckL l N nm (a::es)
 |.bi f l,N,nm,e=>cE e λ g as w _=>bq g λ x _=>cC as λ a es=>w.isEmpty&&decide (biN f=some x)&&gl nm x&&ckL l N nm (a::es)
 |.isi f a,N,nm,e=>cE e λ g as w _=>bq g λ x _=>c2 as λ y u=>bq u λ z _=>w.isEmpty&&decide (x="isinstance")&&gl nm x&&xa f&&decide (z=Str.ofString (isN f))&&gl nm z&&aF y&&ck a N nm y
 |.mxl a b,N,nm,e=>cE e λ g as w _=>bq g λ x _=>c2 as λ y z=>c1 w λ k=>bq k.value λ u _=>decide (x="max")&&gl nm x&&decide (k.arg=some (Str.ofString "key"))&&decide (u="len")&&gl nm u&&aF y&&aF z&&ck a N nm y&&ck b N nm z
 |.trev _ a,N,nm,e=>cE e λ g as w _=>bq g λ x _=>c1 as λ u=>cE u λ g' as' w' _=>bq g' λ y _=>c1 as' λ z=>w.isEmpty&&w'.isEmpty&&decide (x="tuple")&&gl nm x&&decide (y="reversed")&&gl nm y&&aF z&&ck a N nm z
 |.lrng k a,N,nm,e=>cE e λ g as w _=>bq g λ x _=>c1 as λ u=>cE u λ g' as' w' _=>bq g' λ y _=>c1 as' λ z=>(w.isEmpty && !k)&&w'.isEmpty&&decide (x=if k=true then "tuple" else "list")&&gl nm x&&decide (y="range")&&gl nm y&&aF z&&ck a N nm z
 |.idx i b,N,nm,e=>cE e λ g as w cp=>sU g λ o name ap=>bq o λ x _=>c1 as λ y=>w.isEmpty&&decide (N[i]?=some x)&&vs nm x&&okN x&&decide (name="index")&&decide (ap.endLine=cp.line)&&aF y&&ck b N nm y
 |.dk k a,N,nm,e=>mL e λ o y _=>bq o λ x _=>decide (gs[k]?=some x)&&gl nm x&&okN x&&ju y&&ck a N nm y
 |.comp own fv js tg k it e,N,nm,x=>cLC x λ elt gn sc _=>c1 gn λ g=>g.ifs.isEmpty&&decide (g.is_async=0)&&ckS N nm sc own fv js&&ckI it k g.target N nm g.iter&&ckT false (own++fv) (bI nm sc.names) tg g.target&&tg.all (λ i=>decide (i<own.length))&&ck e (own++fv) (bI nm sc.names) elt
 |.compI own fv js tg k it c e,N,nm,x=>cLC x λ elt gn sc _=>c1 gn λ g=>c1 g.ifs λ cnd=>decide (g.is_async=0)&&ckS N nm sc own fv js&&ckI it k g.target N nm g.iter&&ckT false (own++fv) (bI nm sc.names) tg g.target&&tg.all (λ i=>decide (i<own.length))&&tB' c cnd&&ck c (own++fv) (bI nm sc.names) cnd&&ck e (own++fv) (bI nm sc.names) elt
 |_,_,_,_=>false
def ckL:Cd->List Str->List (Str×NameKind)->List Expr->Bool
 |.nil,_,_,es=>(match es with|[]=>true|_=>false)
 |.cons a r,N,nm,es=>(match es with|e::es=>aF e&&ck a N nm e&&ckL r N nm es|[]=>false)
 |_,_,_,_=>false
def ckI:Cd->IK->Expr->List Str->List (Str×NameKind)->Expr->Bool
 | .cons a r,k,tg,N,nm,it=>(match k with
   |.seq=>dz it&&wZ r&&ck a N nm it
   |.str=>false
   |k=>cE it λ g as w _=>bq g λ x _=>cC as λ e es=>w.isEmpty&&decide (ikN k=some (x,es.length))&&gl nm x&&(!ikT k || kX tg)&&aF e&&ck a N nm e&&ckL r N nm es)
 |_,_,_,_,_,_=>false
end
end
section
variable {K:FG}{J:Hp->Prop}
noncomputable def Sr(K:FG)(F:Fz)(H:Hp)(t:TV)(v:V):Prop:=match t with
 |.own l=>Rr K H F H (.bor l) v
 |.dct l=>∃a,v=.ref a/\H a=some (dcO l)
 |t=>Rp K F H t v
structure EV (K:FG)(J:Hp->Prop)(F:Fz)(H:Hp)(σ:St)(ρ:En):Prop where
 w:Wd J F H
 sl:∀(i:Nat) t,ρ[i]?=some (some t)->∃v,σ[i]?=some (some v)/\Sr K F H t v
def Sr.grow(g:Grow J F H F' H')(h:Sr K F H t v):Sr K F' H' t v:=by
 cases t with
 |own l=>exact Rr.grow (t:=.bor l) (H:=H') g h
 |dct l=>obtain⟨a,e,q⟩:=h;exact⟨a,e,g.sm _ _ (λ ps z=>by cases z) q⟩
 |_=>exact Rp.ke g.ke h
def EV.grow(e:EV K J F H σ ρ)(g:Grow J F H F' H'):EV K J F' H' σ ρ :=
 ⟨g.w,λ i t h=>let ⟨v,q,r⟩:=e.sl i t h;⟨v,q,r.grow g⟩⟩
noncomputable def pSp(K:FG)(J:Hp->Prop)(S:PSp):Sp:=λ vs H Q _=>∃F ts P,Wd J F H/\RpL K F H ts vs/\S ts P/\∀t,P t->∀F' H' v,Grow J F H F' H'->Rp K F' H' t v->Q v H'
theorem iG(g:Grow J F H F1 H1):∀ {ts:List TV}{vs:List V},RrL K H F1 H1 ts vs->ts.all TV.nb=true->∃F2,Grow J F H F2 H1/\(∀a,F1 a->F2 a)/\RpL K F2 H1 (ts.map TV.fz) vs
 |[],_,h,_=>by cases h;exact⟨F1,g,λ _ f=>f,rfl⟩
 |t::ts,_,h,n=>by
  cases h with
  |cons r q=>
   rw[cw,aU] at n;obtain⟨F2,g2,u2,r2⟩:=iG g q n.2
   cases t with
   |own l=>
    obtain⟨a,vs,e,na,f,qa,ra⟩:=r;refine⟨λ b=>F2 b\/b=a,g2.frz na (by rw[qa];simp),λ b f=>.inl (u2 b f),_,_,ca,⟨a,vs,e,.inl ⟨.inr rfl,.of qa⟩,ra.ke (.up λ b f=>.inl (u2 b f))⟩,r2.ke (.up λ b f=>.inl f)⟩
   |bor l=>cases n.1
   |_=>exact⟨F2,g2,u2,_,_,rfl,Rp.ke (.up u2) r,r2⟩
mutual
theorem LF.rp:∀ {t:TV}{v:V},LF t->Rp K F H t v->Rp K F' H t v
 |.non,_,_,h=>h
 |.bl _,_,_,h=>h
 |.int _,_,_,h=>h
 |.str _,_,_,h=>h
 |.tup l,_,f,⟨a,vs,e,q,r⟩=>⟨a,vs,e,q,LF.rpl (λ x hx=>by simp only[LF] at f;exact f x hx) r⟩
 |.lst _,_,f,_=>by simp[LF] at f
 |.bor _,_,f,_=>by simp[LF] at f
 |.own _,_,f,_=>by simp[LF] at f
 |.dct _,_,f,_=>by simp[LF] at f
theorem LF.rpl:∀ {ts:List TV}{vs:List V},(∀x∈ts,LF x)->RpL K F H ts vs->RpL K F' H ts vs
 |[],_,_,h=>h
 |t::ts,_,f,⟨v,r,e,h1,h2⟩=>⟨v,r,e,LF.rp (f t pv) h1,LF.rpl (λ x hx=>f x (by simp[hx])) h2⟩
end
end
noncomputable def BN:List Str:=["len","tuple","list","sum","max","min","abs","int","str","sorted","any","all","isinstance","bool","range","zip","enumerate","reversed","set","dict"]
noncomputable def DOk(P:Program)(w:World)(K:FG)(mg:SV)(x:Str)(l:List TV):Prop:=∃d kvs,mg x=some (.ref d)/\KTab P w K d kvs/\∀y t,dlk l y=some t->∃a,kvs.lookup y=some a/\∀F H,Rp K F H t (.ref a)
structure XOk (X:Cx)(J:Hp->Prop)(FT:List PSp)(GT:List TV)(fs gs:List Str):Prop where
 calm:X.calm=true
 units:X.A.units+20<cLine
 hJ:JS J
 fns:∀(f:Nat) x S,fs[f]?=some x->FT[f]?=some S->∃k ps,Room k X.A/\Callee X.prog X.w X.K X.mg X.base CX0 k x ps (pSp X.K J S)
 glb:∀(g:Nat) x t,gs[g]?=some x->GT[g]?=some t->t.nb=true->∃v u,X.mg x=some u/\RelV v u/\∀F H,Rp X.K F H t v
 dic:∀(g:Nat) x l,gs[g]?=some x->GT[g]?=some (.bor l)->DOk X.prog X.w X.K X.mg x l
 blt:∀x∈BN,X.mg x=none
 len:fs.length=FT.length
structure XS (X:Cx)(N:List Str)(nm:List (Str×NameKind)):Prop where
 N:X.N=N
 nm:X.env.scope.names=nm
section
variable {J:Hp->Prop}{FT:List PSp}{GT:List TV}{fs gs:List Str}
noncomputable def rE(K:FG)(J:Hp->Prop)(FT:List PSp)(GT:List TV)(c:Cd):TE:=λ σ H Q=>∃F ρ,EV K J F H σ ρ/\wE FT GT c ρ λ t=>∀F' H' v,Grow J F H F' H'->Rr K H F' H' t v->Q v H'
noncomputable def rT(K:FG)(J:Hp->Prop)(FT:List PSp)(GT:List TV)(c:Cd):TT:=λ σ H Q=>∃F ρ,EV K J F H σ ρ/\wE FT GT c ρ λ t=>b1 t λ b=>∀F' H',Grow J F H F' H'->Q b H'
noncomputable def rA(K:FG)(J:Hp->Prop)(FT:List PSp)(GT:List TV)(c:Cd):TA:=λ σ H Q=>∃F ρ,EV K J F H σ ρ/\wL FT GT c ρ λ ts=>∀F' H' vs,Grow J F H F' H'->RrL K H F' H' ts vs->Q vs H'
def PE.imp{t t':TE}(h:PE X e t)(i:∀σ H Q,t' σ H Q->t σ H Q):PE X e t':=λ pins s σ H Q I q=>h pins s σ H Q I (i σ H Q q)
def PT.imp{t t':TT}(h:PT X e t)(i:∀σ H Q,t' σ H Q->t σ H Q):PT X e t':=λ pins s σ H Q I q=>h pins s σ H Q I (i σ H Q q)
def PA.imp{t t':TA}(h:PA X e t)(i:∀σ H Q,t' σ H Q->t σ H Q):PA X e t':=λ pos pins s σ H Q I q=>h pos pins s σ H Q I (i σ H Q q)
def aP{es:List Expr}(h:aF e=true):starEach (e::es) env=(false,eval e env)::starEach es env:=by cases e<;>first|rfl|cases h
theorem sV:∀ {es:List Expr}{env:Env},es.all aF=true->(starEach es env).any (·.1)=false
 |[],_,_=>rfl
 |e::es,env,h=>by
  rw[cw,aU] at h;rw[aP h.1,lW,sV h.2];rfl
def fY{es:List Expr}(h:es.all aF=true):(backTo pos (starEach es env)).any (·.1)=false:=by
 unfold backTo;rw[List.any_map];exact sV h
def glX(xs:XS X N nm)(h:gl nm x=true):Gl X x:=by
 show X.env.scope.names.lookup x=_;rw[xs.nm];exact au h
def kY(xs:XS X N nm)(h:vs nm x=true):Vis X.env.scope x:=by
 unfold vs at h;rw[mM,mM] at h;unfold Vis;rw[xs.nm]
 rcases h with (h|h)|h
 ·exact .inl (au h)
 ·exact .inr (.inl (au h))
 ·exact .inr (.inr (au h))
def db(h:okN x=true):(x == ("__debug__" : Str))=false/\(x == ("__classdict__" : Str))=false/\x ≠ "__name__" := by
 simp only[okN,aU,rK,decide_eq_false_iff_not] at h;exact⟨by simpa using h.1.1,by simpa using h.1.2,h.2⟩
end
theorem sW{env:Env}:∀(l:List (Str×NameKind)) (cs:LA),(∀x,(x,NameKind.free)∈l->∃c,env.cells.lookup x=some c) ->
  ∃cl,(forIn l cs (λ(x:Str × NameKind) (r:LA)=>(match x with
   |(name,kind)=>if (kind == NameKind.free)=true then (do let y <- cellOf env name;pure (ForInStep.yield ((name,y)::r))) else pure (ForInStep.yield r):Sem (ForInStep (LA)))):Sem (LA))=pure cl /\
   (∀x c,cl.lookup x=some c->cs.lookup x=some c\/env.cells.lookup x=some c)/\(∀x,(x,NameKind.free)∈l\/(∃c,cs.lookup x=some c)->∃c,cl.lookup x=some c)
 | [],cs,_=>⟨cs,rfl,λ _ _ h=>.inl h,λ x h=>by
  rcases h with h|h
  ·cases h
  ·exact h⟩
 |(n,k)::l,cs,h=>by
  by_cases hk:k=.free
  ·subst hk;obtain⟨c,hc⟩:=h n pv;obtain⟨cl,e,q1,q2⟩:=sW l ((n,c)::cs) λ x hx=>h x (by simp[hx]);refine⟨cl,?_,λ x d hx=>?_,λ x hx=>?_⟩
   ·rw[mB];have:cellOf env n=pure c:=by unfold cellOf;rw[hc]
    simp only[this,kz,dI,s1x];exact e
   ·rcases q1 x d hx with z|z
    ·rw[ef] at z;split at z
     ·rename_i en;have:x=n:=by simpa using en
      subst this;cases z;exact .inr hc
     ·exact .inl z
    ·exact .inr z
   ·refine q2 x ?_
    rcases hx with hx|⟨d,hd⟩
    ·rcases bf.mp hx with z|z
     ·cases z;exact .inr ⟨c,by simp[ef]⟩
     ·exact .inl z
    ·by_cases en:x=n
     ·subst en;exact .inr ⟨c,by simp[ef]⟩
     ·have:(x == n)=false:=by simpa using en
      exact .inr ⟨d,by rw[ef,this];exact hd⟩
  ·obtain⟨cl,e,q1,q2⟩:=sW l cs λ x hx=>h x (by simp[hx]);refine⟨cl,?_,q1,λ x hx=>q2 x ?_⟩
   ·rw[mB];have:(k == NameKind.free)=false:=by simpa using hk
    simp only[this,oK,s0f,s1x];exact e
   ·rcases hx with hx|hx
    ·rcases bf.mp hx with z|z
     ·cases z;exact absurd rfl hk
     ·exact .inl z
    ·exact .inr hx
theorem HZ{scope:Scope}{env:Env}(h:∀x,(x,NameKind.free)∈scope.names->∃c,env.cells.lookup x=some c) :
  ∃cl,closureFor scope env=pure cl/\(∀x c,cl.lookup x=some c->env.cells.lookup x=some c)/\∀x,(x,NameKind.free)∈scope.names->∃c,cl.lookup x=some c:=by
 obtain⟨cl,e,q1,q2⟩:=sW (env:=env) scope.names [] h;refine⟨cl,?_,λ x c hx=>?_,λ x hx=>q2 x (.inl hx)⟩
 ·unfold closureFor;simp only[bind_pure];exact e
 ·rcases q1 x c hx with z|z
  ·cases z
  ·exact z
section
variable {N:List Str}{nm:List (Str×NameKind)}{sc:Scope}{own fv:List Str}{js:List Nat}
def Ia{α β:Type} [BEq α] [LawfulBEq α] {l:List (α×β)}{x:α}{y:β}(h:l.lookup x=some y):(x,y)∈l:=by
 induction l with
 |nil=>cases h
 |cons p r ih=>
  obtain⟨a,b⟩:=p;rw[ef] at h;split at h
  ·rename_i e;have:x=a:=by simpa using e
   subst this;cases h;simp
  ·exact aW _ (ih h)
structure CSc (X:Cx)(N:List Str)(nm:List (Str×NameKind))(sc:Scope)(own fv:List Str)(js:List Nat)(cl:LA):Prop where
 clos:closureFor sc X.env=pure cl
 cell:∀y∈sc.names,y.2≠.cell
 kind:sc.kind=.function
 names:∀y∈sc.names,y.2=.local->sc.names.lookup y.1=some .local
 sub:∀x c,cl.lookup x=some c->X.env.cells.lookup x=some c
 has:∀x,((relabel sc X.env).names.lookup x=some .cell\/(relabel sc X.env).names.lookup x=some .free)->∃c,cl.lookup x=some c
 len:js.length=fv.length
 cap:∀(i:Nat) x j,fv[i]?=some x->js[i]?=some j->Cap X sc cl x j
 nd:(own++fv).Nodup
 rel:(relabel sc X.env).names=bI nm sc.names
def sY(h:cf nm x=true):nm.lookup x=some .cell\/nm.lookup x=some .free:=by
 unfold cf at h;rw[mM] at h;exact h.imp au au
def mO(ok:X.Ok)(xs:XS X N nm)(h:ckS N nm sc own fv js=true):∃cl,CSc X N nm sc own fv js cl:=by
 unfold ckS at h;simp only[aU] at h;obtain⟨⟨⟨⟨⟨⟨h1,h2⟩,h3⟩,h4⟩,h5⟩,h6⟩,h7⟩:=h
 have hfree:∀x,(x,NameKind.free)∈sc.names->nm.lookup x=some .cell\/nm.lookup x=some .free:=λ x hx=>by
  have:=gF.mp h4 _ hx;simp only[decide_true,Bool.not_true,s1n] at this;exact sY this
 obtain⟨cl,e,s1,s2⟩:=HZ (scope:=sc) (env:=X.env) λ x hx=>ok.has x (by
  have:=hfree x hx;rw[<- xs.nm] at this
  exact this)
 have hcell:∀y∈sc.names,y.2≠.cell:=λ y hy=>by simpa using gF.mp h2 y hy
 have hrel:(relabel sc X.env).names=bI nm sc.names:=by
  unfold relabel bI;rw[<- xs.nm];apply pj;intro y hy;obtain⟨n,k⟩:=y;have:(X.env.scope.kind == ScopeKind.function)=true:=by rw[ok.kind];rfl
  simp only[this,Bool.and_true];rfl
 refine⟨cl,e,hcell,au h1,λ y hy e=>?_,s1,λ x hx=>s2 x ?_,au h5,λ i x j e1 e2=>?_,au h7,hrel⟩
 ·have:=gF.mp h3 y hy;simpa [e] using this
 ·have:∀k,(relabel sc X.env).names.lookup x=some k->k=.cell\/k=.free->(x,NameKind.free)∈sc.names:=λ k hk hz=>by
   have m:=Ia hk;obtain⟨⟨n,k0⟩,hm,he⟩:=bD.mp m;have he:(if (k0 == NameKind.free&&X.env.scope.kind == .function&&X.env.kindOf n == some .cell)=true then (n,NameKind.cell) else (n,k0))=(x,k):=he;split at he
   ·rename_i c;cases he;simp only[aU] at c;have:k0=.free:=by simpa using c.1.1
    subst this;exact hm
   ·cases he
    rcases hz with rfl|rfl
    ·exact absurd rfl (hcell _ hm)
    ·exact hm
  rcases hx with hx|hx
  ·exact this _ hx (.inl rfl)
  ·exact this _ hx (.inr rfl)
 ·have m:(x,j)∈fv.zip js:=by
   refine aD (i:=i) ?_;rw[sZ];exact⟨e1,e2⟩
  have:=gF.mp h6 _ m;simp only[aU] at this;refine⟨by rw[xs.N];exact au this.1.1,?_,?_⟩
  ·rw[xs.nm];exact sY this.1.2
  ·rw[hrel];exact sY this.2
end
section
variable {K:FG}{J:Hp->Prop}{F:Fz}{H:Hp}{σ:St}{ρ:En}
def pk(h:Rp K F H t v):Sr K F H t v:=by cases t<;>first|exact h|exact h.elim
def EV.set{i:Nat}(e:EV K J F H σ ρ)(h:Rp K F H t v)(hi:i<σ.length):EV K J F H (σ.set i (some v)) (ρ.set i (some t)) :=
 ⟨e.w,λ j u hj=>by
  rw[dM] at hj;split at hj
  ·rename_i c;subst c;split at hj
   ·cases hj;exact⟨v,by rw[dM];simp[hi],pk h⟩
   ·cases hj
  ·rename_i c;obtain⟨w,e1,r⟩:=e.sl j u hj
   exact⟨w,by rw[dM,if_neg c];exact e1,r⟩⟩
def EV.any{i:Nat}(e:EV K J F H σ ρ)(h:∀t,ρ[i]?≠some (some t)):EV K J F H (σ.set i v) ρ :=
 ⟨e.w,λ j u hj=>by
  obtain⟨w,e1,r⟩:=e.sl j u hj;refine⟨w,?_,r⟩;rw[dM,if_neg (λ z=>by subst z;exact h u hj)]
  exact e1⟩
noncomputable def tgG(K:FG):List Nat->TG
 |[i]=>dH i
 |[i,j]=>qN K 2 (jR (dH i) (jR (dH j) qM))
 |[i,j,k]=>qN K 3 (jR (dH i) (jR (dH j) (jR (dH k) qM)))
 |_=>λ _ _ _ _=>False
theorem pq{Q:St->Hp->Prop}(h:stE ρ is t P)(e:EV K J F H σ ρ)(rt:Rp K F H t v)(hl:∀i∈is,i<σ.length)
  (fin:∀σ' ρ',P ρ'->EV K J F H σ' ρ'->σ'.length=σ.length->(∀ρ0,EV K J F H σ ρ0->(∀i∈is,∀u,ρ0[i]?≠some (some u))->EV K J F H σ' ρ0)->Q σ' H):tgG K is v σ H Q:=by
 match is,h with
 |[i],h=>exact fin _ _ h (e.set rt (hl i pv)) pv λ ρ0 e0 n=>e0.any (n i pv)
 |[i,j],h=>
  cases t with
  |tup l=>
   match l,h with
   |[x,y],h=>
    obtain⟨a,ws,rfl,q,v1,r1,rfl,h1,v2,r2,rfl,h2,rfl⟩:=rt;exact⟨a,_,ca,q,ca,v1,_,ca,v2,_,ca,ca,fin _ _ h ((e.set h1 (hl i pv)).set h2 (by simpa using hl j pv)) pv λ ρ0 e0 n=>(e0.any (n i pv)).any (n j pv)⟩
   |[],h=>exact h.elim
   |[_],h=>exact h.elim
   |_::_::_::_,h=>exact h.elim
  |_=>exact h.elim
 |[i,j,k],h=>
  cases t with
  |tup l=>
   match l,h with
   |[x,y,z],h=>
    obtain⟨a,ws,rfl,q,v1,r1,rfl,h1,v2,r2,rfl,h2,v3,r3,rfl,h3,rfl⟩:=rt;exact⟨a,_,ca,q,ca,v1,_,ca,v2,_,ca,v3,_,ca,ca,fin _ _ h (((e.set h1 (hl i pv)).set h2 (by simpa using hl j pv)).set h3 (by simpa using hl k pv)) pv λ ρ0 e0 n=>((e0.any (n i pv)).any (n j pv)).any (n k pv)⟩
   |[],h=>exact h.elim
   |[_],h=>exact h.elim
   |[_,_],h=>exact h.elim
   |_::_::_::_::_,h=>exact h.elim
  |_=>exact h.elim
 |[],h=>exact h.elim
 |_::_::_::_::_,h=>exact h.elim
end
section
variable {N:List Str}{nm:List (Str×NameKind)}
def jy{cells:Bool}(hN:X.N.Nodup)(hc:X.calm=true)(xs:XS X N nm)(hf:cells=true->∀x,X.env.scope.names.lookup x=some .cell->X.fn x=true)(h:ckT cells N nm is tg=true):PG X tg (tgG X.K is)/\∀i∈is,i<N.length:=by
 have one:∀(i:Nat) (x:Str) (p:Pos),(decide (N[i]?=some x)&&(decide (nm.lookup x=some .local) || (cells&&decide (nm.lookup x=some .cell))))=true->PG X (.Name x p) (dH i)/\i<N.length:=λ i x p h=>by
  rw[aU,mM,aU] at h;obtain⟨h1,h2⟩:=h;have e:=au h1;refine⟨?_,(be.mp e).1⟩
  rcases h2 with h2|⟨h2,h3⟩
  ·have k:X.env.scope.names.lookup x=some .local:=by rw[xs.nm];exact au h2
   exact uK hN (by rw[xs.N];exact e) (.inl k) (.inr k)
  ·have k:X.env.scope.names.lookup x=some .cell:=by rw[xs.nm];exact au h3
   exact uK hN (by rw[xs.N];exact e) (.inr k) (.inl (hf h2 x k))
 match is,h with
 |[i],h=>
  refine bg h λ x p g=>?_;obtain⟨a,b⟩:=one _ _ p g;exact⟨a,λ i hi=>by rw[bY.mp hi];exact b⟩
 |[i,j],h=>
  refine kW h λ es _ _ g=>?_;refine jx g λ e1 e2 g=>?_;refine bg (an g).1 λ x p g1=>?_;refine bg (an g).2 λ y q g2=>?_;obtain⟨a1,b1⟩:=one _ _ p g1;obtain⟨a2,b2⟩:=one _ _ q g2;refine⟨uM hc (lH a1 (lH a2 uL)),λ i hi=>?_⟩;simp only[bf,fP,fQ] at hi
  rcases hi with rfl|rfl<;>assumption
 |[i,j,k],h=>
  refine kW h λ es _ _ g=>?_;refine HY g λ e1 e2 e3 g=>?_;obtain⟨g1,g2,g3⟩:=a3 g;refine bg g1 λ x p g1=>?_;refine bg g2 λ y q g2=>?_;refine bg g3 λ z r g3=>?_;obtain⟨a1,b1⟩:=one _ _ p g1;obtain⟨a2,b2⟩:=one _ _ q g2;obtain⟨a3,b3⟩:=one _ _ r g3;refine⟨uM hc (lH a1 (lH a2 (lH a3 uL))),λ i hi=>?_⟩;simp only[bf,fP,fQ] at hi
  rcases hi with rfl|rfl|rfl<;>assumption
 |[],h=>exact Bool.noConfusion h
 |_::_::_::_::_,h=>exact Bool.noConfusion h
end
section
variable {J:Hp->Prop}{FT:List PSp}{GT:List TV}{fs gs:List Str}{N:List Str}{nm:List (Str×NameKind)}
noncomputable def rW(K:FG)(J:Hp->Prop)(FT:List PSp)(GT:List TV)(k:IK)(c:Cd):TI:=λ σ H R=>∃F ρ,EV K J F H σ ρ/\wL FT GT c ρ λ ts=>itP k ts λ its=>∀F' H' xs Jt,Grow J F H F' H'->RrL K H F' H' ts xs->ItOk K J Jt its ts xs->R Jt H'
def PI.imp{t t':TI}(h:PI X tg e t)(i:∀σ H Q,t' σ H Q->t σ H Q):PI X tg e t':=λ pins s σ H Q I q=>h pins s σ H Q I (i σ H Q q)
def tj(h:dz e=true):behindInMarks op e=false:=by cases e<;>first|rfl|cases h
def xp{o o':CmpOp}{r w:Expr}(h:dz w=true):lastMarks [o,o'] [r,w]=false:=by
 show behindInMarks o' w=false;exact tj h
def kZ(h:dz e=true):foldedSetIterable e env x=pure x:=by cases e<;>first|rfl|cases h
def xq(h:ju e=true):vi e:=by
 intro o i
 cases e<;>first|rfl|(cases h;done)
def s_v(xs:XS X N nm)(h:ck fs gs (.v i) N nm e=true):PE X e (rE X.K J FT GT (.v i)):=by
 refine bg h λ x p h0=>?_;have h':=fD.mp h0;obtain⟨h1,h2⟩:=fD.mp h'.1;obtain⟨d1,d2,_⟩:=db h'.2;refine(iW (by rw[xs.N];exact au h1) (kY xs h2) d1 d2).imp λ σ H Q q=>?_;obtain⟨F,ρ,ev,w⟩:=q;have w:rdV ρ[i]? _:=w
 rcases hs:ρ[i]? with _|_|t
 ·rw[hs] at w;exact w.elim
 ·rw[hs] at w;exact w.elim
 ·rw[hs] at w;obtain⟨v,e,r⟩:=ev.sl i t hs;unfold cR;rw[e]
  cases t with
  |bor l=>exact r.elim
  |dct l=>exact w.elim
  |_=>exact w F H v (.refl ev.w) r
def s_c(h:ck fs gs (.c t) N nm e=true):PE X e (rE X.K J FT GT (.c t)):=by
 refine gN h λ k _ _ h0=>?_;replace h:ckC t k=true:=h0
 cases t<;>cases k<;>first
  |exact Bool.noConfusion h
  |(cases au h;exact pe_int.imp λ σ H Q ⟨F,ρ,ev,w⟩=>w F H _ (.refl ev.w) rfl)
  |(cases au h;exact pe_str.imp λ σ H Q ⟨F,ρ,ev,w⟩=>w F H _ (.refl ev.w) rfl)
  |(cases au h;exact pe_bl.imp λ σ H Q ⟨F,ρ,ev,w⟩=>w F H _ (.refl ev.w) rfl)
  |exact pe_non.imp λ σ H Q ⟨F,ρ,ev,w⟩=>w F H _ (.refl ev.w) rfl
def s_g(xo:XOk X J FT GT fs gs)(xs:XS X N nm)(h:ck fs gs (.g k) N nm e=true):PE X e (rE X.K J FT GT (.g k)):=by
 refine bg h λ x p h0=>?_;have h':=fD.mp h0;obtain⟨h1,h2⟩:=fD.mp h'.1;obtain⟨d1,_,_⟩:=db h'.2
 cases et:GT[k]? with
 |none=>exact λ pins s σ H Q I ⟨F,ρ,ev,w⟩=>by have w:gtP GT[k]? _:=w;rw[et] at w;exact w.elim
 |some t=>
  cases nb:t.nb with
  |false=>
   intro pins s σ H Q I ⟨F,ρ,ev,w⟩;have w:gtP GT[k]? _:=w;rw[et] at w
   cases t<;>first|exact w.elim|exact Bool.noConfusion nb
  |true=>
   obtain⟨v,u,m,r,p⟩:=xo.glb k _ t (au h1) et nb;refine(BO (glX xs h2) m r d1).imp λ σ H Q ⟨F,ρ,ev,w⟩=>?_;have w:gtP GT[k]? _:=w;rw[et] at w
   cases t with
   |bor l=>cases nb
   |_=>exact w F H v (.refl ev.w) (Rr.of (p F H))
def Ib{k:Nat}(xo:XOk X J FT GT fs gs)(xs:XS X N nm)(h1:gs[k]?=some x)(h2:gl nm x=true)(h3:okN x=true)(h4:ju y=true)(ha:PE X y (rE X.K J FT GT a)):PE X (.Subscript (.Name x p1) y p2) (rE X.K J FT GT (.dk k a)):=by
 intro pins s σ H Q I ⟨F,ρ,ev,w⟩;obtain⟨l,et,w⟩:=wN (show dcP GT[k]? _ from w);obtain⟨d,kvs,hm,T,look⟩:=xo.dic k x l h1 et;refine Gf (glX xs h2) hm T ha (xq h4) (db h3).1 pins s σ H Q I ⟨F,ρ,ev,ao a (λ t w F1 H1 v g r=>?_) w⟩;obtain⟨z,rfl,t,el,w⟩:=wO w;cases r;obtain⟨b,eb,rp⟩:=look z t el;exact⟨z,b,ca,eb,w F1 H1 _ g (Rr.of (rp F1 H1))⟩
def Ic(xo:XOk X J FT GT fs gs)(ha:PE X l (rE X.K J FT GT a))(hb:PE X r (rE X.K J FT GT b)):PE X (.BinOp l o r p) (rE X.K J FT GT (.bin o a b)) :=
 (CH (Hu xo.hJ o) ha hb).imp λ σ H Q ⟨F,ρ,ev,w⟩=>⟨F,ρ,ev,ao a (λ x w F1 H1 v g1 r1=>⟨F1,ρ,ev.grow g1,ao b (λ y w F2 H2 v2 g2 r2=>⟨F,H,F2,x,y,g1.trans g2,r1.grow g2,r2.late g1,w⟩) w⟩) w⟩
def Ie{o:CmpOp}(xo:XOk X J FT GT fs gs)(ha:PE X l (rE X.K J FT GT a))(hb:PE X r (rE X.K J FT GT b))(hs:dz r=true):PE X (.Compare l [o] [r] p) (rE X.K J FT GT (.cmp o a b)) :=
 (Dg (kP xo.units o) ha hb (tj hs)).imp λ σ H Q ⟨F,ρ,ev,w⟩=>⟨F,ρ,ev,ao a (λ x w F1 H1 v g1 r1=>⟨F1,ρ,ev.grow g1,ao b (λ y w F2 H2 v2 g2 r2=>⟨F,H,F2,x,y,g1.trans g2,r1.grow g2,r2.late g1,gH (λ z w v r=>w F2 H2 v (g1.trans g2) r) w⟩) w⟩) w⟩
def Ig(ha:PE X l (rE X.K J FT GT a))(hb:PE X r (rE X.K J FT GT b))(hs:ju r=true):PE X (.Subscript l r p) (rE X.K J FT GT (.ix a b)) :=
 (DG Hy ha hb (xq hs)).imp λ σ H Q ⟨F,ρ,ev,w⟩=>⟨F,ρ,ev,ao a (λ x w F1 H1 v g1 r1=>⟨F1,ρ,ev.grow g1,ao b (λ y w F2 H2 v2 g2 r2=>⟨F,H,F2,x,y,g1.trans g2,r1.grow g2,r2.late g1,w⟩) w⟩) w⟩
def Ih(ha:PE X l (rE X.K J FT GT a)):PE X (.UnaryOp .USub l p) (rE X.K J FT GT (.neg a)) :=
 (CI CW ha).imp λ σ H Q ⟨F,ρ,ev,w⟩=>⟨F,ρ,ev,ao a (λ x w F1 H1 v g1 r1=>by
  obtain⟨i,rfl,w⟩:=fW w;cases r1
  exact w F1 H1 _ g1 rfl) w⟩
def Ii(ha:PE X l (rE X.K J FT GT a)):PE X (.UnaryOp .Not l p) (rE X.K J FT GT (.not a)) :=
 (Cf ha).imp λ σ H Q ⟨F,ρ,ev,w⟩=>⟨F,ρ,ev,ao a (λ x w F1 H1 v g1 r1=>by
  obtain⟨i,rfl,w⟩:=iD w;cases r1
  exact⟨i,ca,w F1 H1 _ g1 rfl⟩) w⟩
def pr{Q:VK}(g:Grow J F H F1 H1)(w:∀F' H' v,Grow J F H F' H'->Rr X.K H F' H' t v->Q v H'):∀F' H' v,Grow J F1 H1 F' H'->Rr X.K H1 F' H' t v->Q v H':=λ F' H' v g' r=>w F' H' v (g.trans g') (r.late g)
def Ij{o o':CmpOp}(xo:XOk X J FT GT fs gs)(ha:PE X l (rE X.K J FT GT a))(hb:PE X r (rE X.K J FT GT b))(hc:PE X w' (rE X.K J FT GT c))(hs:dz w'=true):PE X (.Compare l [o,o'] [r,w'] p) (rE X.K J FT GT (.cm2 o o' a b c)) :=
 (Di (kP xo.units o) (kP xo.units o') ha hb hc (xp hs)).imp λ σ H Q ⟨F,ρ,ev,w⟩=>⟨F,ρ,ev,ao a (λ x w F1 H1 v g1 r1=>⟨F1,ρ,ev.grow g1,ao b (λ y w F2 H2 v2 g2 r2=>⟨F,H,F2,x,y,g1.trans g2,r1.grow g2,r2.late g1,gH (λ z w v3 r3=>by
  obtain⟨k,ek,w2⟩:=iD w;subst ek;cases r3;refine⟨k,ca,?_⟩;split at w2
  ·rw[if_pos (by assumption)];exact⟨F2,ρ,(ev.grow g1).grow g2,ao c (λ z w F4 H4 v4 g4 r4=>⟨F,H,F4,y,z,(g1.trans g2).trans g4,(r2.late g1).grow g4,r4.late (g1.trans g2),gH (λ u w v r=>w F4 H4 v ((g1.trans g2).trans g4) r) w⟩) w2⟩
  ·rw[if_neg (by assumption)];exact w2 F2 H2 _ (g1.trans g2) rfl) w⟩) w⟩) w⟩
def xr{l r:Expr}{rest:List Expr}(ha:PE X l (rE X.K J FT GT a))(hb:PE X (.BoolOp .And (r::rest) p) (rE X.K J FT GT b)):PE X (.BoolOp .And (l::r::rest) p) (rE X.K J FT GT (.and a b)) :=
 (Cc ha hb).imp λ σ H Q ⟨F,ρ,ev,w⟩=>⟨F,ρ,ev,ao a (λ x w F1 H1 v g1 r1=>by
  obtain⟨k,ek,w2⟩:=iD w;subst ek;cases r1;show if k=true then _ else _;split at w2
  ·rw[if_pos (by assumption)];exact⟨F1,ρ,ev.grow g1,ao b (λ y w=>pr g1 w) w2⟩
  ·rw[if_neg (by assumption)];exact w2 F1 H1 _ g1 rfl) w⟩
def xt{l r:Expr}{rest:List Expr}(ha:PE X l (rE X.K J FT GT a))(hb:PE X (.BoolOp .Or (r::rest) p) (rE X.K J FT GT b)):PE X (.BoolOp .Or (l::r::rest) p) (rE X.K J FT GT (.or a b)) :=
 (Ce ha hb).imp λ σ H Q ⟨F,ρ,ev,w⟩=>⟨F,ρ,ev,ao a (λ x w F1 H1 v g1 r1=>by
  obtain⟨k,ek,w2⟩:=iD w;subst ek;cases r1;show if k=true then _ else _;split at w2
  ·rw[if_pos (by assumption)];exact w2 F1 H1 _ g1 rfl
  ·rw[if_neg (by assumption)];exact⟨F1,ρ,ev.grow g1,ao b (λ y w=>pr g1 w) w2⟩) w⟩
def Ik(hc:PT X x (rT X.K J FT GT c))(ha:PE X y (rE X.K J FT GT a))(hb:PE X z (rE X.K J FT GT b)):PE X (.IfExp x y z p) (rE X.K J FT GT (.ite c a b)) :=
 (Cg hc ha hb).imp λ σ H Q ⟨F,ρ,ev,w⟩=>⟨F,ρ,ev,ao c (λ x w=>cj (λ k w2 F1 H1 g1=>by
  split at w2
  ·rw[if_pos (by assumption)];exact⟨F1,ρ,ev.grow g1,ao a (λ y w=>pr g1 w) w2⟩
  ·rw[if_neg (by assumption)];exact⟨F1,ρ,ev.grow g1,ao b (λ y w=>pr g1 w) w2⟩) w) w⟩
def px(ha:PE X e (rE X.K J FT GT a))(hr:PA X es (rA X.K J FT GT r))(hs:aF e=true):PA X (e::es) (rA X.K J FT GT (.cons a r)) :=
 (bJ ha hr (aP hs)).imp λ σ H Q ⟨F,ρ,ev,w⟩=>⟨F,ρ,ev,ao a (λ x w F1 H1 v g1 r1=>⟨F1,ρ,ev.grow g1,bL r (λ ts w F2 H2 vs g2 r2=>w F2 H2 _ (g1.trans g2) (.cons (r1.grow g2) (Paired.mapP r2 λ _ _ z=>z.late g1))) w⟩) w⟩
def xw:PA X [] (rA X.K J FT GT .nil):=pa_nil.imp λ σ H Q ⟨F,ρ,ev,w⟩=>w F H _ (.refl ev.w) .nil
def Il(xo:XOk X J FT GT fs gs)(h:PA X es (rA X.K J FT GT l)):PE X (.Tuple es k p) (rE X.K J FT GT (.tup l)) :=
 (nY h).imp λ σ H Q ⟨F,ρ,ev,w⟩=>⟨F,ρ,ev,bL l (λ ts ⟨n,z,w⟩ F1 H1 vs g1 r1=>by
  obtain⟨F2,g2,_,r2⟩:=iG g1 r1 n
  exact⟨by rw[<- r2.length,ak];exact z,kO xo.hJ g2 r2 w⟩) w⟩
def Im(xo:XOk X J FT GT fs gs)(h:PA X es (rA X.K J FT GT l)):PE X (.List es p) (rE X.K J FT GT (.lst l)) :=
 (Dr h).imp λ σ H Q ⟨F,ρ,ev,w⟩=>⟨F,ρ,ev,bL l (λ ts ⟨n,z,w⟩ F1 H1 vs g1 r1=>by
  obtain⟨F2,g2,_,r2⟩:=iG g1 r1 n
  exact⟨by rw[<- r2.length,ak];exact z,fj xo.hJ g2 r2 w⟩) w⟩
theorem Io{a lo hi:Cd}(xo:XOk X J FT GT fs gs)(ha:PE X e (rE X.K J FT GT a))(hl:PO X l (λ σ H Q=>∃F ρ,EV X.K J F H σ ρ/\wE FT GT lo ρ λ t=>oI t λ o=>∀F' H',Grow J F H F' H'->Q o H'))(hh:PO X h (λ σ H Q=>∃F ρ,EV X.K J F H σ ρ/\wE FT GT hi ρ λ t=>oI t λ o=>∀F' H',Grow J F H F' H'->Q o H')) :
  PE X (.Subscript e (.Slice l h none p2) p) (rE X.K J FT GT (.sl a lo hi)) :=
 (DB (Hz xo.hJ) ha hl hh).imp λ σ H Q ⟨F,ρ,ev,w⟩=>⟨F,ρ,ev,ao a (λ x w F1 H1 v g1 r1=>⟨F1,ρ,ev.grow g1,ao lo (λ y w=>oX (λ a w F2 H2 g2=>⟨F2,ρ,(ev.grow g1).grow g2,ao hi (λ z w=>oX (λ b w F3 H3 g3=>⟨F,H,F3,x,(g1.trans g2).trans g3,(r1.grow g2).grow g3,w⟩) w) w⟩) w) w⟩) w⟩
end
section
variable {J:Hp->Prop}{FT:List PSp}{GT:List TV}{fs gs:List Str}{N:List Str}{nm:List (Str×NameKind)}
set_option tactic.hygienic true in
def xy{K:FG}{vs:List V}(w:Wd J F1 H1)(h:RrL K H F1 H1 ts vs):∃F2,Wd J F2 H1/\RpL K F2 H1 (ts.map TV.fz) vs:=by
 refine⟨λ b=>H1 b≠none,⟨w.j,λ a f=>f⟩,?_⟩;have up:∀a,F1 a->H1 a≠none:=w.d
 induction h with
 |nil=>rfl
 |cons r q ih=>
  refine⟨_,_,ca,?_,ih⟩;rename_i t v _ _
  cases t with
  |own l=>obtain⟨a,vs,e,_,_,qa,ra⟩:=r;exact⟨a,vs,e,(.inl ⟨(λ z=>by rw[qa] at z;cases z),.of qa⟩),ra.ke (.up up)⟩
  |bor l=>obtain⟨a,vs,e,_,qa,ra⟩:=r;exact⟨a,vs,e,(.inl ⟨(λ z=>by rw[qa] at z;cases z),.of qa⟩),ra.ke (.up up)⟩
  |_=>exact Rp.ke (.up up) r
theorem Ip{f:Nat}{a:Expr}{es:List Expr}(xo:XOk X J FT GT fs gs)(hf:fs[f]?=some x)(hg:Gl X x)(hd:(x == ("__debug__" : Str))=false)(ha:PA X (a::es) (rA X.K J FT GT l))(hs:aF a=true)(hss:es.all aF=true) :
  PE X (.Call (.Name x p) (a::es) [] pos) (rE X.K J FT GT (.call f l)):=by
 obtain⟨S,eS⟩:∃S,FT[f]?=some S:=iF (by rw[<- xo.len];exact(be.mp hf).1);obtain⟨k,ps,hr,c⟩:=xo.fns f x S hf eS;refine(vG c hr hg vy ha hd (aP hs) (fY hss)).imp λ σ H Q ⟨F,ρ,ev,w⟩=>⟨F,ρ,ev,bL l (λ ts w F1 H1 vs g1 r1=>?_) w⟩;obtain⟨P,⟨S',e',sp⟩,w⟩:=w;rw[eS] at e';cases e';rw[cu]
 cases n:ts.all TV.nb with
 |true=>
  obtain⟨F2,g2,_,r2⟩:=iG g1 r1 n;exact⟨F2,_,P,g2.w,r2,sp,λ t pt F' H' v g' r'=>(w t pt).2 F' H' v (g2.trans g') (Rr.of r')⟩
 |false=>
  obtain⟨F2,w2,r2⟩:=xy g1.w r1;refine⟨F2,_,P,w2,r2,sp,λ t pt F' H' v g' r'=>?_⟩;obtain⟨lf,w⟩:=w t pt;have gg:Grow J F1 H1 F1 H':=⟨g'.sm,g'.dm,λ _ h=>h,λ _ h=>.inl h,g'.w.j,λ b f=>g'.dm b (g1.w.d b f)⟩;exact w F1 H' v (g1.trans gg) (Rr.of ((lf n).rp r'))
theorem jz{a:Expr}{es:List Expr}{id:String}(hc:bR X (.builtin id) (rL X J (biP f)))(hg:Gl X x)(hm:X.mg x=none)(hv:bootBuiltins x=some (.builtin id))(hn:x ≠ "__name__")(hd:(x == ("__debug__" : Str))=false)(ha:PA X (a::es) (rA X.K J FT GT l))(hs:aF a=true)(hss:es.all aF=true) :
  PE X (.Call (.Name x p) (a::es) [] pos) (rE X.K J FT GT (.bi f l)) :=
 (vc hc hg hm hv ha hn hd (aP hs) (fY hss)).imp λ σ H Q ⟨F,ρ,ev,w⟩=>⟨F,ρ,ev,bL l (λ ts w F1 H1 vs g1 r1=>⟨F,H,F1,ts,g1,r1,w⟩) w⟩
theorem tm{a:Expr}{es:List Expr}{id:String}(hc:bR X (.type id) (rL X J (biP f)))(hg:Gl X x)(hm:X.mg x=none)(hv:bootBuiltins x=some (.type id))(hn:x ≠ "__name__")(hd:(x == ("__debug__" : Str))=false)(ha:PA X (a::es) (rA X.K J FT GT l))(hs:aF a=true)(hss:es.all aF=true) :
  PE X (.Call (.Name x p) (a::es) [] pos) (rE X.K J FT GT (.bi f l)) :=
 (oh hc hg hm hv ha hn hd (aP hs) (fY hss)).imp λ σ H Q ⟨F,ρ,ev,w⟩=>⟨F,ρ,ev,bL l (λ ts w F1 H1 vs g1 r1=>⟨F,H,F1,ts,g1,r1,w⟩) w⟩
theorem Iq{a:Expr}{es:List Expr}(xo:XOk X J FT GT fs gs)(hx:biN f=some x)(hg:Gl X x)(ha:PA X (a::es) (rA X.K J FT GT l))(hs:aF a=true)(hss:es.all aF=true) :
  PE X (.Call (.Name x p) (a::es) [] pos) (rE X.K J FT GT (.bi f l)):=by
 have bm:∀y,y∈BN->X.mg y=none:=xo.blt
 cases f with
 |len=>cases hx;exact jz (gJ xo.hJ xo.calm .len pv) hg (bm _ on) (by decide +kernel) on on ha hs hss
 |tuple=>cases hx;exact tm (gJ xo.hJ xo.calm .tuple pv) hg (bm _ on) (by decide +kernel) on on ha hs hss
 |list=>cases hx;exact tm (gJ xo.hJ xo.calm .list pv) hg (bm _ on) (by decide +kernel) on on ha hs hss
 |sum=>cases hx;exact jz (gJ xo.hJ xo.calm .sum pv) hg (bm _ on) (by decide +kernel) on on ha hs hss
 |max=>cases hx;exact jz (HD xo.calm) hg (bm _ on) (by decide +kernel) on on ha hs hss
 |min=>cases hx;exact jz (HE xo.calm) hg (bm _ on) (by decide +kernel) on on ha hs hss
 |abs=>cases hx;exact jz (gJ xo.hJ xo.calm .abs pv) hg (bm _ on) (by decide +kernel) on on ha hs hss
 |int=>cases hx;exact tm (gJ xo.hJ xo.calm .int pv) hg (bm _ on) (by decide +kernel) on on ha hs hss
 |sorted=>cases hx;exact jz (gJ xo.hJ xo.calm .sorted pv) hg (bm _ on) (by decide +kernel) on on ha hs hss
 |any=>cases hx;exact jz (gJ xo.hJ xo.calm .any pv) hg (bm _ on) (by decide +kernel) on on ha hs hss
 |_=>cases hx
theorem Ir{f:BI}{z:Str}{p pos pz:Pos}(xo:XOk X J FT GT fs gs)(h:f=.isI\/f=.isB\/f=.isT\/f=.isL\/f=.isS)(hz:z=Str.ofString (isN f))(hg:Gl X "isinstance")(hgz:Gl X z)(hs:aF y=true)(hy:PE X y (rE X.K J FT GT b)) :
  PE X (.Call (.Name "isinstance" p) [y,.Name z pz] [] pos) (rE X.K J FT GT (.isi f b)):=by
 have bm:∀y,y∈BN->X.mg y=none:=xo.blt
 have hb:bootBuiltins z=some (.type (isN f))/\X.mg z=none/\z ≠ "__name__" /\ (z == ("__debug__" : Str))=false:=by
  subst hz
  rcases h with rfl|rfl|rfl|rfl|rfl<;>exact⟨by decide +kernel,bm _ on,on,on⟩
 have ha:PA X [y,.Name z pz] (nX (rE X.K J FT GT b) (nX (tC (.ty (isN f))) qT)):=bJ hy (bJ (BP (v:=.ty (isN f)) hgz hb.2.1 hb.1 rfl hb.2.2.1 hb.2.2.2) pa_nil rfl) (aP hs);refine(vc (HI (J:=J) f h) hg (bm _ on) (by decide +kernel) ha on on (aP hs) rfl).imp λ σ H Q ⟨F,ρ,ev,w⟩=>⟨F,ρ,ev,ao b (λ t w F1 H1 v g1 r1=>?_) w⟩;exact⟨v,ca,F,H,F1,[t],g1,.cons r1 .nil,w⟩
theorem Iu{p pos kp p2:Pos}(xo:XOk X J FT GT fs gs)(hg:Gl X "max")(hg2:Gl X "len")(hs:aF y=true)(hs2:aF z=true)(hy:PE X y (rE X.K J FT GT a))(hz:PE X z (rE X.K J FT GT b)) :
  PE X (.Call (.Name "max" p) [y,z] [⟨some (Str.ofString "key"),.Name "len" p2,kp⟩] pos) (rE X.K J FT GT (.mxl a b)):=by
 refine(HA xo.calm hg (xo.blt _ on) hg2 (xo.blt _ on) hy hz (aP hs) (aP hs2)).imp λ σ H Q ⟨F,ρ,ev,w⟩=>⟨F,ρ,ev,ao a (λ t w F1 H1 v g1 r1=>⟨F1,ρ,ev.grow g1,ao b (λ u w F2 H2 v2 g2 r2=>?_) w⟩) w⟩;have w:biP .maxlen [t,u] λ t=>∀F' H' v,Grow J F H F' H'->Rr X.K H F' H' t v->Q v H':=w
 cases t with
 |tup l=>
  cases u with
  |tup m=>
   obtain⟨A,xs,rfl,q1,s1⟩:=r1.grow g2;obtain⟨B,ys,rfl,q2,s2⟩:=r2;refine⟨A,B,xs,ys,ca,ca,q1,q2,λ z=>?_,λ z=>?_⟩
   ·have w:∀F' H' v,Grow J F H F' H'->Rr X.K H F' H' (.tup (if l.length<m.length then m else l)) v->Q v H':=w;rw[if_neg (by rw[s1.length,s2.length];lia)] at w;exact w F2 H2 _ (g1.trans g2) ⟨A,xs,ca,q1,s1⟩
   ·have w:∀F' H' v,Grow J F H F' H'->Rr X.K H F' H' (.tup (if l.length<m.length then m else l)) v->Q v H':=w;rw[if_pos (by rw[s1.length,s2.length];lia)] at w;exact w F2 H2 _ (g1.trans g2) ⟨B,ys,ca,q2,s2⟩
  |_=>exact w.elim
 |_=>cases u<;>exact w.elim
theorem Iv{p pos p2 pos2:Pos}(xo:XOk X J FT GT fs gs)(hg:Gl X "tuple")(hg2:Gl X "reversed")(hs:aF y=true)(hy:PE X y (rE X.K J FT GT a)) :
  PE X (.Call (.Name "tuple" p) [.Call (.Name "reversed" p2) [y] [] pos2] [] pos) (rE X.K J FT GT (.trev k a)):=by
 cases k with
 |false=>
  refine(EZ xo.calm hg hg2 (xo.blt _ on) (xo.blt _ on) hy (aP hs)).imp λ σ H Q ⟨F,ρ,ev,w⟩=>⟨F,ρ,ev,ao a (λ t w F1 H1 v g1 r1=>?_) w⟩;obtain⟨l,e,w⟩:=gI (show l1 t λ l=>∀F' H' v,Grow J F H F' H'->Rr X.K H F' H' (.tup l.reverse) v->Q v H' from w);obtain⟨b,vs,rfl,r,q⟩:=r1.lq e;exact⟨b,vs,ca,q,kO xo.hJ g1 r.reverse w⟩
 |true=>
  refine(FL xo.calm hg hg2 (xo.blt _ on) (xo.blt _ on) hy (aP hs)).imp λ σ H Q ⟨F,ρ,ev,w⟩=>⟨F,ρ,ev,ao a (λ t w F1 H1 v g1 r1=>?_) w⟩;have w:k1 true t λ l=>∀F' H' v,Grow J F H F' H'->Rr X.K H F' H' (.tup l.reverse) v->Q v H':=w
  cases t with
  |tup l=>obtain⟨b,vs,rfl,q,r⟩:=r1;exact⟨b,vs,rfl,q,kO xo.hJ g1 r.reverse w⟩
  |_=>exact w.elim
theorem Iw{k:Bool}{p pos p2 pos2:Pos}(hk:(!k)=true)(xo:XOk X J FT GT fs gs)(hg:Gl X (Str.ofString (if k=true then "tuple" else "list")))(hg2:Gl X "range")(hs:aF y=true)(hy:PE X y (rE X.K J FT GT a)) :
  PE X (.Call (.Name (Str.ofString (if k=true then "tuple" else "list")) p) [.Call (.Name "range" p2) [y] [] pos2] [] pos) (rE X.K J FT GT (.lrng k a)):=by
 have hr:=oh (p:=p2) (pos:=pos2) FR hg2 (xo.blt _ on) (by decide +kernel) (bJ hy pa_nil (aP hs)) on on (aP hs) rfl;have e:∀j:Int,(upL j.toNat).map TV.int=(List.range j.toNat).map λ i=>TV.int (i:Nat):=λ j=>by unfold upL;rw[bK];rfl
 cases k with
 |false=>
  refine(oh (FS xo.calm) hg (xo.blt _ on) (by decide +kernel) (bJ hr pa_nil rfl) on on rfl rfl).imp λ σ H Q ⟨F,ρ,ev,w⟩=>⟨F,ρ,ev,ao a (λ t w F1 H1 v g1 r1=>?_) w⟩;obtain⟨j,rfl,⟨c0,c1⟩,w⟩:=fW (show i1 t λ j=>(0<=j/\j<=1000)/\∀F' H' v,Grow J F H F' H'->Rr X.K H F' H' (.own ((List.range j.toNat).map λ i=>.int (i:Nat))) v->Q v H' from w);cases r1;refine⟨j,ca,λ r hr=>?_⟩;have g2:Grow J F1 H1 F1 (upd H1 r (.rng 0 j)):=.new xo.hJ g1.w _ hr;refine⟨r,j.toNat,ca,by rw[bP];congr 2;exact(jA c0).symm,fu,λ l hl=>?_⟩;rw[<- e] at w;exact fj xo.hJ (g1.trans g2) (RpL.ofInts _) w l hl
 |true=>exact Bool.noConfusion hk
end
section
variable {J:Hp->Prop}{FT:List PSp}{GT:List TV}{fs gs:List Str}{N:List Str}{nm:List (Str×NameKind)}{tg:Expr}
def xz(hy:PE X y (rE X.K J FT GT a)):PI X tg y (rW X.K J FT GT .seq (.cons a .nil)) :=
 (Gj hy).imp λ σ H R ⟨F,ρ,ev,w⟩=>⟨F,ρ,ev,ao a (λ t w F1 H1 v g r=>by
  obtain⟨b,l,e,w⟩:=kN (show s1 t λ its=>∀F' H' xs Jt,Grow J F H F' H'->RrL X.K H F' H' [t] xs->ItOk X.K J Jt its [t] xs->R Jt H' from w);obtain⟨p,vs,rfl,_,q⟩:=r.sq e
  rcases q with ⟨rfl,q⟩|⟨rfl,q⟩
  ·exact .inr ⟨p,ca,⟨vs,q⟩,w F1 H1 _ _ g (.cons r .nil) (HK e)⟩
  ·exact .inl ⟨p,ca,⟨vs,q⟩,w F1 H1 _ _ g (.cons r .nil) (HJ e)⟩) w⟩
def Ix(n:Nat):((List.range n).map λ k=>TV.int (0+(k:Nat)))=(List.range n).map λ k=>TV.int (k:Nat):=pv
def Iy{p pos:Pos}(xo:XOk X J FT GT fs gs)(hg:Gl X "range")(hs:aF e=true)(he:PE X e (rE X.K J FT GT a)):PI X tg (.Call (.Name "range" p) [e] [] pos) (rW X.K J FT GT .rng (.cons a .nil)) :=
 (CC hg (xo.blt _ on) (bJ he pa_nil (aP hs)) (aP hs)).imp λ σ H R ⟨F,ρ,ev,w⟩=>⟨F,ρ,ev,ao a (λ t w F1 H1 v g r=>by
  obtain⟨j,rfl,c,w⟩:=fW (show i1 t λ j=>(-(2 ^ 62)<=j/\j<2 ^ 62)/\∀F' H' xs Jt,Grow J F H F' H'->RrL X.K H F' H' [t] xs->ItOk X.K J Jt ((List.range j.toNat).map λ i=>.int (i:Nat)) [t] xs->R Jt H' from w);cases r
  exact⟨j,ca,c.1,c.2,w F1 H1 _ _ g (.cons rfl .nil) (by rw[<- Ix];exact HL 0 _)⟩) w⟩
def Iz{K:FG}{t u z:TV}(h:RrL K H F1 H1 [t,u,z] xs):∃x y w,xs=[x,y,w]/\Rr K H F1 H1 t x/\Rr K H F1 H1 u y/\Rr K H F1 H1 z w:=by
 cases h with
 |cons r q=>obtain⟨y,w,rfl,r',r''⟩:=pd q;exact⟨_,y,w,rfl,r,r',r''⟩
def IA{p pos:Pos}(xo:XOk X J FT GT fs gs)(hg:Gl X "range")(hs:aF e=true)(hs2:aF e2=true)(hs3:aF e3=true)(hp:PA X [e,e2,e3] (rA X.K J FT GT l)):PI X tg (.Call (.Name "range" p) [e,e2,e3] [] pos) (rW X.K J FT GT .rng3 l) :=
 (Fj hg (xo.blt _ on) hp (by rw[aP hs,aP hs2,aP hs3];rfl) (by rw[aP hs2,aP hs3];rfl)).imp λ σ H R ⟨F,ρ,ev,w⟩=>⟨F,ρ,ev,bL l (λ ts w F1 H1 vs g r=>by
  rcases ts with _|⟨t,_|⟨u,_|⟨z,_|⟨_,ts⟩⟩⟩⟩
  ·exact w.elim
  ·exact w.elim
  ·exact w.elim
  ·obtain⟨i,j,rfl,rfl,w⟩:=dy w;obtain⟨c,rfl,cc,w⟩:=fW w;have w:=w F1 H1 vs _ g r (HM i c _);obtain⟨x,y,v,rfl,r1,r2,r3⟩:=Iz r;cases r1;cases r2;cases r3;exact⟨i,j,c,ca,cc,w⟩
  ·exact w.elim) w⟩
def py(h:k1 b t P):∃l,t.items=some (b,l)/\P l:=by
 cases b with
 |true=>cases t<;>first|exact⟨_,rfl,h⟩|exact h.elim
 |false=>exact gI h
def Rr.sb{K:FG}{b:Bool}{l:List TV}(h:Rr K H F' H' t v)(e:t.items=some (b,l)):∃a vs,v=.ref a/\SqB K b H' a vs:=by
 obtain⟨a,vs,rfl,q,_⟩:=h.vw.b e;exact⟨a,vs,ca,q⟩
def IB{p pos:Pos}(xo:XOk X J FT GT fs gs)(hg:Gl X "zip")(hs:aF e=true)(hs2:aF e2=true)(hp:PA X [e,e2] (rA X.K J FT GT l)):PI X (.Tuple es x1 pp) (.Call (.Name "zip" p) [e,e2] [] pos) (rW X.K J FT GT (.zip c d) l) :=
 (Hf Hg hg (xo.blt _ on) hp (aP hs) (by rw[aP hs2];rfl)).imp λ σ H R ⟨F,ρ,ev,w⟩=>⟨F,ρ,ev,bL l (λ ts w F1 H1 vs g r=>by
  rcases ts with _|⟨t,_|⟨u,_|⟨z,ts⟩⟩⟩
  ·exact w.elim
  ·exact w.elim
  ·obtain⟨l,e1,w⟩:=py w;obtain⟨m,e2,w⟩:=py w;obtain⟨x,y,rfl,r1,r2⟩:=pd r;obtain⟨A,vs,rfl,q⟩:=r1.sb e1;obtain⟨B,ws,rfl,q2⟩:=r2.sb e2
   exact⟨[(c,A),(d,B)],ca,ca,λ i s q'=>by
    match i,q' with
    |0,rfl=>exact⟨_,q⟩
    |1,rfl=>exact⟨_,q2⟩,w F1 H1 _ _ g r (HR xo.hJ e1 e2)⟩
  ·exact w.elim) w⟩
def IC{p pos:Pos}(xo:XOk X J FT GT fs gs)(hg:Gl X "reversed")(hs:aF e=true)(he:PE X e (rE X.K J FT GT a)):PI X tg (.Call (.Name "reversed" p) [e] [] pos) (rW X.K J FT GT (.rev true) (.cons a .nil)):=by
 exact(EO hg (xo.blt _ on) he (aP hs)).imp λ σ H R ⟨F,ρ,ev,w⟩=>⟨F,ρ,ev,ao a (λ t w F1 H1 v g r=>by
   obtain⟨l,e1,w⟩:=py (show k1 true t λ l=>∀F' H' xs Jt,Grow J F H F' H'->RrL X.K H F' H' [t] xs->ItOk X.K J Jt l.reverse [t] xs->R Jt H' from w);obtain⟨A,vs,rfl,q,rl⟩:=r.vw.t e1
   exact⟨A,vs,ca,q,w F1 H1 _ _ g (.cons r .nil) (HP e1 rl.length.symm)⟩) w⟩
noncomputable def cEn(own:List Str)(js:List Nat)(ρ:En):En:=List.replicate own.length none++js.map λ j=>(ρ[j]?).join
def EV.comp{K:FG}{own:List Str}(e:EV K J F H σ ρ):EV K J F H (cT own.length js σ) (cEn own js ρ) :=
 ⟨e.w,λ i t h=>by
  unfold cEn at h;unfold cT;by_cases hi:i<own.length
  ·rw[cZ (by simpa using hi),iY] at h;split at h<;>cases h
  ·rw[dW (by simpa using hi),dX,aL] at h;rw[dW (by simpa using hi),dX,aL]
   cases ej:js[i-own.length]? with
   |none=>rw[ej] at h;cases h
   |some j=>
    rw[ej] at h;have h:(ρ[j]?).join=some t:=bj h
    have h2:ρ[j]?=some (some t):=by
     cases q:ρ[j]? with
     |none=>rw[q] at h;cases h
     |some o=>rw[q] at h;cases o<;>cases h;rfl
    obtain⟨v,e1,r⟩:=e.sl j t h2
    exact⟨v,by rw[Option.map_some,e1];rfl,r⟩⟩
def pE{own:List Str}{i:Nat}(h:i<own.length):∀u,(cEn own js ρ)[i]?≠some (some u):=λ u z=>by
 unfold cEn at z;rw[cZ (by simpa using h),iY] at z;split at z<;>cases z
theorem pF{K:PySem.W.Frag}{own:List Str}{js tgs:List Nat}{Q:VK}{tc:TT}{te:TE}
  (hJ:JS J) (g1:Grow J F H F1 H1) (rx:RrL K H F1 H1 ts xs) (ok:ItOk K J Jt its ts xs) (ev:EV K J F H σ ρ) (lt:∀i∈tgs,i<own.length) (hn:its.length<sizeLine) (b:TV->(List TV->Prop)->Prop)
  (hm:∀t K K',(∀y,K y->K' y)->b t K->b t K') (w:cmF b its λ ys=>∀F' H' v,Grow J F H F' H'->Rr K H F' H' (.own ys) v->Q v H')
  (st:∀t P x F' H' σ',b t P->EV K J F' H' σ' (cEn own js ρ)->σ'.length=(cT own.length js σ).length->Rp K F' H' t x ->
   ∀R:List V->St->Hp->Prop,(∀ys vs σ2 F2 H2,P ys->ys.length<=1->Grow J F' H' F2 H2->RpL K F2 H2 ys vs->EV K J F2 H2 σ2 (cEn own js ρ)->σ2.length=σ'.length->R vs σ2 H2) ->
    tgG K tgs x σ' H' λ σ3 H3=>tc σ3 H3 λ q H4=>if q=true then te σ3 H4 λ v H5=>R [v] σ3 H5 else R [] σ3 H4) :
  ∃W:Nat->Nat->List V->St->Hp->Prop,(∃m,W 0 m [] (cT own.length js σ) H1)/\∀i m ys σ' H',W i m ys σ' H' ->
   (Jt.stop i H'/\∀p,H' p=none->Q (.ref p) (upd H' p (.lst ys))) \/
   (Jt.go i H'/\ys.length < sizeLine/\∃N:List V->St->Hp->Prop,(∀zs σ2 H2,N zs σ2 H2->∃m',m' < m/\W (i+1) m' zs σ2 H2) /\
    ∀x H2,Jt.yld i H' x H2->tgG K tgs x σ' H2 λ σ3 H3=>tc σ3 H3 λ q H4=>if q=true then te σ3 H4 λ v H5=>N (ys++[v]) σ3 H5 else N ys σ3 H4):=by
 refine⟨λ i m ys σ' H'=>i≤its.length/\m=its.length - i/\∃F' zs,Grow J F1 H1 F' H'/\EV K J F' H' σ' (cEn own js ρ)/\σ'.length=(cT own.length js σ).length/\RpL K F' H' zs ys/\zs.length≤i/\cmF b (its.drop i) λ ws=>∀F' H' v,Grow J F H F' H'->Rr K H F' H' (.own (zs++ws)) v->Q v H',
  ⟨_,bS _,rfl,F1,[],.refl g1.w,(ev.grow g1).comp,rfl,rfl,bS _,w⟩,?_⟩
 rintro i m ys σ' H' ⟨hi,rfl,F',zs,g',ev',sl,rz,zl,w'⟩;have vw:Paired (Vw K F' H') ts xs:=Paired.mapP (rx.grow g') λ _ _ r=>r.vw;by_cases c:i<its.length
 ·refine .inr ⟨ok.go F' H' i g'.w vw c,by rw[← rz.length];lia,λ zs' σ2 H2=>∃F2 ws,Grow J F1 H1 F2 H2/\EV K J F2 H2 σ2 (cEn own js ρ)/\σ2.length=(cT own.length js σ).length/\RpL K F2 H2 ws zs'/\ws.length≤i+1/\cmF b (its.drop (i+1)) λ us=>∀F' H' v,Grow J F H F' H'->Rr K H F' H' (.own (ws++us)) v->Q v H',
   λ zs' σ2 H2 ⟨F2,ws,q⟩=>⟨_,fu,c,rfl,F2,ws,q⟩,λ x H2 y=>?_⟩
  obtain⟨t,et,gy,rt⟩:=ok.yld F' H' i x H2 g'.w vw c y
  have ed:its.drop i=t::its.drop (i+1):=by
   rw[kG c]
   congr 1
   rw[az c] at et;exact bj et
  rw[ed] at w'
  have z:=st t _ x F' H2 σ' w' (ev'.grow gy) sl rt (λ vs σ2 H3=>∃F2 ws,Grow J F1 H1 F2 H3/\EV K J F2 H3 σ2 (cEn own js ρ)/\σ2.length=(cT own.length js σ).length/\RpL K F2 H3 ws (ys++vs)/\ws.length<=i+1/\cmF b (its.drop (i+1)) λ us=>∀F' H' v,Grow J F H F' H'->Rr K H F' H' (.own (ws++us)) v->Q v H')
   (λ zs2 vs σ2 F2 H3 q l1 g2 r2 e2 s2=>⟨F2,zs++zs2,(g'.trans gy).trans g2,e2,s2.trans sl,(rz.ke (gy.trans g2).ke).append r2,by rw[aK];lia,by
    exact oY hm (λ us q=>by rw[jd];exact q) q⟩)
  simp only[cu] at z;exact z
 ·have e:i=its.length:=by lia
  subst e;rw[lg] at w';have w':∀F' H' v,Grow J F H F' H'->Rr K H F' H' (.own (zs++[])) v->Q v H':=w';rw[cu] at w';exact .inl ⟨ok.stop F' H' g'.w vw,fj hJ (g1.trans g') rz w'⟩
end
section
variable {J:Hp->Prop}{FT:List PSp}{GT:List TV}{fs gs:List Str}{N:List Str}{nm:List (Str×NameKind)}
def lh{cl:LA}(xo:XOk X J FT GT fs gs):XOk (bp X N' sc cl C ex s H) J FT GT fs gs:=⟨xo.calm,xo.units,xo.hJ,xo.fns,xo.glb,xo.dic,xo.blt,xo.len⟩
theorem ID{own fv:List Str}{t iter elt:Expr}(xo:XOk X J FT GT fs gs)(xs:XS X N nm)(hS:ckS N nm sc own fv js=true)(hi:PI X t iter (rW X.K J FT GT k it))(hT:ckT false (own++fv) (bI nm sc.names) tgs t=true)(hl:tgs.all (λ i=>decide (i<own.length))=true)(hns:dz iter=true)
  (he:∀Y:Cx,XOk Y J FT GT fs gs->XS Y (own++fv) (bI nm sc.names)->PE Y elt (rE Y.K J FT GT e)):PE X (.ListComp elt [⟨t,iter,[],0⟩] sc pos) (rE X.K J FT GT (.comp own fv js tgs k it e)):=by
 intro pins s σ H Q I h;obtain⟨cl,S⟩:=mO I.ok xs hS;have yx:∀(C:Addr) (ex:List Addr) (s:Shared) (H:Hp),XS (bp X (own++fv) sc cl C ex s H) (own++fv) (bI nm sc.names):=λ C ex s H=>⟨rfl,S.rel⟩;have lt:∀i∈tgs,i<own.length:=λ i hi=>au (gF.mp hl i hi);refine vD (g:=tgG X.K tgs) (te:=rE X.K J FT GT e) xo.calm hi S.clos S.cell S.kind S.names S.sub S.has S.len S.cap (λ C ex s H=>(jy (X:=bp X (own++fv) sc cl C ex s H) S.nd xo.calm (yx C ex s H) (λ z=>by cases z) hT).1) (λ C ex s H=>he _ (lh xo) (yx C ex s H)) (λ x=>kZ hns) pins s σ H Q I ?_;obtain⟨F,ρ,ev,w⟩:=h;refine⟨F,ρ,ev,bL it (λ ts w=>iC (λ its w F1 H1 xs Jt g1 rx ok=>?_) w) w⟩;obtain⟨hn,w⟩:=w
 have z:=pF (tc:=λ σ H Q=>Q true H) (te:=rE X.K J FT GT e) xo.hJ g1 rx ok ev lt hn (λ t K'=>stE (cEn own js ρ) tgs t λ ρ'=>wE FT GT e ρ' λ y=>(y.nb=true/\K' [y.fz])) (λ t K K' h q=>fg (λ ρ' q=>ao e (λ y q=>⟨q.1,h _ q.2⟩) q) q) w
  (λ t P x F' H' σ' b ev' sl rt R fin=>pq b ev' rt (λ i hi=>by rw[sl];unfold cT;simp;have:=lt i hi;lia) λ σ2 ρ2 p ev2 sl2 keep=>by
   show if true=true then _ else _;rw[if_pos rfl];refine⟨F',ρ2,ev2,ao e (λ y ⟨nb,p⟩ F2 H2 v g r=>?_) p⟩;obtain⟨F3,g3,_,_,rp⟩:=r.frz g nb
   exact fin [y.fz] [v] σ2 F3 H2 p (av _) g3 ⟨v,[],ca,rp,ca⟩ ((keep _ ev' λ i hi u=>pE (lt i hi) u).grow g3) sl2)
 simpa only[dI] using z
theorem IE{own fv:List Str}{t iter elt cnd:Expr}(xo:XOk X J FT GT fs gs)(xs:XS X N nm)(hS:ckS N nm sc own fv js=true)(hi:PI X t iter (rW X.K J FT GT k it))(hT:ckT false (own++fv) (bI nm sc.names) tgs t=true)(hl:tgs.all (λ i=>decide (i<own.length))=true)(hns:dz iter=true)
  (hc:∀Y:Cx,XOk Y J FT GT fs gs->XS Y (own++fv) (bI nm sc.names)->PT Y cnd (rT Y.K J FT GT c)) (he:∀Y:Cx,XOk Y J FT GT fs gs->XS Y (own++fv) (bI nm sc.names)->PE Y elt (rE Y.K J FT GT e)):PE X (.ListComp elt [⟨t,iter,[cnd],0⟩] sc pos) (rE X.K J FT GT (.compI own fv js tgs k it c e)):=by
 intro pins s σ H Q I h;obtain⟨cl,S⟩:=mO I.ok xs hS;have yx:∀(C:Addr) (ex:List Addr) (s:Shared) (H:Hp),XS (bp X (own++fv) sc cl C ex s H) (own++fv) (bI nm sc.names):=λ C ex s H=>⟨rfl,S.rel⟩;have lt:∀i∈tgs,i<own.length:=λ i hi=>au (gF.mp hl i hi);refine Fm (g:=tgG X.K tgs) (tc:=rT X.K J FT GT c) (te:=rE X.K J FT GT e) xo.calm hi S.clos S.cell S.kind S.names S.sub S.has S.len S.cap (λ C ex s H=>(jy (X:=bp X (own++fv) sc cl C ex s H) S.nd xo.calm (yx C ex s H) (λ z=>by cases z) hT).1) (λ C ex s H=>he _ (lh xo) (yx C ex s H)) (λ C ex s H=>hc _ (lh xo) (yx C ex s H)) (λ x=>kZ hns) pins s σ H Q I ?_;obtain⟨F,ρ,ev,w⟩:=h;refine⟨F,ρ,ev,bL it (λ ts w=>iC (λ its w F1 H1 xs Jt g1 rx ok=>?_) w) w⟩;obtain⟨hn,w⟩:=w
 exact pF (tc:=rT X.K J FT GT c) (te:=rE X.K J FT GT e) xo.hJ g1 rx ok ev lt hn (λ t K'=>stE (cEn own js ρ) tgs t λ ρ'=>wE FT GT c ρ' λ x=>b1 x λ q=>if q=true then wE FT GT e ρ' λ y=>(y.nb=true/\K' [y.fz]) else K' []) (λ t K K' h q=>fg (λ ρ' q=>ao c (λ x q=>cj (λ z q=>by
   split at q
   ·rw[if_pos (by assumption)];exact ao e (λ y q=>⟨q.1,h _ q.2⟩) q
   ·rw[if_neg (by assumption)];exact h _ q) q) q) q) w
  (λ t P x F' H' σ' b ev' sl rt R fin=>pq b ev' rt (λ i hi=>by rw[sl];unfold cT;simp;have:=lt i hi;lia) λ σ2 ρ2 p ev2 sl2 keep=>by
   have kp:=keep _ ev' λ i hi u=>pE (own:=own) (js:=js) (ρ:=ρ) (lt i hi) u;refine⟨F',ρ2,ev2,ao c (λ x w=>cj (λ q w2 F2 H2 g2=>?_) w) p⟩;split at w2
   ·rw[if_pos (by assumption)];refine⟨F2,ρ2,ev2.grow g2,ao e (λ y ⟨nb,p⟩ F3 H3 v g r=>?_) w2⟩;obtain⟨F4,g4,_,_,rp⟩:=r.frz g nb;exact fin [y.fz] [v] σ2 F4 H3 p (av _) (g2.trans g4) ⟨v,[],ca,rp,ca⟩ ((kp.grow g2).grow g4) sl2
   ·rw[if_neg (by assumption)]
    exact fin [] [] σ2 F2 H2 w2 (bS _) g2 rfl (kp.grow g2) sl2)
def IF{es:List Expr}(h:es.all aF=true):(backTo pos (starEach es env)).all (λ x=>!x.1)=true:=by
 unfold backTo;rw[List.all_map];have:=sV (env:=env) h;rw[List.all_eq_not_any_not];simpa using this
theorem pG{e:Expr}{es:List Expr}(h:(e::es).all aF=true)(hl:(e::es).length<20) :
  ((backTo cp (starEach (e::es) env)).all (λ x=>!x.1)&&(backToKw cp (keywordEach [] env)).all (λ x=>x.1.isSome)&&decide ((e::es).length+([]:List Keyword).length+(if ([]:List Keyword).isEmpty then 0 else 1)<30))=true:=by
 rw[IF h,aU,aU];refine⟨⟨ca,ca⟩,?_⟩;simp only[List.isEmpty_nil,dI,List.length_nil];exact cL fu
def Inv.tupD(I:Inv X pins σ H s)(h:SqT X.K H a xs):s.TypeIs (.ref a) "tuple" /\ ∃ob,s.heap.get? a=some ob/\ob.dict=none:=by
 rcases h with h|⟨o,its,n,hk,hc,hd,hs,hz,r⟩
 ·obtain⟨z,its,r,o,e,⟨c,_⟩,d⟩:=h.ok I.hok;exact⟨⟨o,e,c⟩,o,e,d⟩
 ·exact⟨⟨o,I.kIn a o hk,hc⟩,o,I.kIn a o hk,hd⟩
noncomputable def IG(K:FG):V->List V->Hp->VK->Prop:=λ x ys H Q=>∃a xs y j,x=.ref a/\ys=[y]/\SqT K H a xs/\xs.all cD=true/\cD y=true/\(∃z,xs[j]?=some z/\eqV z y=true)/\(∀m z,m<j->xs[m]?=some z->eqV z y=false)/\Q (.int (j:Nat)) H
def IH:MtR X "tuple.index" (IG X.K):=by
 intro pins s σ H x ys v us Q I rx rv h;obtain⟨a,xs,y,j,rfl,rfl,ha,hfl,fy,⟨z,ez,hz0⟩,hn,q⟩:=h;cases rx;obtain⟨u,rfl,ru⟩:=cB rv;obtain⟨its,rv2,⟨o,g1,c2,n2,d2⟩,hz⟩:=I.tuple ha;obtain⟨oc,od,odt,osl⟩:=o;subst c2 d2;have hlen:=rv2.length;have jl:=(be.mp ez).1;have jl2:j<its.length:=fu;refine gv F.slot_tuple_index ⟨_,g1,ca⟩ F.entry_tuple_index (F.args_tuple_index_2 _ _) (GC a its.toArray n2 od osl u (eqU y) j (by simpa using jl2) ?_ ?_) ⟨g1,λ w hw=>jb ru fy rv2 hfl w (by simpa using hw),?_⟩
 ·show eqU y its[j]=true;rw[mE rv2 hfl j jl jl2];rw[az jl] at ez;cases (bj ez);exact hz0
 ·intro m hm hlt;show eqU y its[m]=false;have ml:m<xs.length:=by simp only[aM] at hm;lia
  rw[mE rv2 hfl m ml (by simpa using hm)];exact hn m _ hlt (az ml)
 ·exact⟨.int _,H,I.tok _,⟨_,ca⟩,q⟩
noncomputable def II(K:FG)(r:V->List V->Hp->VK->Prop)(to:TE)(t:TA):TE:=λ σ H Q=>to σ H λ x H1=>(∃a xs,x=.ref a/\SqT K H1 a xs)/\t σ H1 λ ys H2=>r x ys H2 Q
theorem IJ{o e:Expr}{es:List Expr}{name:Str}{apos cpos:Pos}{id:String}(slot:Slot "tuple" name id)(hty:typeOf (.builtin id)=pure (.type "method_descriptor"))(hm:MtR X id r)(ho:PE X o to)(ha:PA X (e::es) t)
  (hbase:attributeBase o name X.env (eval o X.env)=eval o X.env)
  (hfew:((backTo cpos (starEach (e::es) X.env)).all (λ x=>!x.1) && (backToKw cpos (keywordEach [] X.env)).all (λ x=>x.1.isSome)
   && decide ((e::es).length+([]:List Keyword).length+(if ([]:List Keyword).isEmpty then 0 else 1)<30))=true)
  (hline:(apos.endLine == cpos.line)=true) (hs:starEach (e::es) X.env=(false,eval e X.env)::starEach es X.env) (hplain:(backTo cpos (starEach es X.env)).any (·.1)=false) :
  PE X (.Call (.Attribute o name apos) (e::es) [] cpos) (II X.K r to t):=by
 intro pins s σ H Q I h;refine vp hbase hfew hline rfl (thn (ho pins s σ H _ I h) λ v s1 ⟨x,H1,I1,r1,ty,q1⟩=>?_)
 have hh:s1.TypeIs v "tuple" /\ ∀a,v=.ref a->∃ob,s1.heap.get? a=some ob/\ob.dict=none:=by
  obtain⟨a,xs,rfl,ha⟩:=ty;cases r1;obtain⟨t1,t2⟩:=I1.tupD ha;exact⟨t1,λ b e=>by cases e;exact t2⟩
 refine⟨"tuple",id,PySem.F.plainAttrs_tuple,slot,hty,hh.1,hh.2,?_⟩;have hA:=ha cpos pins s1 σ H1 _ I1 q1;rw[hs] at hA ⊢;refine rC (by show(false || (backTo cpos (starEach es X.env)).any (·.1))=false;rw[hplain]<;>rfl) (rD ?_);exact thn hA λ us s2 ⟨vs,H2,I2,r2,q2⟩=>hm pins s2 σ H2 x vs v us Q I2 r1 r2 q2
def IL{K:FG}(h:Rr K H F' H' t v)(f:flT t=true):Rp K F' H' t v:=by cases t<;>first|exact h|exact Bool.noConfusion f
theorem IM{K:FG}{vs:List V}{u z:TV}{j:Nat}(rl:RpL K F H l vs)(rx:Rp K F H u x)(f1:flT u=true)(f2:∀z∈l,flT z=true)(ez:l[j]?=some z)(h1:eqT z u=true)(h2:∀(m:Nat) z,m<j->l[m]?=some z->eqT z u=false) :
  vs.all cD=true/\cD x=true/\(∃z,vs[j]?=some z/\eqV z x=true)/\∀(m:Nat) z,m<j->vs[m]?=some z->eqV z x=false:=by
 obtain⟨v,ev,rv⟩:=rl.get ez;refine⟨pc rl f2,oZ rx f1,⟨v,ev,by rw[sJ rv rx (f2 _ (aD ez)) f1];exact h1⟩,λ m w hm ew=>?_⟩;have ml:m<l.length:=by rw[rl.length];exact(be.mp ew).1
 have em:=az ml;obtain⟨w',ew',rw'⟩:=rl.get em;rw[ew] at ew';cases ew';rw[sJ rw' rx (f2 _ (kJ ml)) f1];exact h2 m _ hm em
def IN{i:Nat}{p ap cp:Pos}(xs:XS X N nm)(h1:N[i]?=some x)(h2:vs nm x=true)(h3:okN x=true)(hl:ap.endLine=cp.line)(st:aF y=true)(hb:PE X y (rE X.K J FT GT b)):PE X (.Call (.Attribute (.Name x p) "index" ap) [y] [] cp) (rE X.K J FT GT (.idx i b)):=by
 intro pins s σ H Q I ⟨F,ρ,ev,w⟩;obtain⟨d1,d2,_⟩:=db h3;have hv:PE X (.Name x p) (cR i):=iW (by rw[xs.N];exact h1) (kY xs h2) d1 d2;have ha:PA X [y] (rA X.K J FT GT (.cons b .nil)):=px hb xw st;have w:rdV ρ[i]? _:=w;have fo:=pG (e:=y) (es:=[]) (env:=X.env) (cp:=cp) (by rw[cw,st];rfl) (show 1<20 by decide);have tv:∀ {P:VK}{a:Addr},σ[i]?=some (some (.ref a))->P (.ref a) H->cR i σ H P:=λ {P a} e p=>by unfold cR;rw[e];exact p
 have arg:∀ {l:List TV}{a:Addr}{vs:List V}{r:V->List V->Hp->VK->Prop},(wE FT GT b ρ λ y=>flT y=true/\(∀z∈l,flT z=true)/\∃(j:Nat) (z:TV),l[j]?=some z/\eqT z y=true/\(∀(m:Nat) (z:TV),m<j->l[m]?=some z->eqT z y=false)/\∀F' H' v,Grow J F H F' H'->Rr X.K H F' H' (.int (j:Nat)) v->Q v H')->(∀F' H',Grow J F H F' H'->RpL X.K F' H' l vs) ->
   (∀F' H' (y:V) (j:Nat),Grow J F H F' H'->vs.all cD=true->cD y=true->(∃z,vs[j]?=some z/\eqV z y=true)->(∀(m:Nat) z,m<j->vs[m]?=some z->eqV z y=false)->Q (.int (j:Nat)) H'->r (.ref a) [y] H' Q)->rA X.K J FT GT (.cons b .nil) σ H λ ys H2=>r (.ref a) ys H2 Q:=λ {l a vs r} w rl fin=>by
  refine⟨F,ρ,ev,ao b (λ u w F' H' ws g rr=>?_) w⟩;obtain⟨f1,f2,j,z,ez,q1,q2,w⟩:=w;obtain⟨xv,rfl,rt⟩:=iE rr;obtain⟨c1,c2,c3,c4⟩:=IM (rl F' H' g) (IL rt f1) f1 f2 ez q1 q2;exact fin F' H' xv j g c1 c2 c3 c4 (w F' H' _ g rfl)
 rcases hs:ρ[i]? with _|_|t
 ·rw[hs] at w;exact w.elim
 ·rw[hs] at w;exact w.elim
 ·rw[hs] at w;obtain⟨v,e,r⟩:=ev.sl i t hs
  cases t with
  |tup l=>
   obtain⟨a,vs,rfl,q,rl⟩:=r;exact IJ (apos:=ap) (cpos:=cp) PySem.F.slot_tuple_index PySem.F.type_tuple_index IH hv ha rfl fo (jg.mpr hl) (aP st) rfl pins s σ H Q I (tv e ⟨⟨a,vs,ca,q⟩,arg w (λ F' H' g=>rl.ke g.ke) λ F' H' y j g c1 c2 c3 c4 q'=>⟨a,vs,y,j,ca,ca,q.sm g.sm,c1,c2,c3,c4,q'⟩⟩)
  |lst l=>
   obtain⟨a,vs,rfl,q,rl⟩:=r;exact lX (apos:=ap) (cpos:=cp) lj xA xB wx hv ha rfl fo (jg.mpr hl) (aP st) rfl pins s σ H Q I (tv e ⟨.inl ⟨ca,vs,q.sq⟩,arg w (λ F' H' g=>rl.ke g.ke) λ F' H' y j g c1 c2 c3 c4 q'=>⟨a,vs,y,j,ca,ca,q.sq.sm g.sm,c1,c2,c3,c4,q'⟩⟩)
  |own l=>
   obtain⟨a,vs,rfl,nf,q,rl⟩:=r;exact lX (apos:=ap) (cpos:=cp) lj xA xB wx hv ha rfl fo (jg.mpr hl) (aP st) rfl pins s σ H Q I (tv e ⟨.inl ⟨ca,vs,.of q⟩,arg w (λ F' H' g=>rl.ke g.ke) λ F' H' y j g c1 c2 c3 c4 q'=>⟨a,vs,y,j,ca,ca,.of (g.sm _ _ (λ ps z=>by cases z) q),c1,c2,c3,c4,q'⟩⟩)
  |bor l=>exact r.elim
  |_=>exact w.elim
def IP(h:PE X e (rE X.K J FT GT c))(he:∀whole,isTrue e X.env whole=(do let v <- whole;standAt e.pos;holding [v] (truthy v))):PT X e (rT X.K J FT GT c) :=
 (BQ h he).imp λ σ H Q ⟨F,ρ,ev,w⟩=>⟨F,ρ,ev,ao c (λ t w F1 H1 v g r=>by
  obtain⟨b,e,w2⟩:=iD w;subst e;cases r
  exact w2 F1 H1 g) w⟩
def IQ{o:CmpOp}(xo:XOk X J FT GT fs gs)(ha:PE X l (rE X.K J FT GT a))(hb:PE X r (rE X.K J FT GT b))(hs:dz r=true):PT X (.Compare l [o] [r] p) (rT X.K J FT GT (.cmp o a b)) :=
 (Dh (kP xo.units o) ha hb (tj hs)).imp λ σ H Q ⟨F,ρ,ev,w⟩=>⟨F,ρ,ev,ao a (λ x w F1 H1 v g1 r1=>⟨F1,ρ,ev.grow g1,ao b (λ y w F2 H2 v2 g2 r2=>⟨F,H,F2,x,y,g1.trans g2,r1.grow g2,r2.late g1,gH (λ z w v r=>by
  obtain⟨b,e,w2⟩:=iD w;subst e;cases r
  exact w2 F2 H2 (g1.trans g2)) w⟩) w⟩) w⟩
def IR{o o':CmpOp}(xo:XOk X J FT GT fs gs)(ha:PE X l (rE X.K J FT GT a))(hb:PE X r (rE X.K J FT GT b))(hc:PE X w' (rE X.K J FT GT c))(hs:dz w'=true):PT X (.Compare l [o,o'] [r,w'] p) (rT X.K J FT GT (.cm2 o o' a b c)) :=
 (Dj (kP xo.units o) (kP xo.units o') ha hb hc (xp hs)).imp λ σ H Q ⟨F,ρ,ev,w⟩=>⟨F,ρ,ev,ao a (λ x w F1 H1 v g1 r1=>⟨F1,ρ,ev.grow g1,ao b (λ y w F2 H2 v2 g2 r2=>⟨F,H,F2,x,y,g1.trans g2,r1.grow g2,r2.late g1,gH (λ z w v3 r3=>by
  obtain⟨k,ek,w2⟩:=iD w;subst ek;cases r3;refine⟨k,ca,?_⟩;split at w2
  ·rw[if_pos (by assumption)]
   exact⟨F2,ρ,(ev.grow g1).grow g2,ao c (λ z w F4 H4 v4 g4 r4=>⟨F,H,F4,y,z,(g1.trans g2).trans g4,(r2.late g1).grow g4,r4.late (g1.trans g2),gH (λ u w v r=>by
    obtain⟨b,e,w3⟩:=iD w;subst e;cases r
    exact w3 F4 H4 ((g1.trans g2).trans g4)) w⟩) w2⟩
  ·rw[if_neg (by assumption)];exact w2 F2 H2 (g1.trans g2)) w⟩) w⟩) w⟩
def IS(ha:PT X l (rT X.K J FT GT a)):PT X (.UnaryOp .Not l p) (rT X.K J FT GT (.not a)) :=
 (BY ha).imp λ σ H Q ⟨F,ρ,ev,w⟩=>⟨F,ρ,ev,ao a (λ x w=>cj (λ b w F1 H1 g=>w F1 H1 g) w) w⟩
def xC{l r:Expr}{rest:List Expr}(ha:PT X l (rT X.K J FT GT a))(hb:PW X (.BoolOp .And (r::rest) p) (rT X.K J FT GT b)):PW X (.BoolOp .And (l::r::rest) p) (rT X.K J FT GT (.and a b)):=by
 intro wh pins s σ H Q I q;refine BW ha hb wh pins s σ H Q I ?_;obtain⟨F,ρ,ev,w⟩:=q;refine⟨F,ρ,ev,ao a (λ x w=>cj (λ k w2 F1 H1 g1=>?_) w) w⟩;split at w2
 ·rw[if_pos (by assumption)];exact⟨F1,ρ,ev.grow g1,ao b (λ y w=>cj (λ k w F2 H2 g2=>w F2 H2 (g1.trans g2)) w) w2⟩
 ·rw[if_neg (by assumption)];exact w2 F1 H1 g1
def xD{l r:Expr}{rest:List Expr}(ha:PT X l (rT X.K J FT GT a))(hb:PW X (.BoolOp .Or (r::rest) p) (rT X.K J FT GT b)):PW X (.BoolOp .Or (l::r::rest) p) (rT X.K J FT GT (.or a b)):=by
 intro wh pins s σ H Q I q;refine BX ha hb wh pins s σ H Q I ?_;obtain⟨F,ρ,ev,w⟩:=q;refine⟨F,ρ,ev,ao a (λ x w=>cj (λ k w2 F1 H1 g1=>?_) w) w⟩;split at w2
 ·rw[if_pos (by assumption)];exact w2 F1 H1 g1
 ·rw[if_neg (by assumption)];exact⟨F1,ρ,ev.grow g1,ao b (λ y w=>cj (λ k w F2 H2 g2=>w F2 H2 (g1.trans g2)) w) w2⟩
def xF{lo:Cd}(h:kR lo=true):PO X none (λ σ H Q=>∃F ρ,EV X.K J F H σ ρ/\wE FT GT lo ρ λ t=>oI t λ o=>∀F' H',Grow J F H F' H'->Q o H'):=by
 intro pins s σ H Q I q;obtain⟨F,ρ,ev,w⟩:=q
 have e:lo=.c .non:=by unfold kR at h;split at h<;>first|rfl|cases h
 subst e;exact DA pins s σ H Q I (w F H (.refl ev.w))
def xG{lo:Cd}(he:PE X e (rE X.K J FT GT lo)):PO X (some e) (λ σ H Q=>∃F ρ,EV X.K J F H σ ρ/\wE FT GT lo ρ λ t=>oI t λ o=>∀F' H',Grow J F H F' H'->Q o H'):=by
 intro pins s σ H Q I q;obtain⟨F,ρ,ev,w⟩:=q;rw[evalPart_some];refine thn (he pins s σ H (λ x H1=>(x=.non/\Q none H1)\/∃i,x=.int i/\Q (some i) H1) I ⟨F,ρ,ev,ao lo (λ t w F1 H1 v g r=>?_) w⟩) λ u s1 ⟨x,H1,I1,r1,q1⟩=>?_
 ·cases t with
  |non=>cases r;exact .inl ⟨rfl,w F1 H1 g⟩
  |int i=>cases r;exact .inr ⟨i,rfl,w F1 H1 g⟩
  |_=>exact w.elim
 ·rcases q1 with ⟨rfl,q⟩|⟨i,rfl,q⟩
  ·cases r1;exact⟨none,H1,I1,.none,q⟩
  ·obtain⟨tk,rfl⟩:=r1;exact⟨some i,H1,I1,.int _ _,q⟩
end
def IT(h:wZ c=true):c=.nil:=by cases c<;>first|rfl|exact Bool.noConfusion h
def xH(h:kX e=true):∃es k p,e=.Tuple es k p:=by cases e<;>first|exact⟨_,_,_,rfl⟩|exact Bool.noConfusion h
set_option tactic.hygienic true in
def IU(h:tsE e=true)(whole:Sem Value):isTrue e env whole=(do let v <- whole;standAt e.pos;holding [v] (truthy v)):=by
 cases e<;>first|rfl|(exact Bool.noConfusion h)|skip
 rename_i op _ _
 cases op<;>first|rfl|exact Bool.noConfusion h
section
variable {fs gs:List Str}
def jB:∀ {r:Cd}{N:List Str}{nm:List (Str×NameKind)}{es:List Expr},ckL fs gs r N nm es=true->es.all aF=true:=λ {r}=>by
 induction r with
 |nil=>intro N nm es h;cases es with|nil=>rfl|cons e es=>exact Bool.noConfusion h
 |cons a r _ ih=>
  intro N nm es h
  cases es with
  |nil=>exact Bool.noConfusion h
  |cons e es=>
   obtain⟨h1,h2⟩:=an h;rw[cw,(an h1).1,ih h2];rfl
 |_=>intro N nm es h;exact Bool.noConfusion h
def mP(h:ckI fs gs c k tg N nm it=true):dz it=true:=by
 cases c with
 |cons a r=>
  cases k with
  |seq=>exact(an (an h).1).1
  |str=>exact Bool.noConfusion h
  |_=>exact cF h λ _ _ _ _ _=>rfl
 |_=>exact Bool.noConfusion h
end
section
variable {J:Hp->Prop}{FT:List PSp}{GT:List TV}{fs gs:List Str}
structure SA (J:Hp->Prop)(FT:List PSp)(GT:List TV)(fs gs:List Str)(c:Cd):Prop where
 e:∀ {X:Cx}{N:List Str}{nm:List (Str×NameKind)}{e:Expr},XOk X J FT GT fs gs->XS X N nm->ck fs gs c N nm e=true->PE X e (rE X.K J FT GT c)
 l:∀ {X:Cx}{N:List Str}{nm:List (Str×NameKind)}{es:List Expr},XOk X J FT GT fs gs->XS X N nm->ckL fs gs c N nm es=true->PA X es (rA X.K J FT GT c)
 i:∀ {k:IK}{X:Cx}{N:List Str}{nm:List (Str×NameKind)}{tg it:Expr},XOk X J FT GT fs gs->XS X N nm->ckI fs gs c k tg N nm it=true->PI X tg it (rW X.K J FT GT k c)
 t:∀ {X:Cx}{N:List Str}{nm:List (Str×NameKind)}{e:Expr},XOk X J FT GT fs gs->XS X N nm->tB' c e=true->ck fs gs c N nm e=true->PT X e (rT X.K J FT GT c)
 w:∀ {X:Cx}{N:List Str}{nm:List (Str×NameKind)}{op:BoolOp}{es:List Expr}{p:Pos},XOk X J FT GT fs gs->XS X N nm->ck fs gs c N nm (.BoolOp op es p)=true->PW X (.BoolOp op es p) (rT X.K J FT GT c)
noncomputable abbrev EF(J:Hp->Prop)(FT:List PSp)(GT:List TV)(fs gs:List Str)(c:Cd):Prop:=∀ {X:Cx}{N:List Str}{nm:List (Str×NameKind)}{e:Expr},XOk X J FT GT fs gs->XS X N nm->ck fs gs c N nm e=true->PE X e (rE X.K J FT GT c)
def SA.val(E:EF J FT GT fs gs c)(t:∀e,tB' c e=tsE e:=by intro;rfl)(l:∀N nm es,ckL fs gs c N nm es=false:=by intros;rfl)(i:∀k tg N nm it,ckI fs gs c k tg N nm it=false:=by intros;rfl)(w:∀N nm op es p,ck fs gs c N nm (.BoolOp op es p)=false:=by intros;rfl):SA J FT GT fs gs c :=
 ⟨E,λ _ _ h=>by rw[l] at h;exact Bool.noConfusion h,λ _ _ h=>by rw[i] at h;exact Bool.noConfusion h,λ xo xs n h=>IP (E xo xs h) (IU (by rw[<- t];exact n)),λ _ _ h=>by rw[w] at h;exact Bool.noConfusion h⟩
def SA.tst(E:EF J FT GT fs gs c)(T:∀ {X:Cx}{N:List Str}{nm:List (Str×NameKind)}{e:Expr},XOk X J FT GT fs gs->XS X N nm->ck fs gs c N nm e=true->PT X e (rT X.K J FT GT c))(l:∀N nm es,ckL fs gs c N nm es=false:=by intros;rfl)(i:∀k tg N nm it,ckI fs gs c k tg N nm it=false:=by intros;rfl)(w:∀N nm op es p,ck fs gs c N nm (.BoolOp op es p)=false:=by intros;rfl):SA J FT GT fs gs c :=
 ⟨E,λ _ _ h=>by rw[l] at h;exact Bool.noConfusion h,λ _ _ h=>by rw[i] at h;exact Bool.noConfusion h,λ xo xs _ h=>T xo xs h,λ _ _ h=>by rw[w] at h;exact Bool.noConfusion h⟩
def IV(h:xa f=true):f=.isI\/f=.isB\/f=.isT\/f=.isL\/f=.isS:=by cases f<;>first|exact Bool.noConfusion h|simp
def sA(J:Hp->Prop)(FT:List PSp)(GT:List TV)(fs gs:List Str)(c:Cd):SA J FT GT fs gs c:=by
 induction c with
 |v i=>exact .val λ xo xs h=>s_v xs h
 |c t=>exact .val λ xo xs h=>s_c h
 |g k=>exact .val λ xo xs h=>s_g xo xs h
 |bin o a b ia ib=>
  refine .val λ {X N nm e} xo xs h=>?_;refine HU h λ l op r p k1=>?_;obtain⟨g1,g2,g3⟩:=a3 k1;cases au g1;exact Ic xo (ia.e xo xs g2) (ib.e xo xs g3)
 |neg a ia=>
  refine .val λ {X N nm e} xo xs h=>?_;refine xf h λ op x p k1=>?_;cases au (an k1).1;exact Ih (ia.e xo xs (an k1).2)
 |not a ia=>
  refine .tst (λ {X N nm e} xo xs h=>?_) (λ {X N nm e} xo xs h=>?_)
  all_goals
   refine xf h λ op x p k1=>?_;obtain⟨g1,g2,g3⟩:=a3 k1;cases au g1
  ·exact Ii (ia.e xo xs g3)
  ·exact IS (ia.t xo xs g2 g3)
 |cmp o a b ia ib=>
  refine .tst (λ {X N nm e} xo xs h=>?_) (λ {X N nm e} xo xs h=>?_)
  all_goals
   refine xg h λ l os rs p k1=>?_;refine cV k1 λ op k2=>?_;refine cV k2 λ r k3=>?_;obtain⟨g1,g2,g3,g4⟩:=a4 k3;cases au g1
  ·exact Ie xo (ia.e xo xs g2) (ib.e xo xs g3) g4
  ·exact IQ xo (ia.e xo xs g2) (ib.e xo xs g3) g4
 |cm2 o o' a b c ia ib ic=>
  refine .tst (λ {X N nm e} xo xs h=>?_) (λ {X N nm e} xo xs h=>?_)
  all_goals
   refine xg h λ l os rs p k1=>?_;refine jx k1 λ op op' k2=>?_;refine jx k2 λ r r' k3=>?_;obtain⟨g1,g2,g3,g4,g5,g6⟩:=a6 k3;cases au g1;cases au g2
  ·exact Ij xo (ia.e xo xs g3) (ib.e xo xs g4) (ic.e xo xs g5) g6
  ·exact IR xo (ia.e xo xs g3) (ib.e xo xs g4) (ic.e xo xs g5) g6
 |and a b ia ib=>
  have W:∀ {X:Cx}{N:List Str}{nm:List (Str×NameKind)}{op:BoolOp}{es:List Expr}{p:Pos},XOk X J FT GT fs gs->XS X N nm->ck fs gs (.and a b) N nm (.BoolOp op es p)=true->PW X (.BoolOp op es p) (rT X.K J FT GT (.and a b)):=by
   intro X N nm op es p xo xs h;obtain⟨g,g'⟩:=an h;cases au g
   rcases es with _|⟨x,_|⟨y,_|⟨z,r⟩⟩⟩<;>try exact Bool.noConfusion g'
   ·obtain⟨h1,h2,h3,h4⟩:=a4 g';exact xC (ia.t xo xs h1 h3) (BU (ib.t xo xs h2 h4))
   ·obtain⟨h1,h3,h4⟩:=a3 g';exact xC (ia.t xo xs h1 h3) (ib.w xo xs h4)
  refine⟨λ {X N nm e} xo xs h=>?_,λ _ _ h=>Bool.noConfusion h,λ _ _ h=>Bool.noConfusion h,λ {X N nm e} xo xs n h=>?_,W⟩
  ·refine xh h λ op es p g=>?_;obtain⟨g,g'⟩:=an g;cases au g
   rcases es with _|⟨x,_|⟨y,_|⟨z,r⟩⟩⟩<;>try exact Bool.noConfusion g'
   ·obtain⟨h1,h2,h3,h4⟩:=a4 g';exact xr (ia.e xo xs h3) (uD (ib.e xo xs h4))
   ·obtain⟨h1,h3,h4⟩:=a3 g';exact xr (ia.e xo xs h3) (ib.e xo xs h4)
  ·obtain⟨op,es,p,rfl,g⟩:=xi h;exact(W xo xs h).pt
 |or a b ia ib=>
  have W:∀ {X:Cx}{N:List Str}{nm:List (Str×NameKind)}{op:BoolOp}{es:List Expr}{p:Pos},XOk X J FT GT fs gs->XS X N nm->ck fs gs (.or a b) N nm (.BoolOp op es p)=true->PW X (.BoolOp op es p) (rT X.K J FT GT (.or a b)):=by
   intro X N nm op es p xo xs h;obtain⟨g,g'⟩:=an h;cases au g
   rcases es with _|⟨x,_|⟨y,_|⟨z,r⟩⟩⟩<;>try exact Bool.noConfusion g'
   ·obtain⟨h1,h2,h3,h4⟩:=a4 g';exact xD (ia.t xo xs h1 h3) (BV (ib.t xo xs h2 h4))
   ·obtain⟨h1,h3,h4⟩:=a3 g';exact xD (ia.t xo xs h1 h3) (ib.w xo xs h4)
  refine⟨λ {X N nm e} xo xs h=>?_,λ _ _ h=>Bool.noConfusion h,λ _ _ h=>Bool.noConfusion h,λ {X N nm e} xo xs n h=>?_,W⟩
  ·refine xh h λ op es p g=>?_;obtain⟨g,g'⟩:=an g;cases au g
   rcases es with _|⟨x,_|⟨y,_|⟨z,r⟩⟩⟩<;>try exact Bool.noConfusion g'
   ·obtain⟨h1,h2,h3,h4⟩:=a4 g';exact xt (ia.e xo xs h3) (uD (ib.e xo xs h4))
   ·obtain⟨h1,h3,h4⟩:=a3 g';exact xt (ia.e xo xs h3) (ib.e xo xs h4)
  ·obtain⟨op,es,p,rfl,g⟩:=xi h;exact(W xo xs h).pt
 |ite c a b ic ia ib=>
  refine .val λ {X N nm e} xo xs h=>?_;refine HV h λ x y z p k1=>?_;obtain⟨g1,g2,g3,g4⟩:=a4 k1;exact Ik (ic.t xo xs g1 g2) (ia.e xo xs g3) (ib.e xo xs g4)
 |nil=>
  refine⟨λ _ _ h=>Bool.noConfusion h,λ {X N nm es} xo xs h=>?_,λ _ _ h=>Bool.noConfusion h,λ _ _ _ h=>Bool.noConfusion h,λ _ _ h=>Bool.noConfusion h⟩
  cases es with
  |nil=>exact xw
  |cons e es=>exact Bool.noConfusion h
 |cons a r ia ir=>
  refine⟨λ _ _ h=>Bool.noConfusion h,λ {X N nm es} xo xs h=>?_,λ {k X N nm tg it} xo xs h=>?_,λ _ _ _ h=>Bool.noConfusion h,λ _ _ h=>Bool.noConfusion h⟩
  ·cases es with
   |nil=>exact Bool.noConfusion h
   |cons e es=>
    obtain⟨h1,h3⟩:=an h;obtain⟨h1,h2⟩:=an h1;exact px (ia.e xo xs h2) (ir.l xo xs h3) h1
  ·have call:∀ {x:Str}{p:Pos}{e:Expr}{es:List Expr}{pos:Pos},decide (ikN k=some (x,es.length))=true->gl nm x=true->(!ikT k || kX tg)=true->aF e=true->ck fs gs a N nm e=true->ckL fs gs r N nm es=true->PI X tg (.Call (.Name x p) (e::es) [] pos) (rW X.K J FT GT k (.cons a r)):=by
    intro x p e es pos h1 h2 h3 h4 h5 h6;have hk:=au h1;have he:=ia.e xo xs h5;have hr:=ir.l xo xs h6;have st:=jB h6;have g:=glX xs h2
    have n0:es=[]->r=.nil:=λ z=>by subst z;cases r<;>first|rfl|exact Bool.noConfusion h6
    cases k with
    |seq=>cases hk
    |str=>cases hk
    |rng=>
     simp only[ikN,pH,pI] at hk;obtain⟨rfl,hk⟩:=hk;cases tq hk.symm;cases n0 rfl;exact Iy xo g h4 he
    |rng2=>cases hk
    |rng3=>
     simp only[ikN,pH,pI] at hk;obtain⟨rfl,hk⟩:=hk
     match es,hk with
     |[y,z],_=>exact IA xo g h4 (by simp at st;exact st.1) (by simp at st;exact st.2) (px he hr h4)
    |zip c d=>
     simp only[ikN,pH,pI] at hk;obtain⟨rfl,hk⟩:=hk;obtain⟨tes,tk,tp,rfl⟩:=xH (show kX tg=true by simpa [ikT] using h3)
     match es,hk with
     |[y],_=>exact IB xo g h4 (by simpa using st) (px he hr h4)
    |zip3=>cases hk
    |enum c=>cases hk
    |rev c=>
     cases c<;>try (cases hk;done)
     simp only[ikN,pH,pI] at hk;obtain⟨rfl,hk⟩:=hk;cases tq hk.symm;cases n0 rfl;exact IC xo g h4 he
   have arg:(cE it λ g as w _=>bq g λ x _=>cC as λ e es=>w.isEmpty&&decide (ikN k=some (x,es.length))&&gl nm x&&(!ikT k || kX tg)&&aF e&&ck fs gs a N nm e&&ckL fs gs r N nm es)=true->PI X tg it (rW X.K J FT GT k (.cons a r)):=λ h=>by
    refine cF h λ g as w pos k1=>?_;refine bg k1 λ x p k2=>?_;refine fq k2 λ e es k3=>?_;obtain⟨g0,g1,g2,g3,g4,g5,g6⟩:=a7 k3;refine bM g0 ?_;exact call g1 g2 g3 g4 g5 g6
   cases k with
   |seq=>
    obtain⟨h1,h3⟩:=an h;cases IT (an h1).2;exact xz (ia.e xo xs h3)
   |str=>exact Bool.noConfusion h
   |_=>exact arg h
 |tup l il=>
  refine .val λ {X N nm e} xo xs h=>?_;refine kW h λ es _ _ k1=>?_;exact Il xo (il.l xo xs k1)
 |lst l il=>
  refine .val λ {X N nm e} xo xs h=>?_;refine HW h λ es _ k1=>?_;exact Im xo (il.l xo xs k1)
 |ix a b ia ib=>
  refine .val λ {X N nm e} xo xs h=>?_;refine pf h λ x y p k1=>?_;obtain⟨g1,g2,g3⟩:=a3 k1;exact Ig (ia.e xo xs g2) (ib.e xo xs g3) g1
 |sl a lo hi ia il ih=>
  refine .val λ {X N nm e} xo xs h=>?_;refine pf h λ x y p k1=>?_;refine HX k1 λ l u st q k2=>?_;obtain⟨g0,g1,g2,g3⟩:=a4 k2;cases lr.mp g0;refine Io xo (ia.e xo xs g1) ?_ ?_
  ·cases l with
   |none=>exact xF g2
   |some l=>exact xG (il.e xo xs (an g2).1)
  ·cases u with
   |none=>exact xF g3
   |some u=>exact xG (ih.e xo xs (an g3).1)
 |call f l il=>
  refine .val λ {X N nm e} xo xs h=>?_;refine cF h λ f' as w pos k1=>?_;refine bg k1 λ x p k2=>?_;refine fq k2 λ a es k3=>?_;obtain⟨g0,g1,g2,g3,g4⟩:=a5 k3;refine bM g0 ?_;have st:=jB g4;rw[cw,aU] at st;exact Ip xo (au g1) (glX xs g2) (db g3).1 (il.l xo xs g4) st.1 st.2
 |bi f l il=>
  refine .val λ {X N nm e} xo xs h=>?_;refine cF h λ f' as w pos k1=>?_;refine bg k1 λ x p k2=>?_;refine fq k2 λ a es k3=>?_;obtain⟨g0,g1,g2,g4⟩:=a4 k3;refine bM g0 ?_;have st:=jB g4;rw[cw,aU] at st;exact Iq xo (au g1) (glX xs g2) (il.l xo xs g4) st.1 st.2
 |isi f a ia=>
  refine .val λ {X N nm e} xo xs h=>?_;refine cF h λ f' as w pos k1=>?_;refine bg k1 λ x p k2=>?_;refine jx k2 λ y u k3=>?_;refine bg k3 λ z _ k4=>?_;obtain⟨g0,g1,g2,g3,g4,g5,g6,g7⟩:=a8 k4;refine bM g0 ?_;cases au g1;exact Ir xo (IV g3) (au g4) (glX xs g2) (glX xs g5) g6 (ia.e xo xs g7)
 |mxl a b ia ib=>
  refine .val λ {X N nm e} xo xs h=>?_;refine cF h λ f' as w pos k1=>?_;refine bg k1 λ x p k2=>?_;refine jx k2 λ y z k3=>?_;obtain⟨⟨kx,kv,kp⟩,rfl,k4⟩:=jw k3;obtain⟨u,_,e1,k5⟩:=HS k4;cases e1;obtain⟨g1,g2,g3,g4,g5,g6,g7,g8,g9⟩:=a9 k5;cases au g1;cases au g3;cases au g4;exact Iu xo (glX xs g2) (glX xs g5) g6 g7 (ia.e xo xs g8) (ib.e xo xs g9)
 |trev k a ia=>
  refine .val λ {X N nm e} xo xs h=>?_;refine cF h λ f' as w pos k1=>?_;refine bg k1 λ x p k2=>?_;refine cV k2 λ u k3=>?_;refine cF k3 λ f'' as' w' pos' k4=>?_;refine bg k4 λ y p' k5=>?_;refine cV k5 λ z k6=>?_;obtain⟨g0,g0',g1,g2,g3,g4,g5,g6⟩:=a8 k6;refine bM g0 ?_;refine bM g0' ?_;cases au g1;cases au g3;exact Iv xo (glX xs g2) (glX xs g4) g5 (ia.e xo xs g6)
 |lrng k a ia=>
  refine .val λ {X N nm e} xo xs h=>?_;refine cF h λ f' as w pos k1=>?_;refine bg k1 λ x p k2=>?_;refine cV k2 λ u k3=>?_;refine cF k3 λ f'' as' w' pos' k4=>?_;refine bg k4 λ y p' k5=>?_;refine cV k5 λ z k6=>?_;obtain⟨g0,g0',g1,g2,g3,g4,g5,g6⟩:=a8 k6;refine bM (an g0).1 ?_;refine bM g0' ?_;cases au g1;cases au g3;exact Iw (k:=k) (an g0).2 xo (glX xs g2) (glX xs g4) g5 (ia.e xo xs g6)
 |idx i b ib=>
  refine .val λ {X N nm e} xo xs h=>?_;refine cF h λ f' as w cp k1=>?_;refine xn k1 λ o name ap k2=>?_;refine bg k2 λ x p k3=>?_;refine cV k3 λ y k4=>?_;obtain⟨g0,g1,g2,g3,g4,g5,g6,g7⟩:=a8 k4;refine bM g0 ?_;cases au g4;exact IN xs (au g1) g2 g3 (au g5) g6 (ib.e xo xs g7)
 |dk k a ia=>
  refine .val λ {X N nm e} xo xs h=>?_;refine pf h λ o y p k1=>?_;refine bg k1 λ x q k2=>?_;obtain⟨g1,g2,g3,g4,g5⟩:=a5 k2;exact Ib xo xs (au g1) g2 g3 g4 (ia.e xo xs g5)
 |comp own fv js tg k it e ii ie=>
  refine .val λ {X N nm x} xo xs h=>?_;obtain⟨elt,gn,sc,p,rfl,k1⟩:=ph h;obtain⟨⟨t,iter,ifs,z⟩,rfl,k2⟩:=jw k1;obtain⟨g0,g1,g2,g3,g4,g5,g6⟩:=a7 k2;cases (show ifs=[] from List.isEmpty_iff.mp g0);cases au g1;exact ID xo xs g2 (ii.i xo xs g3) g4 g5 (mP g3) λ Y yo ys=>ie.e yo ys g6
 |compI own fv js tg k it c e ii ic ie=>
  refine .val λ {X N nm x} xo xs h=>?_;obtain⟨elt,gn,sc,p,rfl,k1⟩:=ph h;obtain⟨⟨t,iter,ifs,z⟩,rfl,k2⟩:=jw k1;obtain⟨cnd,e1,k3⟩:=jw k2;cases e1;obtain⟨g1,g2,g3,g4,g5,g6,g7,g8⟩:=a8 k3;cases au g1;exact IE xo xs g2 (ii.i xo xs g3) g4 g5 (mP g3) (λ Y yo ys=>ic.t yo ys g6 g7) λ Y yo ys=>ie.e yo ys g8
def sE(c:Cd)(xo:XOk X J FT GT fs gs)(xs:XS X N nm)(h:ck fs gs c N nm e=true):PE X e (rE X.K J FT GT c):=(sA J FT GT fs gs c).e xo xs h
def sL(c:Cd)(xo:XOk X J FT GT fs gs)(xs:XS X N nm)(h:ckL fs gs c N nm es=true):PA X es (rA X.K J FT GT c):=(sA J FT GT fs gs c).l xo xs h
def sI(c:Cd)(k:IK)(xo:XOk X J FT GT fs gs)(xs:XS X N nm)(h:ckI fs gs c k tg N nm it=true):PI X tg it (rW X.K J FT GT k c):=(sA J FT GT fs gs c).i xo xs h
def sT(c:Cd)(xo:XOk X J FT GT fs gs)(xs:XS X N nm)(n:tB' c e=true)(h:ck fs gs c N nm e=true):PT X e (rT X.K J FT GT c):=(sA J FT GT fs gs c).t xo xs n h
end
inductive MM where
 |append|insert|extend (t:Bool)|pop
 deriving DecidableEq
inductive Ct where
 |nil|never|ret (c:Cd)|doc (r:Ct)
 |set (i:Nat) (c:Cd) (r:Ct)|sets (is:List Nat) (c:Cd) (r:Ct)|fz (i:Nat) (r:Ct)|ex (c:Cd) (r:Ct)
 |met (m:MM) (i:Nat) (l:Cd) (r:Ct)|put (i:Nat) (c d:Cd) (r:Ct)
 |ite (c:Cd) (a b r:Ct)|«for» (tg:List Nat) (k:IK) (it:Cd) (b r:Ct)
noncomputable def fzS(ρ:En)(i:Nat):En:=match ρ[i]? with|some (some (.own l))=>ρ.set i (some (.lst l))|_=>ρ
def fzC:Cd->En->En
 |.v i,ρ=>fzS ρ i
 |_,ρ=>ρ
def fzV:Cd->En->En
 |.cons a r,ρ=>fzV r (fzC a ρ)
 |_,ρ=>ρ
noncomputable def itF(b:TV->En->(En->Prop)->Prop):List TV->En->(En->Prop)->Prop
 |[],ρ,K=>K ρ
 |t::r,ρ,K=>b t ρ λ ρ'=>itF b r ρ' K
noncomputable def iH(s:Option (Option TV))(P:List TV->Prop):Prop:=match s with|some (some (.own l))=>P l|_=>False
noncomputable def mtP(m:MM)(l:List TV)(ts:List TV)(K:TV->List TV->Prop):Prop:=match m,ts with
 |.append,[t]=>t.nb=true/\l.length<sizeLine/\K .non (l++[t.fz])
 |.insert,[u,t]=>i1 u λ i=>t.nb=true/\(0<=i/\i<=l.length)/\l.length<sizeLine/\K .non (l.take i.toNat++t.fz::l.drop i.toNat)
 |.extend b,[t]=>t.nb=true/\k1 b t λ m=>l.length+m.length<=sizeLine/\K .non (l++m)
 |.pop,[]=>∃y,l[l.length-1]?=some y/\K y l.dropLast
 |.pop,[u]=>i1 u λ i=>(-(2 ^ 63)<=i/\i<2 ^ 63)/\∃k y,seqIndex? i l.length=some k/\l[k]?=some y/\K y (l.eraseIdx k)
 |_,_=>False
section
variable (FT:List PSp)(GT:List TV)
noncomputable def wS:Ct->En->(En->Prop)->(TV->Prop)->Prop
 |.nil,ρ,nx,_=>nx ρ
 |.never,_,_,_=>False
 |.ret c,ρ,_,rt=>wE FT GT c (fzC c ρ) λ t=>t.nb=true/\rt t.fz
 |.set i c r,ρ,nx,rt=>wE FT GT c (fzC c ρ) λ t=>t.nb=true/\wS r ((fzC c ρ).set i (some t)) nx rt
 |.sets is c r,ρ,nx,rt=>wE FT GT c ρ λ t=>(match t with|.tup _=>stE ρ is t λ ρ'=>wS r ρ' nx rt|_=>False)
 |.fz i r,ρ,nx,rt=>wS r (fzS ρ i) nx rt
 |.doc r,ρ,nx,rt=>wS r ρ nx rt
 |.ex c r,ρ,nx,rt=>wE FT GT c ρ λ _=>wS r ρ nx rt
 |.met m i l r,ρ,nx,rt=>iH (fzV l ρ)[i]? λ xs=>wL FT GT l (fzV l ρ) λ ts=>mtP m xs ts λ _ ys=>wS r ((fzV l ρ).set i (some (.own ys))) nx rt
 |.put i c d r,ρ,nx,rt=>iH (fzC d ρ)[i]? λ xs=>wE FT GT d (fzC d ρ) λ t=>t.nb=true/\wE FT GT c (fzC d ρ) λ u=>i1 u λ k=>∃n,ixN xs.length k=some n/\wS r ((fzC d ρ).set i (some (.own (xs.set n t.fz)))) nx rt
 |.ite c a b r,ρ,nx,rt=>wE FT GT c ρ λ t=>b1 t λ k=>if k=true then wS a ρ (λ ρ'=>wS r ρ' nx rt) rt else wS b ρ (λ ρ'=>wS r ρ' nx rt) rt
 |.for tg k it b r,ρ,nx,rt=>wL FT GT it (fzV it ρ) λ ts=>ts.all TV.nb=true/\itP k ts λ its=>itF (λ t ρ K=>stE ρ tg t λ ρ'=>wS b ρ' K rt) its (fzV it ρ) λ ρ'=>wS r ρ' nx rt
end
def tu{P P':List TV->Prop}(h:∀l,P l->P' l)(q:iH s P):iH s P':=by
 unfold iH at *;split at q
 ·exact h _ q
 ·exact q.elim
def pJ(q:iH s P):∃l,s=some (some (.own l))/\P l:=by
 unfold iH at q;split at q
 ·exact⟨_,ca,q⟩
 ·exact q.elim
def xI{K K':TV->List TV->Prop}(h:∀y ys,K y ys->K' y ys)(q:mtP m l ts K):mtP m l ts K':=by
 rcases ts with _|⟨t,_|⟨u,_|⟨w,r⟩⟩⟩
 ·cases m with
  |pop=>obtain⟨y,e,q⟩:=q;exact⟨y,e,h _ _ q⟩
  |_=>exact q.elim
 ·cases m with
  |append=>exact⟨q.1,q.2.1,h _ _ q.2.2⟩
  |extend b=>exact⟨q.1,gG (λ m q=>⟨q.1,h _ _ q.2⟩) q.2⟩
  |pop=>exact fc (λ i ⟨c,k,y,e,f,q⟩=>⟨c,k,y,e,f,h _ _ q⟩) q
  |_=>exact q.elim
 ·cases m with
  |insert=>exact fc (λ i ⟨a,b,c,q⟩=>⟨a,b,c,h _ _ q⟩) q
  |_=>exact q.elim
 ·cases m<;>exact q.elim
section
variable {FT:List PSp}{GT:List TV}
theorem bE:∀(c:Ct) {ρ:En}{nx nx':En->Prop}{rt rt':TV->Prop},(∀ρ,nx ρ->nx' ρ)->(∀t,rt t->rt' t)->wS FT GT c ρ nx rt->wS FT GT c ρ nx' rt'
 |.nil,_,_,_,_,_,h,_,q=>h _ q
 |.never,_,_,_,_,_,_,_,q=>q.elim
 |.ret c,_,_,_,_,_,_,g,q=>ao c (λ t q=>⟨q.1,g _ q.2⟩) q
 |.set i c r,_,_,_,_,_,h,g,q=>ao c (λ t q=>⟨q.1,bE r h g q.2⟩) q
 | .sets is c r,_,_,_,_,_,h,g,q=>ao c (λ t q=>by
   cases t with
   |tup l=>exact fg (λ ρ' q=>bE r h g q) q
   |_=>exact q.elim) q
 |.fz i r,ρ,nx,_,rt,_,h,g,q=>bE r h g (show wS FT GT r (fzS ρ i) nx rt from q)
 |.doc r,ρ,nx,_,rt,_,h,g,q=>bE r h g (show wS FT GT r ρ nx rt from q)
 |.ex c r,_,_,_,_,_,h,g,q=>ao c (λ t q=>bE r h g q) q
 |.met m i l r,_,_,_,_,_,h,g,q=>tu (λ xs q=>bL l (λ ts q=>xI (λ y ys q=>bE r h g q) q) q) q
 |.put i c d r,_,_,_,_,_,h,g,q=>tu (λ xs q=>ao d (λ t q=>⟨q.1,ao c (λ u q=>fc (λ k ⟨n,e,q⟩=>⟨n,e,bE r h g q⟩) q) q.2⟩) q) q
 | .ite c a b r,_,_,_,_,_,h,g,q=>ao c (λ t q=>cj (λ k q=>by
   split at q
   ·rw[if_pos (by assumption)];exact bE a (λ ρ q=>bE r h g q) g q
   ·rw[if_neg (by assumption)];exact bE b (λ ρ q=>bE r h g q) g q) q) q
 |.for tg k it b r,_,nx,nx',rt,rt',h,g,q=>by
   refine bL it (λ ts q=>⟨q.1,iC (λ its q=>?_) q.2⟩) q
   have e:∀(l:List TV) (ρ:En),itF (λ t ρ K=>stE ρ tg t λ ρ'=>wS FT GT b ρ' K rt) l ρ (λ ρ'=>wS FT GT r ρ' nx rt)->itF (λ t ρ K=>stE ρ tg t λ ρ'=>wS FT GT b ρ' K rt') l ρ (λ ρ'=>wS FT GT r ρ' nx' rt'):=by
    intro l
    induction l with
    |nil=>intro ρ q;exact bE r h g q
    |cons t l ih=>
     intro ρ q;have q:stE ρ tg t λ ρ'=>wS FT GT b ρ' (λ ρ''=>itF (λ t ρ K=>stE ρ tg t λ ρ'=>wS FT GT b ρ' K rt) l ρ'' λ ρ'=>wS FT GT r ρ' nx rt) rt:=q;exact fg (λ ρ' q=>bE b (λ ρ'' q=>ih ρ'' q) g q) q
   exact e _ _ q
end
structure ER (K:FG)(J:Hp->Prop)(F0:Fz)(H0:Hp)(PN:List (TV×V))(F:Fz)(H:Hp)(σ:St)(ρ:En):Prop where
 ev:EV K J F H σ ρ
 gr:Grow J F0 H0 F H
 nb:∀(i:Nat) l a,ρ[i]?=some (some (.own l))->σ[i]?=some (some (.ref a))->H0 a=none
 di:∀(i k:Nat) l l' v,ρ[i]?=some (some (.own l))->ρ[k]?=some (some (.own l'))->σ[i]?=some (some v)->σ[k]?=some (some v)->i=k
 pn:∀p∈PN,Rp K F H p.1 p.2
section
variable {K:FG}{J:Hp->Prop}{F0 F F':Fz}{H0 H H':Hp}{σ:St}{ρ:En}{PN:List (TV×V)}
def ER.grow(e:ER K J F0 H0 PN F H σ ρ)(g:Grow J F H F' H'):ER K J F0 H0 PN F' H' σ ρ:=⟨e.ev.grow g,e.gr.trans g,e.nb,e.di,λ p hp=>(e.pn p hp).ke g.ke⟩
def eE{ρ:En}{i j:Nat}(h:(ρ.set i (some t))[j]?=some (some (.own l))):(i=j/\t=.own l)\/(i≠j/\ρ[j]?=some (some (.own l))):=by
 rw[dM] at h;split at h
 ·rename_i c;split at h
  ·cases h;exact .inl ⟨c,rfl⟩
  ·cases h
 ·rename_i c;exact .inr ⟨c,h⟩
def gO{σ:St}{i j:Nat}(n:i≠j):(σ.set i v)[j]?=σ[j]?:=by rw[dM,if_neg n]
def ER.set{i:Nat}(e:ER K J F0 H0 PN F H σ ρ)(h:Rp K F H t v)(hi:i<σ.length):ER K J F0 H0 PN F H (σ.set i (some v)) (ρ.set i (some t)):=by
 have no:∀l,t≠.own l:=λ l z=>by subst z;exact h.elim
 refine⟨e.ev.set h hi,e.gr,λ j l a h1 h2=>?_,λ j k l l' w h1 h2 h3 h4=>?_,e.pn⟩
 ·rcases eE h1 with ⟨_,z⟩|⟨n,z⟩
  ·exact absurd z (no l)
  ·rw[gO n] at h2;exact e.nb j l a z h2
 ·rcases eE h1 with ⟨_,z⟩|⟨n,z⟩
  ·exact absurd z (no l)
  ·rcases eE h2 with ⟨_,z'⟩|⟨n',z'⟩
   ·exact absurd z' (no l')
   ·rw[gO n] at h3;rw[gO n'] at h4;exact e.di j k l l' w z z' h3 h4
def ER.own{i:Nat}(e:ER K J F0 H0 PN F H σ ρ)(g:Grow J F H F' H')(h:Rr K H F' H' (.own l) v)(hi:i<σ.length):ER K J F0 H0 PN F' H' (σ.set i (some v)) (ρ.set i (some (.own l))):=by
 obtain⟨a,vs,rfl,na,nf,q,r⟩:=h;have na0:H0 a=none:=e.gr.none na
 have old:∀(j:Nat) l',ρ[j]?=some (some (.own l'))->σ[j]?≠some (some (.ref a)):=λ j l' h1 h2=>by
  obtain⟨v,e1,b,ws,rfl,_,qb,_⟩:=e.ev.sl j _ h1;rw[h2] at e1;cases e1;rw[na] at qb;cases qb
 have eg:=e.grow g;refine⟨⟨eg.ev.w,λ j t hj=>?_⟩,eg.gr,λ j l' b h1 h2=>?_,λ j k l1 l2 w h1 h2 h3 h4=>?_,eg.pn⟩
 ·rw[dM] at hj;split at hj
  ·rename_i c;subst c;split at hj
   ·cases hj;exact⟨.ref a,by rw[dM];simp[hi],a,vs,ca,nf,q,r⟩
   ·cases hj
  ·rename_i c;obtain⟨w,e1,z⟩:=eg.ev.sl j t hj;exact⟨w,by rw[gO c];exact e1,z⟩
 ·rcases eE h1 with ⟨rfl,_⟩|⟨n,z⟩
  ·rw[dM] at h2;simp[hi] at h2;subst h2;exact na0
  ·rw[gO n] at h2;exact e.nb j l' b z h2
 ·rcases eE h1 with ⟨rfl,_⟩|⟨n,z⟩
  ·rcases eE h2 with ⟨rfl,_⟩|⟨n',z'⟩
   ·rfl
   ·rw[dM] at h3;simp[hi] at h3;subst h3;rw[gO n'] at h4;exact absurd h4 (old k l2 z')
  ·rcases eE h2 with ⟨rfl,_⟩|⟨n',z'⟩
   ·rw[dM] at h4;simp[hi] at h4;subst h4;rw[gO n] at h3;exact absurd h3 (old j l1 z)
   ·rw[gO n] at h3;rw[gO n'] at h4;exact e.di j k l1 l2 w z z' h3 h4
set_option tactic.hygienic true in
def ER.fz(e:ER K J F0 H0 PN F H σ ρ)(i:Nat):∃F',ER K J F0 H0 PN F' H σ (fzS ρ i)/\∀a,F a->F' a:=by
 unfold fzS;split
 ·rename_i l hl;obtain⟨v,ev,a,vs,rfl,nf,q,r⟩:=e.ev.sl i _ hl;have na:H0 a=none:=e.nb i l a hl ev;have up:Ke K F H (λ b=>F b\/b=a) H:=.up λ _ f=>.inl f;have ilt:i<σ.length:=(be.mp ev).1;refine⟨λ b=>F b\/b=a,⟨⟨⟨e.ev.w.j,λ b f=>?_⟩,λ j t hj=>?_⟩,e.gr.frz na (by rw[q];simp),λ j l' b h1 h2=>?_,λ j k l1 l2 w h1 h2 h3 h4=>?_,λ p hp=>(e.pn p hp).ke up⟩,λ _ f=>.inl f⟩
  ·rcases f with f|rfl
   ·exact e.ev.w.d b f
   ·rw[q];simp
  ·rw[dM] at hj;split at hj
   ·rename_i c;subst c;split at hj
    ·cases hj;exact⟨.ref a,ev,a,vs,rfl,.inl ⟨.inr rfl,.of q⟩,r.ke up⟩
    ·cases hj
   ·rename_i c;obtain⟨w,e1,z⟩:=e.ev.sl j t hj;refine⟨w,e1,?_⟩
    cases t with
    |own l'=>
     obtain⟨b,ws,rfl,nf',q',r'⟩:=z;refine⟨b,ws,ca,λ z=>?_,q',r'.ke up⟩
     rcases z with z|z
     ·exact nf' z
     ·subst z;exact c (e.di i j l l' _ hl hj ev e1)
    |dct l'=>exact z
    |_=>exact Rp.ke up z
  ·rcases eE h1 with ⟨_,z⟩|⟨n,z⟩
   ·cases z
   ·exact e.nb j l' b z h2
  ·rcases eE h1 with ⟨_,z⟩|⟨n,z⟩
   ·cases z
   ·rcases eE h2 with ⟨_,z'⟩|⟨n',z'⟩
    ·cases z'
    ·exact e.di j k l1 l2 w z z' h3 h4
 ·exact⟨F,e,λ _ f=>f⟩
def ER.fzC(e:ER K J F0 H0 PN F H σ ρ)(c:Cd):∃F',ER K J F0 H0 PN F' H σ (fzC c ρ)/\∀a,F a->F' a:=by
 cases c<;>first|exact e.fz _|exact⟨F,e,λ _ f=>f⟩
def ER.fzV(c:Cd):∀ {F:Fz}{ρ:En},ER K J F0 H0 PN F H σ ρ->∃F',ER K J F0 H0 PN F' H σ (fzV c ρ)/\∀a,F a->F' a:=by
 induction c with
 |cons a r _ ih=>
  intro F ρ e;obtain⟨F1,e1,u1⟩:=e.fzC a;obtain⟨F2,e2,u2⟩:=ih e1;exact⟨F2,e2,λ b f=>u2 b (u1 b f)⟩
 |_=>intro F ρ e;exact⟨F,e,λ _ f=>f⟩
def ER.mut(hJ:JS J){i:Nat}(e:ER K J F0 H0 PN F H σ ρ)(h:ρ[i]?=some (some (.own l)))(hs:σ[i]?=some (some (.ref a)))(r:RpL K F H l' ws):ER K J F0 H0 PN F (upd H a (.lst ws)) σ (ρ.set i (some (.own l')))/\Ke K F H F (upd H a (.lst ws)):=by
 obtain⟨v,ev,b,vs,rfl,nf,q,_⟩:=e.ev.sl i _ h;rw[hs] at ev;cases ev;have na:H0 a=none:=e.nb i l a h hs
 have dom:∀b,H b≠none->upd H a (.lst ws) b≠none:=λ b hb=>by
  by_cases c:b=a
  ·subst c;rw[bP];simp
  ·rw[ay c];exact hb
 have rd:∀b u,(∀vs,u≠.lst vs)->Rd H b u->Rd (upd H a (.lst ws)) b u:=λ b u n h=>by
  rcases h with h|⟨o,h⟩
  ·exact .inl (by rw[ay (λ z=>by subst z;rw[q] at h;cases h;exact n _ rfl)];exact h)
  ·exact .inr ⟨o,by rw[ay (λ z=>by subst z;rw[q] at h;cases h)];exact h⟩
 have ke:Ke K F H F (upd H a (.lst ws)):=⟨λ b vs h=>by
  rcases h with h|h
  ·exact .inl (rd _ _ (λ _ z=>by cases z) h)
  ·exact .inr h,λ b vs h=>h.imp λ f h=>⟨f,by
  have ba:b≠a:=λ z=>by subst z;exact nf f
  rcases h with h|h
  ·refine .inl ?_
   rcases h with h|⟨o,h⟩
   ·exact .inl (by rw[ay ba];exact h)
   ·exact .inr ⟨o,by rw[ay ba];exact h⟩
  ·exact .inr h⟩⟩
 have ilt:i<ρ.length:=(be.mp h).1;refine⟨⟨⟨⟨hJ.mu H a vs ws q e.ev.w.j,λ b f=>dom b (e.ev.w.d b f)⟩,λ j t hj=>?_⟩,⟨λ b o n hb=>?_,λ b hb=>dom b (e.gr.dm b hb),e.gr.up,e.gr.nw,hJ.mu H a vs ws q e.ev.w.j,λ b f=>dom b (e.ev.w.d b f)⟩,λ j l1 b h1 h2=>?_,λ j k l1 l2 w h1 h2 h3 h4=>?_,λ p hp=>(e.pn p hp).ke ke⟩,ke⟩
 ·rw[dM] at hj;split at hj
  ·rename_i c;subst c;cases hj;exact⟨.ref a,hs,a,ws,ca,nf,bP,r.ke ke⟩
  ·rename_i c;obtain⟨w,e1,z⟩:=e.ev.sl j t hj;refine⟨w,e1,?_⟩
   cases t with
   |own l1=>
    obtain⟨b,us,rfl,nf',q',r'⟩:=z;have ba:b≠a:=λ z=>by subst z;exact c (e.di i j l l1 _ h hj hs e1)
    exact⟨b,us,ca,nf',by rw[ay ba];exact q',r'.ke ke⟩
   |dct l'=>obtain⟨b,e2,q'⟩:=z;exact⟨b,e2,by rw[ay (λ z=>by subst z;rw[q] at q';cases q')];exact q'⟩
   |_=>exact Rp.ke ke z
 ·rw[ay (λ z=>by subst z;rw[na] at hb;cases hb)];exact e.gr.sm b o n hb
 ·rcases eE h1 with ⟨rfl,_⟩|⟨n,z⟩
  ·rw[hs] at h2;cases h2;exact na
  ·exact e.nb j l1 b z h2
 ·have f:∀(j:Nat) (l:List TV),(ρ.set i (some (TV.own l')))[j]?=some (some (TV.own l))->∃l,ρ[j]?=some (some (TV.own l)):=λ j l1 h1=>by
   rcases eE h1 with ⟨rfl,_⟩|⟨n,z⟩
   ·exact⟨l,h⟩
   ·exact⟨l1,z⟩
  obtain⟨m1,z1⟩:=f j l1 h1;obtain⟨m2,z2⟩:=f k l2 h2;exact e.di j k m1 m2 w z1 z2 h3 h4
end
noncomputable def mmN:MM->Str
 |.append=> "append" |.insert=> "insert" |.extend _=> "__name__" |.pop=> "pop"
noncomputable def plE:Expr->Bool
 |.ListComp ..=>false|.SetComp ..=>false|.DictComp ..=>false|.Tuple ..=>false|.List ..=>false|_=>true
noncomputable def lcl(N:List Str)(nm:List (Str×NameKind))(i:Nat)(x:Str):Bool:=decide (N[i]?=some x)&&(decide (nm.lookup x=some .local) || decide (nm.lookup x=some .cell))
noncomputable def ckM(fs gs:List Str)(N:List Str)(nm:List (Str×NameKind))(m:MM)(i:Nat)(l:Cd)(e:Expr):Bool:=cE e λ g es w cp=>sU g λ o name ap=>bq o λ x _=>w.isEmpty&&decide (N[i]?=some x)&&vs nm x&&okN x&&decide (name=mmN m)&&decide (name ≠ "__name__" /\ ap.endLine=cp.line/\es.length<20)&&ckL fs gs l N nm es
def xJ:Const->Bool
 |.str _=>true|_=>false
noncomputable def qAs(l:List Stmt)(k:List Expr->Expr->Pos->List Stmt->Bool):Bool:=match l with|.Assign x p q::l=>k x p q l|_=>false
@[elab_as_elim] theorem jC{motive:List Stmt->Prop}{l:List Stmt}{k:List Expr->Expr->Pos->List Stmt->Bool}(h:qAs l k=true)(f:∀x p q t,k x p q t=true->motive (.Assign x p q::t)):motive l:=by
 cases l with
 |nil=>exact Bool.noConfusion h
 |cons a t=>cases a<;>first|exact f _ _ _ _ h|exact Bool.noConfusion h
noncomputable def qRe(l:List Stmt)(k:Option Expr->Pos->List Stmt->Bool):Bool:=match l with|.Return x p::l=>k x p l|_=>false
@[elab_as_elim] theorem pK{motive:List Stmt->Prop}{l:List Stmt}{k:Option Expr->Pos->List Stmt->Bool}(h:qRe l k=true)(f:∀x p t,k x p t=true->motive (.Return x p::t)):motive l:=by
 cases l with
 |nil=>exact Bool.noConfusion h
 |cons a t=>cases a<;>first|exact f _ _ _ h|exact Bool.noConfusion h
noncomputable def qEx(l:List Stmt)(k:Expr->Pos->List Stmt->Bool):Bool:=match l with|.Expr x p::l=>k x p l|_=>false
@[elab_as_elim] theorem mQ{motive:List Stmt->Prop}{l:List Stmt}{k:Expr->Pos->List Stmt->Bool}(h:qEx l k=true)(f:∀x p t,k x p t=true->motive (.Expr x p::t)):motive l:=by
 cases l with
 |nil=>exact Bool.noConfusion h
 |cons a t=>cases a<;>first|exact f _ _ _ h|exact Bool.noConfusion h
noncomputable def qIf(l:List Stmt)(k:Expr->List Stmt->List Stmt->Pos->List Stmt->Bool):Bool:=match l with|.If x p q r::l=>k x p q r l|_=>false
@[elab_as_elim] theorem xK{motive:List Stmt->Prop}{l:List Stmt}{k:Expr->List Stmt->List Stmt->Pos->List Stmt->Bool}(h:qIf l k=true)(f:∀x p q r t,k x p q r t=true->motive (.If x p q r::t)):motive l:=by
 cases l with
 |nil=>exact Bool.noConfusion h
 |cons a t=>cases a<;>first|exact f _ _ _ _ _ h|exact Bool.noConfusion h
noncomputable def qFo(l:List Stmt)(k:Expr->Expr->List Stmt->List Stmt->Pos->List Stmt->Bool):Bool:=match l with|.For x p q r s::l=>k x p q r s l|_=>false
@[elab_as_elim] theorem IW{motive:List Stmt->Prop}{l:List Stmt}{k:Expr->Expr->List Stmt->List Stmt->Pos->List Stmt->Bool}(h:qFo l k=true)(f:∀x p q r s t,k x p q r s t=true->motive (.For x p q r s::t)):motive l:=by
 cases l with
 |nil=>exact Bool.noConfusion h
 |cons a t=>cases a<;>first|exact f _ _ _ _ _ _ h|exact Bool.noConfusion h
noncomputable def qWh(l:List Stmt)(k:Expr->List Stmt->List Stmt->Pos->List Stmt->Bool):Bool:=match l with|.While x p q r::l=>k x p q r l|_=>false
@[elab_as_elim] theorem Qd{motive:List Stmt->Prop}{l:List Stmt}{k:Expr->List Stmt->List Stmt->Pos->List Stmt->Bool}(h:qWh l k=true)(f:∀x p q r t,k x p q r t=true->motive (.While x p q r::t)):motive l:=by
 cases l with
 |nil=>exact Bool.noConfusion h
 |cons a t=>cases a<;>first|exact f _ _ _ _ _ h|exact Bool.noConfusion h
noncomputable def qTr(l:List Stmt)(k:List Stmt->List ExceptHandler->List Stmt->List Stmt->Pos->List Stmt->Bool):Bool:=match l with|.Try x p q r s::l=>k x p q r s l|_=>false
def IY(h:qTr l k=true):∃x p q r s t,l=.Try x p q r s::t/\k x p q r s t=true:=by
 cases l with
 |nil=>exact Bool.noConfusion h
 |cons a t=>cases a<;>first|exact⟨_,_,_,_,_,_,rfl,h⟩|exact Bool.noConfusion h
section
variable (fs gs:List Str)(N:List Str)(nm:List (Str×NameKind))
noncomputable def bh:Bool->Ct->List Stmt->Bool
 |_,.nil,sts=>sts.isEmpty
 |_,.never,_=>true
 |_,.ret c,sts=>qRe sts λ e _ _=>(match e with|some e=>ck fs gs c N nm e|none=>false)
 |lp,.set i c r,sts=>qAs sts λ ts e _ rest=>c1 ts λ t=>bq t λ x _=>lcl N nm i x&&ck fs gs c N nm e&&bh lp r rest
 |lp,.sets is c r,sts=>qAs sts λ ts e _ rest=>c1 ts λ tg=>ckT true N nm is tg&&kX tg&&plE e&&ck fs gs c N nm e&&bh lp r rest
 |lp,.fz _ r,sts=>bh lp r sts
 |lp,.doc r,sts=>qEx sts λ e _ rest=>jv e λ k _ _=>xJ k&&bh lp r rest
 |lp,.ex c r,sts=>qEx sts λ e _ rest=>plE e&&ck fs gs c N nm e&&bh lp r rest
 |lp,.met m i l r,sts=>qEx sts λ e _ rest=>ckM fs gs N nm m i l e&&bh lp r rest
 |lp,.put i c d r,sts=>qAs sts λ ts e _ rest=>c1 ts λ t=>mL t λ o y _=>bq o λ x _=>decide (N[i]?=some x)&&vs nm x&&okN x&&ju y&&ck fs gs c N nm y&&ck fs gs d N nm e&&bh lp r rest
 |lp,.ite c a b r,sts=>qIf sts λ t x y _ rest=>tB' c t&&ck fs gs c N nm t&&bh lp a x&&bh lp b y&&bh lp r rest
 |lp,.for tg k it b r,sts=>qFo sts λ t iter body els _ rest=>els.isEmpty&&lp&&ckT true N nm tg t&&ckI fs gs it k t N nm iter&&bh lp b body&&bh lp r rest
end
section
variable {J:Hp->Prop}{FT:List PSp}{GT:List TV}{fs gs:List Str}{N:List Str}{nm:List (Str×NameKind)}{F0:Fz}{H0:Hp}{PN:List (TV×V)}
def PS.imp{st:Stmt}{t t':TS}(h:PS X st t)(i:∀D σ H,t' D σ H->t D σ H):PS X st t':=λ pins s σ H D I q=>h pins s σ H D I (i D σ H q)
def PSs.imp{st:List Stmt}{t t':TS}(h:PSs X st t)(i:∀D σ H,t' D σ H->t D σ H):PSs X st t':=λ pins s σ H D I q=>h pins s σ H D I (i D σ H q)
noncomputable def nxR(K:FG)(J:Hp->Prop)(F0:Fz)(H0:Hp)(PN:List (TV×V))(n:Nat)(P:St->Hp->Prop)(ρ:En):Prop:=∀F' H' σ',ER K J F0 H0 PN F' H' σ' ρ->σ'.length=n->P σ' H'
noncomputable def rtR(K:FG)(J:Hp->Prop)(F0:Fz)(H0:Hp)(P:VK)(t:TV):Prop:=∀F' H' v,Grow J F0 H0 F' H'->Rp K F' H' t v->P v H'
noncomputable def rS(K:FG)(J:Hp->Prop)(FT:List PSp)(GT:List TV)(n:Nat)(F0:Fz)(H0:Hp)(PN:List (TV×V))(c:Ct):TS:=λ D σ H=>∃F ρ,ER K J F0 H0 PN F H σ ρ/\σ.length=n/\wS FT GT c ρ (nxR K J F0 H0 PN n D.nx) (rtR K J F0 H0 D.rt)
def ER.rr{K:FG}{i:Nat}(e:ER K J F0 H0 PN F H σ ρ)(g:Grow J F H F' H')(h:Rr K H F' H' t v)(nb:t.nb=true)(hi:i<σ.length):ER K J F0 H0 PN F' H' (σ.set i (some v)) (ρ.set i (some t)):=by
 cases t with
 |own l=>exact e.own g h hi
 |bor l=>cases nb
 |_=>exact(e.grow g).set h hi
def mR{x:Str}(xs:XS X N nm)(hf:∀x,X.env.scope.names.lookup x=some .cell->X.fn x=true)(h:lcl N nm i x=true):X.N[i]?=some x/\Loc X.env.scope x/\(X.fn x=true\/X.env.scope.names.lookup x=some .local)/\i<N.length:=by
 unfold lcl at h;rw[aU,mM] at h;have e:=au h.1;have lo:Loc X.env.scope x:=by unfold Loc;rw[xs.nm];exact h.2.imp au au
 exact⟨by rw[xs.N];exact e,lo,lo.elim .inr λ z=>.inl (hf x z),(be.mp e).1⟩
def mS(h:plE e=true):swapsWith e t n env=pure false:=by cases e<;>first|rfl|cases h
def IZ{own fv:List Str}{js tgs:List Nat}(hJ:JS J)(lt:∀i∈tgs,i<own.length)(h:rE X.K J FT GT (.comp own fv js tgs k it e) σ H Q):kn (rW X.K J FT GT k it) own.length js (tgG X.K tgs) (rE X.K J FT GT e) σ H Q:=by
 obtain⟨F,ρ,ev,w⟩:=h;refine⟨F,ρ,ev,bL it (λ ts w=>iC (λ its w F1 H1 xs Jt g1 rx ok=>?_) w) w⟩;obtain⟨hn,w⟩:=w
 have z:=pF (tc:=λ σ H Q=>Q true H) (te:=rE X.K J FT GT e) hJ g1 rx ok ev lt hn (λ t K'=>stE (cEn own js ρ) tgs t λ ρ'=>wE FT GT e ρ' λ y=>(y.nb=true/\K' [y.fz])) (λ t K K' h q=>fg (λ ρ' q=>ao e (λ y q=>⟨q.1,h _ q.2⟩) q) q) w
  (λ t P x F' H' σ' b ev' sl rt R fin=>pq b ev' rt (λ i hi=>by rw[sl];unfold cT;simp;have:=lt i hi;lia) λ σ2 ρ2 p ev2 sl2 keep=>by
   show if true=true then _ else _;rw[if_pos rfl];refine⟨F',ρ2,ev2,ao e (λ y ⟨nb,p⟩ F2 H2 v g r=>?_) p⟩;obtain⟨F3,g3,_,_,rp⟩:=r.frz g nb
   exact fin [y.fz] [v] σ2 F3 H2 p (av _) g3 ⟨v,[],ca,rp,ca⟩ ((keep _ ev' λ i hi u=>pE (lt i hi) u).grow g3) sl2)
 simpa only[dI] using z
def Ja{own fv:List Str}{js tgs:List Nat}(hJ:JS J)(lt:∀i∈tgs,i<own.length)(h:rE X.K J FT GT (.compI own fv js tgs k it c e) σ H Q):jf (rW X.K J FT GT k it) own.length js (tgG X.K tgs) (rT X.K J FT GT c) (rE X.K J FT GT e) σ H Q:=by
 obtain⟨F,ρ,ev,w⟩:=h;refine⟨F,ρ,ev,bL it (λ ts w=>iC (λ its w F1 H1 xs Jt g1 rx ok=>?_) w) w⟩;obtain⟨hn,w⟩:=w
 exact pF (tc:=rT X.K J FT GT c) (te:=rE X.K J FT GT e) hJ g1 rx ok ev lt hn (λ t K'=>stE (cEn own js ρ) tgs t λ ρ'=>wE FT GT c ρ' λ x=>b1 x λ q=>if q=true then wE FT GT e ρ' λ y=>(y.nb=true/\K' [y.fz]) else K' []) (λ t K K' h q=>fg (λ ρ' q=>ao c (λ x q=>cj (λ z q=>by
   split at q
   ·rw[if_pos (by assumption)];exact ao e (λ y q=>⟨q.1,h _ q.2⟩) q
   ·rw[if_neg (by assumption)];exact h _ q) q) q) q) w
  (λ t P x F' H' σ' b ev' sl rt R fin=>pq b ev' rt (λ i hi=>by rw[sl];unfold cT;simp;have:=lt i hi;lia) λ σ2 ρ2 p ev2 sl2 keep=>by
   have kp:=keep _ ev' λ i hi u=>pE (own:=own) (js:=js) (ρ:=ρ) (lt i hi) u;refine⟨F',ρ2,ev2,ao c (λ x w=>cj (λ q w2 F2 H2 g2=>?_) w) p⟩;split at w2
   ·rw[if_pos (by assumption)];refine⟨F2,ρ2,ev2.grow g2,ao e (λ y ⟨nb,p⟩ F3 H3 v g r=>?_) w2⟩;obtain⟨F4,g4,_,_,rp⟩:=r.frz g nb;exact fin [y.fz] [v] σ2 F4 H3 p (av _) (g2.trans g4) ⟨v,[],ca,rp,ca⟩ ((kp.grow g2).grow g4) sl2
   ·rw[if_neg (by assumption)]
    exact fin [] [] σ2 F2 H2 w2 (bS _) g2 rfl (kp.grow g2) sl2)
theorem xL{i:Nat}(xo:XOk X J FT GT fs gs)(xs:XS X N nm)(hN:X.N.Nodup)(hi:X.N[i]?=some x)(hx:Loc X.env.scope x)(hf:X.fn x=true\/X.env.scope.names.lookup x=some .local)(h:ck fs gs c N nm e=true) :
  PS X (.Assign [.Name x p'] e pos) (jT (rE X.K J FT GT c) (dH i)):=by
 have plain:swapsWith e (some (.Name x p')) pos.line X.env=pure false->PS X (.Assign [.Name x p'] e pos) (jT (rE X.K J FT GT c) (dH i)):=λ hs=>qO hN hi hx (sE c xo xs h) hs hf
 cases e with
 |ListComp elt gens sc lp=>
  cases hb:(X.env.blockKind == .function&&X.env.kindOf x == some .local&&p'.line == (Expr.ListComp elt gens sc lp).pos.line && !(sc.names.any λ(n,k)=>n == x&&(k == .local || k == .cell))) with
  |false=>exact plain (by show(pure _:Sem Bool)=_;rw[<- hb])
  |true=>
   have hsw:swapsWith (.ListComp elt gens sc lp) (some (.Name x p')) pos.line X.env=pure true:=by show(pure _:Sem Bool)=_;rw[<- hb]
   cases c with
   |comp own fv js tgs k it e=>
    obtain⟨_,_,_,_,e1,g⟩:=ph h;cases e1;obtain⟨⟨t,iter,ifs,z⟩,rfl,g'⟩:=jw g;obtain⟨g0,g1,h1,h2,h3,h4,h5⟩:=a7 g';cases (show ifs=[] from List.isEmpty_iff.mp g0);cases au g1;intro pins s σ H D I q;obtain⟨cl,S⟩:=mO I.ok xs h1;have yx:∀(C:Addr) (ex:List Addr) (s:Shared) (H:Hp),XS (bp X (own++fv) sc cl C ex s H) (own++fv) (bI nm sc.names):=λ C ex s H=>⟨rfl,S.rel⟩;have lt:∀i∈tgs,i<own.length:=λ i hi=>au (gF.mp h4 i hi);exact FV (g:=tgG X.K tgs) (te:=rE X.K J FT GT e) hN hi hx hf xo.calm (sI it k xo xs h2) S.clos S.cell S.kind S.names S.sub S.has S.len S.cap (λ C ex s H=>(jy (X:=bp X (own++fv) sc cl C ex s H) S.nd xo.calm (yx C ex s H) (λ z=>by cases z) h3).1) (λ C ex s H=>sE e (lh xo) (yx C ex s H) h5) hsw (λ x=>kZ (mP h2)) pins s σ H D I (IZ xo.hJ lt q)
   |compI own fv js tgs k it c e=>
    obtain⟨_,_,_,_,e1,g⟩:=ph h;cases e1;obtain⟨⟨t,iter,ifs,z⟩,rfl,g'⟩:=jw g;obtain⟨cnd,e2,g⟩:=jw g';cases e2;obtain⟨g1,h1,h2,h3,h4,h7,h5,h6⟩:=a8 g;cases au g1;intro pins s σ H D I q;obtain⟨cl,S⟩:=mO I.ok xs h1;have yx:∀(C:Addr) (ex:List Addr) (s:Shared) (H:Hp),XS (bp X (own++fv) sc cl C ex s H) (own++fv) (bI nm sc.names):=λ C ex s H=>⟨rfl,S.rel⟩;have lt:∀i∈tgs,i<own.length:=λ i hi=>au (gF.mp h4 i hi);exact GL (g:=tgG X.K tgs) (tc:=rT X.K J FT GT c) (te:=rE X.K J FT GT e) hN hi hx hf xo.calm (sI it k xo xs h2) S.clos S.cell S.kind S.names S.sub S.has S.len S.cap (λ C ex s H=>(jy (X:=bp X (own++fv) sc cl C ex s H) S.nd xo.calm (yx C ex s H) (λ z=>by cases z) h3).1) (λ C ex s H=>sE e (lh xo) (yx C ex s H) h6) (λ C ex s H=>sT c (lh xo) (yx C ex s H) h7 h5) hsw (λ x=>kZ (mP h2)) pins s σ H D I (Ja xo.hJ lt q)
   |_=>exact Bool.noConfusion h
 |SetComp=>cases c<;>exact Bool.noConfusion h
 |DictComp=>cases c<;>exact Bool.noConfusion h
 |_=>exact plain rfl
end
section
variable {J:Hp->Prop}{FT:List PSp}{GT:List TV}{fs gs:List Str}{N:List Str}{nm:List (Str×NameKind)}{F0:Fz}{H0:Hp}{PN:List (TV×V)}
noncomputable def rM(K:FG)(J:Hp->Prop)(FT:List PSp)(GT:List TV)(F0:Fz)(H0:Hp)(PN:List (TV×V))(m:MM)(i:Nat)(l:Cd):TE:=λ σ H Q=>∃F ρ,ER K J F0 H0 PN F H σ ρ/\iH ρ[i]? λ xs=>wL FT GT l ρ λ ts=>mtP m xs ts λ y ys=>∀F' H' v,ER K J F0 H0 PN F' H' σ (ρ.set i (some (.own ys)))->Rp K F' H' y v->Q v H'
def ER.at_{K:FG}{i:Nat}(e:ER K J F0 H0 PN F H σ ρ)(h:ρ[i]?=some (some (.own l))):∃a vs,σ[i]?=some (some (.ref a))/\H a=some (.lst vs)/\RpL K F H l vs:=by
 obtain⟨v,e1,a,vs,rfl,_,q,r⟩:=e.ev.sl i _ h;exact⟨a,vs,e1,q,r⟩
def rl2{K:FG}{t u:TV}{vs:List V}(h:RpL K F H [t,u] vs):∃x y,vs=[x,y]/\Rp K F H t x/\Rp K F H u y:=by
 obtain⟨x,r,rfl,h1,y,r',rfl,h2,rfl⟩:=h;exact⟨x,y,ca,h1,h2⟩
def rl1{K:FG}{t:TV}{vs:List V}(h:RpL K F H [t] vs):∃x,vs=[x]/\Rp K F H t x:=by
 obtain⟨x,r,rfl,h1,rfl⟩:=h;exact⟨x,ca,h1⟩
def RpL.dropLast{K:FG}{vs:List V}(h:RpL K F H l vs):RpL K F H l.dropLast vs.dropLast:=by
 rw[s0a,s0a,<- h.length];exact h.take _
def RpL.eraseIdx{K:FG}{vs:List V}(h:RpL K F H l vs)(k:Nat):RpL K F H (l.eraseIdx k) (vs.eraseIdx k):=by
 rw[mU,mU];exact(h.take k).append (h.drop _)
theorem Jb(hJ:JS J){i:Nat}{Q:VK}(e:ER X.K J F0 H0 PN F H σ ρ)(h:ρ[i]?=some (some (.own l)))(ha:σ[i]?=some (some (.ref a)))(g:Grow J F H F1 H1)(r:RrL X.K H F1 H1 ts ws)
  (w:mtP m l ts λ y ys=>∀F' H' v,ER X.K J F0 H0 PN F' H' σ (ρ.set i (some (.own ys)))->Rp X.K F' H' y v->Q v H') :
  (m=.append/\oq (.ref a) ws H1 Q)\/(m=.insert/\oO (.ref a) ws H1 Q)\/(∃b,m=.extend b/\∃c vs zs,ws=[.ref c]/\SqB X.K b H1 c zs/\H1 a=some (.lst vs)/\vs.length+zs.length<=sizeLine/\Q .non (upd H1 a (.lst (vs++zs))))\/(m=.pop/\ou (.ref a) ws H1 Q)\/(m=.pop/\lZ (.ref a) ws H1 Q):=by
 rcases ts with _|⟨t,_|⟨u,_|⟨z,rr⟩⟩⟩
 ·cases m with
  |pop=>
   cases r;obtain⟨y,ey,w⟩:=w;have e1:=e.grow g;obtain⟨b,vs,eb,q,rl⟩:=e1.at_ h;rw[ha] at eb;cases eb;obtain⟨v,ev,rv⟩:=rl.get ey;obtain⟨em,ke⟩:=e1.mut hJ h ha rl.dropLast;exact .inr (.inr (.inr (.inl ⟨ca,a,vs,v,ca,ca,q,by rw[<- rl.length];exact ev,w _ _ _ em (rv.ke ke)⟩)))
  |_=>exact w.elim
 ·cases m with
  |append=>
   obtain⟨nb,lz,w⟩:=w;obtain⟨F2,g2,_,r2⟩:=iG g r (by rw[cw,nb];rfl);obtain⟨x,rfl,rx⟩:=rl1 r2;have e1:=e.grow g2;obtain⟨b,vs,eb,q,rl⟩:=e1.at_ h;rw[ha] at eb;cases eb;obtain⟨em,ke⟩:=e1.mut hJ h ha (rl.append (show RpL X.K F2 H1 [t.fz] [x] from ⟨x,[],rfl,rx,rfl⟩));exact .inl ⟨ca,a,vs,x,ca,ca,q,by rw[<- rl.length];exact lz,w _ _ _ em rfl⟩
  |extend bb=>
   obtain⟨nb,w⟩:=w;obtain⟨mm,em',lz,w⟩:=py w;have e1:=e.grow g;obtain⟨b,vs,eb,q,rl⟩:=e1.at_ h;rw[ha] at eb;cases eb;obtain⟨x,rfl,rt⟩:=iE r;obtain⟨c,zs,rfl,qc,rz⟩:=rt.vw.b em';obtain⟨em,ke⟩:=e1.mut hJ h ha (rl.append rz);exact .inr (.inr (.inl ⟨bb,ca,c,vs,zs,ca,qc,q,by rw[<- rl.length,<- rz.length];exact lz,w _ _ _ em rfl⟩))
  |pop=>
   obtain⟨k,rfl,c,n,y,e2,ey,w⟩:=fW w;obtain⟨x,rfl,rt⟩:=iE r;cases rt;have e1:=e.grow g;obtain⟨b,vs,eb,q,rl⟩:=e1.at_ h;rw[ha] at eb;cases eb;obtain⟨v,ev,rv⟩:=rl.get ey;obtain⟨em,ke⟩:=e1.mut hJ h ha (rl.eraseIdx n);exact .inr (.inr (.inr (.inr ⟨ca,a,vs,k,n,v,ca,ca,q,c.1,c.2,by rw[<- rl.length];exact e2,ev,w _ _ _ em (rv.ke ke)⟩)))
  |_=>exact w.elim
 ·cases m with
  |insert=>
   obtain⟨k,rfl,nb,c,lz,w⟩:=fW w;obtain⟨F2,g2,_,r2⟩:=iG g r (by rw[cw,cw,nb];rfl);obtain⟨x,y,rfl,rx,ry⟩:=rl2 r2;cases rx;have e1:=e.grow g2;obtain⟨b,vs,eb,q,rl⟩:=e1.at_ h;rw[ha] at eb;cases eb;obtain⟨em,ke⟩:=e1.mut hJ h ha ((rl.take k.toNat).append (show RpL X.K F2 H1 (u.fz::l.drop k.toNat) (y::vs.drop k.toNat) from ⟨y,_,rfl,ry,rl.drop _⟩));exact .inr (.inl ⟨ca,a,vs,k,y,ca,ca,q,c.1,by rw[<- rl.length];exact c.2,by rw[<- rl.length];exact lz,w _ _ _ em rfl⟩)
  |_=>exact w.elim
 ·cases m<;>exact w.elim
def Jc{i:Nat}{p ap cp:Pos}{es:List Expr}(xo:XOk X J FT GT fs gs)(xs:XS X N nm)(h1:N[i]?=some x)(h2:vs nm x=true)(h3:okN x=true)(h0:mmN m ≠ "__name__")(h5:ap.endLine=cp.line)(h6:es.length<20)(h7:ckL fs gs l N nm es=true):PE X (.Call (.Attribute (.Name x p) (mmN m) ap) es [] cp) (rM X.K J FT GT F0 H0 PN m i l):=by
 obtain⟨d1,d2,_⟩:=db h3;have hv:PE X (.Name x p) (cR i):=iW (by rw[xs.N];exact h1) (kY xs h2) d1 d2;have hl:=jg.mpr h5;have st:=jB h7;have ha:=sL l xo xs h7
 have rd:∀ {r:V->List V->Hp->VK->Prop}{σ:St}{H:Hp}{Q:VK},rM X.K J FT GT F0 H0 PN m i l σ H Q->(∀ {a ws H1},((m=.append/\oq (.ref a) ws H1 Q)\/(m=.insert/\oO (.ref a) ws H1 Q)\/(∃b,m=.extend b/\∃c vs zs,ws=[.ref c]/\SqB X.K b H1 c zs/\H1 a=some (.lst vs)/\vs.length+zs.length<=sizeLine/\Q .non (upd H1 a (.lst (vs++zs))))\/(m=.pop/\ou (.ref a) ws H1 Q)\/(m=.pop/\lZ (.ref a) ws H1 Q))->r (.ref a) ws H1 Q) ->
   ∃a,σ[i]?=some (some (.ref a))/\(tyV X.K "list" (.ref a) H)/\rA X.K J FT GT l σ H λ ws H1=>r (.ref a) ws H1 Q:=λ {r σ H Q} ⟨F,ρ,e,w⟩ hr=>by
  obtain⟨ys,hy,w⟩:=pJ w;obtain⟨a,vs,ea,q,_⟩:=e.at_ hy;exact⟨a,ea,.inl ⟨ca,vs,.of q⟩,F,ρ,e.ev,bL l (λ ts w F1 H1 ws g r=>hr (Jb xo.hJ e hy ea g r w)) w⟩
 have tv:∀ {σ:St}{H:Hp}{P:VK}{a:Addr},σ[i]?=some (some (.ref a))->P (.ref a) H->cR i σ H P:=λ {σ H P a} e p=>by unfold cR;rw[e];exact p
 cases es with
 |nil=>
  cases m with
  |pop=>
   refine(DY (apos:=ap) (cpos:=cp) lj s0b s0c Ec hv rfl hl).imp λ σ H Q q=>?_
   have l0:l=.nil:=by cases l<;>first|rfl|exact Bool.noConfusion h7
   subst l0
   obtain⟨a,ea,ty,F,ρ,ev,w⟩:=rd (r:=λ x ws H Q=>ws=[]->ou x [] H Q) q (λ h z=>by
    subst z
    rcases h with ⟨z,_⟩|⟨z,_⟩|⟨_,z,_⟩|⟨_,h⟩|⟨_,h⟩
    ·cases z
    ·cases z
    ·cases z
    ·exact h
    ·obtain⟨_,_,_,_,_,_,z,_⟩:=h;cases z)
   exact tv ea ⟨ty,w F H [] (.refl ev.w) .nil rfl⟩
  |append=>
    intro pins s σ H Q I q
    have l0:l=.nil:=by cases l<;>first|rfl|exact Bool.noConfusion h7
    subst l0;obtain⟨F,ρ,e,w⟩:=q;obtain⟨_,_,w⟩:=pJ w;exact w.elim
  |insert=>
    intro pins s σ H Q I q
    have l0:l=.nil:=by cases l<;>first|rfl|exact Bool.noConfusion h7
    subst l0;obtain⟨F,ρ,e,w⟩:=q;obtain⟨_,_,w⟩:=pJ w;exact w.elim
  |extend b=>exact absurd rfl h0
 |cons y es=>
  have sy:aF y=true:=by rw[cw,aU] at st;exact st.1
  have ss:es.all aF=true:=by rw[cw,aU] at st;exact st.2
  cases m with
  |append=>
   refine(lX (apos:=ap) (cpos:=cp) lj PySem.F.slot_list_append PySem.F.type_list_append Eb hv ha rfl (pG st h6) hl (aP sy) (fY ss)).imp λ σ H Q q=>?_
   obtain⟨a,ea,ty,w⟩:=rd (r:=oq) q (λ h=>by
    rcases h with ⟨_,h⟩|⟨z,_⟩|⟨_,z,_⟩|⟨z,_⟩|⟨z,_⟩
    ·exact h
    all_goals cases z)
   exact tv ea ⟨ty,w⟩
  |insert=>
   refine(lX (apos:=ap) (cpos:=cp) lj PySem.F.slot_list_insert PySem.F.type_list_insert GF hv ha rfl (pG st h6) hl (aP sy) (fY ss)).imp λ σ H Q q=>?_
   obtain⟨a,ea,ty,w⟩:=rd (r:=oO) q (λ h=>by
    rcases h with ⟨z,_⟩|⟨_,h⟩|⟨_,z,_⟩|⟨z,_⟩|⟨z,_⟩
    ·cases z
    ·exact h
    all_goals cases z)
   exact tv ea ⟨ty,w⟩
  |pop=>
   refine(lX (apos:=ap) (cpos:=cp) lj s0b s0c FU hv ha rfl (pG st h6) hl (aP sy) (fY ss)).imp λ σ H Q q=>?_
   obtain⟨a,ea,ty,w⟩:=rd (r:=λ x ws H Q=>ws≠[]->lZ x ws H Q) q (λ h n=>by
    rcases h with ⟨z,_⟩|⟨z,_⟩|⟨_,z,_⟩|⟨_,h⟩|⟨_,h⟩
    ·cases z
    ·cases z
    ·cases z
    ·obtain⟨_,_,_,_,z,_⟩:=h;exact absurd z n
    ·exact h)
   refine tv ea ⟨ty,?_⟩;obtain⟨F,ρ,ev,w⟩:=w;refine⟨F,ρ,ev,?_⟩
   cases l with
   |cons b r=>exact ao b (λ t w=>bL r (λ ts w F' H' vs g rr=>w F' H' vs g rr (λ z=>by subst z;cases rr)) w) w
   |_=>exact Bool.noConfusion h7
  |extend b=>exact absurd rfl h0
def Jd(xo:XOk X J FT GT fs gs)(xs:XS X N nm)(h:ckM fs gs N nm m i l e=true):PE X e (rM X.K J FT GT F0 H0 PN m i l)/\plE e=true:=by
 refine cF h λ g es w cp k1=>?_;refine xn k1 λ o name ap k2=>?_;refine bg k2 λ x p k3=>?_;obtain⟨z0,h1,h2,h3,z1,z2,h7⟩:=a7 k3;refine bM z0 ?_;cases au z1;obtain⟨h0,h5,h6⟩:=au z2;exact⟨Jc xo xs (au h1) h2 h3 h0 h5 h6 h7,ca⟩
end
section
variable {J:Hp->Prop}{FT:List PSp}{GT:List TV}{fs gs:List Str}{N:List Str}{nm:List (Str×NameKind)}{F0:Fz}{H0:Hp}
theorem Je{K:PySem.W.Frag}{ts its:List TV}{n:Nat}{D:Ends}{tb:TS}(b:TV->En->(En->Prop)->Prop)(P:En->Prop)
  (e1:ER K J F0 H0 PN F1 H1 σ ρ) (sl:σ.length=n) (rx:RpL K F1 H1 (ts.map TV.fz) xs) (ok:ItOk K J Jt its ts xs) (w:itF b its ρ P) (fin:∀ρ',P ρ'->nxR K J F0 H0 PN n D.nx ρ')
  (st:∀t ρ' F' H' σ' x (Q:En->Prop) (D':Ends),b t ρ' Q->ER K J F0 H0 ((ts.map TV.fz).zip xs++PN) F' H' σ' ρ'->σ'.length=n->Rp K F' H' t x->D'.rt=D.rt->(∀ρ2,Q ρ2->nxR K J F0 H0 ((ts.map TV.fz).zip xs++PN) n D'.nx ρ2)->tgG K tgs x σ' H' λ σ2 H2=>tb D' σ2 H2) :
  ∃W:Nat->Nat->St->Hp->Prop,(∃m,W 0 m σ H1)/\∀i m σ H,W i m σ H ->
   (Jt.stop i H/\D.nx σ H)\/(Jt.go i H/\∃N:St->Hp->Prop,(∀σ' H',N σ' H'->∃m',m'<m/\W (i+1) m' σ' H')/\∀x H',Jt.yld i H x H'->tgG K tgs x σ H' λ σ2 H2=>tb { D with nx:=N,ct:=N,bk:=D.nx } σ2 H2):=by
 have zl:(ts.map TV.fz).length=xs.length:=rx.length
 have pin0:∀p∈(ts.map TV.fz).zip xs,Rp K F1 H1 p.1 p.2:=by
  intro p hp;obtain⟨i,hi⟩:=pL hp;rw[sZ] at hi;obtain⟨v,ev,rv⟩:=rx.get hi.1;rw[hi.2] at ev;cases ev;exact rv
 have vw:∀ {F:Fz}{H:Hp}{σ:St}{ρ:En},ER K J F0 H0 ((ts.map TV.fz).zip xs++PN) F H σ ρ->Paired (Vw K F H) ts xs:=λ {F H σ ρ} e=>by
  have f:=e.pn;clear rx ok w fin st pin0 e1
  revert xs
  induction ts with
  |nil=>intro xs zl e f;cases xs with|nil=>exact .nil|cons x xs=>simp at zl
  |cons t ts ih=>
   intro xs zl e f
   cases xs with
   |nil=>simp at zl
   |cons x xs=>
    refine .cons (Rp.vw (f (t.fz,x) pv)) (ih (by simpa using zl) ⟨e.ev,e.gr,e.nb,e.di,λ p hp=>f p (by
     rw[bA,pM,jn]
     exact aW _ hp)⟩ λ p hp=>f p (by
     rw[bA,pM,jn]
     exact aW _ hp))
 refine⟨λ i m σ H=>i≤its.length/\m=its.length - i/\∃F ρ,ER K J F0 H0 ((ts.map TV.fz).zip xs++PN) F H σ ρ/\σ.length=n/\itF b (its.drop i) ρ P,
  ⟨_,bS _,rfl,F1,ρ,⟨e1.ev,e1.gr,e1.nb,e1.di,λ p hp=>(cJ.mp hp).elim (pin0 p) (e1.pn p)⟩,sl,w⟩,?_⟩
 rintro i m σ H ⟨hi,rfl,F,ρ,e,s,w⟩;have v:=vw e;by_cases c:i<its.length
 ·refine .inr ⟨ok.go F H i e.ev.w v c,λ σ' H'=>∃F ρ,ER K J F0 H0 ((ts.map TV.fz).zip xs++PN) F H' σ' ρ/\σ'.length=n/\itF b (its.drop (i+1)) ρ P,λ σ' H' q=>⟨_,fu,c,ca,q⟩,λ x H' y=>?_⟩;obtain⟨t,et,gy,rt⟩:=ok.yld F H i x H' e.ev.w v c y
  have ed:its.drop i=t::its.drop (i+1):=by
   rw[kG c]
   congr 1
   rw[az c] at et;exact bj et
  rw[ed] at w;exact st t ρ F H' σ x _ _ w (e.grow gy) s rt rfl λ ρ2 q F2 H2 σ2 e2 s2=>⟨F2,ρ2,e2,s2,q⟩
 ·have ei:i=its.length:=by lia
  subst ei;rw[lg] at w;refine .inl ⟨ok.stop F H e.ev.w v,fin ρ w F H σ ⟨e.ev,e.gr,e.nb,e.di,λ p hp=>e.pn p (bX _ hp)⟩ s⟩
structure YOk (X:Cx)(J:Hp->Prop)(FT:List PSp)(GT:List TV)(fs gs N:List Str)(nm:List (Str×NameKind))(lp:Bool):Prop where
 xo:XOk X J FT GT fs gs
 xs:XS X N nm
 nd:N.Nodup
 fn:∀x,X.env.scope.names.lookup x=some .cell->X.fn x=true
 ps:lp=true->PassesOwn (model X.prog X.w) X.A X.env X.xe
theorem xM{K:FG}{Q:St->Hp->Prop}(h:stE ρ is t P)(e:ER K J F0 H0 PN F H σ ρ)(rt:Rp K F H t v)(hl:∀i∈is,i<σ.length)
  (fin:∀σ' ρ',P ρ'->ER K J F0 H0 PN F H σ' ρ'->σ'.length=σ.length->Q σ' H):tgG K is v σ H Q:=by
 match is,h with
 |[i],h=>exact fin _ _ h (e.set rt (hl i pv)) pv
 |[i,j],h=>
  cases t with
  |tup l=>
   match l,h with
   |[x,y],h=>
    obtain⟨a,ws,rfl,q,v1,r1,rfl,h1,v2,r2,rfl,h2,rfl⟩:=rt;exact⟨a,_,ca,q,ca,v1,_,ca,v2,_,ca,ca,fin _ _ h ((e.set h1 (hl i pv)).set h2 (by simpa using hl j pv)) pv⟩
   |[],h=>exact h.elim
   |[_],h=>exact h.elim
   |_::_::_::_,h=>exact h.elim
  |_=>exact h.elim
 |[i,j,k],h=>
  cases t with
  |tup l=>
   match l,h with
   |[x,y,z],h=>
    obtain⟨a,ws,rfl,q,v1,r1,rfl,h1,v2,r2,rfl,h2,v3,r3,rfl,h3,rfl⟩:=rt;exact⟨a,_,ca,q,ca,v1,_,ca,v2,_,ca,v3,_,ca,ca,fin _ _ h (((e.set h1 (hl i pv)).set h2 (by simpa using hl j pv)).set h3 (by simpa using hl k pv)) pv⟩
   |[],h=>exact h.elim
   |[_],h=>exact h.elim
   |[_,_],h=>exact h.elim
   |_::_::_::_::_,h=>exact h.elim
  |_=>exact h.elim
 |[],h=>exact h.elim
 |_::_::_::_::_,h=>exact h.elim
end
section
variable {J:Hp->Prop}{FT:List PSp}{GT:List TV}{fs gs:List Str}{N:List Str}{nm:List (Str×NameKind)}{F0:Fz}{H0:Hp}
def Jf{tg e:Expr}(h:plE e=true):swapsWithSole [tg] e n env=pure false:=mS h
def Jg:swapsWithSole [.Subscript o i p] e n env=pure false:=by cases e<;>rfl
def Jh:swappedStores [.Subscript o i p] e env=pure none:=by cases e<;>rfl
def Ji{tg e:Expr}(h:plE e=true):swappedStores [tg] e env=pure none:=by
 cases tg<;>first|rfl|(cases e<;>first|rfl|cases h)
theorem Jj(h:ju i=true):∀v,assign (.Subscript o i p) env v=(do
   let ov <- holding [v] (eval o env)
   let iv <- holding [v,ov] (eval i env)
   standAt p
   holding [v,ov,iv] (setItem ov iv v)
   release [v,ov,iv] []):=by
 intro v
 cases i<;>first|rfl|(cases h;done)
theorem sS:∀(c:Ct) {X:Cx}{lp:Bool}{PN:List (TV×V)}{sts:List Stmt},YOk X J FT GT fs gs N nm lp->bh fs gs N nm lp c sts=true->PSs X sts (rS X.K J FT GT N.length F0 H0 PN c)
 |.nil,X,lp,PN,sts,y,h=>by
  refine bM h ?_;exact pss_nil.imp λ D σ H ⟨F,ρ,e,s,w⟩=>w F H σ e s
 |.never,X,lp,PN,sts,y,h=>pss_never.imp λ D σ H ⟨F,ρ,e,s,w⟩=>w.elim
 |.ret c,X,lp,PN,sts,y,h=>by
  refine pK h λ o _ _ g=>?_
  cases o with
  |none=>exact Bool.noConfusion g
  |some e=>
   refine(cg (jQ (sE c y.xo y.xs g)) pss_never).imp λ D σ H ⟨F,ρ,e,s,w⟩=>?_;obtain⟨F',e',_⟩:=e.fzC c;refine⟨F',_,e'.ev,ao c (λ t ⟨nb,w⟩ F1 H1 v g r=>?_) w⟩;obtain⟨F2,g2,_,_,rp⟩:=r.frz g nb;exact w F2 H1 v (e'.gr.trans g2) rp
 |.set i c r,X,lp,PN,sts,y,h=>by
  ·refine jC h λ ts e _ rest k1=>?_;refine cV k1 λ t k2=>?_;refine bg k2 λ x _ k3=>?_;obtain⟨h1,h2,h3⟩:=_L.a3 k3;obtain⟨a1,a2,a3,a4⟩:=mR y.xs y.fn h1;refine(cg (xL y.xo y.xs (by rw[y.xs.N];exact y.nd) a1 a2 a3 h2) (sS r (PN:=PN) y h3)).imp λ D σ H ⟨F,ρ,e,s,w⟩=>?_;obtain⟨F',e',_⟩:=e.fzC c;exact⟨F',_,e'.ev,ao c (λ t ⟨nb,w⟩ F1 H1 v g r=>⟨F1,_,e'.rr g r nb fu,by rw[bu];exact s,w⟩) w⟩
 |.sets is c r,X,lp,PN,sts,y,h=>by
  ·refine jC h λ ts e _ rest k1=>?_;refine cV k1 λ tg k2=>?_;obtain⟨h1,h2,h3,h4,h5⟩:=a5 k2;obtain⟨pg,lt⟩:=jy (X:=X) (by rw[y.xs.N];exact y.nd) y.xo.calm y.xs (λ _=>y.fn) h1;obtain⟨tes,tk,tp,rfl⟩:=xH h2;refine(cg (uN (sE c y.xo y.xs h4) pg (Jf h3) (Ji h3) rfl) (sS r (PN:=PN) y h5)).imp λ D σ H ⟨F,ρ,e,s,w⟩=>?_;refine⟨F,ρ,e.ev,ao c (λ t w F1 H1 v g rr=>?_) w⟩
   cases t with
   |tup l=>exact xM w (e.grow g) rr (λ i hi=>by rw[s];exact lt i hi) λ σ' ρ' p e' s'=>⟨F1,ρ',e',s'.trans s,p⟩
   |_=>exact w.elim
 |.fz i r,X,lp,PN,sts,y,h=>by
  refine(sS r (PN:=PN) y (show bh fs gs N nm lp r sts=true from h)).imp λ D σ H ⟨F,ρ,e,s,w⟩=>?_;obtain⟨F',e',_⟩:=e.fz i;exact⟨F',_,e',s,w⟩
 |.doc r,X,lp,PN,sts,y,h=>by
  refine mQ h λ e _ rest k1=>?_;refine gN k1 λ k _ _ k2=>?_;obtain⟨h1,h2⟩:=an k2;cases k<;>try exact Bool.noConfusion h1
  exact(cg uG (sS r (PN:=PN) y h2)).imp λ D σ H ⟨F,ρ,e,s,w⟩=>⟨F,ρ,e,s,w⟩
 |.ex c r,X,lp,PN,sts,y,h=>by
  ·refine mQ h λ e _ rest k1=>?_;obtain⟨h1,h2,h3⟩:=_L.a3 k1;exact(cg (nR (sE c y.xo y.xs h2) (mS h1)) (sS r (PN:=PN) y h3)).imp λ D σ H ⟨F,ρ,e,s,w⟩=>⟨F,ρ,e.ev,ao c (λ t w F1 H1 v g rr=>⟨F1,ρ,e.grow g,s,w⟩) w⟩
 |.met m i l r,X,lp,PN,sts,y,h=>by
  ·refine mQ h λ e _ rest k1=>?_;obtain⟨h1,h2⟩:=an k1;obtain⟨pe,pl⟩:=Jd (F0:=F0) (H0:=H0) (PN:=PN) (J:=J) (FT:=FT) (GT:=GT) y.xo y.xs h1;refine(cg (nR pe (mS pl)) (sS r (PN:=PN) y h2)).imp λ D σ H ⟨F,ρ,e,s,w⟩=>?_;obtain⟨F',e',_⟩:=ER.fzV l e;exact⟨F',_,e',tu (λ xs w=>bL l (λ ts w=>xI (λ y ys w F1 H1 v e1 _=>⟨F1,_,e1,s,w⟩) w) w) w⟩
 |.put i c d r,X,lp,PN,sts,y,h=>by
  ·refine jC h λ ts e _ rest k1=>?_;refine cV k1 λ t k2=>?_;refine pf k2 λ o yy _ k3=>?_;refine bg k3 λ x _ k4=>?_;obtain⟨h1,h2,h3,h4,h5,h6,h7⟩:=a7 k4;replace h1:=au h1;obtain⟨d1,d2,_⟩:=db h3;refine(cg (uN (sE d y.xo y.xs h6) (Co (iW (by rw[y.xs.N];exact h1) (kY y.xs h2) d1 d2) (sE c y.xo y.xs h5) DK (Jj h4)) Jg Jh rfl) (sS r (PN:=PN) y h7)).imp λ D σ H ⟨F,ρ,e,s,w⟩=>?_;obtain⟨F',e',_⟩:=e.fzC d;obtain⟨xs,hx,w⟩:=pJ w;refine⟨F',_,e'.ev,ao d (λ t ⟨nb,w⟩ F1 H1 v g rr=>?_) w⟩;obtain⟨F2,g2,_,_,rp⟩:=rr.frz g nb;have e2:=e'.grow g2;obtain⟨a,vs,ea,q,_⟩:=e2.at_ hx;show cR i σ H1 _;unfold cR;rw[ea];refine⟨F2,_,e2.ev,ao c (λ u w F3 H3 v3 g3 r3=>?_) w⟩;obtain⟨k,rfl,n,en,w⟩:=fW w;cases r3;have e3:=e2.grow g3;obtain⟨a',vs',ea',q',rl⟩:=e3.at_ hx;rw[ea] at ea';cases ea';obtain⟨em,_⟩:=e3.mut y.xo.hJ hx ea (rl.set (rp.ke g3.ke) n);exact⟨a,vs',k,n,ca,ca,q',by rw[<- rl.length];exact en,F3,_,em,s,w⟩
 |.ite c a b r,X,lp,PN,sts,y,h=>by
  ·refine xK h λ t x yy _ rest k1=>?_;obtain⟨h1,h2,h3,h4,h5⟩:=a5 k1;refine(cg (uH (sT c y.xo y.xs h1 h2) (sS a (PN:=PN) y h3) (sS b (PN:=PN) y h4)) (sS r (PN:=PN) y h5)).imp λ D σ H ⟨F,ρ,e,s,w⟩=>?_;refine⟨F,ρ,e.ev,ao c (λ t w=>cj (λ k w F1 H1 g=>?_) w) w⟩;split at w
   ·rw[if_pos (by assumption)];exact⟨F1,ρ,e.grow g,s,bE a (λ ρ' w F' H' σ' e s=>⟨F',ρ',e,s,w⟩) (λ _ h=>h) w⟩
   ·rw[if_neg (by assumption)];exact⟨F1,ρ,e.grow g,s,bE b (λ ρ' w F' H' σ' e s=>⟨F',ρ',e,s,w⟩) (λ _ h=>h) w⟩
 |.for tg k it b r,X,lp,PN,sts,y,h=>by
  ·refine IW h λ t iter body els _ rest k1=>?_;obtain⟨z0,h0,h1,h2,h3,h4⟩:=a6 k1;refine bM z0 ?_;obtain⟨pg,lt⟩:=jy (X:=X) (by rw[y.xs.N];exact y.nd) y.xo.calm y.xs (λ _=>y.fn) h1;have hb:PSs X _ (λ D σ H=>∃PN,rS X.K J FT GT N.length F0 H0 PN b D σ H):=λ pins s σ H D I ⟨PN,q⟩=>sS b (PN:=PN) y h3 pins s σ H D I q;refine(cg (CG (y.ps h0) y.xo.calm (sI it k y.xo y.xs h2) pg hb (λ x=>kZ (mP h2))) (sS r (PN:=PN) y h4)).imp λ D σ H ⟨F,ρ,e,s,w⟩=>?_;obtain⟨F',e',_⟩:=ER.fzV it e;refine⟨F',_,e'.ev,bL it (λ ts ⟨nb,w⟩=>iC (λ its w F1 H1 xs Jt g rx ok=>?_) w) w⟩;obtain⟨F2,g2,_,r2⟩:=iG g rx nb;refine Je (n:=N.length) (tb:=λ D σ H=>∃PN,rS X.K J FT GT N.length F0 H0 PN b D σ H) _ _ (e'.grow g2) s r2 ok w (λ ρ' w F3 H3 σ3 e3 s3=>⟨F3,ρ',e3,s3,w⟩) λ t ρ' F3 H3 σ3 x Q D' bt e3 s3 rt ert fin=>?_;exact xM bt e3 rt (λ i hi=>by rw[s3];exact lt i hi) λ σ4 ρ4 p e4 s4=>⟨_,F3,ρ4,e4,s4.trans s3,bE b (λ ρ5 q=>fin ρ5 q) (λ u hu=>by rw[ert];exact hu) p⟩
end
noncomputable def en0(n:Nat)(ts:List TV):En:=ts.map some++List.replicate (n-ts.length) none
section
variable {P:Program}{w:World}{K:FG}{mg:SV}{base:Heap}{J:Hp->Prop}{FT:List PSp}{GT:List TV}{fs gs:List Str}
structure MOk (P:Program)(w:World)(K:FG)(mg:SV)(J:Hp->Prop)(GT:List TV)(gs:List Str):Prop where
 hJ:JS J
 glb:∀(g:Nat) x t,gs[g]?=some x->GT[g]?=some t->t.nb=true->∃v u,mg x=some u/\RelV v u/\∀F H,Rp K F H t v
 dic:∀(g:Nat) x l,gs[g]?=some x->GT[g]?=some (.bor l)->DOk P w K mg x l
 blt:∀x∈BN,mg x=none
def er0{vs:List V}(wd:Wd J F H)(r:RpL K F H ts vs):ER K J F H [] F H (start N vs) (en0 N.length ts):=by
 have get:∀(i:Nat) t,(en0 N.length ts)[i]?=some (some t)->ts[i]?=some t:=λ i t h=>by
  unfold en0 at h;by_cases c:i<ts.length
  ·rw[cZ (by simpa using c),aL] at h
   cases q:ts[i]? with
   |none=>rw[q] at h;cases h
   |some u=>rw[q] at h;cases h;rfl
  ·rw[dW (by simpa using c),iY] at h;split at h<;>cases h
 have sl:∀(i:Nat) t,(en0 N.length ts)[i]?=some (some t)->∃v,(start N vs)[i]?=some (some v)/\Rp K F H t v:=λ i t h=>by
  obtain⟨v,ev,rv⟩:=r.get (get i t h);refine⟨v,?_,rv⟩;unfold start;rw[cZ (by simpa using (be.mp ev).1),aL,ev];rfl
 refine⟨⟨wd,λ i t h=>let ⟨v,e,q⟩:=sl i t h;⟨v,e,pk q⟩⟩,.refl wd,λ i l a h1 h2=>?_,λ i k l l' v h1 h2 h3 h4=>?_,λ p hp=>by cases hp⟩
 ·obtain⟨v,_,q⟩:=sl i _ h1;exact q.elim
 ·obtain⟨v,_,q⟩:=sl i _ h1;exact q.elim
theorem xN{st:Stmt}(code:Ct)(F:Fun K x qual st f fd)(sc:FnScope N ps (ah st))(m:MOk P w K mg J GT gs)(hl:fs.length=FT.length)
  (fns:∀(f:Nat) x S,fs[f]?=some x->FT[f]?=some S->∃ps,Callee P w K mg base CX0 k x ps (pSp K J S))
  (hck:bh fs gs N (ah st).names true code (aN st)=true) (hlen:∀ts Q,S ts Q->ts.length=ps.length)
  (hw:∀ts Q,S ts Q->wS FT GT code (en0 N.length ts) (λ _=>Q .non) Q):FnOk P w K mg base CX0 (k+1) f fd ps (pSp K J S):=by
 refine F.ok sc (λ vs H Q E ⟨F1,ts,P1,wd,r,s,_⟩=>by rw[<- r.length];exact hlen _ _ s) (λ cdv A outer s H vs Q E hr h=>?_);obtain⟨F1,ts,P1,wd,r,sp,fin⟩:=h
 have nl:vs.length<=N.length:=by
  have z:=br List.length sc.pre;rw[bc] at z;have:=hlen _ _ sp;rw[<- r.length];lia
 have xo:XOk (bH CX0 P w K mg base N qual (ah st) f cdv A outer s H E).nox J FT GT fs gs:=⟨rfl,by have:=hr.un;show(A.deeper _).units+20<cLine;lia,m.hJ,λ g y S h1 h2=>let ⟨ps,c⟩:=fns g y S h1 h2;⟨k,ps,hr,c⟩,m.glb,m.dic,m.blt,hl⟩;refine⟨_,sS (F0:=F1) (H0:=H) (PN:=[]) code (lp:=true) ⟨xo,⟨ca,ca⟩,sc.nd,λ _ _=>rfl,λ _=>mV⟩ hck,F1,en0 N.length ts,er0 wd r,?_,?_⟩
 ·unfold start;rw[aK,ak,dX];show vs.length+(N.length-vs.length)=N.length;lia
 ·exact bE code (λ ρ' q F' H' σ' e _=>fin .non q F' H' .non e.gr rfl) (λ t q F' H' v g r=>fin t q F' H' v g r) (hw ts P1 sp)
end
structure Gl' (K:FG)(x:Str)(st:Stmt)(f:Addr)(fd:FuncData):Prop where
 F:Fun K x x st f fd
 a:W.nsIn K mainGlobals x=some (some (.ref f))
def Gx(K:FG)(x:Str)(st:Stmt):Prop:=∃f fd,Gl' K x st f fd
section
variable {K:FG}{x:Str}{st:Stmt}{f:Addr}{oc:Value}{od an:OA}{osl:AV}{kV doc pm cdv ct:Value}
def gl_ex(a:W.nsIn K mainGlobals x=some (some (.ref f)))(l:K.lookup f=some ⟨oc,od,.func (W.fnOf x x (cy st) (aN st) (ah st) .none kV doc pm an cdv ct),osl⟩)(c:W.codeIn K cdv x=true)(k:W.keepIn K (.ref f)=true):Gx K x st:=⟨_,_,vz l c k,a⟩
def gx_int(h:W.nsIn K mainGlobals x=some (some (.int i t))):∃t,W.nsIn K mainGlobals x=some (some (.int i t)):=⟨_,h⟩
end
abbrev DR:=Str×List Str×PSp
def dFs(L:List DR)(j:Nat):List Str:=(L.take j).map (·.1)
def dFT(L:List DR)(j:Nat):List PSp:=(L.take j).map (·.2.2)
section
variable {P:Program}{w:World}{K:FG}{mg:SV}{base:Heap}{J:Hp->Prop}{GT:List TV}{gs:List Str}{L:List DR}
noncomputable def Cal(P:Program)(w:World)(K:FG)(mg:SV)(base:Heap)(J:Hp->Prop)(L:List DR)(j:Nat):Prop:=∀x ps S,L[j]?=some (x,ps,S)->Callee P w K mg base CX0 (j+1) x ps (pSp K J S)
noncomputable def Cals(P:Program)(w:World)(K:FG)(mg:SV)(base:Heap)(J:Hp->Prop)(L:List DR)(j:Nat):Prop:=∀i,i<j->Cal P w K mg base J L i
def Cals.z:Cals P w K mg base J L 0:=λ i h=>absurd h (kF _)
def Cals.s(C:Cals P w K mg base J L j)(c:Cal P w K mg base J L j):Cals P w K mg base J L (j+1):=λ i h=>by
 by_cases e:i=j
 ·subst e;exact c
 ·exact C i fu
def Cals.fns(C:Cals P w K mg base J L j):∀(f:Nat) x S,(dFs L j)[f]?=some x->(dFT L j)[f]?=some S->∃ps,Callee P w K mg base CX0 j x ps (pSp K J S):=λ f x S h1 h2=>by
 unfold dFs at h1;unfold dFT at h2;rw[aL] at h1 h2
 cases q:(L.take j)[f]? with
 |none=>rw[q] at h1;cases h1
 |some d=>
  rw[q] at h1 h2;cases h1;cases h2;have lt:f<j:=by have:=(be.mp q).1;rw[bc] at this;lia
  rw[mW,if_pos lt] at q;exact⟨_,(C f lt d.1 d.2.1 d.2.2 q).mono fu⟩
def gP(j:Nat):(dFs L j).length=(dFT L j).length:=by unfold dFs dFT;rw[ak,ak]
theorem Jk{x:Str}{ps N:List Str}{st:Stmt}{S:PSp}(code:Ct)(C:Cals P w K mg base J L j)(m:MOk P w K mg J GT gs)(hm:∀ {x:Str}{v:Option Value},W.nsIn K mainGlobals x=some v->mg x=v)(e:L[j]?=some (x,ps,S))(g:Gx K x st)(sc:FnScope N ps (ah st))
  (b:∀f fd,Fun K x x st f fd->Binds K fd ps []) (hck:bh (dFs L j) gs N (ah st).names true code (aN st)=true) (hlen:∀ts Q,S ts Q->ts.length=ps.length)
  (hw:∀ts Q,S ts Q->wS (dFT L j) GT code (en0 N.length ts) (λ _=>Q .non) Q):Cals P w K mg base J L (j+1):=by
 refine C.s λ x' ps' S' e'=>?_;rw[e] at e';cases e';obtain⟨f,fd,gf⟩:=g;exact Callee.mk' gf.F (hm gf.a) (b f fd gf.F) (xN code gf.F sc m (gP j) C.fns hck hlen hw)
def scq(s:Scope)(P L:List Str)(h:s.kind=.function/\s.isCoroutine=false/\s.isGenerator=false/\(P++L).Nodup/\(P++L).take P.length=P/\(∀x∈P,s.names.lookup x=some .local\/s.names.lookup x=some .cell)/\∀y∈s.names,y.2≠.free:=by decide +kernel):FnScope (P++L) P s:=⟨h.1,h.2.1,h.2.2.1,h.2.2.2.1,h.2.2.2.2.1,h.2.2.2.2.2.1,h.2.2.2.2.2.2⟩
noncomputable def pN:PSp:=λ ts Q=>∃ns:LI,ts=[.lst (ns.map .int)]/\ns.length<=63/\Q (.bl true)
noncomputable def pO(K:FG)(J:Hp->Prop):Sp:=λ vs H Q _=>∃(a:Addr) (ns:LI),vs=[.ref a]/\SqL K H a (ns.map V.int)/\ns.length<=63/\J H/\∀H',Q (.bl true) H'
def Jl(F:FnOk P w K mg base CX0 k f fd ps (pSp K J pN)):FnOk P w K mg base CX0 k f fd ps (pO K J):=F.imp λ vs H Q E ⟨a,ns,e,sq,l,j,q⟩=>by
 subst e
 rcases sq with rd|kk
 ·have ha:H a≠none:=by rcases rd with h|⟨o,h⟩<;>rw[h]<;>simp
  exact⟨λ b=>b=a,[.lst (ns.map .int)],_,⟨j,λ b e=>by rw[show b=a from e];exact ha⟩,⟨_,_,ca,⟨a,_,ca,.inl ⟨ca,.inl rd⟩,RpL.ofInts ns⟩,ca⟩,⟨ns,ca,l,ca⟩,λ t e F' H' v _ r=>by subst e;cases r;exact q H'⟩
 ·exact⟨λ _=>False,[.lst (ns.map .int)],_,⟨j,λ b e=>e.elim⟩,⟨_,_,ca,⟨a,_,ca,.inr kk,RpL.ofInts ns⟩,ca⟩,⟨ns,ca,l,ca⟩,λ t e F' H' v _ r=>by subst e;cases r;exact q H'⟩
variable {FT:List PSp}
def cM{its:List TV}{Kn:En->Prop}(I:Nat->En->Prop)(h0:I 0 ρ)(st:∀i t ρ,its[i]?=some t->I i ρ->stE ρ tg t λ ρ'=>wS FT GT c ρ' (I (i+1)) rt)(fin:∀ρ,I its.length ρ->Kn ρ):itF (λ t ρ K=>stE ρ tg t λ ρ'=>wS FT GT c ρ' K rt) its ρ Kn:=by
 have go:∀(r:List TV) (i:Nat) (ρ:En),its.drop i=r->i<=its.length->I i ρ->itF (λ t ρ K=>stE ρ tg t λ ρ'=>wS FT GT c ρ' K rt) r ρ Kn:=by
  intro r
  induction r with
  |nil=>
   intro i ρ e li h;have:i=its.length:=by have:=br List.length e;rw[da] at this;simp at this;lia
   subst this;exact fin ρ h
  |cons t r ih=>
   intro i ρ e li h;have lt:i<its.length:=by have:=br List.length e;rw[da] at this;simp at this;lia
   rw[kG lt] at e
   injection e with e1 e2
   have et:its[i]?=some t:=by rw[az lt,e1]
   exact fg (λ ρ' q=>bE c (λ ρ'' q=>ih (i+1) ρ'' e2 fu q) (λ _ q=>q) q) (st i t ρ et h)
 exact go its 0 ρ rfl (bS _) h0
end
end _L
namespace _L
open PySem PySem.Spec PyProof.Rows PySem.W PySem.Calls
theorem Jm{K:FG}{N ps fv:List Str}{qual:Str}{cl:LA}{vs vcs:List V}{H:Hp}{Q:VK}
  (S:LmScope N ps fv scope) (hcl:cl.map (·.1)=fv)
  (hb:∀(pm ctv:Value) (us:LV),us.length=ps.length->bindArgs (kla_fn "<lambda>" qual params body scope cl pm (.ref c') ctv) ⟨us,[]⟩=pure (ps.zip us)) (hl:vs.length=ps.length)
  (L1:H fa=some (eh fa c' qual params body scope cl)) (_L:H c'=some (cz c' qual)) (hc:CelAt H cl vcs)
  (hbody:∀(A:Around) (outer:List Env) (s:Shared),Room k (A.deeper (envX qual scope s.heap.objs.size fa (.ref c') (cellsFrom (s.heap.objs.size+1) scope.names []++cl)))->PE (iy P w K mg base N qual scope fa (.ref c') cl A outer s (minC H cl)) body te)
  (hq:te (start N (vs++vcs)) (minC H cl) (λ v H'=>(∀q∈cl,H' q.2=none)->Q v (resC H H' cl))):jo P w K mg base (k+1) fa vs H Q:=by
 intro A outer s us hr e0 r;obtain⟨⟨pm,ctv,ho⟩,_⟩:=e0.hok fa _ L1;obtain⟨hcd,_⟩:=e0.hok c' _ _L;have lim:s.heap.NoLimit:=e0.mod.nolimit.keeps λ b o e=>(e0.bs b o e).1
 have hkind:∀y∈ps.zip us,scope.names.lookup y.1=some .local\/(scope.names.lookup y.1=some .cell/\((cellsFrom (s.heap.objs.size+1) scope.names []).lookup y.1).isSome=true):=λ⟨n,v⟩ hy=>by
  rcases S.par n (jY hy).1 with q|q
  ·exact .inl q
  ·exact .inr ⟨q,jZ _ _ _ (.inl q)⟩
 refine kla_callFunE hr.depth ho rfl S.co S.gen rfl hcd ?_;rw[hb pm ctv us (by rw[<- r.length];exact hl)];refine aj (wo S.kind hkind λ env he s1 x=>?_);subst he;refine⟨lim.keeps x.toInCall.keep,kla_codeExpr ?_⟩;have I:Inv (iy P w K mg base N qual scope fa (.ref c') cl A outer s (minC H cl)) [] (start N (vs++vcs)) (minC H cl) s1:=wp S hr.hd e0 hl r hcl hc x;refine bQ (hbody A outer s (hr.deeper _) [] s1 _ _ _ I hq) (λ u s' hs=>?_) (λ e s' hs=>False.elim hs);obtain⟨v,H',J,rv,q⟩:=hs;have un:Un (frs outer) [] (minC H cl) H' s.heap s'.heap:=J.base
 have nfr:∀q∈cl,q.2 ∉ frs outer:=λ q hq z=>by
  obtain⟨o,v,e⟩:=hc.mem hq;rw[e0.frf _ z] at e;cases e
 have kc:∀q∈cl,∀o,s.heap.get? q.2=some o->s'.heap.get? q.2=some o/\H' q.2=none:=λ q hq o e=>⟨un.keep _ o e (kC hq) (nfr q hq) pv,un.free _ o e (kC hq) pv⟩
 have there:∀q∈cl,∃o,s.heap.get? q.2=some o:=λ q hq=>by
  obtain⟨o,v,e⟩:=hc.mem hq;exact⟨o,(e0.hok _ _ e).1⟩
 have split:∀b,(∃q∈cl,q.2=b)\/∀q∈cl,q.2≠b:=λ b=>by
  by_cases c:∃q∈cl,q.2=b
  ·exact .inl c
  ·exact .inr λ q hq e=>c ⟨q,hq,e⟩
 refine⟨v,resC H H' cl,J.os,J.bare,⟨λ b o e n hb hx=>un.keep b o e (gE n) hb hx,λ b o e n hb hx=>un.slot b o e (gE n) hb hx,λ b o e n hx=>?_,un.there,λ b xs e=>?_,λ b o u e=>?_,λ b ps e=>?_⟩,λ b o e=>?_,rv,q λ p hp=>let ⟨o,eo⟩:=there p hp;(kc p hp o eo).2⟩
 ·rcases split b with ⟨q,hq,rfl⟩|hn
  ·rw[fR hq];exact n
  ·rw[cU hn];exact un.free b o e (gE n) hx
 ·rcases split b with ⟨q,hq,rfl⟩|hn
  ·rw[fR hq];exact e
  ·rw[cU hn];exact un.tups b xs (by rw[cO hn];exact e)
 ·rcases split b with ⟨q,hq,rfl⟩|hn
  ·rw[fR hq];exact e
  ·rw[cU hn];exact un.frzs b o u (by rw[cO hn];exact e)
 ·rcases split b with ⟨q,hq,rfl⟩|hn
  ·obtain⟨o,v,e2⟩:=hc.mem hq;rw[e] at e2;cases e2
  ·rw[cU hn];exact un.tbls b ps (by rw[cO hn];exact e)
 ·rcases split b with ⟨q,hq,rfl⟩|hn
  ·rw[fR hq] at e;obtain⟨o2,v2,e2⟩:=hc.mem hq;rw[e] at e2;cases e2;obtain⟨g1,⟨u2,ru,ic⟩,_,st⟩:=e0.hok _ _ e;have k1:=(kc q hq _ g1).1;refine⟨k1,⟨u2,ru,?_⟩,⟨_,k1⟩,st⟩;obtain⟨o3,e3,d3⟩:=ic;rw[g1] at e3;cases e3;exact⟨_,k1,d3⟩
  ·rw[cU hn] at e
   have nf:∀c u,H' c=some u->resC H H' cl c=some u:=λ c u e2=>by
    rcases split c with ⟨q,hq,rfl⟩|hn
    ·obtain⟨o,eo⟩:=there q hq;rw[(kc q hq o eo).2] at e2;cases e2
    ·rw[cU hn];exact e2
   exact(J.hok b o e).stay (λ _ _ _ q=>q) (λ c q=>nf c _ q) λ c xs q=>nf c _ q
theorem Jn{K:FG}{N ps fv:List Str}{cl:LA}{vs vcs:List V}{H:Hp}{Q:VK}
  (S:LmScope N ps fv scope) (hcl:cl.map (·.1)=fv)
  (hb:∀(doc pm ctv:Value) (us:LV),us.length=ps.length->bindArgs (fnX name qual params body scope cl .none .none doc pm none (.ref c') ctv) ⟨us,[]⟩=pure (ps.zip us)) (hl:vs.length=ps.length)
  (L1:H fa=some (dL fa c' name qual params body scope cl)) (_L:H c'=some (cz c' qual)) (hc:CelAt H cl vcs)
  (hbody:∀(A:Around) (outer:List Env) (s:Shared),Room k (A.deeper (envX qual scope s.heap.objs.size fa (.ref c') (cellsFrom (s.heap.objs.size+1) scope.names []++cl)))->PSs (iy P w K mg base N qual scope fa (.ref c') cl A outer s (minC H cl)) body ts)
  (hq:ts { nx:=λ _ H'=>(∀q∈cl,H' q.2=none)->Q .non (resC H H' cl),rt:=λ v H'=>(∀q∈cl,H' q.2=none)->Q v (resC H H' cl) } (start N (vs++vcs)) (minC H cl)):jo P w K mg base (k+1) fa vs H Q:=by
 intro A outer s us hr e0 r;obtain⟨⟨doc,pm,ctv,ho⟩,_⟩:=e0.hok fa _ L1;obtain⟨hcd,_⟩:=e0.hok c' _ _L;have lim:s.heap.NoLimit:=e0.mod.nolimit.keeps λ b o e=>(e0.bs b o e).1
 have hkind:∀y∈ps.zip us,scope.names.lookup y.1=some .local\/(scope.names.lookup y.1=some .cell/\((cellsFrom (s.heap.objs.size+1) scope.names []).lookup y.1).isSome=true):=λ⟨n,v⟩ hy=>by
  rcases S.par n (jY hy).1 with q|q
  ·exact .inl q
  ·exact .inr ⟨q,jZ _ _ _ (.inl q)⟩
 refine va hr.depth ho rfl S.co S.gen rfl hcd ?_;rw[hb doc pm ctv us (by rw[<- r.length];exact hl)];refine aj (wo S.kind hkind λ env he s1 x=>?_);subst he;refine⟨lim.keeps x.toInCall.keep,codeAny_func ?_⟩;have I:Inv (iy P w K mg base N qual scope fa (.ref c') cl A outer s (minC H cl)) [] (start N (vs++vcs)) (minC H cl) s1:=wp S hr.hd e0 hl r hcl hc x;refine bQ (hbody A outer s (hr.deeper _) [] s1 _ _ _ I hq) (λ fl s' hs=>?_) (λ e s' hs=>False.elim hs);have fin:∀ {v:V}{u:Value}{σ':St}{H':Hp},Inv (iy P w K mg base N qual scope fa (.ref c') cl A outer s (minC H cl)) [] σ' H' s'->RelV v u->((∀q∈cl,H' q.2=none)->Q v (resC H H' cl))->CE outer P w H s Q u s':=?_
 ·cases fl with
  |ret u=>
   obtain⟨v,σ',H',J,rv,q⟩:=hs;exact fin J rv q
  |next=>
   obtain⟨σ',H',J,q⟩:=hs;exact fin (v:=V.non) (u:=Value.none) J rfl q
  |brk=>obtain⟨_,_,_,q⟩:=hs;exact False.elim q
  |cont=>obtain⟨_,_,_,q⟩:=hs;exact False.elim q
 intro v u σ' H' J rv q;have un:Un (frs outer) [] (minC H cl) H' s.heap s'.heap:=J.base
 have nfr:∀q∈cl,q.2 ∉ frs outer:=λ q hq z=>by
  obtain⟨o,v,e⟩:=hc.mem hq;rw[e0.frf _ z] at e;cases e
 have kc:∀q∈cl,∀o,s.heap.get? q.2=some o->s'.heap.get? q.2=some o/\H' q.2=none:=λ q hq o e=>⟨un.keep _ o e (kC hq) (nfr q hq) pv,un.free _ o e (kC hq) pv⟩
 have there:∀q∈cl,∃o,s.heap.get? q.2=some o:=λ q hq=>by
  obtain⟨o,v,e⟩:=hc.mem hq;exact⟨o,(e0.hok _ _ e).1⟩
 have split:∀b,(∃q∈cl,q.2=b)\/∀q∈cl,q.2≠b:=λ b=>by
  by_cases c:∃q∈cl,q.2=b
  ·exact .inl c
  ·exact .inr λ q hq e=>c ⟨q,hq,e⟩
 refine⟨v,resC H H' cl,J.os,J.bare,⟨λ b o e n hb hx=>un.keep b o e (gE n) hb hx,λ b o e n hb hx=>un.slot b o e (gE n) hb hx,λ b o e n hx=>?_,un.there,λ b xs e=>?_,λ b o u e=>?_,λ b ps e=>?_⟩,λ b o e=>?_,rv,q λ p hp=>let ⟨o,eo⟩:=there p hp;(kc p hp o eo).2⟩
 ·rcases split b with ⟨q,hq,rfl⟩|hn
  ·rw[fR hq];exact n
  ·rw[cU hn];exact un.free b o e (gE n) hx
 ·rcases split b with ⟨q,hq,rfl⟩|hn
  ·rw[fR hq];exact e
  ·rw[cU hn];exact un.tups b xs (by rw[cO hn];exact e)
 ·rcases split b with ⟨q,hq,rfl⟩|hn
  ·rw[fR hq];exact e
  ·rw[cU hn];exact un.frzs b o u (by rw[cO hn];exact e)
 ·rcases split b with ⟨q,hq,rfl⟩|hn
  ·obtain⟨o,v,e2⟩:=hc.mem hq;rw[e] at e2;cases e2
  ·rw[cU hn];exact un.tbls b ps (by rw[cO hn];exact e)
 ·rcases split b with ⟨q,hq,rfl⟩|hn
  ·rw[fR hq] at e;obtain⟨o2,v2,e2⟩:=hc.mem hq;rw[e] at e2;cases e2;obtain⟨g1,⟨u2,ru,ic⟩,_,st⟩:=e0.hok _ _ e;have k1:=(kc q hq _ g1).1;refine⟨k1,⟨u2,ru,?_⟩,⟨_,k1⟩,st⟩;obtain⟨o3,e3,d3⟩:=ic;rw[g1] at e3;cases e3;exact⟨_,k1,d3⟩
  ·rw[cU hn] at e
   have nf:∀c u,H' c=some u->resC H H' cl c=some u:=λ c u e2=>by
    rcases split c with ⟨q,hq,rfl⟩|hn
    ·obtain⟨o,eo⟩:=there q hq;rw[(kc q hq o eo).2] at e2;cases e2
    ·rw[cU hn];exact e2
   exact(J.hok b o e).stay (λ _ _ _ q=>q) (λ c q=>nf c _ q) λ c xs q=>nf c _ q
noncomputable def TbJ(L:List (Addr×Pos×Str))(H:Hp):Prop:=∀x∈L,TabOk H x.1 x.2.1 x.2.2
def TabOk.sm{H H':Hp}(h:TabOk H T pos qual)(s:∀a o,(∀vs,o≠.lst vs)->(∀b u,o≠.frz b u)->H a=some o->H' a=some o):TabOk H' T pos qual:=by
 obtain⟨ps,e,t,q⟩:=h;refine⟨ps,s _ _ (λ _ z=>nomatch z) (λ _ _ z=>nomatch z) e,t,q.imp id λ⟨c,e1,e2⟩=>⟨c,e1,s _ _ (λ _ z=>nomatch z) (λ _ _ z=>nomatch z) e2⟩⟩
section
variable {K:FG}{L:List (Addr×Pos×Str)}{F F1 F2 F':Fz}{H H1 H2 H':Hp}{cl:LA}{vcs:List V}
def TbJ.sm(h:TbJ L H)(s:∀a o,(∀vs,o≠.lst vs)->(∀b u,o≠.frz b u)->H a=some o->H' a=some o):TbJ L H':=λ x hx=>(h x hx).sm s
def TbJ.js:JS (TbJ L):=⟨λ H p o n h=>h.sm λ a u _ _ e=>by rw[ay (λ z=>by rw[z,n] at e;cases e)];exact e,
 λ H p vs ws n h=>h.sm λ a u k _ e=>by rw[ay (λ z=>by rw[z,n] at e;cases e;exact k _ rfl)];exact e⟩
def xO(cl:LA)(b:Addr):(∃q∈cl,q.2=b)\/∀q∈cl,q.2≠b:=by
 by_cases c:∃q∈cl,q.2=b
 ·exact .inl c
 ·exact .inr λ q hq e=>c ⟨q,hq,e⟩
def tz(hc:CelAt H cl vcs)(h:H a=some o)(n:∀b c v,o≠.frz b (kA c v)):minC H cl a=some o:=by
 rw[cO λ q hq z=>by obtain⟨b,v,e⟩:=hc.mem hq;rw[z,h] at e;exact n _ _ _ (bj e)];exact h
def Rd.min{u:HO}(hc:CelAt H cl vcs)(n:∀φ,u≠.ext φ)(k:∀b v,u≠.frz b v)(h:Rd H a u):Rd (minC H cl) a u:=by
 rcases h with h|⟨o,h⟩
 ·exact .inl (tz hc h λ _ _ _=>k _ _)
 ·exact .inr ⟨o,tz hc h λ b c v z=>by injection z with _ z;exact n _ z⟩
def pP(hc:CelAt H cl vcs):Ke K F H F (minC H cl):=⟨λ a vs h=>h.imp (λ h=>h.min hc (λ _ z=>nomatch z) (λ _ _ z=>nomatch z)) id,λ a vs h=>h.imp λ f h=>⟨f,h.imp (λ h=>h.min hc (λ _ z=>nomatch z) (λ _ _ z=>nomatch z)) id⟩⟩
def xP(hc:CelAt H cl vcs)(nf:∀q∈cl,¬F q.2)(w:Wd (TbJ L) F H):Wd (TbJ L) F (minC H cl):=⟨w.j.sm λ a o _ k e=>tz hc e λ _ _ _=>k _ _,λ a f=>by
 rw[cO λ q hq z=>nf q hq (z ▸ f)];exact w.d a f⟩
def tD(hz:∀q∈cl,H' q.2=none)(h:H' a≠none):resC H1 H' cl a=H' a:=cU λ q hq z=>h (z ▸ hz q hq)
def Rd.res(hz:∀q∈cl,H' q.2=none)(h:Rd H' a u):Rd (resC H1 H' cl) a u:=by
 rcases h with h|⟨o,h⟩
 ·exact .inl (by rw[tD hz (by rw[h];simp)];exact h)
 ·exact .inr ⟨o,by rw[tD hz (by rw[h];simp)];exact h⟩
def xQ(hz:∀q∈cl,H' q.2=none):Ke K F H' F (resC H1 H' cl):=⟨λ a vs h=>h.imp (λ h=>h.res hz) id,λ a vs h=>h.imp λ f h=>⟨f,h.imp (λ h=>h.res hz) id⟩⟩
def Grow.res(hz:∀q∈cl,H' q.2=Option.none)(g:Grow (TbJ L) F1 (minC H1 cl) F2 H'):Grow (TbJ L) F1 H1 F2 (resC H1 H' cl):=by
 have nF:∀a,F2 a->∀q∈cl,q.2≠a:=λ a f q hq z=>g.w.d a f (z ▸ hz q hq);refine⟨λ a o n e=>?_,λ a e=>?_,g.up,λ a f=>?_,⟨g.w.j.sm λ a o _ _ e=>by rw[tD hz (by rw[e];simp)];exact e,λ a f=>by rw[cU (nF a f)];exact g.w.d a f⟩⟩
 ·rcases xO cl a with ⟨q,hq,rfl⟩|hn
  ·rw[fR hq];exact e
  ·rw[cU hn];exact g.sm a o n (by rw[cO hn];exact e)
 ·rcases xO cl a with ⟨q,hq,rfl⟩|hn
  ·rw[fR hq];exact e
  ·rw[cU hn];exact g.dm a (by rw[cO hn];exact e)
 ·have:=g.nw a f
  rwa [cO (nF a f)] at this
structure Hand (cl:LA)(vcs:List V)(H1 H2:Hp):Prop where
 fr:∀q∈cl,H1 q.2=none
 at_:CelAt H2 cl vcs
 eq:∀b,(∀q∈cl,q.2≠b)->H2 b=H1 b
def Hand.to(h:Hand cl vcs H1 H2)(e:H1 a=some o):H2 a=some o:=by
 rw[h.eq a λ q hq z=>by have:=h.fr q hq;rw[z,e] at this;cases this];exact e
def Hand.wd(h:Hand cl vcs H1 H2)(w:Wd (TbJ L) F H1):Wd (TbJ L) F H2:=⟨w.j.sm λ a o _ _ e=>h.to e,λ a f=>by
 cases e:H1 a with
 |none=>exact absurd e (w.d a f)
 |some o=>rw[h.to e];simp⟩
def Hand.ke(h:Hand cl vcs H1 H2):Ke K F H1 F H2:=⟨λ a vs q=>q.sm λ a o _ e=>h.to e,λ a vs q=>q.imp λ f q=>⟨f,q.sm λ a o _ e=>h.to e⟩⟩
def Hand.nf(h:Hand cl vcs H1 H2)(w:Wd (TbJ L) F H1)(g:Grow (TbJ L) F H2 F' H'):∀q∈cl,¬F' q.2:=λ q hq f=>by
 rcases g.nw _ f with z|z
 ·exact w.d _ z (h.fr q hq)
 ·obtain⟨o,v,e⟩:=h.at_.mem hq;rw[z] at e;cases e
def Hand.cel(h:Hand cl vcs H1 H2)(g:Grow (TbJ L) F H2 F' H'):CelAt H' cl vcs:=⟨h.at_.len,λ i q e=>let ⟨v,o,e1,e2⟩:=h.at_.at_ i q e;⟨v,o,e1,g.sm _ _ (λ ps z=>nomatch z) e2⟩,h.at_.apart⟩
def Hand.back(h:Hand cl vcs H1 H2)(w:Wd (TbJ L) F H1)(g:Grow (TbJ L) F H2 F' H'):Grow (TbJ L) F H1 F' (minC H' cl):=by
 have nf:=h.nf w g;have ne:∀a,H1 a≠none->∀q∈cl,q.2≠a:=λ a e q hq z=>e (z ▸ h.fr q hq);refine⟨λ a o n e=>?_,λ a e=>?_,g.up,λ a f=>?_,xP (h.cel g) nf g.w⟩
 ·rw[cO (ne a (by rw[e];simp))];exact g.sm a o n (h.to e)
 ·rw[cO (ne a e)];exact g.dm a (by rw[h.eq a (ne a e)];exact e)
 ·rcases g.nw a f with z|z
  ·exact .inl z
  ·refine .inr ?_
   rwa [h.eq a λ q hq e=>nf q hq (e ▸ f)] at z
end
theorem xS(env:Env)(post:List Stmt):∀pre:List Stmt,execs (pre++post) env=(execs pre env >>= λ f=>match f with|.next=>execs post env|f=>pure f)
 |[]=>by
  rw[ow];unfold execs;simp
 |st::pre=>by
  rw[jn];rw[execs,execs,xS env post pre];simp[bind_assoc]
  congr 1;funext f;cases f<;>simp
def tE(h1:PSs X pre t)(h2:PSs X post u):PSs X (pre++post) (uF t u):=by
 intro pins s σ H D I h;rw[xS];refine af (thn (h1 pins s σ H { D with nx:=u D } I h) λ f s1 q=>?_)
 cases f with
 |next=>obtain⟨σ',H',I',q⟩:=q;exact h2 pins s1 σ' H' D I' q
 |ret v=>exact aj q
 |brk=>exact aj q
 |cont=>exact aj q
noncomputable def frv(l:List (Str×NameKind)):List Str:=((l.filter (·.2 == NameKind.free)).map (·.1)).reverse
theorem tF{env:Env}:∀(l:List (Str×NameKind)) (cs:LA),(∀x,(x,NameKind.free)∈l->∃c,env.cells.lookup x=some c) ->
  ∃cl,(forIn l cs (λ(x:Str × NameKind) (r:LA)=>(match x with
   |(name,kind)=>if (kind == NameKind.free)=true then (do let y <- cellOf env name;pure (ForInStep.yield ((name,y)::r))) else pure (ForInStep.yield r):Sem (ForInStep (LA)))):Sem (LA))=pure (cl++cs) /\
   cl.map (·.1)=frv l/\∀q∈cl,env.cells.lookup q.1=some q.2
 |[],cs,_=>⟨[],rfl,rfl,λ q h=>by cases h⟩
 |(n,k)::l,cs,h=>by
  by_cases hk:k=.free
  ·subst hk;obtain⟨c,hc⟩:=h n pv;obtain⟨cl,e,q1,q2⟩:=tF l ((n,c)::cs) λ x hx=>h x (by simp[hx]);refine⟨cl++[(n,c)],?_,?_,λ q hq=>?_⟩
   ·rw[mB];have:cellOf env n=pure c:=by unfold cellOf;rw[hc]
    simp only[this,kz,dI,s1x];rw[jd];exact e
   ·rw[cG,q1];unfold frv;rw[xT pv];simp
   ·rcases cJ.mp hq with z|z
    ·exact q2 q z
    ·cases bY.mp z;exact hc
  ·obtain⟨cl,e,q1,q2⟩:=tF l cs λ x hx=>h x (by simp[hx]);refine⟨cl,?_,?_,q2⟩
   ·rw[mB];have:(k == NameKind.free)=false:=by simpa using hk
    simp only[this,oK,s0f,s1x];exact e
   ·rw[q1];unfold frv;rw[xU (by simpa using hk)]
def xV{scope:Scope}{env:Env}(h:∀x∈frv scope.names,∃c,env.cells.lookup x=some c):∃cl,closureFor scope env=pure cl/\OwnCl env.cells (frv scope.names) cl:=by
 obtain⟨cl,e,q1,q2⟩:=tF (env:=env) scope.names [] λ x hx=>h x (by unfold frv;simp only[List.mem_reverse,bD,gZ];exact⟨_,⟨hx,pv⟩,rfl⟩);refine⟨cl,?_,q1,q2⟩;unfold closureFor;simp only[bind_pure];rw[cu] at e;exact e
noncomputable def TV.pl:TV->Bool
 |.own _=>false
 |.bor _=>false
 |.dct _=>false
 |_=>true
section
variable {P:Program}{w:World}{K:FG}{mg:SV}{base:Heap}{L:List (Addr×Pos×Str)}
def pQ{H F' H'}{t:TV}(p:t.pl=true)(h:Rr K H F' H' t v):Rp K F' H' t v:=by
 cases t<;>first|exact h|cases p
def Jo{F H}{t:TV}(p:t.pl=true)(h:Sr K F H t v):Rp K F H t v:=by
 cases t<;>first|exact h|cases p
noncomputable def jD(P:Program)(w:World)(K:FG)(mg:SV)(base:Heap)(L:List (Addr×Pos×Str))(k:Nat)(A:TV->List TV->Prop):Sp:=λ vs H Q _=>∃(F:Fz) (t:TV) (its outs:List TV) (sv:V) (fa:Addr),vs=[sv,.ref fa]/\Wd (TbJ L) F H/\Rp K F H t sv/\A t its/\outs.length=its.length/\FnV H fa /\
 (∀(i:Nat) a b F1 H1 p Q',its[i]?=some a->outs[i]?=some b->Grow (TbJ L) F H F1 H1->Rp K F1 H1 a p->(∀F2 H2 v,Grow (TbJ L) F1 H1 F2 H2->Rp K F2 H2 b v->Q' v H2)->jo P w K mg base k fa [p] H1 Q') /\
 ∀F' H' v,Grow (TbJ L) F H F' H'->Rp K F' H' (.tup [t,.tup outs]) v->Q v H'
variable {FT:List PSp}{GT:List TV}{fs gs:List Str}{F F1:Fz}{Hm H2 H1:Hp}{cl:LA}{vcs:List V}{caps:List TV}{N ps fv:List Str}{fa c':Addr}{name qual:Str}{params:Arguments}{scope:Scope}{k:Nat}{a b:TV}{p:V}{Q:VK}
structure LamIn (K:FG)(L:List (Addr×Pos×Str))(F:Fz)(Hm H2:Hp)(cl:LA)(vcs:List V)(caps:List TV)(F1:Fz)(H1:Hp)(a:TV)(p:V):Prop where
 hd:Hand cl vcs Hm H2
 wd:Wd (TbJ L) F Hm
 cp:RpL K F Hm caps vcs
 gr:Grow (TbJ L) F H2 F1 H1
 ar:Rp K F1 H1 a p
def LamIn.wm(x:LamIn K L F Hm H2 cl vcs caps F1 H1 a p):Wd (TbJ L) F1 (minC H1 cl):=xP (x.hd.cel x.gr) (x.hd.nf x.wd x.gr) x.gr.w
def LamIn.rp(x:LamIn K L F Hm H2 cl vcs caps F1 H1 a p):RpL K F1 (minC H1 cl) (a::caps) (p::vcs) :=
 ⟨p,vcs,rfl,x.ar.ke (pP (x.hd.cel x.gr)),((x.cp.ke x.hd.ke).ke x.gr.ke).ke (pP (x.hd.cel x.gr))⟩
theorem xW{f:Addr}{A:Around}{s:Shared}(m:MOk P w K mg (TbJ L) GT gs)(hl:fs.length=FT.length)(fns:∀(f:Nat) x S,fs[f]?=some x->FT[f]?=some S->∃ps,Callee P w K mg base CX0 k x ps (pSp K (TbJ L) S))
  (hr:Room k (A.deeper (envX qual E s.heap.objs.size f cd (cellsFrom (s.heap.objs.size+1) E.names []++cl)))):XOk (iy P w K mg base N qual E f cd cl A outer s H) (TbJ L) FT GT fs gs :=
 ⟨rfl,by have:=hr.un;show(A.deeper _).units+20<cLine;lia,m.hJ,λ g y S h1 h2=>let ⟨ps,c⟩:=fns g y S h1 h2;⟨k,ps,hr,c⟩,m.glb,m.dic,m.blt,hl⟩
theorem Jp(ci:Cd)(m:MOk P w K mg (TbJ L) GT gs)(hl:fs.length=FT.length)(fns:∀(f:Nat) x S,fs[f]?=some x->FT[f]?=some S->∃ps,Callee P w K mg base CX0 k x ps (pSp K (TbJ L) S))
  (S:LmScope N [name] fv scope) (hcl:cl.map (·.1)=fv) (hb:∀(pm ctv:Value) (us:LV),us.length=1->bindArgs (kla_fn "<lambda>" qual params body scope cl pm (.ref c') ctv) ⟨us,[]⟩=pure ([name].zip us))
  (L1:Hm fa=some (eh fa c' qual params body scope cl)) (_L:Hm c'=some (cz c' qual)) (x:LamIn K L F Hm H2 cl vcs caps F1 H1 a p) (cki:ck fs gs ci N scope.names body=true)
  (hw:wE FT GT ci (en0 N.length (a::caps)) λ u=>u=b/\b.pl=true) (q:∀F2 H2 v,Grow (TbJ L) F1 H1 F2 H2->Rp K F2 H2 b v->Q v H2):jo P w K mg base (k+1) fa [p] H1 Q:=by
 have up:∀ {a o},(∀ps,o≠.tbl ps)->Hm a=some o->H1 a=some o:=λ n e=>x.gr.sm _ _ n (x.hd.to e);refine Jm (vcs:=vcs) S hcl hb rfl (up (λ _ z=>nomatch z) L1) (up (λ _ z=>nomatch z) _L) (x.hd.cel x.gr) (te:=rE K (TbJ L) FT GT ci) (λ A outer s hr=>sE ci (xW m hl fns hr) ⟨ca,ca⟩ cki) ?_;refine⟨F1,_,(er0 (N:=N) x.wm x.rp).ev,ao ci (λ u ⟨e,pl⟩ F' H' v g r hz=>?_) hw⟩;subst e;exact q _ _ v (g.res hz) ((pQ pl r).ke (xQ hz))
theorem Jq(ci:Ct)(m:MOk P w K mg (TbJ L) GT gs)(hl:fs.length=FT.length)(fns:∀(f:Nat) x S,fs[f]?=some x->FT[f]?=some S->∃ps,Callee P w K mg base CX0 k x ps (pSp K (TbJ L) S))
  (S:LmScope N [name] fv scope) (hcl:cl.map (·.1)=fv) (hb:∀(doc pm ctv:Value) (us:LV),us.length=1->bindArgs (fnX nn qual params body scope cl .none .none doc pm none (.ref c') ctv) ⟨us,[]⟩=pure ([name].zip us))
  (L1:Hm fa=some (dL fa c' nn qual params body scope cl)) (_L:Hm c'=some (cz c' qual)) (x:LamIn K L F Hm H2 cl vcs caps F1 H1 a p) (cki:bh fs gs N scope.names true ci body=true)
  (hw:wS FT GT ci (en0 N.length (a::caps)) (λ _=>False) λ u=>u=b) (q:∀F2 H2 v,Grow (TbJ L) F1 H1 F2 H2->Rp K F2 H2 b v->Q v H2):jo P w K mg base (k+1) fa [p] H1 Q:=by
 have up:∀ {a o},(∀ps,o≠.tbl ps)->Hm a=some o->H1 a=some o:=λ n e=>x.gr.sm _ _ n (x.hd.to e);refine Jn (vcs:=vcs) S hcl hb rfl (up (λ _ z=>nomatch z) L1) (up (λ _ z=>nomatch z) _L) (x.hd.cel x.gr) (ts:=rS K (TbJ L) FT GT N.length F1 (minC H1 cl) [] ci) (λ A outer s hr=>sS (F0:=F1) (H0:=minC H1 cl) (PN:=[]) ci (lp:=true) ⟨xW m hl fns hr,⟨ca,ca⟩,S.nd,λ x z=>cL z,λ _=>mV⟩ cki) ?_;refine⟨F1,_,er0 (N:=N) x.wm x.rp,?_,bE ci (λ ρ' z=>z.elim) (λ u e F' H' v g r hz=>?_) hw⟩
 ·unfold start;have l1:=x.hd.at_.len;have l2:cl.length=fv.length:=by rw[<- hcl,ak]
  have z:=br List.length S.pre;rw[bc,aK] at z;rw[aK,ak,dX];simp only[aK,List.length_cons,List.length_nil] at z ⊢;lia
 ·subst e;exact q _ _ v (g.res hz) (r.ke (xQ hz))
end
section
variable {P:Program}{w:World}{K:FG}{mg:SV}{base:Heap}{L:List (Addr×Pos×Str)}{FT FI:List PSp}{GT:List TV}{fs fi gs:List Str}
theorem xX{α β:Type}{f:α->β}:∀ {l:List α}{a b:α},(l.map f).Nodup->a∈l->b∈l->f a=f b->a=b
 |c::l,a,b,n,ha,hb,e=>by
  rw[bA,fH] at n
  rcases bf.mp ha with ea|ia<;>rcases bf.mp hb with eb|ib
  ·rw[ea,eb]
  ·exact absurd (bD.mpr ⟨b,ib,by rw[<- e,ea]⟩) n.1
  ·exact absurd (bD.mpr ⟨a,ia,by rw[e,eb]⟩) n.1
  ·exact xX n.2 ia ib e
def xY{T:Addr}{pos:Pos}{ql:Str}(nd:(L.map (·.1)).Nodup)(m:(T,pos,ql)∈L)(wd:Wd (TbJ L) F H)(t':TabOk H' T pos ql)(up:∀b o,b≠T->H b=some o->H' b=some o):Grow (TbJ L) F H F H':=by
 obtain⟨ps,e,_⟩:=wd.j _ m;obtain⟨ps',e',_⟩:=id t'
 have dm:∀a,H a≠none->H' a≠none:=λ a h=>by
  by_cases z:a=T
  ·subst z;rw[e'];simp
  ·cases q:H a with
   |none=>exact absurd q h
   |some o=>rw[up a o z q];simp
 refine⟨λ a o n h=>up a o (λ z=>by rw[z,show H T=_ from e] at h;cases h;exact n _ rfl) h,dm,λ _ f=>f,λ _ f=>.inl f,⟨λ x hx=>?_,λ a f=>dm a (wd.d a f)⟩⟩;by_cases z:x.1=T
 ·have:x=(T,pos,ql):=xX nd hx m z;subst this;exact t'
 ·obtain⟨qs,h1,h2,h3⟩:=wd.j x hx;exact⟨qs,up _ _ z h1,h2,h3.imp id λ⟨c,q1,q2⟩=>⟨c,q1,up _ _ (λ y=>by rw[y,show H T=_ from e] at q2;cases q2) q2⟩⟩
theorem tG(e:EV K J F H σ ρ):∀ {js:List Nat}{caps:List TV},js.map (λ j=>ρ[j]?)=caps.map (λ t=>some (some t))->caps.all TV.pl=true->∃vcs,js.map (λ j=>σ[j]?)=vcs.map (λ v=>some (some v))/\RpL K F H caps vcs
 |[],[],_,_=>⟨[],rfl,rfl⟩
 |[],_::_,h,_=>by cases h
 |_::_,[],h,_=>by cases h
 |j::js,t::caps,h,pl=>by
  rw[bA,bA] at h
  injection h with h1 h2
  rw[cw,aU] at pl;obtain⟨v,ev,r⟩:=e.sl j t h1;obtain⟨vs,e2,r2⟩:=tG e h2 pl.2;exact⟨v::vs,by rw[bA,bA,ev,e2],v,vs,ca,Jo pl.1 r,r2⟩
noncomputable def wHO(A:TV->List TV->Prop)(js:List Nat)(f:List TV->TV->Prop)(Q:TV->Prop)(ρ:En)(t:TV):Prop:=∃its outs caps,A t its/\outs.length=its.length/\js.map (λ j=>ρ[j]?)=caps.map (λ t=>some (some t))/\caps.all TV.pl=true/\t.pl=true/\(∀(i:Nat) a b,its[i]?=some a->outs[i]?=some b->f (a::caps) b)/\Q (.tup [t,.tup outs])
variable {x tb at_ ql:Str}{st:Stmt}{f c T:Addr}{fd:FuncData}{N ps pst N':List Str}{js:List Nat}{k kk:Nat}{S:PSp}{A:TV->List TV->Prop}{pre:List Stmt}{e:Expr}{params:Arguments}{scope:Scope}{pos p1 p2 p3 p4:Pos}
structure MkIn (P:Program)(w:World)(K:FG)(mg:SV)(base:Heap)(L:List (Addr×Pos×Str))(FT FI:List PSp)(GT:List TV)(fs fi gs:List Str)(x tb at_ ql:Str)(st:Stmt)(f c T:Addr)(fd:FuncData)(N ps pst N':List Str)(js:List Nat)(k kk:Nat)(A:TV->List TV->Prop)(params:Arguments)(scope:Scope)(pos:Pos):Prop where
 F:Fun K x x st f fd
 cd:fd.code=.ref c
 TF:TabF base mg c T
 mT:(T,pos,ql)∈L
 nd:(L.map (·.1)).Nodup
 sc:FnScope N ps (ah st)
 m:MOk P w K mg (TbJ L) GT gs
 hl:fs.length=FT.length
 fns:∀(f:Nat) x S,fs[f]?=some x->FT[f]?=some S->∃ps,Callee P w K mg base CX0 k x ps (pSp K (TbJ L) S)
 hi:fi.length=FI.length
 fni:∀(f:Nat) x S,fi[f]?=some x->FI[f]?=some S->∃ps,Callee P w K mg base CX0 kk x ps (pSp K (TbJ L) S)
 ho:Callee P w K mg base CX0 k tb pst (jD P w K mg base L (kk+1) A)
 gt:(ah st).names.lookup tb=some .globalImplicit
 ntb:(tb == ("__debug__" : Str))=false
 ls:LmScope N' [at_] (frv scope.names) scope
 hj:js.map (λ j=>N[j]?)=(frv scope.names).map some
 hk:∀n∈frv scope.names,(ah st).names.lookup n=some .cell
 nf:(frv scope.names).Nodup
 df:∀env,defaultsOf params env=([],[])
theorem Jr(code:Ct)(ce ci:Cd)(M:MkIn P w K mg base L FT FI GT fs fi gs x tb at_ ql st f c T fd N ps pst N' js k kk A params scope pos)
  (hq:∀n f cd,(envOfC x (ah st) n f cd).qual ++ "<lambda>"=ql)
  (hbd:aN st=pre++[.Return (some (.Call (.Name tb p1) [e,.Lambda params body scope pos] [] p2)) p3]) (hst:aF e=true)
  (hb:∀(cl:LA) (c':Addr) (pm ctv:Value) (us:LV),us.length=1->bindArgs (kla_fn "<lambda>" ql params body scope cl pm (.ref c') ctv) ⟨us,[]⟩=pure ([at_].zip us))
  (ck1:bh fs gs N (ah st).names true code pre=true) (ck2:ck fs gs ce N (ah st).names e=true) (cki:ck fi gs ci N' scope.names body=true) (hlen:∀ts Q,S ts Q->ts.length=ps.length)
  (hw:∀ts Q,S ts Q->wS FT GT code (en0 N.length ts) (λ ρ=>wE FT GT ce ρ λ t=>wHO A js (λ ts b=>wE FI GT ci (en0 N'.length ts) λ u=>u=b/\b.pl=true) Q ρ t) Q):FnOk P w K mg base CX0 (k+1) f fd ps (pSp K (TbJ L) S):=by
 refine M.F.okT M.cd M.sc (λ vs H Q E ⟨F1,ts,P1,wd,r,s,_⟩=>by rw[<- r.length];exact hlen _ _ s) (λ A' outer s H vs Q E hr h=>?_);obtain⟨F1,ts,P1,wd,r,sp,fin⟩:=h
 have nl:vs.length<=N.length:=by
  have z:=br List.length M.sc.pre;rw[bc] at z;have:=hlen _ _ sp;rw[<- r.length];lia
 have xo:XOk (bH CX0 P w K mg base N x (ah st) f (.ref c) A' outer s H E).nox (TbJ L) FT GT fs gs:=⟨rfl,by have:=hr.un;show(A'.deeper _).units+20<cLine;lia,M.m.hJ,λ g y S h1 h2=>let ⟨ps,c⟩:=M.fns g y S h1 h2;⟨k,ps,hr,c⟩,M.m.glb,M.m.dic,M.m.blt,M.hl⟩;obtain⟨cl,hcl,own⟩:=xV (scope:=scope) (env:=envOfC x (ah st) s.heap.objs.size f (.ref c)) λ y hy=>ka.mp (jZ _ _ _ (.inl (M.hk y hy)));have h1:=sS (F0:=F1) (H0:=H) (PN:=[]) code (lp:=true) ⟨xo,⟨rfl,rfl⟩,M.sc.nd,λ _ _=>rfl,λ _=>mV⟩ ck1;have h2:=lG (jQ (pos:=p3) (ww (X:=(bH CX0 P w K mg base N x (ah st) f (.ref c) A' outer s H E).nox) (p:=p1) (pos:=p2) M.ho hr M.gt own M.hj M.hk (λ _ _=>rfl) M.nf (bJ (sE ce xo ⟨rfl,rfl⟩ ck2) (bJ (Gr (pos:=pos) (body:=body) (hq _ _ _) rfl M.TF (M.df _) hcl own) pa_nil rfl) (aP hst)) M.ntb (aP hst) rfl));rw[hbd];refine⟨_,tE h1 h2,F1,en0 N.length ts,er0 wd r,?_,?_⟩
 ·unfold start;rw[aK,ak,dX];show vs.length+(N.length-vs.length)=N.length;lia
 refine bE code (λ ρ' q F' H' σ' e _=>?_) (λ t q F' H' v g r=>fin t q F' H' v g r) (hw ts P1 sp);refine⟨F',ρ',e.ev,ao ce (λ t ⟨its,outs,caps,hA,ho,hc,pl,tp,hf,hQ⟩ F2 H2 v g rv=>⟨g.w.j _ M.mT,λ fa c' cl1 H3 o1 ffa hfa hc3 t3 up3=>?_⟩) q⟩;cases OwnCl.uniq own o1;obtain⟨vcs,ev,rc⟩:=tG (e.ev.grow g) hc pl;refine⟨vcs,ev,λ cl2 H4 o2 fr hcel eq4=>?_⟩;cases OwnCl.uniq own o2;have g3:=xY M.nd M.mT g.w t3 up3;have hd:Hand cl vcs H3 H4:=⟨fr,hcel,eq4⟩
 exact⟨F2,t,its,outs,v,fa,ca,hd.wd g3.w,((pQ tp rv).ke g3.ke).ke hd.ke,hA,ho,FnV.lam (hd.to hfa),λ i a b F5 H5 p Q' ei eb g5 ra qq=>Jp ci M.m M.hi M.fni M.ls own.1 (hb cl c') hfa hc3 ⟨hd,g3.w,rc.ke g3.ke,g5,ra⟩ cki (hf i a b ei eb) qq,
  λ F6 H6 v6 g6 r6=>fin _ hQ _ _ _ (e.gr.trans (g.trans (g3.trans (hd.back g3.w g6)))) (r6.ke (pP (hd.cel g6)))⟩
def EV.off{i:Nat}(e:EV K J F H σ ρ)(h:ρ[i]?=some none):EV K J F H (σ.set i (some v)) ρ:=⟨e.w,λ j t q=>by
 obtain⟨u,eu,r⟩:=e.sl j t q;refine⟨u,?_,r⟩;rw[eX (λ z=>by subst z;rw[h] at q;cases q)]
 exact eu⟩
theorem Js{i0:Nat}(code:Ct)(ce:Cd)(ci:Ct)(M:MkIn P w K mg base L FT FI GT fs fi gs x tb at_ ql st f c T fd N ps pst N' js k kk A params scope pos)
  (hq:∀n f cd,qualnameIn (envOfC x (ah st) n f cd) nn nn=ql)
  (hbd:aN st=pre++[.FunctionDef nn params body [] none [] scope none nn pos,.Return (some (.Call (.Name tb p1) [e,.Name nn p4] [] p2)) p3]) (hst:aF e=true) (hi0:N[i0]?=some nn) (hnn:(ah st).names.lookup nn=some .local) (nd1:(nn == ("__debug__" : Str))=false) (nd2:(nn == ("__classdict__" : Str))=false)
  (d0:params.defaults=[]) (d1:params.kw_defaults=[]) (ha:∀env,annTrees params none env=[])
  (hb:∀(cl:LA) (c':Addr) (doc pm ctv:Value) (us:LV),us.length=1->bindArgs (fnX nn ql params body scope cl .none .none doc pm none (.ref c') ctv) ⟨us,[]⟩=pure ([at_].zip us))
  (ck1:bh fs gs N (ah st).names true code pre=true) (ck2:ck fs gs ce N (ah st).names e=true) (cki:bh fi gs N' scope.names true ci body=true) (hlen:∀ts Q,S ts Q->ts.length=ps.length) (hji:∀j∈js,j≠i0)
  (hw:∀ts Q,S ts Q->wS FT GT code (en0 N.length ts) (λ ρ=>ρ[i0]?=some none/\wE FT GT ce ρ λ t=>wHO A js (λ ts b=>wS FI GT ci (en0 N'.length ts) (λ _=>False) λ u=>u=b) Q ρ t) Q):FnOk P w K mg base CX0 (k+1) f fd ps (pSp K (TbJ L) S):=by
 refine M.F.okT M.cd M.sc (λ vs H Q E ⟨F1,ts,P1,wd,r,s,_⟩=>by rw[<- r.length];exact hlen _ _ s) (λ A' outer s H vs Q E hr h=>?_);obtain⟨F1,ts,P1,wd,r,sp,fin⟩:=h
 have nl:vs.length<=N.length:=by
  have z:=br List.length M.sc.pre;rw[bc] at z;have:=hlen _ _ sp;rw[<- r.length];lia
 have xo:XOk (bH CX0 P w K mg base N x (ah st) f (.ref c) A' outer s H E).nox (TbJ L) FT GT fs gs:=⟨rfl,by have:=hr.un;show(A'.deeper _).units+20<cLine;lia,M.m.hJ,λ g y S h1 h2=>let ⟨ps,c⟩:=M.fns g y S h1 h2;⟨k,ps,hr,c⟩,M.m.glb,M.m.dic,M.m.blt,M.hl⟩;obtain⟨cl,hcl,own⟩:=xV (scope:=scope) (env:=envOfC x (ah st) s.heap.objs.size f (.ref c)) λ y hy=>ka.mp (jZ _ _ _ (.inl (M.hk y hy)));have h1:=sS (F0:=F1) (H0:=H) (PN:=[]) code (lp:=true) ⟨xo,⟨rfl,rfl⟩,M.sc.nd,λ _ _=>rfl,λ _=>mV⟩ ck1;have h0:=Gz (X:=(bH CX0 P w K mg base N x (ah st) f (.ref c) A' outer s H E).nox) (i:=i0) (body:=body) (pos:=pos) M.sc.nd hi0 (.inl hnn) (hq _ _ _) rfl M.TF hcl own d0 d1 (ha _) (.inr hnn);have h2:=lG (jQ (pos:=p3) (ww (X:=(bH CX0 P w K mg base N x (ah st) f (.ref c) A' outer s H E).nox) (p:=p1) (pos:=p2) M.ho hr M.gt own M.hj M.hk (λ _ _=>rfl) M.nf (bJ (sE ce xo ⟨rfl,rfl⟩ ck2) (bJ (iW (pos:=p4) hi0 (.inl hnn) nd1 nd2) pa_nil rfl) (aP hst)) M.ntb (aP hst) rfl));rw[hbd];refine⟨_,tE h1 (cg h0 h2),F1,en0 N.length ts,er0 wd r,?_,?_⟩
 ·unfold start;rw[aK,ak,dX];show vs.length+(N.length-vs.length)=N.length;lia
 refine bE code (λ ρ' ⟨hn,q⟩ F' H' σ' e sl=>?_) (λ t q F' H' v g r=>fin t q F' H' v g r) (hw ts P1 sp);refine⟨e.ev.w.j _ M.mT,λ fa c' cl1 H3 o1 ffa hfa hc3 t3 up3=>?_⟩;cases OwnCl.uniq own o1;have g3:=xY M.nd M.mT e.ev.w t3 up3;have e3:EV K (TbJ L) F' H3 (σ'.set i0 (some (.ref fa))) ρ':=(e.ev.grow g3).off hn;have il:i0<σ'.length:=by rw[sl];exact(be.mp hi0).1
 have hi3:(σ'.set i0 (some (V.ref fa)))[i0]?=some (some (V.ref fa)):=by rw[eW il]
 refine⟨F',ρ',e3,ao ce (λ t ⟨its,outs,caps,hA,ho,hc,pl,tp,hf,hQ⟩ F2 H2 v g rv=>?_) q⟩;show cR i0 _ _ _;unfold cR;rw[hi3];obtain⟨vcs,ev,rc⟩:=tG (e3.grow g) hc pl;refine⟨vcs,ev,λ cl2 H4 o2 fr hcel eq4=>?_⟩;cases OwnCl.uniq own o2;have hd:Hand cl vcs H2 H4:=⟨fr,hcel,eq4⟩;have hfa2:=g.sm _ _ (λ _ z=>by cases z) hfa;have hc2:=g.sm _ _ (λ _ z=>by cases z) hc3
 exact⟨F2,t,its,outs,v,fa,ca,hd.wd g.w,(pQ tp rv).ke hd.ke,hA,ho,FnV.dfn (hd.to hfa2),λ i a b F5 H5 p Q' ei eb g5 ra qq=>Jq ci M.m M.hi M.fni M.ls own.1 (hb cl c') hfa2 hc2 ⟨hd,g.w,rc,g5,ra⟩ cki (hf i a b ei eb) qq,
  λ F6 H6 v6 g6 r6=>fin _ hQ _ _ _ (e.gr.trans (g3.trans (g.trans (hd.back g.w g6)))) (r6.ke (pP (hd.cel g6)))⟩
end
section
variable {P:Program}{w:World}{K:FG}{mg:SV}{base:Heap}{L:List (Addr×Pos×Str)}{FT:List PSp}{GT:List TV}{fs gs:List Str}
structure HoIn (P:Program)(w:World)(K:FG)(mg:SV)(base:Heap)(L:List (Addr×Pos×Str))(k:Nat)(A:TV->List TV->Prop)(F:Fz)(H:Hp)(t:TV)(its outs:List TV)(sv:V)(fa:Addr):Prop where
 wd:Wd (TbJ L) F H
 r:Rp K F H t sv
 a:A t its
 l:outs.length=its.length
 f:FnV H fa
 c:∀(i:Nat) a b F1 H1 p Q',its[i]?=some a->outs[i]?=some b->Grow (TbJ L) F H F1 H1->Rp K F1 H1 a p->(∀F2 H2 v,Grow (TbJ L) F1 H1 F2 H2->Rp K F2 H2 b v->Q' v H2)->jo P w K mg base k fa [p] H1 Q'
def FnV.grow(f:FnV H fa)(g:Grow J F H F' H'):FnV H' fa:=let ⟨φ,e,q⟩:=f;⟨φ,g.sm _ _ (λ _ z=>nomatch z) e,q⟩
variable {X:Cx}{N:List Str}{nm:List (Str×NameKind)}{kk fA:Nat}{A:TV->List TV->Prop}{SA:PSp}
noncomputable def rHC(X:Cx)(L:List (Addr×Pos×Str))(kk:Nat)(A:TV->List TV->Prop):TE:=λ σ H Q=>∃F t its outs sv fa,σ=[some sv,some (.ref fa)]/\HoIn X.prog X.w X.K X.mg X.base L kk A F H t its outs sv fa/\∀F' H' v,Grow (TbJ L) F H F' H'->Rr X.K H F' H' (.own outs) v->Q v H'
theorem Ju{at_ nf:Str}{iter:Expr}(xo:XOk X (TbJ L) FT GT fs gs)(xs:XS X N nm)(hr:Room kk X.A)(hS:ckS N nm sc [at_] [nf] [1]=true)(hi:PI X (.Name at_ p6) iter (rW X.K (TbJ L) FT GT .seq (.cons (.call fA (.cons (.v 0) .nil)) .nil)))(hns:dz iter=true)
  (eA:FT[fA]?=some SA) (hA:∀t its,A t its->t.pl=true/\its.length<sizeLine/\SA [t] λ u=>u=.lst its)
  (hT:ckT false ([at_]++[nf]) (bI nm sc.names) [0] (.Name at_ p6)=true) (k1:ck fs gs (.v 0) ([at_]++[nf]) (bI nm sc.names) (.Name at_ p4)=true) (k2:ck fs gs (.v 1) ([at_]++[nf]) (bI nm sc.names) (.Name nf p3)=true) :
  PE X (.ListComp (.Call (.Name nf p3) [.Name at_ p4] [] p5) [⟨.Name at_ p6,iter,[],0⟩] sc pos) (rHC X L kk A):=by
 intro pins s σ H Q I h;obtain⟨cl,S⟩:=mO I.ok xs hS;have yx:∀(C:Addr) (ex:List Addr) (s:Shared) (H:Hp),XS (bp X ([at_]++[nf]) sc cl C ex s H) ([at_]++[nf]) (bI nm sc.names):=λ C ex s H=>⟨rfl,S.rel⟩;have k2':=fD.mp k2;obtain⟨n1,n2⟩:=fD.mp k2'.1;obtain⟨d1,d2,_⟩:=db k2'.2
 refine vD (g:=tgG X.K [0]) (te:=wq X.prog X.w X.K X.mg X.base kk 1 (nX (cR 0) qT)) xo.calm hi S.clos S.cell S.kind S.names S.sub S.has S.len S.cap (λ C ex s H=>(jy (X:=bp X ([at_]++[nf]) sc cl C ex s H) S.nd xo.calm (yx C ex s H) (λ z=>by cases z) hT).1)
  (λ C ex s H=>Gp (X:=bp X ([at_]++[nf]) sc cl C ex s H) (i:=1) hr rfl (kY (yx C ex s H) n2) (bJ (iW (i:=0) rfl (kY (yx C ex s H) (fD.mp (fD.mp k1).1).2) (db (fD.mp k1).2).1 (db (fD.mp k1).2).2.1) pa_nil rfl) d1 d2 rfl rfl) (λ x=>kZ hns) pins s σ H Q I ?_
 obtain⟨F,t,its,outs,sv,fa,rfl,hI,q⟩:=h;obtain⟨tp,il,sa⟩:=hA _ _ hI.a;refine⟨F,[some t,none],⟨hI.wd,λ i u e=>?_⟩,?_⟩
 ·match i,e with
  |0,e=>cases e;exact⟨sv,rfl,pk hI.r⟩
  |1,e=>cases e
  |i+2,e=>cases e
 have key:∀K:List TV->Prop,(∃P,(∃S,FT[fA]?=some S/\S ([t].map .fz) P)/\∀u,P u->([t].all TV.nb=false->LF u)/\K [u])->wL FT GT (.cons (.call fA (.cons (.v 0) .nil)) .nil) [some t,none] K:=λ K h=>by cases t<;>first|exact h|cases tp
 have fz:t.fz=t:=by cases t<;>first|rfl|cases tp
 have nb:[t].all TV.nb=true:=by cases t<;>first|rfl|cases tp
 refine key _ ⟨λ u=>u=.lst its,⟨SA,eA,by rw[bA,fz];exact sa⟩,λ u e=>⟨λ z=>(by rw[nb] at z;cases z),?_⟩⟩;subst e;refine λ F1 H1 xs Jt g1 rx ok=>?_;refine⟨λ i m ys σ' H'=>i<=its.length/\m=its.length-i/\∃F' y,Grow (TbJ L) F1 H1 F' H'/\σ'=[y,some (.ref fa)]/\RpL X.K F' H' (outs.take i) ys,⟨_,bS _,ca,F1,none,.refl g1.w,ca,ca⟩,?_⟩;rintro i m ys σ' H' ⟨hi,rfl,F',y,g',rfl,rz⟩;have vw:Paired (Vw X.K F' H') [TV.lst its] xs:=Paired.mapP (rx.grow g') λ _ _ r=>r.vw;have zl:ys.length=min i outs.length:=by rw[<- rz.length,bc]
 by_cases c:i<its.length
 ·refine .inr ⟨ok.go F' H' i g'.w vw c,by have:=hI.l;lia,λ zs' σ2 H2=>∃F2 y,Grow (TbJ L) F1 H1 F2 H2/\σ2=[y,some (.ref fa)]/\RpL X.K F2 H2 (outs.take (i+1)) zs',λ zs' σ2 H2 ⟨F2,y,q⟩=>⟨_,fu,c,ca,F2,y,q⟩,λ x H2 yl=>?_⟩;obtain⟨a,et,gy,rt⟩:=ok.yld F' H' i x H2 g'.w vw c yl;have lo:i<outs.length:=by have:=hI.l;lia
  have gg:=(g1.trans g').trans gy;refine⟨fa,ca,hI.f.grow gg,hI.f.grow gg,hI.c i a _ F' H2 x _ et (az lo) gg rt λ F2 H3 v g2 r2=>⟨F2,_,(g'.trans gy).trans g2,ca,?_⟩⟩;rw[List.take_add_one,az lo];exact(rz.ke (gy.trans g2).ke).append ⟨v,[],ca,r2,ca⟩
 ·have e:i=its.length:=by lia
  subst e;rw[iw (by have:=hI.l;lia)] at rz;exact .inl ⟨ok.stop F' H' g'.w vw,fj xo.hJ (g1.trans g') rz q⟩
variable {sd nf at_ aa:Str}{st:Stmt}{f:Addr}{fd:FuncData}{k:Nat}{p1 p2 p3 p4 p5 p6 p7 p8 p9 p10 p11 p12 pos:Pos}{x1:Nat}{sc:Scope}
theorem Jv(F:Fun K x x st f fd)(sc0:FnScope [sd,nf] [sd,nf] (ah st))(m:MOk P w K mg (TbJ L) GT gs)(hl:fs.length=FT.length)
  (fns:∀(f:Nat) x S,fs[f]?=some x->FT[f]?=some S->∃ps,Callee P w K mg base CX0 k x ps (pSp K (TbJ L) S)) (kl:kk<=k)
  (hbd:aN st=[.Return (some (.Tuple [.Name sd p1,.Call (.Name "tuple" p2) [.ListComp (.Call (.Name nf p3) [.Name at_ p4] [] p5) [⟨.Name at_ p6,.Call (.Name aa p7) [.Name sd p8] [] p9,[],0⟩] sc pos] [] p10] x1 p11)) p12])
  (eA:FT[fA]?=some SA) (hA:∀t its,A t its->t.pl=true/\its.length<sizeLine/\SA [t] λ u=>u=.lst its)
  (hS:ckS [sd,nf] (ah st).names sc [at_] [nf] [1]=true) (hT:ckT false ([at_]++[nf]) (bI (ah st).names sc.names) [0] (.Name at_ p6)=true) (k1:ck fs gs (.v 0) ([at_]++[nf]) (bI (ah st).names sc.names) (.Name at_ p4)=true) (k2:ck fs gs (.v 1) ([at_]++[nf]) (bI (ah st).names sc.names) (.Name nf p3)=true)
  (k3:ck fs gs (.call fA (.cons (.v 0) .nil)) [sd,nf] (ah st).names (.Call (.Name aa p7) [.Name sd p8] [] p9)=true) (k4:ck fs gs (.v 0) [sd,nf] (ah st).names (.Name sd p1)=true) (k5:gl (ah st).names "tuple"=true):FnOk P w K mg base CX0 (k+1) f fd [sd,nf] (jD P w K mg base L kk A):=by
 refine F.ok sc0 (λ vs H Q E ⟨F1,t,its,outs,sv,fa,e,_⟩=>by rw[e];rfl) (λ cdv A' outer s H vs Q E hr h=>?_);obtain⟨F1,t,its,outs,sv,fa,rfl,wd,rt,hAt,lo,fv,hc,fin⟩:=h;have xo:XOk (bH CX0 P w K mg base [sd,nf] x (ah st) f cdv A' outer s H E).nox (TbJ L) FT GT fs gs:=⟨rfl,by have:=hr.un;show(A'.deeper _).units+20<cLine;lia,m.hJ,λ g y S h1 h2=>let ⟨ps,c⟩:=fns g y S h1 h2;⟨k,ps,hr,c⟩,m.glb,m.dic,m.blt,hl⟩;obtain⟨tp,il,sa⟩:=hA _ _ hAt;have hi:PI (bH CX0 P w K mg base [sd,nf] x (ah st) f cdv A' outer s H E).nox (.Name at_ p6) (.Call (.Name aa p7) [.Name sd p8] [] p9) (rW K (TbJ L) FT GT .seq (.cons (.call fA (.cons (.v 0) .nil)) .nil)):=xz (sE _ xo ⟨rfl,rfl⟩ k3);have hC:=Ju (pos:=pos) (p5:=p5) xo ⟨rfl,rfl⟩ (hr.mono kl) hS hi rfl eA hA hT k1 k2;have hB:=oh (p:=p2) (pos:=p10) (gJ xo.hJ xo.calm .tuple pv) (glX (X:=(bH CX0 P w K mg base [sd,nf] x (ah st) f cdv A' outer s H E).nox) ⟨rfl,rfl⟩ k5) (m.blt "tuple" on) (by decide +kernel) (bJ hC pa_nil rfl) on on rfl rfl;have hD:=lG (jQ (pos:=p12) (nY (x1:=x1) (pos:=p11) (bJ (sE (.v 0) xo ⟨rfl,rfl⟩ k4) (bJ hB pa_nil rfl) rfl)));rw[hbd];refine⟨_,hD,F1,[some t,none],⟨wd,λ i u e=>?_⟩,?_⟩
 ·match i,e with
  |0,e=>cases e;exact⟨sv,rfl,pk rt⟩
  |1,e=>cases e
  |i+2,e=>cases e
 have key:∀K:TV->Prop,K t->wE FT GT (.v 0) [some t,none] K:=λ K h=>by cases t<;>first|exact h|cases tp
 refine key _ λ F2 H2 v g r=>⟨F2,t,its,outs,sv,fa,ca,⟨g.w,rt.ke g.ke,hAt,lo,fv.grow g,λ i a b F3 H3 p Q' e1 e2 g3=>hc i a b F3 H3 p Q' e1 e2 (g.trans g3)⟩,λ F3 H3 v3 g3 r3=>⟨F2,H2,F3,[.own outs],g3,.cons r3 .nil,λ F4 H4 v4 g4 r4=>⟨dq (aX (n:=2) on),λ p hp=>?_⟩⟩⟩;refine fin F4 _ _ ((g.trans g4).trans (.new m.hJ g4.w _ hp)) ⟨p,_,ca,.of bP,?_⟩;exact RpL.ke (Grow.new m.hJ g4.w _ hp).ke ⟨v,_,ca,(pQ tp r).ke g4.ke,v4,_,ca,r4,ca⟩
end
abbrev Cd.a1(a:Cd):Cd:=.cons a .nil
abbrev Cd.a2(a b:Cd):Cd:=.cons a (.cons b .nil)
noncomputable abbrev Cd.a3(a b c:Cd):Cd:=.cons a (.cons b (.cons c .nil))
abbrev Cd.n(i:Int):Cd:=.c (.int i)
abbrev Cd.w(x:Str):Cd:=.c (.str x)
abbrev Cd.eq(a b:Cd):Cd:=.cmp .Eq a b
abbrev dr(x:Str)(ps:List Str)(S:PSp):DR:=(x,ps,S)
structure HoR where
 tb:Str
 e:Expr
 l:Expr
 p1:Pos
 p2:Pos
 p3:Pos
noncomputable def hoR(st:Stmt):HoR:=match (aN st).getLast? with
 |some (.Return (some (.Call (.Name tb p1) [e,l] [] p2)) p3)=>⟨tb,e,l,p1,p2,p3⟩
 |_=>⟨"",.Name "" ⟨0,0,0,0⟩,.Name "" ⟨0,0,0,0⟩,⟨0,0,0,0⟩,⟨0,0,0,0⟩,⟨0,0,0,0⟩⟩
structure LmR where
 a:Arguments
 b:Expr
 s:Scope
 p:Pos
noncomputable def lmR(st:Stmt):LmR:=match (hoR st).l with
 |.Lambda a b s p=>⟨a,b,s,p⟩
 |_=>⟨cy (.Pass ⟨0,0,0,0⟩),.Name "" ⟨0,0,0,0⟩,ah (.Pass ⟨0,0,0,0⟩),⟨0,0,0,0⟩⟩
noncomputable def inR(st:Stmt):Stmt:=(aN st).dropLast.getLast?.getD (.Pass ⟨0,0,0,0⟩)
noncomputable def inP(st:Stmt):Pos:=match inR st with|.FunctionDef _ _ _ _ _ _ _ _ _ p=>p|_=>⟨0,0,0,0⟩
noncomputable def inQ(st:Stmt):Pos:=match (hoR st).l with|.Name _ p=>p|_=>⟨0,0,0,0⟩
def lsq(sc:Scope)(N:List Str)(a:Str)(h:sc.kind=.function/\sc.isCoroutine=false/\sc.isGenerator=false/\N.Nodup/\N.take (a::frv sc.names).length=a::frv sc.names/\(sc.names.lookup a=some .local\/sc.names.lookup a=some .cell)/\(∀x∈frv sc.names,sc.names.lookup x=some .free)/\(∀y∈sc.names,y.2=.free->y.1∈frv sc.names)/\∀x∈frv sc.names,∀y∈sc.names,y.2=.cell->y.1≠x:=by decide +kernel):LmScope N [a] (frv sc.names) sc :=
 ⟨h.1,h.2.1,h.2.2.1,h.2.2.2.1,h.2.2.2.2.1,λ x hx=>by rw[bY.mp hx];exact h.2.2.2.2.2.1,h.2.2.2.2.2.2.1,h.2.2.2.2.2.2.2.1,h.2.2.2.2.2.2.2.2⟩
section
variable {P:Program}{w:World}{K:FG}{mg:SV}{base:Heap}{J:Hp->Prop}{GT:List TV}{gs:List Str}{D:List DR}{L:List (Addr×Pos×Str)}
theorem Cals.fn{x:Str}{ps:List Str}{st:Stmt}{S:PSp}(C:Cals P w K mg base J D j)(hm:∀ {x:Str}{v:Option Value},W.nsIn K mainGlobals x=some v->mg x=v)(e:D[j]?=some (x,ps,S))(g:Gl' K x st f fd)
  (b:∀f fd,Fun K x x st f fd->Binds K fd ps []) (ok:FnOk P w K mg base CX0 (j+1) f fd ps (pSp K J S)):Cals P w K mg base J D (j+1):=by
 refine C.s λ x' ps' S' e'=>?_;rw[e] at e';cases e';exact Callee.mk' g.F (hm g.a) (b f fd g.F) ok
def Cals.to{i j:Nat}(C:Cals P w K mg base J D j)(h:i<=j):Cals P w K mg base J D i:=λ n hn=>C n (bC hn h)
noncomputable def scB(s:Scope)(ps N:List Str):Bool:=decide (s.kind=.function/\s.isCoroutine=false/\s.isGenerator=false/\N.Nodup/\N.take ps.length=ps/\(∀x∈ps,s.names.lookup x=some .local\/s.names.lookup x=some .cell)/\∀y∈s.names,y.2≠.free)
def lu(h:scB s ps N=true):FnScope N ps s:=let h:=au h;⟨h.1,h.2.1,h.2.2.1,h.2.2.2.1,h.2.2.2.2.1,h.2.2.2.2.2.1,h.2.2.2.2.2.2⟩
structure GlT' (K:FG)(x:Str)(st:Stmt)(f:Addr)(fd:FuncData)(c T:Addr):Prop extends Gl' K x st f fd where
 hc:fd.code=.ref c
 tb:W.tabIn K x=some (c,T)
theorem Jw{jj j:Nat}{x at_ ql:Str}{st:Stmt}{N ps pst N':List Str}{js:List Nat}{S:PSp}(code:Ct)(ce ci:Cd)(C:Cals P w K mg base (TbJ L) D j)(m:MOk P w K mg (TbJ L) GT gs)(hm:∀ {x:Str}{v:Option Value},W.nsIn K mainGlobals x=some v->mg x=v)(e:D[j]?=some (x,ps,S))(g:GlT' K x st f fd c T)(TF:TabF base mg c T)(mT:(T,(lmR st).p,ql)∈L)(nd:(L.map (·.1)).Nodup)
  (sc:FnScope N ps (ah st)) (b:∀f fd,Fun K x x st f fd->Binds K fd ps []) (ho:Callee P w K mg base CX0 j (hoR st).tb pst (jD P w K mg base L (jj+1) A)) (jl:jj<=j) (ls:LmScope N' [at_] (frv (lmR st).s.names) (lmR st).s)
  (hj:(ah st).names.lookup (hoR st).tb=some .globalImplicit/\((hoR st).tb == ("__debug__" : Str))=false/\js.map (λ j=>N[j]?)=(frv (lmR st).s.names).map some/\(∀n∈frv (lmR st).s.names,(ah st).names.lookup n=some .cell)/\(frv (lmR st).s.names).Nodup/\aF (hoR st).e=true)
  (df:∀env,defaultsOf (lmR st).a env=([],[])) (hq:∀n f cd,(envOfC x (ah st) n f cd).qual ++ "<lambda>"=ql) (hbd:aN st=(aN st).dropLast++[.Return (some (.Call (.Name (hoR st).tb (hoR st).p1) [(hoR st).e,.Lambda (lmR st).a (lmR st).b (lmR st).s (lmR st).p] [] (hoR st).p2)) (hoR st).p3])
  (hb:∀(cl:LA) (c':Addr) (pm ctv:Value) (us:LV),us.length=1->bindArgs (kla_fn "<lambda>" ql (lmR st).a (lmR st).b (lmR st).s cl pm (.ref c') ctv) ⟨us,[]⟩=pure ([at_].zip us))
  (hck:(bh (dFs D j) gs N (ah st).names true code (aN st).dropLast&&ck (dFs D j) gs ce N (ah st).names (hoR st).e&&ck (dFs D jj) gs ci N' (lmR st).s.names (lmR st).b)=true) (hlen:∀ts Q,S ts Q->ts.length=ps.length)
  (hw:∀ts Q,S ts Q->wS (dFT D j) GT code (en0 N.length ts) (λ ρ=>wE (dFT D j) GT ce ρ λ t=>wHO A js (λ ts b=>wE (dFT D jj) GT ci (en0 N'.length ts) λ u=>u=b/\b.pl=true) Q ρ t) Q):Cals P w K mg base (TbJ L) D (j+1):=by
 rw[aU,aU] at hck;exact C.fn hm e g.toGl' b (Jr code ce ci ⟨g.F,g.hc,TF,mT,nd,sc,m,gP j,C.fns,gP jj,(C.to jl).fns,ho,hj.1,hj.2.1,ls,hj.2.2.1,hj.2.2.2.1,hj.2.2.2.2.1,df⟩ hq hbd hj.2.2.2.2.2 hb hck.1.1 hck.1.2 hck.2 hlen hw)
theorem Jx{jj j i0:Nat}{x at_ ql nn:Str}{st:Stmt}{N ps pst N':List Str}{js:List Nat}{S:PSp}(code:Ct)(ce:Cd)(ci:Ct)(C:Cals P w K mg base (TbJ L) D j)(m:MOk P w K mg (TbJ L) GT gs)(hm:∀ {x:Str}{v:Option Value},W.nsIn K mainGlobals x=some v->mg x=v)(e:D[j]?=some (x,ps,S))(g:GlT' K x st f fd c T)(TF:TabF base mg c T)(mT:(T,inP st,ql)∈L)(nd:(L.map (·.1)).Nodup)
  (sc:FnScope N ps (ah st)) (b:∀f fd,Fun K x x st f fd->Binds K fd ps []) (ho:Callee P w K mg base CX0 j (hoR st).tb pst (jD P w K mg base L (jj+1) A)) (jl:jj<=j) (ls:LmScope N' [at_] (frv (ah (inR st)).names) (ah (inR st)))
  (hj:(ah st).names.lookup (hoR st).tb=some .globalImplicit/\((hoR st).tb == ("__debug__" : Str))=false/\js.map (λ j=>N[j]?)=(frv (ah (inR st)).names).map some/\(∀n∈frv (ah (inR st)).names,(ah st).names.lookup n=some .cell)/\(frv (ah (inR st)).names).Nodup/\aF (hoR st).e=true)
  (hn:N[i0]?=some nn/\(ah st).names.lookup nn=some .local/\(nn == ("__debug__" : Str))=false/\(nn == ("__classdict__" : Str))=false/\∀j∈js,j≠i0) (d0:(cy (inR st)).defaults=[]) (d1:(cy (inR st)).kw_defaults=[]) (ha:∀env,annTrees (cy (inR st)) none env=[])
  (df:∀env,defaultsOf (cy (inR st)) env=([],[])) (hq:∀n f cd,qualnameIn (envOfC x (ah st) n f cd) nn nn=ql) (hbd:aN st=(aN st).dropLast.dropLast++[.FunctionDef nn (cy (inR st)) (aN (inR st)) [] none [] (ah (inR st)) none nn (inP st),.Return (some (.Call (.Name (hoR st).tb (hoR st).p1) [(hoR st).e,.Name nn (inQ st)] [] (hoR st).p2)) (hoR st).p3])
  (hb:∀(cl:LA) (c':Addr) (doc pm ctv:Value) (us:LV),us.length=1->bindArgs (fnX nn ql (cy (inR st)) (aN (inR st)) (ah (inR st)) cl .none .none doc pm none (.ref c') ctv) ⟨us,[]⟩=pure ([at_].zip us))
  (hck:(bh (dFs D j) gs N (ah st).names true code (aN st).dropLast.dropLast&&ck (dFs D j) gs ce N (ah st).names (hoR st).e&&bh (dFs D jj) gs N' (ah (inR st)).names true ci (aN (inR st)))=true) (hlen:∀ts Q,S ts Q->ts.length=ps.length)
  (hw:∀ts Q,S ts Q->wS (dFT D j) GT code (en0 N.length ts) (λ ρ=>ρ[i0]?=some none/\wE (dFT D j) GT ce ρ λ t=>wHO A js (λ ts b=>wS (dFT D jj) GT ci (en0 N'.length ts) (λ _=>False) λ u=>u=b) Q ρ t) Q):Cals P w K mg base (TbJ L) D (j+1):=by
 rw[aU,aU] at hck;exact C.fn hm e g.toGl' b (Js code ce ci ⟨g.F,g.hc,TF,mT,nd,sc,m,gP j,C.fns,gP jj,(C.to jl).fns,ho,hj.1,hj.2.1,ls,hj.2.2.1,hj.2.2.2.1,hj.2.2.2.2.1,df⟩ hq hbd hj.2.2.2.2.2 hn.1 hn.2.1 hn.2.2.1 hn.2.2.2.1 d0 d1 ha hb hck.1.1 hck.1.2 hck.2 hlen hn.2.2.2.2 hw)
end
abbrev V0:Cd:=.v 0
abbrev V1:Cd:=.v 1
abbrev V2:Cd:=.v 2
abbrev V3:Cd:=.v 3
abbrev V4:Cd:=.v 4
abbrev V5:Cd:=.v 5
abbrev V6:Cd:=.v 6
abbrev V7:Cd:=.v 7
abbrev V8:Cd:=.v 8
abbrev V9:Cd:=.v 9
abbrev V10:Cd:=.v 10
abbrev V11:Cd:=.v 11
abbrev N0:Cd:=.c (.int 0)
abbrev N1:Cd:=.c (.int 1)
abbrev N2:Cd:=.c (.int 2)
abbrev N3:Cd:=.c (.int 3)
abbrev N4:Cd:=.c (.int 4)
abbrev N5:Cd:=.c (.int 5)
abbrev N6:Cd:=.c (.int 6)
abbrev N7:Cd:=.c (.int 7)
abbrev N8:Cd:=.c (.int 8)
abbrev N9:Cd:=.c (.int 9)
abbrev N10:Cd:=.c (.int 10)
abbrev N11:Cd:=.c (.int 11)
abbrev Cd.x(i:Nat)(j:Int):Cd:=.ix (.v i) (.c (.int j))
abbrev Cd.c1(f:Nat)(a:Cd):Cd:=.call f (.a1 a)
abbrev Cd.c2(f:Nat)(a b:Cd):Cd:=.call f (.a2 a b)
abbrev Cd.c3(f:Nat)(a b c:Cd):Cd:=.call f (.a3 a b c)
abbrev Cd.ln(a:Cd):Cd:=.bi .len (.a1 a)
abbrev Cd.b1(f:BI)(a:Cd):Cd:=.bi f (.a1 a)
abbrev Cd.b2(f:BI)(a b:Cd):Cd:=.bi f (.a2 a b)
abbrev Cd.st(a b:Cd):Cd:=.sl a (.c .non) b
abbrev Cd.sf(a b:Cd):Cd:=.sl a b (.c .non)
abbrev Cd.es(a:Cd)(x:Str):Cd:=.cmp .Eq a (.c (.str x))
abbrev Cd.t0:Cd:=.tup .nil
abbrev Cd.l0:Cd:=.lst .nil
abbrev Cd.t1(a:Cd):Cd:=.tup (.a1 a)
abbrev Cd.t2(a b:Cd):Cd:=.tup (.a2 a b)
abbrev Cd.t3(a b c:Cd):Cd:=.tup (.a3 a b c)
abbrev Ct.nv(c:Cd)(r:Ct):Ct:=.ite c .never .nil r
abbrev Ct.r(c x:Cd)(r:Ct):Ct:=.ite c (.ret x) .nil r
abbrev Ct.i(c:Cd)(a r:Ct):Ct:=.ite c a .nil r
abbrev Cd.ad(a b:Cd):Cd:=.bin .Add a b
abbrev Cd.sb(a b:Cd):Cd:=.bin .Sub a b
abbrev Cd.ml(a b:Cd):Cd:=.bin .Mult a b
abbrev Cd.dv(a b:Cd):Cd:=.bin .FloorDiv a b
abbrev Cd.md(a b:Cd):Cd:=.bin .Mod a b
abbrev Cd.lt(a b:Cd):Cd:=.cmp .Lt a b
abbrev Cd.gt(a b:Cd):Cd:=.cmp .Gt a b
abbrev Cd.ne(a b:Cd):Cd:=.cmp .NotEq a b
abbrev Cd.ge(a b:Cd):Cd:=.cmp .GtE a b
noncomputable def tH:Nat->(LV->Prop)->Prop
 |0,Q=>Q []
 |n+1,Q=>∀u,tH n λ l=>Q (u::l)
theorem xZ:∀ {n:Nat}{Q:LV->Prop},tH n Q->∀us:LV,us.length=n->Q us
 |0,_,h,us,e=>by rw[tq e];exact h
 |_+1,_,h,_::us,e=>xZ (h _) us (Nat.succ.inj e)
structure CM (P:Program)(w:World)(K:FG)(mg:SV)(base:Heap)(J:Hp->Prop)(GT:List TV)(gs:List Str)(D:List DR)(j:Nat):Prop where
 c:Cals P w K mg base J D j
 m:MOk P w K mg J GT gs
 hm:∀ {x:Str}{v:Option Value},W.nsIn K mainGlobals x=some v->mg x=v
noncomputable abbrev ZX'(D:List DR)(GT:List TV)(gs:List Str)(j:Nat)(st:Stmt)(N:List Str)(n p:Nat)(S:PSp)(c:Ct):Prop:=(bh (dFs D j) gs N (ah st).names true c (aN st)&&scB (ah st) (N.take p) N&&decide (p<=N.length/\N.length=n))=true/\∀ts Q,S ts Q->ts.length=p/\wS (dFT D j) GT c (en0 n ts) (λ _=>Q .non) Q
noncomputable def lsB(sc:Scope)(N:List Str)(a:Str):Bool:=decide (sc.kind=.function/\sc.isCoroutine=false/\sc.isGenerator=false/\N.Nodup/\N.take (a::frv sc.names).length=a::frv sc.names/\(sc.names.lookup a=some .local\/sc.names.lookup a=some .cell)/\(∀x∈frv sc.names,sc.names.lookup x=some .free)/\(∀y∈sc.names,y.2=.free->y.1∈frv sc.names)/\∀x∈frv sc.names,∀y∈sc.names,y.2=.cell->y.1≠x)
noncomputable def mkB(st:Stmt)(sc:Scope)(N N':List Str)(js:List Nat)(n n2 p:Nat):Bool:=scB (ah st) (N.take p) N&&lsB sc N' (N'.headD "")&&decide ((p<=N.length/\N.length=n/\N'.length=n2)/\(ah st).names.lookup (hoR st).tb=some .globalImplicit/\((hoR st).tb == ("__debug__" : Str))=false/\js.map (λ j=>N[j]?)=(frv sc.names).map some/\(∀n∈frv sc.names,(ah st).names.lookup n=some .cell)/\(frv sc.names).Nodup/\aF (hoR st).e=true)
noncomputable abbrev ZL'(D:List DR)(GT:List TV)(gs:List Str)(A:TV->List TV->Prop)(jj j:Nat)(st:Stmt)(N N':List Str)(js:List Nat)(n n2 p:Nat)(S:PSp)(c:Ct)(e i:Cd):Prop:=(bh (dFs D j) gs N (ah st).names true c (aN st).dropLast&&ck (dFs D j) gs e N (ah st).names (hoR st).e&&ck (dFs D jj) gs i N' (lmR st).s.names (lmR st).b&&mkB st (lmR st).s N N' js n n2 p)=true/\∀ts Q,S ts Q->ts.length=p/\wS (dFT D j) GT c (en0 n ts) (λ ρ=>wE (dFT D j) GT e ρ λ t=>wHO A js (λ ts b=>wE (dFT D jj) GT i (en0 n2 ts) λ u=>u=b/\b.pl=true) Q ρ t) Q
noncomputable abbrev ZD'(D:List DR)(GT:List TV)(gs:List Str)(A:TV->List TV->Prop)(jj j:Nat)(st:Stmt)(N N':List Str)(js:List Nat)(n n2 p i0:Nat)(S:PSp)(c:Ct)(e:Cd)(i:Ct):Prop:=(bh (dFs D j) gs N (ah st).names true c (aN st).dropLast.dropLast&&ck (dFs D j) gs e N (ah st).names (hoR st).e&&bh (dFs D jj) gs N' (ah (inR st)).names true i (aN (inR st))&&mkB st (ah (inR st)) N N' js n n2 p)=true/\∀ts Q,S ts Q->ts.length=p/\wS (dFT D j) GT c (en0 n ts) (λ ρ=>ρ[i0]?=some none/\wE (dFT D j) GT e ρ λ t=>wHO A js (λ ts b=>wS (dFT D jj) GT i (en0 n2 ts) (λ _=>False) λ u=>u=b) Q ρ t) Q
section
variable {P:Program}{w:World}{K:FG}{mg:SV}{base:Heap}{J:Hp->Prop}{GT:List TV}{gs:List Str}{D:List DR}{L:List (Addr×Pos×Str)}{j jj kk n n2 p i0:Nat}{x ql nn:Str}{N N' pst:List Str}{js:List Nat}{st:Stmt}{S:PSp}{code:Ct}{A:TV->List TV->Prop}{f c T:Addr}{fd:FuncData}
noncomputable abbrev Bds(x:Str)(st:Stmt)(ps:List Str)(p:Nat):Prop:=tH p λ us=>∀(kV doc pm:Value) (an:OA) (cdv ct:Value),bindArgs (W.fnOf x x (cy st) (aN st) (ah st) .none kV doc pm an cdv ct) ⟨us,[]⟩=pure (ps.zip us)
def Bds.ok(h:Bds x st (N.take p) p)(l:p<=N.length)(f:Addr)(fd:FuncData)(F:Fun K x x st f fd):Binds K fd (N.take p) []:=F.binds λ kV doc pm an cdv ct us hl=>xZ h us (by rw[hl,bc,fT l]) kV doc pm an cdv ct
def CM.d(C:CM P w K mg base J GT gs D j)(g:Gx K x st)(z:ZX' D GT gs j st N n p S code)(e:D[j]?=some (x,N.take p,S):=by rfl)(b:Bds x st (N.take p) p:=by repeat' (first|rfl|(refine λ _=>?_))):CM P w K mg base J GT gs D (j+1):=by
 obtain⟨z1,z2⟩:=z;simp only[aU,gQ] at z1;obtain⟨⟨k1,k2⟩,k3,rfl⟩:=z1;exact⟨Jk code C.c C.m C.hm e g (lu k2) (b.ok k3) k1 (λ ts Q h=>by rw[(z2 ts Q h).1,bc,fT k3]) λ ts Q h=>(z2 ts Q h).2,C.m,C.hm⟩
def CM.law(C:CM P w K mg base J GT gs D j)(g:Gl' K x st f fd)(z:ZX' D GT gs j st N n p pN code):FnOk P w K mg base CX0 (j+1) f fd (N.take p) (pO K J):=by
 obtain⟨z1,z2⟩:=z;simp only[aU,gQ] at z1;obtain⟨⟨k1,k2⟩,k3,rfl⟩:=z1;exact Jl (xN code g.F (lu k2) C.m (gP j) C.c.fns k1 (λ ts Q h=>by rw[(z2 ts Q h).1,bc,fT k3]) λ ts Q h=>(z2 ts Q h).2)
def yg(h:lsB sc N a=true):LmScope N [a] (frv sc.names) sc:=lsq sc N a (au h)
theorem CM.l(C:CM P w K mg base (TbJ L) GT gs D j)(t:GlT' K x st f fd c T)(TF:TabF base mg c T)(mT:(T,(lmR st).p,ql)∈L)(nd:(L.map (·.1)).Nodup)(ho:Callee P w K mg base CX0 kk (hoR st).tb pst (jD P w K mg base L (jj+1) A))(z:ZL' D GT gs A jj j st N N' js n n2 p S code e i)
  (q:D[j]?=some (x,N.take p,S):=by rfl) (b:Bds x st (N.take p) p:=by repeat' (first|rfl|(refine λ _=>?_))) (jl:jj<=j/\kk<=j:=by decide) (df:∀env,defaultsOf (lmR st).a env=([],[]):=by intro;rfl) (hq:∀n f cd,(envOfC x (ah st) n f cd).qual ++ "<lambda>"=ql:=by intros;rfl)
  (hbd:aN st=(aN st).dropLast++[.Return (some (.Call (.Name (hoR st).tb (hoR st).p1) [(hoR st).e,.Lambda (lmR st).a (lmR st).b (lmR st).s (lmR st).p] [] (hoR st).p2)) (hoR st).p3]:=by kernel_rfl)
  (hb:∀(cl:LA) (c':Addr) (pm ctv u:Value),bindArgs (kla_fn "<lambda>" ql (lmR st).a (lmR st).b (lmR st).s cl pm (.ref c') ctv) ⟨[u],[]⟩=pure [(N'.headD "",u)]:=by intros;rfl):CM P w K mg base (TbJ L) GT gs D (j+1):=by
 obtain⟨z1,z2⟩:=z;simp only[mkB,aU,gQ] at z1;obtain⟨⟨⟨k1,k2⟩,k3⟩,⟨k4,k5⟩,⟨k6,rfl,rfl⟩,k7⟩:=z1;exact⟨Jw code e i C.c C.m C.hm q t TF mT nd (lu k4) (b.ok k6) (ho.mono jl.2) jl.1 (yg k5) k7 df hq hbd (λ cl c' pm ctv us hl=>by match us,hl with|[u],_=>exact hb cl c' pm ctv u) (by rw[k1,k2,k3];rfl) (λ ts Q h=>by rw[(z2 ts Q h).1,bc,fT k6]) (λ ts Q h=>(z2 ts Q h).2),C.m,C.hm⟩
theorem CM.k(C:CM P w K mg base (TbJ L) GT gs D j)(t:GlT' K x st f fd c T)(TF:TabF base mg c T)(mT:(T,inP st,ql)∈L)(nd:(L.map (·.1)).Nodup)(ho:Callee P w K mg base CX0 kk (hoR st).tb pst (jD P w K mg base L (jj+1) A))(nn:Str)(z:ZD' D GT gs A jj j st N N' js n n2 p i0 S code e i)
  (hn:N[i0]?=some nn/\(ah st).names.lookup nn=some .local/\(nn == ("__debug__" : Str))=false/\(nn == ("__classdict__" : Str))=false/\∀j∈js,j≠i0:=by decide +kernel)
  (q:D[j]?=some (x,N.take p,S):=by rfl) (b:Bds x st (N.take p) p:=by repeat' (first|rfl|(refine λ _=>?_))) (jl:jj<=j/\kk<=j:=by decide) (d0:(cy (inR st)).defaults=[]:=by rfl) (d1:(cy (inR st)).kw_defaults=[]:=by rfl) (ha:∀env,annTrees (cy (inR st)) none env=[]:=by intro;rfl) (df:∀env,defaultsOf (cy (inR st)) env=([],[]):=by intro;rfl) (hq:∀n f cd,qualnameIn (envOfC x (ah st) n f cd) nn nn=ql:=by intros;rfl)
  (hbd:aN st=(aN st).dropLast.dropLast++[.FunctionDef nn (cy (inR st)) (aN (inR st)) [] none [] (ah (inR st)) none nn (inP st),.Return (some (.Call (.Name (hoR st).tb (hoR st).p1) [(hoR st).e,.Name nn (inQ st)] [] (hoR st).p2)) (hoR st).p3]:=by kernel_rfl)
  (hb:∀(cl:LA) (c':Addr) (doc pm ctv u:Value),bindArgs (fnX nn ql (cy (inR st)) (aN (inR st)) (ah (inR st)) cl .none .none doc pm none (.ref c') ctv) ⟨[u],[]⟩=pure [(N'.headD "",u)]:=by intros;rfl):CM P w K mg base (TbJ L) GT gs D (j+1):=by
 obtain⟨z1,z2⟩:=z;simp only[mkB,aU,gQ] at z1;obtain⟨⟨⟨k1,k2⟩,k3⟩,⟨k4,k5⟩,⟨k6,rfl,rfl⟩,k7⟩:=z1;exact⟨Jx code e i C.c C.m C.hm q t TF mT nd (lu k4) (b.ok k6) (ho.mono jl.2) jl.1 (yg k5) k7 hn d0 d1 ha df hq hbd (λ cl c' doc pm ctv us hl=>by match us,hl with|[u],_=>exact hb cl c' doc pm ctv u) (by rw[k1,k2,k3];rfl) (λ ts Q h=>by rw[(z2 ts Q h).1,bc,fT k6]) (λ ts Q h=>(z2 ts Q h).2),C.m,C.hm⟩
end
inductive Cw where
 |no|call (f:Nat) (l:Cd)|fst (e:Cw)|or (a b:Cw)
inductive Cq where
 |nil|no|rs (k:Nat) (l:Cd)|rf (k:Nat) (a b:Cd)|rb (l:Cd)|ret (e:Cw)|sx (i:Nat) (e:Cw)|ex (e:Cw) (c:Cd) (r:Cq)|set (i:Nat) (c:Cd) (r:Cq)|ite (c:Cd) (a b r:Cq)|doc (r:Cq)
inductive XI where
 |c (k:Nat)|b (a:Int) (w:Str)
abbrev XSp:=List TV->(XI->Prop)->Prop
section
variable (FT:List PSp)(GT:List TV)(FX:List XSp)
noncomputable def wX:Cw->En->(XI->Prop)->Prop
 |.no,_,_=>False
 |.call f l,ρ,E=>wL FT GT l ρ λ ts=>∃P,(∃S,FX[f]?=some S/\S (ts.map .fz) P)/\∀n,P n->E n
 |.fst e,ρ,E=>wX e ρ E
 |.or a b,ρ,E=>wX a ρ E\/wX b ρ E
noncomputable def wR:Cq->En->(En->Prop)->(XI->En->Prop)->Prop
 |.nil,ρ,nx,_=>nx ρ
 |.no,_,_,_=>False
 |.rs k l,ρ,_,E=>wL FT GT l ρ λ ts=>ts.length<=sizeLine/\E (.c k) ρ
 |.rf k a b,ρ,_,E=>wE FT GT a ρ λ t=>∃x,t=.str x/\okS 1000 x/\wE FT GT b ρ λ u=>∃y,u=.str y/\okS 1000 y/\E (.c k) ρ
 |.rb l,ρ,_,E=>wL FT GT l ρ λ ts=>∃t a w,ts=[.str t,.int a,.str w]/\E (.b a w) ρ
 |.ret e,ρ,_,E=>wX FT GT FX e ρ λ n=>E n ρ
 |.sx _ e,ρ,_,E=>wX FT GT FX e ρ λ n=>E n ρ
 |.ex e c r,ρ,nx,E=>(wX FT GT FX e ρ λ n=>E n ρ)\/wE FT GT c ρ λ _=>wR r ρ nx E
 |.set i c r,ρ,nx,E=>wE FT GT c (fzC c ρ) λ t=>t.nb=true/\wR r ((fzC c ρ).set i (some t)) nx E
 |.ite c a b r,ρ,nx,E=>wE FT GT c ρ λ t=>b1 t λ k=>if k=true then wR a ρ (λ ρ'=>wR r ρ' nx E) E else wR b ρ (λ ρ'=>wR r ρ' nx E) E
 |.doc r,ρ,nx,E=>wR r ρ nx E
end
noncomputable def oS{α:Type}(o:Option α)(k:α->Bool):Bool:=match o with|some x=>k x|none=>false
@[elab_as_elim] theorem iI{α:Type}{motive:Option α->Prop}{o:Option α}{k:α->Bool}(h:oS o k=true)(f:∀x,k x=true->motive (some x)):motive o:=by
 cases o with
 |none=>exact Bool.noConfusion h
 |some x=>exact f x h
noncomputable def qRa(l:List Stmt)(k:Option Expr->Option Expr->Pos->List Stmt->Bool):Bool:=match l with|.Raise x p q::l=>k x p q l|_=>false
@[elab_as_elim] theorem tJ{motive:List Stmt->Prop}{l:List Stmt}{k:Option Expr->Option Expr->Pos->List Stmt->Bool}(h:qRa l k=true)(f:∀x p q t,k x p q t=true->motive (.Raise x p q::t)):motive l:=by
 cases l with
 |nil=>exact Bool.noConfusion h
 |cons a t=>cases a<;>first|exact f _ _ _ _ h|exact Bool.noConfusion h
noncomputable def cJs(e:Expr)(k:List Expr->Bool):Bool:=match e with|.JoinedStr l _=>k l|_=>false
@[elab_as_elim] theorem Jy{motive:Expr->Prop}{e:Expr}{k:List Expr->Bool}(h:cJs e k=true)(f:∀l p,k l=true->motive (.JoinedStr l p)):motive e:=by
 cases e<;>first|exact f _ _ h|exact Bool.noConfusion h
noncomputable def cFv(e:Expr)(k:Expr->Bool):Bool:=match e with|.FormattedValue v n o _=>decide (n=114)&&o.isNone&&k v|_=>false
@[elab_as_elim] theorem Jz{motive:Expr->Prop}{e:Expr}{k:Expr->Bool}(h:cFv e k=true)(f:∀v p,k v=true->motive (.FormattedValue v 114 none p)):motive e:=by
 cases e<;>first|(obtain⟨a,b,c⟩:=a3 h;cases au a;cases lr.mp b;exact f _ _ c)|exact Bool.noConfusion h
section
variable (fs gs cs:List Str)(tb:Bool)(N:List Str)(nm:List (Str×NameKind))
noncomputable def ckX:Cw->Expr->Bool
 |.no,_=>true
 |.call f l,e=>cE e λ g as w _=>bq g λ x _=>cC as λ a es=>w.isEmpty&&decide (fs[f]?=some x)&&gl nm x&&okN x&&ckL fs gs l N nm (a::es)
 |.fst c,e=>(cE e λ g as w _=>bq g λ x _=>cC as λ a es=>w.isEmpty&&decide (x∈fs)&&gl nm x&&okN x&&aF a&&es.all aF&&ckX c a) || kU e λ es _ _=>cC es λ a _=>aF a&&ckX c a
 |.or a b,e=>ckX a e&&ckX b e
noncomputable def ckR:Bool->Cq->List Stmt->Bool
 |_,.nil,sts=>sts.isEmpty
 |_,.no,_=>true
 |tp,.rs k l,sts=>qRa sts λ e c _ _=>oS e λ e=>cE e λ g as w _=>bq g λ x _=>cC as λ a es=>w.isEmpty&&c.isNone&&tp&&decide (cs[k]?=some x)&&gl nm x&&okN x&&ckL fs gs l N nm (a::es)
 |tp,.rf k a b,sts=>qRa sts λ e c _ _=>oS e λ e=>cE e λ g as w _=>bq g λ x _=>c1 as λ j=>cJs j λ l=>cC l λ u r=>c1 r λ v=>cFv v λ v=>w.isEmpty&&c.isNone&&tp&&decide (cs[k]?=some x)&&gl nm x&&okN x&&ck fs gs a N nm u&&ck fs gs b N nm v
 |_,.rb l,sts=>qRa sts λ e c _ _=>oS e λ e=>cE e λ g as w _=>bq g λ x _=>cC as λ a es=>w.isEmpty&&c.isNone&&tb&&decide (x="BadStep")&&gl nm x&&ckL fs gs l N nm (a::es)
 |_,.ret c,sts=>qRe sts λ e _ _=>oS e λ e=>ckX fs gs N nm c e
 |_,.sx i c,sts=>qAs sts λ ts e _ _=>c1 ts λ t=>bq t λ x _=>cE e λ _ _ _ _=>lcl N nm i x&&ckX fs gs N nm c e
 |tp,.ex d c r,sts=>qEx sts λ e _ rest=>plE e&&ckX fs gs N nm d e&&ck fs gs c N nm e&&ckR tp r rest
 |tp,.set i c r,sts=>qAs sts λ ts e _ rest=>c1 ts λ t=>bq t λ x _=>lcl N nm i x&&ck fs gs c N nm e&&ckR tp r rest
 |tp,.ite c a b r,sts=>qIf sts λ t x y _ rest=>tB' c t&&ck fs gs c N nm t&&ckR tp a x&&ckR tp b y&&ckR tp r rest
 |tp,.doc r,sts=>qEx sts λ e _ rest=>jv e λ k _ _=>xJ k&&ckR tp r rest
end
section
variable {FT:List PSp}{GT:List TV}{FX:List XSp}
theorem jE:∀(c:Cw) {ρ:En}{E E':XI->Prop},(∀n,E n->E' n)->wX FT GT FX c ρ E->wX FT GT FX c ρ E'
 |.no,_,_,_,_,q=>q.elim
 |.call f l,_,_,_,h,q=>bL l (λ ts ⟨P,a,b⟩=>⟨P,a,λ n p=>h n (b n p)⟩) q
 |.fst e,_,_,_,h,q=>by unfold wX at *;exact jE e h q
 |.or a b,_,_,_,h,q=>by unfold wX at *;exact q.imp (jE a h) (jE b h)
theorem eG:∀(c:Cq) {ρ:En}{nx nx':En->Prop}{E E':XI->En->Prop},(∀ρ,nx ρ->nx' ρ)->(∀n ρ,E n ρ->E' n ρ)->wR FT GT FX c ρ nx E->wR FT GT FX c ρ nx' E'
 |.nil,_,_,_,_,_,h,_,q=>h _ q
 |.no,_,_,_,_,_,_,_,q=>q.elim
 |.rs k l,_,_,_,_,_,_,g,q=>bL l (λ ts ⟨a,b⟩=>⟨a,g _ _ b⟩) q
 |.rf k a b,_,_,_,_,_,_,g,q=>ao a (λ t ⟨x,e,o,q⟩=>⟨x,e,o,ao b (λ u ⟨y,e',o',q⟩=>⟨y,e',o',g _ _ q⟩) q⟩) q
 |.rb l,_,_,_,_,_,_,g,q=>bL l (λ ts ⟨t,a,w,e,b⟩=>⟨t,a,w,e,g _ _ b⟩) q
 |.ret e,_,_,_,_,_,_,g,q=>jE e (λ n p=>g n _ p) q
 |.sx i e,_,_,_,_,_,_,g,q=>jE e (λ n p=>g n _ p) q
 |.ex e c r,_,_,_,_,_,h,g,q=>q.imp (jE e λ n p=>g n _ p) (ao c λ t q=>eG r h g q)
 |.set i c r,_,_,_,_,_,h,g,q=>ao c (λ t q=>⟨q.1,eG r h g q.2⟩) q
 | .ite c a b r,_,_,_,_,_,h,g,q=>ao c (λ t q=>cj (λ k q=>by
   split at q
   ·rw[if_pos (by assumption)];exact eG a (λ ρ q=>eG r h g q) g q
   ·rw[if_neg (by assumption)];exact eG b (λ ρ q=>eG r h g q) g q) q) q
 |.doc r,_,_,_,_,_,h,g,q=>by unfold wR at *;exact eG r h g q
end
noncomputable def pR(x y:V):List (Str×V):=[(Str.ofString "at",x),(Str.ofString "why",y)]
noncomputable def xE(CA:Nat->Addr)(CB:Addr):XI->Hp->XK->Prop
 |.c k,H,E=>E (.ref (CA k)) none H
 |.b a w,H,E=>∀dx,H dx=some (oQ dx (pR (.int a) (.str w)))->E (.ref CB) (some dx) H
noncomputable def xSp(K:FG)(J:Hp->Prop)(CA:Nat->Addr)(CB:Addr)(S:XSp):Sp:=λ vs H _ E=>∃F ts P,Wd J F H/\RpL K F H ts vs/\S ts P/\∀n,P n->∀F' H',Grow J F H F' H'->xE CA CB n H' E
noncomputable abbrev EXB:LV:=[.type "ValueError",.type "Exception",.type "BaseException",.type "object"]
noncomputable def JA(K:FG):Sp:=λ vs H Q _=>∃(a C:Addr) (tx:Str) (x y:V),vs=[.ref a,.str tx,x,y]/\H a=some (iz a C none)/\oP K C EXB "ValueError.__new__"=true/\AtX K C/\nW K C (Str.ofString "at")/\nW K C (Str.ofString "why") /\
 ∀dx H',H dx=none->dx≠a->H' a=some (iz a C (some dx))->H' dx=some (oQ dx (pR x y))->(∀b,b≠a->b≠dx->H' b=H b)->Q .non H'
structure BdOk (P:Program)(w:World)(K:FG)(mg:SV)(base:Heap)(CB:Addr):Prop where
 hm:mg "BadStep"=some (.ref CB)
 at_:AtX K CB
 n1:nW K CB (Str.ofString "at")
 n2:nW K CB (Str.ofString "why")
 mx:∃(f:Addr) (fd:FuncData),MkX K CB f EXB "ValueError.__new__" /\ FnOk P w K mg base CX0 7 f fd ["self","text","at","why"] (JA K)/\Binds K fd ["self","text","at","why"] []
structure ZOk (CX:CXT)(X:Cx)(J:Hp->Prop)(FX:List XSp)(fs cs:List Str)(CA:Nat->Addr)(CB:Addr)(EE:St->XK)(tp tb:Bool):Prop where
 fx:∀(f:Nat) x S,fs[f]?=some x->FX[f]?=some S->∃k ps,Room k X.A/\Callee X.prog X.w X.K X.mg X.base CX k x ps (xSp X.K J CA CB S)
 pa:∀σ,ma CX X (EE σ) σ
 cl:∀(k:Nat) x,cs[k]?=some x->W.nsIn X.K mainGlobals x=some (some (.ref (CA k)))/\W.excIn X.K (CA k) EXB "ValueError.__new__"=true
 ra:tp=true->∃Ex:Value->Hp->Prop,rO X Ex/\∀σ c H,EE σ c none H->Ex c H
 rb:tb=true->BdOk X.prog X.w X.K X.mg X.base CB/\Room 8 X.A/\∃Ex:XK,wB X Ex/\∀σ c d H,EE σ c d H->Ex c d H
 ln:fs.length=FX.length
def yh:PA X es λ _ _ _=>False:=λ _ _ _ _ _ _ _ h=>h.elim
variable {X:Cx}
section
variable {J:Hp->Prop}{FT:List PSp}{GT:List TV}{FX:List XSp}{fs gs cs:List Str}{N:List Str}{nm:List (Str×NameKind)}{F0:Fz}{H0:Hp}{PN:List (TV×V)}{CX:CXT}{CA:Nat->Addr}{CB:Addr}{EE:St->XK}{tp tb:Bool}
noncomputable def rX(K:FG)(J:Hp->Prop)(FT:List PSp)(GT:List TV)(FX:List XSp)(CA:Nat->Addr)(CB:Addr)(EE:St->XK)(c:Cw):TE:=λ σ H _=>∃F ρ,EV K J F H σ ρ/\wX FT GT FX c ρ λ n=>∀F' H',Grow J F H F' H'->xE CA CB n H' (EE σ)
theorem sX(xo:XOk X J FT GT fs gs)(xs:XS X N nm)(z:ZOk CX X J FX fs cs CA CB EE tp tb):∀(c:Cw) {e:Expr},ckX fs gs N nm c e=true->PE X e (rX X.K J FT GT FX CA CB EE c)
 |.no,e,_=>λ _ _ _ _ _ _ ⟨_,_,_,w⟩=>w.elim
 |.or a b,e,h=>by
  replace h:=an h;intro pins s σ H Q I ⟨F,ρ,ev,w⟩;unfold wX at w
  rcases w with w|w
  ·exact sX xo xs z a h.1 pins s σ H Q I ⟨F,ρ,ev,w⟩
  ·exact sX xo xs z b h.2 pins s σ H Q I ⟨F,ρ,ev,w⟩
 |.fst c,e,h=>by
  rcases Bool.or_eq_true_iff.mp h with h|h
  ·refine cF h λ g as w _ k1=>?_;refine bg k1 λ x _ k2=>?_;refine fq k2 λ a es k3=>?_;obtain⟨h0,h1,h2,h3,h4,h5,h6⟩:=a7 k3;refine bM h0 ?_;obtain⟨f,hf⟩:=pL (au h1);obtain⟨S,eS⟩:∃S,FT[f]?=some S:=iF (by rw[<- xo.len];exact(be.mp hf).1);obtain⟨k,ps,hr,cc⟩:=xo.fns f _ S hf eS;exact(vG cc hr (glX xs h2) vy (bJ (sX xo xs z c h6) yh (aP h4)) (db h3).1 (aP h4) (fY h5)).imp λ σ H Q ⟨F,ρ,ev,w⟩=>⟨F,ρ,ev,by unfold wX at w;exact w⟩
  ·refine kW h λ es _ _ k1=>?_;refine fq k1 λ a es k2=>?_;exact(nY (bJ (sX xo xs z c (an k2).2) yh (aP (an k2).1))).imp λ σ H Q ⟨F,ρ,ev,w⟩=>⟨F,ρ,ev,by unfold wX at w;exact w⟩
 |.call f l,e,h=>by
  ·refine cF h λ g as w _ k1=>?_;refine bg k1 λ x _ k2=>?_;refine fq k2 λ a es k3=>?_;obtain⟨h0,h1,h2,h3,h4⟩:=a5 k3;refine bM h0 ?_;have hf:=au h1;obtain⟨S,eS⟩:∃S,FX[f]?=some S:=iF (by rw[<- z.ln];exact(be.mp hf).1);obtain⟨k,ps,hr,cc⟩:=z.fx f _ S hf eS;have st:=jB h4;rw[cw,aU] at st;refine(Ey cc hr (glX xs h2) z.pa (sL l xo xs h4) (db h3).1 (aP st.1) (fY st.2)).imp λ σ H Q ⟨F,ρ,ev,w⟩=>⟨F,ρ,ev,bL l (λ ts w F1 H1 vs g1 r1=>?_) w⟩;obtain⟨P,⟨S',e',sp⟩,w⟩:=w;rw[eS] at e';cases e';rw[cu]
   cases n:ts.all TV.nb with
   |true=>
    obtain⟨F2,g2,_,r2⟩:=iG g1 r1 n;exact⟨F2,_,P,g2.w,r2,sp,λ n pn F' H' g'=>w n pn F' H' (g2.trans g')⟩
   |false=>
    obtain⟨F2,w2,r2⟩:=xy g1.w r1;refine⟨F2,_,P,w2,r2,sp,λ n pn F' H' g'=>?_⟩;have gg:Grow J F1 H1 F1 H':=⟨g'.sm,g'.dm,λ _ h=>h,λ _ h=>.inl h,g'.w.j,λ b f=>g'.dm b (g1.w.d b f)⟩;exact w n pn F1 H' (g1.trans gg)
noncomputable def xR(K:FG)(J:Hp->Prop)(F0:Fz)(H0:Hp)(PN:List (TV×V))(CA:Nat->Addr)(CB:Addr)(EE:St->XK)(m:Nat)(n:XI)(ρ:En):Prop:=∀F' H' σ',ER K J F0 H0 PN F' H' σ' ρ->σ'.length=m->xE CA CB n H' (EE σ')
noncomputable def rR(K:FG)(J:Hp->Prop)(FT:List PSp)(GT:List TV)(FX:List XSp)(CA:Nat->Addr)(CB:Addr)(EE:St->XK)(m:Nat)(F0:Fz)(H0:Hp)(PN:List (TV×V))(c:Cq):TS:=λ D σ H=>∃F ρ,ER K J F0 H0 PN F H σ ρ/\σ.length=m/\wR FT GT FX c ρ (nxR K J F0 H0 PN m D.nx) (xR K J F0 H0 PN CA CB EE m)
def tK(e:ER X.K J F0 H0 PN F H σ ρ)(s:σ.length=N.length)(w:wX FT GT FX c ρ λ n=>xR X.K J F0 H0 PN CA CB EE N.length n ρ):rX X.K J FT GT FX CA CB EE c σ H Q:=⟨F,ρ,e.ev,jE c (λ n q F' H' g=>q F' H' σ (e.grow g) s) w⟩
theorem sR:∀(c:Cq) {lp:Bool}{sts:List Stmt},YOk X J FT GT fs gs N nm lp->ZOk CX X J FX fs cs CA CB EE tp tb->ckR fs gs cs tb N nm tp c sts=true->PSs X sts (rR X.K J FT GT FX CA CB EE N.length F0 H0 PN c)
 |.nil,lp,sts,y,z,h=>by
  refine bM h ?_;exact pss_nil.imp λ D σ H ⟨F,ρ,e,s,w⟩=>w F H σ e s
 |.no,lp,sts,y,z,h=>pss_never.imp λ D σ H ⟨F,ρ,e,s,w⟩=>w.elim
 |.rs k l,lp,sts,y,z,h=>by
  ·refine tJ h λ o c _ rest k0=>?_;refine iI k0 λ e k1=>?_;refine cF k1 λ g as w _ k2=>?_;refine bg k2 λ x _ k3=>?_;refine fq k3 λ a es k4=>?_;obtain⟨z0,z1,h0,h1,h2,h3,h4⟩:=a7 k4;refine bM z0 ?_;cases lr.mp z1;obtain⟨hn,hq⟩:=z.cl k _ (au h1);obtain⟨Ex,ra,up⟩:=z.ra h0;have st:=jB h4;rw[cw,aU] at st;refine(cg (vE tM y.xo.calm (glX y.xs h2) hn hq ra (sL l y.xo y.xs h4) (aP st.1) (fY st.2) (db h3).1) pss_never).imp λ D σ H ⟨F,ρ,e,s,w⟩=>?_;exact⟨F,ρ,e.ev,bL l (λ ts ⟨a,b⟩ F1 H1 vs g r=>⟨by rw[<- Paired.length r];exact a,up σ _ _ (b F1 H1 σ (e.grow g) s)⟩) w⟩
 |.rf k a b,lp,sts,y,z,h=>by
  ·refine tJ h λ o c _ rest k0=>?_;refine iI k0 λ e k1=>?_;refine cF k1 λ g as w _ k2=>?_;refine bg k2 λ x _ k3=>?_;refine cV k3 λ j k4=>?_;refine Jy k4 λ l p k5=>?_;refine fq k5 λ u r k6=>?_;refine cV k6 λ v k7=>?_;refine Jz k7 λ v p2 k8=>?_;obtain⟨z0,z1,h0,h1,h2,h3,h4,h5⟩:=a8 k8;refine bM z0 ?_;cases lr.mp z1;obtain⟨hn,hq⟩:=z.cl k _ (au h1);obtain⟨Ex,ra,up⟩:=z.ra h0;refine(cg (vE tM y.xo.calm (glX y.xs h2) hn hq ra (bJ (FM (sE a y.xo y.xs h4) (sE b y.xo y.xs h5)) pa_nil) rfl rfl (db h3).1) pss_never).imp λ D σ H ⟨F,ρ,e,s,w⟩=>?_
   exact⟨F,ρ,e.ev,ao a (λ t ⟨x,et,ox,w⟩ F1 H1 v g r=>by
    subst et;cases r
    exact⟨x,ca,ox,F1,ρ,(e.grow g).ev,ao b (λ u ⟨y,eu,oy,w⟩ F2 H2 v2 g2 r2=>by
     subst eu;cases r2
     exact⟨y,ca,oy,λ z=>⟨small pv,up σ _ _ (w F2 H2 σ ((e.grow g).grow g2) s)⟩⟩) w⟩) w⟩
 |.rb l,lp,sts,y,z,h=>by
  ·refine tJ h λ o c _ rest k0=>?_;refine iI k0 λ e k1=>?_;refine cF k1 λ g as w _ k2=>?_;refine bg k2 λ x _ k3=>?_;refine fq k3 λ a es k4=>?_;obtain⟨z0,z1,h0,z2,h2,h4⟩:=a6 k4;refine bM z0 ?_;cases lr.mp z1;cases au z2;obtain⟨B,hr,Ex,ra,up⟩:=z.rb h0;obtain⟨fi,fdi,M,Fi,bi⟩:=B.mx;have st:=jB h4;rw[cw,aU] at st;refine(cg (GW tM y.xo.calm (glX y.xs h2) B.hm M Fi hr bi ra (sL l y.xo y.xs h4) on (aP st.1) (fY st.2)) pss_never).imp λ D σ H ⟨F,ρ,e,s,w⟩=>?_;refine⟨F,ρ,e.ev,bL l (λ ts ⟨t,a,wd,et,b⟩ F1 H1 vs g r=>?_) w⟩;subst et
   cases r with|cons r1 r=>cases r with|cons r2 r=>cases r with|cons r3 r=>cases r with|nil=>
   cases r1;cases r2;cases r3;refine⟨small pv,λ p hp=>⟨p,CB,t,.int a,.str wd,ca,bP,M.cls,B.at_,B.n1,B.n2,λ dx H' hd ne e1 e2 e3=>⟨ca,dx,e1,?_⟩⟩⟩;rw[ay ne] at hd
   have kp:∀c o,H1 c=some o->rm H' p c=some o:=λ c o q=>by
    have na:c≠p:=λ z=>by rw[z,hp] at q;cases q
    have nd:c≠dx:=λ z=>by rw[z,hd] at q;cases q
    rw[sD na,e3 c na nd,ay na];exact q
   have dm:∀c,H1 c≠none->rm H' p c≠none:=λ c n q=>by
    cases z:H1 c with
    |none=>exact n z
    |some o=>rw[kp c o z] at q;cases q
   have gg:Grow J F1 H1 F1 (rm H' p):=⟨λ c o _ q=>kp c o q,dm,λ _ f=>f,λ _ f=>.inl f,?_,λ c f=>dm c (g.w.d c f)⟩
   ·exact up σ _ _ _ (b F1 _ σ (e.grow (g.trans gg)) s dx (by rw[sD ne];exact e2))
   ·have j1:=y.xo.hJ.nw H1 dx (oQ dx (pR (.int a) (.str wd))) hd g.w.j
    have eq:rm H' p=upd H1 dx (oQ dx (pR (.int a) (.str wd))):=by
     funext c;by_cases c1:c=p
     ·subst c1;rw[GS,ay (bW ne),hp]
     ·rw[sD c1];by_cases c2:c=dx
      ·subst c2;rw[bP,e2]
      ·rw[e3 c c1 c2,ay c1,ay c2]
    rw[eq];exact j1
 |.ret c,lp,sts,y,z,h=>by
  ·refine pK h λ o _ _ k0=>?_;refine iI k0 λ e k1=>?_;exact(cg (jQ (sX y.xo y.xs z c k1)) pss_never).imp λ D σ H ⟨F,ρ,e,s,w⟩=>tK (N:=N) (Q:=λ _ _=>True) e s w
 |.sx i c,lp,sts,y,z,h=>by
  ·refine jC h λ ts e pos rest k1=>?_;refine cV k1 λ t k2=>?_;refine bg k2 λ x p k3=>?_;obtain⟨h1,h2⟩:=an (cF (motive:=λ _=>(lcl N nm i x&&ckX fs gs N nm c e)=true) k3 λ _ _ _ _ k=>k);have hs:∀n,swapsWith e (some (.Name x p)) n X.env=pure false:=cF k3 λ _ _ _ _ _ _=>rfl;obtain⟨a1,a2,a3,a4⟩:=mR y.xs y.fn h1;exact(cg (qO (by rw[y.xs.N];exact y.nd) a1 a2 (sX y.xo y.xs z c h2) (hs _) a3) pss_never).imp λ D σ H ⟨F,ρ,e,s,w⟩=>tK (N:=N) (Q:=λ _ _=>True) e s w
 |.ex d c r,lp,sts,y,z,h=>by
  ·refine mQ h λ e _ rest k1=>?_;obtain⟨h1,h2,h3,h4⟩:=a4 k1;intro pins st σ H D I ⟨F,ρ,e,s,w⟩;unfold wR at w
   rcases w with w|w
   ·exact cg (nR (sX y.xo y.xs z d h2) (mS h1)) pss_never pins st σ H D I (tK (N:=N) (Q:=λ _ _=>True) e s w)
   ·exact cg (nR (sE c y.xo y.xs h3) (mS h1)) (sR r y z h4) pins st σ H D I ⟨F,ρ,e.ev,ao c (λ t w F1 H1 v g rr=>⟨F1,ρ,e.grow g,s,w⟩) w⟩
 |.set i c r,lp,sts,y,z,h=>by
  ·refine jC h λ ts e _ rest k1=>?_;refine cV k1 λ t k2=>?_;refine bg k2 λ x _ k3=>?_;obtain⟨h1,h2,h3⟩:=_L.a3 k3;obtain⟨a1,a2,a3,a4⟩:=mR y.xs y.fn h1;refine(cg (xL y.xo y.xs (by rw[y.xs.N];exact y.nd) a1 a2 a3 h2) (sR r y z h3)).imp λ D σ H ⟨F,ρ,e,s,w⟩=>?_;obtain⟨F',e',_⟩:=e.fzC c;exact⟨F',_,e'.ev,ao c (λ t ⟨nb,w⟩ F1 H1 v g r=>⟨F1,_,e'.rr g r nb fu,by rw[bu];exact s,w⟩) w⟩
 |.ite c a b r,lp,sts,y,z,h=>by
  ·refine xK h λ t x yy _ rest k1=>?_;obtain⟨h1,h2,h3,h4,h5⟩:=a5 k1;refine(cg (uH (sT c y.xo y.xs h1 h2) (sR a y z h3) (sR b y z h4)) (sR r y z h5)).imp λ D σ H ⟨F,ρ,e,s,w⟩=>?_;refine⟨F,ρ,e.ev,ao c (λ t w=>cj (λ k w F1 H1 g=>?_) w) w⟩;split at w
   ·rw[if_pos (by assumption)];exact⟨F1,ρ,e.grow g,s,eG a (λ ρ' w F' H' σ' e s=>⟨F',ρ',e,s,w⟩) (λ _ _ h=>h) w⟩
   ·rw[if_neg (by assumption)];exact⟨F1,ρ,e.grow g,s,eG b (λ ρ' w F' H' σ' e s=>⟨F',ρ',e,s,w⟩) (λ _ _ h=>h) w⟩
 |.doc r,lp,sts,y,z,h=>by
  refine mQ h λ e _ rest k1=>?_;refine gN k1 λ k _ _ k2=>?_;obtain⟨h1,h2⟩:=an k2;cases k<;>try exact Bool.noConfusion h1
  exact(cg uG (sR r y z h2)).imp λ D σ H ⟨F,ρ,e,s,w⟩=>⟨F,ρ,e,s,by unfold wR at w;exact w⟩
end
section
variable {P:Program}{w:World}{K:FG}{mg:SV}{base:Heap}{J:Hp->Prop}{FT:List PSp}{GT:List TV}{FX:List XSp}{fs gs cs:List Str}{CA:Nat->Addr}{CB:Addr}
def yi{N:List Str}{vs:List V}(h:vs.length<=N.length):(start N vs).length=N.length:=by
 unfold start;rw[aK,ak,dX];lia
theorem JB{st:Stmt}(code:Cq)(F:Fun K x qual st f fd)(sc:FnScope N ps (ah st))(m:MOk P w K mg J GT gs)(hl:fs.length=FT.length)(hl2:fs.length=FX.length)
  (fns:∀(f:Nat) x S,fs[f]?=some x->FT[f]?=some S->∃ps,Callee P w K mg base CX0 k x ps (pSp K J S)) (fx:∀(f:Nat) x S,fs[f]?=some x->FX[f]?=some S->∃ps,Callee P w K mg base (CX1 P w) k x ps (xSp K J CA CB S))
  (cl:∀(k:Nat) x,cs[k]?=some x->W.nsIn K mainGlobals x=some (some (.ref (CA k)))/\W.excIn K (CA k) EXB "ValueError.__new__"=true)
  (hck:ckR fs gs cs false N (ah st).names true code (aN st)=true) (hlen:∀ts E,S ts E->ts.length=ps.length)
  (hw:∀ts E,S ts E->wR FT GT FX code (en0 N.length ts) (λ _=>False) (λ n _=>E n)):FnOk P w K mg base (CX1 P w) (k+1) f fd ps (xSp K J CA CB S):=by
 refine F.okX sc (λ vs H Q E ⟨F1,ts,P1,wd,r,s,_⟩=>by rw[<- r.length];exact hlen _ _ s) (λ cdv A outer s H vs Q E hr h=>?_);obtain⟨F1,ts,P1,wd,r,sp,fin⟩:=h
 have nl:vs.length<=N.length:=by
  have z:=br List.length sc.pre;rw[bc] at z;have:=hlen _ _ sp;rw[<- r.length];lia
 have xo:XOk (bH (CX1 P w) P w K mg base N qual (ah st) f cdv A outer s H E) J FT GT fs gs:=⟨rfl,by have:=hr.un;show(A.deeper _).units+20<cLine;lia,m.hJ,λ g y S h1 h2=>let ⟨ps,c⟩:=fns g y S h1 h2;⟨k,ps,hr,c⟩,m.glb,m.dic,m.blt,hl⟩;have zo:ZOk (CX1 P w) (bH (CX1 P w) P w K mg base N qual (ah st) f cdv A outer s H E) J FX fs cs CA CB (λ _=>E) true false:=⟨λ g y S h1 h2=>let ⟨ps,c⟩:=fx g y S h1 h2;⟨k,ps,hr,c⟩,λ σ pins H s e s' I h=>Et pins σ H s e s' I h,cl,λ _=>⟨_,Eu,λ _ _ _ h=>h⟩,(λ z=>by cases z),hl2⟩;exact⟨_,sR (F0:=F1) (H0:=H) (PN:=[]) code (lp:=false) ⟨xo,⟨ca,ca⟩,sc.nd,λ _ _=>rfl,λ z=>by cases z⟩ zo hck,F1,en0 N.length ts,er0 wd r,yi nl,eG code (λ ρ' q=>q.elim) (λ n ρ' q F' H' σ' e _=>fin n q F' H' e.gr) (hw ts P1 sp)⟩
def FnOk.upx(F:FnOk P w K mg base CX0 k f fd ps (pSp K J S)):FnOk P w K mg base CX k f fd ps (xSp K J CA CB λ _ _=>False) :=
 ⟨λ vs H Q E ⟨_,_,_,_,_,s,_⟩=>s.elim,λ A outer s H args us vs Q E h1 h2 h3 h4 ⟨_,_,_,_,_,s,_⟩=>s.elim⟩
end
inductive Cs where
 |set (i:Nat) (t:TV)|ret (t u:TV)
noncomputable def fv:TV->V
 |.bl b=>.bl b|.int i=>.int i|.str x=>.str x|_=>.non
noncomputable def tsS:Cs->TS
 |.set i t=>λ D σ H=>D.nx (σ.set i (some (fv t))) H
 |.ret t u=>λ D _ H=>∀p,H p=none->D.rt (.ref p) (upd H p (.tup [fv t,fv u]))
noncomputable def wU:Cs->En->(En->Prop)->(TV->Prop)->Prop
 |.set i t,ρ,nx,_=>nx (ρ.set i (some t))
 |.ret t u,_,_,rt=>rt (.tup [t,u])
noncomputable def wH(m:Nat)(isC:Nat->Nat->Bool):List (Nat×Cs)->Nat->En->(En->Prop)->(TV->Prop)->Prop
 |[],_,_,_,_=>False
 |(c,s)::r,k,ρ,nx,rt=>(c<=k/\k<m)/\if isC k c=true then wU s ρ nx rt else wH m isC r k ρ nx rt
noncomputable def ckU(N:List Str)(nm:List (Str×NameKind)):Cs->List Stmt->Bool
 |.set i t,sts=>qAs sts λ ts e _ rest=>c1 ts λ n=>bq n λ x _=>jv e λ k _ _=>rest.isEmpty&&lcl N nm i x&&ckC t k
 |.ret t u,sts=>qRe sts λ e _ rest=>oS e λ e=>kU e λ es _ _=>c2 es λ a b=>jv a λ k _ _=>jv b λ k' _ _=>rest.isEmpty&&ckC t k&&ckC u k'
noncomputable def eH(h:ExceptHandler)(k:Option Expr->Option Str->List Stmt->Pos->Bool):Bool:=match h with|.ExceptHandler a b c d=>k a b c d
@[elab_as_elim] theorem yj{motive:ExceptHandler->Prop}{h:ExceptHandler}{k:Option Expr->Option Str->List Stmt->Pos->Bool}(q:eH h k=true)(f:∀a b c d,k a b c d=true->motive (.ExceptHandler a b c d)):motive h:=by cases h;exact f _ _ _ _ q
noncomputable def ckH(cs N:List Str)(nm:List (Str×NameKind)):List (Nat×Cs)->List ExceptHandler->Bool
 |[],hs=>hs.isEmpty
 |(c,s)::r,hs=>cC hs λ h hr=>eH h λ t n b _=>oS t λ t=>bq t λ x _=>n.isNone&&decide (cs[c]?=some x)&&gl nm x&&okN x&&ckU N nm s b&&ckH cs N nm r hr
section
variable {J:Hp->Prop}{FT:List PSp}{GT:List TV}{FX:List XSp}{fs gs cs:List Str}{N:List Str}{nm:List (Str×NameKind)}{F0:Fz}{H0:Hp}{CA:Nat->Addr}{CB:Addr}{K:FG}
def tN(h:ckC t k=true):PE X (.Constant k j pos) (tC (fv t)):=by
 cases t<;>cases k<;>try exact Bool.noConfusion h
 ·exact pe_non
 ·cases (au h);exact pe_bl
 ·cases (au h);exact pe_int
 ·cases (au h);exact pe_str
def tO(h:ckC t k=true):Rp K F H t (fv t):=by
 cases t<;>cases k<;>first|exact Bool.noConfusion h|rfl
theorem JC(xs:XS X N nm)(nd:X.N.Nodup)(fn:∀x,X.env.scope.names.lookup x=some .cell->X.fn x=true):∀ {s:Cs}{sts:List Stmt},ckU N nm s sts=true->PSs X sts (tsS s)
 |.set i t,sts,h=>by
  refine jC h λ ts e _ rest k1=>?_;refine cV k1 λ n k2=>?_;refine bg k2 λ x _ k3=>?_;refine gN k3 λ k _ _ k4=>?_;obtain⟨h0,h1,h2⟩:=_L.a3 k4;refine bM h0 ?_;obtain⟨a1,a2,a3,a4⟩:=mR xs fn h1;exact lG (qO nd a1 a2 (tN h2) (by rfl) a3)
 |.ret t u,sts,h=>by
  refine pK h λ o _ rest k1=>?_;refine iI k1 λ e k2=>?_;refine kW k2 λ es _ _ k3=>?_;refine jx k3 λ a b k4=>?_;refine gN k4 λ k _ _ k5=>?_;refine gN k5 λ k' _ _ k6=>?_;obtain⟨h0,h1,h2⟩:=_L.a3 k6;refine bM h0 ?_
  exact lG (jQ (nY (bJ (tN h1) (bJ (tN h2) pa_nil)))) |>.imp λ D σ H q=>⟨small pv,q⟩
abbrev Wn:=En->(En->Prop)->(TV->Prop)->Prop
noncomputable def rN(K:PySem.W.Frag)(J:Hp->Prop)(n:Nat)(F0:Fz)(H0:Hp)(W:Wn):TS:=λ D σ H=>∃F ρ,ER K J F0 H0 [] F H σ ρ/\σ.length=n/\W ρ (nxR K J F0 H0 [] n D.nx) (rtR K J F0 H0 D.rt)
noncomputable def tP(FT:List PSp)(GT:List TV)(FX:List XSp)(m:Nat)(isC:Nat->Nat->Bool)(b:Ct)(bx:Cq)(hs:List (Nat×Cs)):Wn:=λ ρ nx rt=>wS FT GT b ρ nx rt\/wR FT GT FX bx ρ nx λ n ρ'=>∃k,n=.c k/\wH m isC hs k ρ' nx rt
def JD{D:Ends}(hJ:JS J)(xs:XS X N nm)(fn:∀x,X.env.scope.names.lookup x=some .cell->X.fn x=true)(h:ckU N nm s sts=true)(e:ER K J F0 H0 [] F H σ ρ)(l:σ.length=N.length)(w:wU s ρ (nxR K J F0 H0 [] N.length D.nx) (rtR K J F0 H0 D.rt)):tsS s D σ H:=by
 cases s with
 |set i t=>
  refine jC h λ ts e' _ rest k1=>?_;refine cV k1 λ n k2=>?_;refine bg k2 λ x _ k3=>?_;refine gN k3 λ k _ _ k4=>?_;obtain⟨h0,h1,h2⟩:=_L.a3 k4;refine bM h0 ?_;obtain⟨a1,a2,a3,a4⟩:=mR xs fn h1;exact w F H _ (e.set (tO h2) fu) (by rw[bu];exact l)
 |ret t u=>
  refine pK h λ o _ rest k1=>?_;refine iI k1 λ e' k2=>?_;refine kW k2 λ es _ _ k3=>?_;refine jx k3 λ a b k4=>?_;refine gN k4 λ k _ _ k5=>?_;refine gN k5 λ k' _ _ k6=>?_;obtain⟨h0,h1,h2⟩:=_L.a3 k6;intro p hp;have g:=Grow.new hJ e.ev.w (.tup [fv t,fv u]) hp;exact w F _ _ (e.gr.trans g) ⟨p,_,ca,.of bP,_,_,ca,tO h1,_,_,ca,tO h2,ca⟩
theorem yk(xs:XS X N nm)(nd:N.Nodup)(fn:∀x,X.env.scope.names.lookup x=some .cell->X.fn x=true)(cl:∀(k:Nat) x,cs[k]?=some x->W.nsIn X.K mainGlobals x=some (some (.ref (CA k)))):∀ {hs:List (Nat×Cs)}{hl:List ExceptHandler},ckH cs N nm hs hl=true->Clauses X hl (hs.map λ p=>(CA p.1,tsS p.2))
 |[],hl,h=>by
  refine bM h ?_;exact .nil
 |(c,s)::r,hl,h=>by
  ·refine fq h λ h hr k1=>?_;refine yj k1 λ t n b _ k2=>?_;refine iI k2 λ t k3=>?_;refine bg k3 λ x _ k4=>?_;obtain⟨h0,h1,h2,h3,h4,h5⟩:=a6 k4;cases lr.mp h0
   have hne:∃b₀ r,b=b₀::r:=by
    cases b with
    |nil=>cases s<;>exact Bool.noConfusion h4
    |cons x r=>exact⟨x,r,rfl⟩
   obtain⟨b₀,rr,rfl⟩:=hne;exact .cons (glX xs h2) (cl c _ (au h1)) (λ a pn=>JC (X:=X.suite a pn) ⟨xs.N,xs.nm⟩ (by show X.N.Nodup;rw[xs.N];exact nd) fn h4) (yk xs nd fn cl h5) (db h3).1
theorem ym{m:Nat}{isC:Nat->Nat->Bool}(hJ:JS J)(xs:XS X N nm)(fn:∀x,X.env.scope.names.lookup x=some .cell->X.fn x=true)(ex:∀k c,c<=k->k<m->W.exmOne X.K (.ref (CA k)) (.ref (CA c))=some (isC k c)){D:Ends}(e:ER X.K J F0 H0 [] F H σ ρ)(l:σ.length=N.length) :
  ∀ {hs:List (Nat×Cs)}{hl:List ExceptHandler},ckH cs N nm hs hl=true->wH m isC hs k ρ (nxR X.K J F0 H0 [] N.length D.nx) (rtR X.K J F0 H0 D.rt)->mq X.K (hs.map λ p=>(CA p.1,tsS p.2)) (.ref (CA k)) λ ts=>ts D σ H
 |[],_,_,w=>w.elim
 |(c,s)::r,hl,h,⟨⟨k1,k2⟩,w⟩=>by
  ·refine fq h λ h hr q1=>?_;refine yj q1 λ t n b _ q2=>?_;refine iI q2 λ t q3=>?_;refine bg q3 λ x _ q4=>?_;obtain⟨h0,h1,h2,h3,h4,h5⟩:=a6 q4;have z:=ex k c k1 k2;split at w
   ·rename_i c1;rw[c1] at z;exact .inl ⟨z,JD hJ xs fn h4 e l w⟩
   ·rename_i c1;rw[Bool.not_eq_true] at c1;rw[c1] at z;exact .inr ⟨z,ym hJ xs fn ex e l h5 w⟩
structure TOk (X:Cx)(J:Hp->Prop)(FX:List XSp)(fs cs:List Str)(CA:Nat->Addr)(CB:Addr)(CX:CXT):Prop where
 fx:∀(f:Nat) x S,fs[f]?=some x->FX[f]?=some S->∃k ps,Room k X.A/\Callee X.prog X.w X.K X.mg X.base CX k x ps (xSp X.K J CA CB S)
 cl:∀(k:Nat) x,cs[k]?=some x->W.nsIn X.K mainGlobals x=some (some (.ref (CA k)))/\W.excIn X.K (CA k) EXB "ValueError.__new__"=true
 ln:fs.length=FX.length
 sk:X.stack=X.env::X.outer/\X.env.frame=some X.env.locals
 xx:X.ex=[]
noncomputable def yn(fs gs cs N:List Str)(nm:List (Str×NameKind))(b:Ct)(bx:Cq)(hs:List (Nat×Cs))(st:Stmt):Bool:=qTr [st] λ body hl els fi _ _=>els.isEmpty&&fi.isEmpty && !hl.isEmpty&&bh fs gs N nm false b body&&ckR fs gs cs false N nm false bx body&&ckH cs N nm hs hl
def YOk.more(y:YOk X J FT GT fs gs N nm lp)(xe:VS)(pn:LO):YOk (X.more xe pn) J FT GT fs gs N nm false:=⟨⟨y.xo.calm,y.xo.units,y.xo.hJ,y.xo.fns,y.xo.glb,y.xo.dic,y.xo.blt,y.xo.len⟩,⟨y.xs.N,y.xs.nm⟩,y.nd,y.fn,λ z=>by cases z⟩
theorem JE{EE:St->XK}(y:YOk X J FT GT fs gs N nm lp)(t:TOk X J FX fs cs CA CB CX)(h1:bh fs gs N nm false b body=true)(h2:ckR fs gs cs false N nm false bx body=true)(pa:∀σ,ma CX (X.more xe pn) (EE σ) σ) :
  PSs (X.more xe pn) body λ D σ H=>rS X.K J FT GT N.length F0 H0 [] b D σ H\/rR X.K J FT GT FX CA CB EE N.length F0 H0 [] bx D σ H:=by
 intro pins s σ H D I q
 rcases q with q|q
 ·exact sS b (X:=X.more xe pn) (lp:=false) (y.more xe pn) h1 pins s σ H D I q
 ·exact sR bx (X:=X.more xe pn) (lp:=false) (y.more xe pn) ⟨t.fx,pa,t.cl,(λ z=>by cases z),(λ z=>by cases z),t.ln⟩ h2 pins s σ H D I q
theorem JF{m:Nat}{isC:Nat->Nat->Bool}{st:Stmt}(y:YOk X J FT GT fs gs N nm lp)(t:TOk X J FX fs cs CA CB (CX1 X.prog X.w))(ex:∀k c,c<=k->k<m->W.exmOne X.K (.ref (CA k)) (.ref (CA c))=some (isC k c))(h:yn fs gs cs N nm b bx hs st=true) :
  PS X st (rN X.K J N.length F0 H0 (tP FT GT FX m isC b bx hs)):=by
 ·obtain⟨body,hl,els,fi,_,_,e1,k1⟩:=IY h;cases e1;obtain⟨z0,z1,z2,h1,h2,h3⟩:=a6 k1;refine bM z0 ?_;refine bM z1 ?_
  cases hl with
  |nil=>exact Bool.noConfusion z2
  |cons h0 hl=>
  refine(Fo t.sk (λ xe pn EE pa=>JE (F0:=F0) (H0:=H0) y t h1 h2 pa) (yk y.xs y.nd y.fn (λ k x e=>(t.cl k x e).1) h3)).imp λ D σ H ⟨F,ρ,e,s,w⟩=>?_
  rcases w with w|w
  ·exact .inl ⟨F,ρ,e,s,w⟩
  ·refine .inr ⟨F,ρ,e,s,eG bx (λ _ q=>q) (λ n ρ' ⟨k,en,q⟩ F' H' σ' e' s'=>?_) w⟩;subst en;exact ym (hs:=hs) y.xo.hJ y.xs y.fn ex e' s' h3 q
def seg(y:YOk X J FT GT fs gs N nm lp)(h:bh fs gs N nm lp c a=true)(hb:PSs X b (rN X.K J N.length F0 H0 W)):PSs X (a++b) (rN X.K J N.length F0 H0 λ ρ nx rt=>wS FT GT c ρ (λ ρ'=>W ρ' nx rt) rt) :=
 (tE (sS c (PN:=[]) y h) hb).imp λ D σ H ⟨F,ρ,e,s,w⟩=>⟨F,ρ,e,s,bE c (λ ρ' w F' H' σ' e' s'=>⟨F',ρ',e',s',w⟩) (λ _ q=>q) w⟩
end
section
variable {J:Hp->Prop}{FT:List PSp}{GT:List TV}{FX:List XSp}{fs gs cs:List Str}{N:List Str}{nm:List (Str×NameKind)}{F0:Fz}{H0:Hp}{CA:Nat->Addr}{CB:Addr}{K:FG}{lp:Bool}{b:Ct}{bx:Cq}
end
noncomputable def Mn(W:Wn):Prop:=∀ρ nx nx' rt rt',(∀ρ,nx ρ->nx' ρ)->(∀t,rt t->rt' t)->W ρ nx rt->W ρ nx' rt'
section
variable {FT:List PSp}{GT:List TV}{FX:List XSp}{b:Ct}{bx:Cq}
def JG:Mn (wU s):=λ ρ nx nx' rt rt' h g q=>by cases s<;>first|exact h _ q|exact g _ q
theorem yp{isC:Nat->Nat->Bool}:∀ {hs:List (Nat×Cs)}{k:Nat},Mn (wH m isC hs k)
 |[],_,_,_,_,_,_,_,_,q=>q
 | (c,s)::r,k,ρ,nx,nx',rt,rt',h,g,⟨a,q⟩=>⟨a,by
  split at q
  ·rw[if_pos (by assumption)];exact JG _ _ _ _ _ h g q
  ·rw[if_neg (by assumption)];exact yp _ _ _ _ _ h g q⟩
def yq{isC:Nat->Nat->Bool}:Mn (tP FT GT FX m isC b bx hs):=λ ρ nx nx' rt rt' h g q=>q.imp (bE b h g) (eG bx h λ n ρ' ⟨k,e,q⟩=>⟨k,e,yp _ _ _ _ _ h g q⟩)
def mn0:Mn (λ ρ nx rt=>wS FT GT c ρ nx rt):=λ ρ nx nx' rt rt' h g q=>bE c h g q
def mn1{W V:Wn}(hW:Mn W)(hV:Mn V):Mn (λ ρ nx rt=>wS FT GT c ρ (λ ρ'=>W ρ' (λ ρ''=>V ρ'' nx rt) rt) rt):=λ ρ nx nx' rt rt' h g q=>bE c (λ ρ' q=>hW _ _ _ _ _ (λ ρ'' q=>hV _ _ _ _ _ h g q) g q) g q
end
section
variable {J:Hp->Prop}{FT:List PSp}{GT:List TV}{fs gs:List Str}{N:List Str}{nm:List (Str×NameKind)}{F0:Fz}{H0:Hp}{lp:Bool}
def sg0(y:YOk X J FT GT fs gs N nm lp)(h:bh fs gs N nm lp c a=true):PSs X a (rN X.K J N.length F0 H0 λ ρ nx rt=>wS FT GT c ρ nx rt):=sS c (PN:=[]) y h
theorem sg1{i:Nat}{l:List Stmt}{W V:Wn}(y:YOk X J FT GT fs gs N nm lp)(hi:decide (i<l.length)=true)(h:bh fs gs N nm lp c (l.take i)=true)(hm:Mn W)(ht:PS X (l.getD i (.Pass ⟨0,0,0,0⟩)) (rN X.K J N.length F0 H0 W))(hb:PSs X (l.drop (i+1)) (rN X.K J N.length F0 H0 V)) :
  PSs X l (rN X.K J N.length F0 H0 λ ρ nx rt=>wS FT GT c ρ (λ ρ'=>W ρ' (λ ρ''=>V ρ'' nx rt) rt) rt):=by
 have hi:=au hi
 have e:l=l.take i++l.getD i (.Pass ⟨0,0,0,0⟩)::l.drop (i+1):=by
  rw[aO,az hi];show l=l.take i++l[i]::l.drop (i+1);rw[<- kG hi,jF]
 have z:=seg (W:=λ ρ' nx rt=>W ρ' (λ ρ''=>V ρ'' nx rt) rt) y h ((cg ht hb).imp λ D σ H ⟨F,ρ,e,s,w⟩=>⟨F,ρ,e,s,hm _ _ _ _ _ (λ ρ' w F' H' σ' e' s'=>⟨F',ρ',e',s',w⟩) (λ _ q=>q) w⟩);rw[<- e] at z;exact z
end
abbrev noX:XSp:=λ _ _=>False
structure CN (P:Program)(w:World)(K:FG)(mg:SV)(base:Heap)(J:Hp->Prop)(GT:List TV)(gs:List Str)(D:List DR)(X1 X2:List XSp)(cs:List Str)(CA:Nat->Addr)(CB:Addr)(j:Nat):Prop where
 m:CM P w K mg base J GT gs D j
 x1:∀i,i<j->∀x ps S T,D[i]?=some (x,ps,S)->X1[i]?=some T->Callee P w K mg base (CX1 P w) (i+1) x ps (xSp K J CA CB T)
 x2:∀i,i<j->∀x ps S T,D[i]?=some (x,ps,S)->X2[i]?=some T->Callee P w K mg base (CX2 P w) (i+1) x ps (xSp K J CA CB T)
 cl:∀(k:Nat) x,cs[k]?=some x->W.nsIn K mainGlobals x=some (some (.ref (CA k)))/\W.excIn K (CA k) EXB "ValueError.__new__"=true
 l1:X1.length=D.length
 l2:X2.length=D.length
noncomputable abbrev ZR'(D:List DR)(GT:List TV)(gs:List Str)(X1:List XSp)(cs:List Str)(tp:Bool)(j:Nat)(st:Stmt)(N:List Str)(n p:Nat)(T:XSp)(c:Cq):Prop:=(ckR (dFs D j) gs cs (!tp) N (ah st).names tp c (aN st)&&scB (ah st) (N.take p) N&&decide (p<=N.length/\N.length=n))=true/\∀ts E,T ts E->ts.length=p/\wR (dFT D j) GT (X1.take j) c (en0 n ts) (λ _=>False) (λ n _=>E n)
section
variable {P:Program}{w:World}{K:PySem.W.Frag}{mg:SV}{base:Heap}{J:Hp->Prop}{GT:List TV}{gs:List Str}{D:List DR}{X1 X2:List XSp}{cs:List Str}{CA:Nat->Addr}{CB:Addr}{j n p:Nat}{x:Str}{N:List Str}{st:Stmt}{S:PSp}{T:XSp}{code:Ct}{cx:Cq}{f:Addr}{fd:FuncData}{W:Wn}
def Callee.upx(c:Callee P w K mg base CX0 k x ps (pSp K J S)):Callee P w K mg base CX k x ps (xSp K J CA CB noX):=let ⟨f,fd,ok,m,kp,b⟩:=c.has;⟨⟨f,fd,ok.upx,m,kp,b⟩⟩
theorem xup{XX:List XSp}(hl:XX.length=D.length)(h:∀i,i<j->∀x ps S T,D[i]?=some (x,ps,S)->XX[i]?=some T->Callee P w K mg base CX (i+1) x ps (xSp K J CA CB T)) :
  (∀(f:Nat) x S,(dFs D j)[f]?=some x->(XX.take j)[f]?=some S->∃ps,Callee P w K mg base CX j x ps (xSp K J CA CB S))/\(dFs D j).length=(XX.take j).length:=by
 refine⟨λ f x S h1 h2=>?_,by unfold dFs;rw[ak,bc,bc,hl]⟩;unfold dFs at h1;rw[aL] at h1
 cases q:(D.take j)[f]? with
 |none=>rw[q] at h1;cases h1
 |some d=>
  rw[q] at h1;cases h1;have lt:f<j:=by have:=(be.mp q).1;rw[bc] at this;lia
  rw[mW,if_pos lt] at q h2;exact⟨_,(h f lt d.1 d.2.1 d.2.2 S q h2).mono fu⟩
theorem yr{XX:List XSp}(h:∀i,i<j->∀x ps S T,D[i]?=some (x,ps,S)->XX[i]?=some T->Callee P w K mg base CX (i+1) x ps (xSp K J CA CB T))(h2:∀x ps S T,D[j]?=some (x,ps,S)->XX[j]?=some T->Callee P w K mg base CX (j+1) x ps (xSp K J CA CB T)) :
  ∀i,i<j+1->∀x ps S T,D[i]?=some (x,ps,S)->XX[i]?=some T->Callee P w K mg base CX (i+1) x ps (xSp K J CA CB T):=λ i hi=>by
 by_cases e:i=j
 ·subst e;exact h2
 ·exact h i fu
def CN.up(C:CN P w K mg base J GT gs D X1 X2 cs CA CB j)(M:CM P w K mg base J GT gs D (j+1))(h1:∀x ps S T,D[j]?=some (x,ps,S)->X1[j]?=some T->Callee P w K mg base (CX1 P w) (j+1) x ps (xSp K J CA CB T))(h2:∀x ps S T,D[j]?=some (x,ps,S)->X2[j]?=some T->Callee P w K mg base (CX2 P w) (j+1) x ps (xSp K J CA CB T)):CN P w K mg base J GT gs D X1 X2 cs CA CB (j+1) :=
 ⟨M,yr C.x1 h1,yr C.x2 h2,C.cl,C.l1,C.l2⟩
def jG{XX:List XSp}(M:CM P w K mg base J GT gs D (j+1))(e:XX[j]?=some noX):∀x ps S T,D[j]?=some (x,ps,S)->XX[j]?=some T->Callee P w K mg base CX (j+1) x ps (xSp K J CA CB T):=λ x ps S T h1 h2=>by
 rw[e] at h2;cases h2;exact(M.c j (im j) x ps S h1).upx
def CN.d(C:CN P w K mg base J GT gs D X1 X2 cs CA CB j)(g:Gx K x st)(z:ZX' D GT gs j st N n p S code)(e1:X1[j]?=some noX:=by rfl)(e2:X2[j]?=some noX:=by rfl)(e:D[j]?=some (x,N.take p,S):=by rfl)(b:Bds x st (N.take p) p:=by repeat' (first|rfl|(refine λ _=>?_))):CN P w K mg base J GT gs D X1 X2 cs CA CB (j+1) :=
 C.up (C.m.d g z e b) (jG (C.m.d g z e b) e1) (jG (C.m.d g z e b) e2)
def CN.mu(C:CN P w K mg base J GT gs D X1 X2 cs CA CB j)(M:CM P w K mg base J GT gs D (j+1))(e1:X1[j]?=some noX:=by rfl)(e2:X2[j]?=some noX:=by rfl):CN P w K mg base J GT gs D X1 X2 cs CA CB (j+1) :=
 C.up M (jG M e1) (jG M e2)
def CN.r(C:CN P w K mg base J GT gs D X1 X2 cs CA CB j)(g:Gx K x st)(z:ZX' D GT gs j st N n p S code)(zr:ZR' D GT gs X1 cs true j st N n p T cx)(e1:X1[j]?=some T:=by rfl)(e2:X2[j]?=some noX:=by rfl)(e:D[j]?=some (x,N.take p,S):=by rfl)(b:Bds x st (N.take p) p:=by repeat' (first|rfl|(refine λ _=>?_))):CN P w K mg base J GT gs D X1 X2 cs CA CB (j+1):=by
 refine C.up (C.m.d g z e b) (λ x' ps' S' T' h1 h2=>?_) (jG (C.m.d g z e b) e2);rw[e] at h1;cases h1;rw[e1] at h2;cases h2;obtain⟨z1,z2⟩:=zr;simp only[aU,gQ] at z1;obtain⟨⟨k1,k2⟩,k3,rfl⟩:=z1;obtain⟨f,fd,gf⟩:=g;obtain⟨u1,u2⟩:=xup C.l1 C.x1;exact Callee.mk' gf.F (C.m.hm gf.a) (b.ok k3 f fd gf.F) (JB cx gf.F (lu k2) C.m.m (gP j) u2 C.m.c.fns u1 C.cl k1 (λ ts E h=>by rw[(z2 ts E h).1,bc,fT k3]) λ ts E h=>(z2 ts E h).2)
theorem CN.t(C:CN P w K mg base J GT gs D X1 X2 cs CA CB j)(g:Gx K x st)(k2:(scB (ah st) (N.take p) N&&decide (p<=N.length/\N.length=n))=true)
  (hb:∀(X:Cx) (F0:Fz) (H0:Hp),X.prog=P->X.w=w->X.K=K->X.mg=mg->X.base=base->YOk X J (dFT D j) GT (dFs D j) gs N (ah st).names true->TOk X J (X1.take j) (dFs D j) cs CA CB (CX1 X.prog X.w)->TOk X J (X2.take j) (dFs D j) cs CA CB (CX2 X.prog X.w)->PSs X (aN st) (rN X.K J N.length F0 H0 W))
  (z2:∀ts Q,S ts Q->ts.length=p/\W (en0 n ts) (λ _=>Q .non) Q) (mn:Mn W) (e1:X1[j]?=some noX:=by rfl) (e2:X2[j]?=some noX:=by rfl) (e:D[j]?=some (x,N.take p,S):=by rfl) (b:Bds x st (N.take p) p:=by repeat' (first|rfl|(refine λ _=>?_))):CN P w K mg base J GT gs D X1 X2 cs CA CB (j+1):=by
 simp only[aU,gQ] at k2;obtain⟨k2,k3,rfl⟩:=k2;have sc:=lu k2;have lp:(N.take p).length=p:=by rw[bc,fT k3]
 obtain⟨u1,v1⟩:=xup C.l1 C.x1;obtain⟨u2,v2⟩:=xup C.l2 C.x2
 have M:CM P w K mg base J GT gs D (j+1):=by
  refine⟨C.m.c.s λ x' ps' S' e'=>?_,C.m.m,C.m.hm⟩;rw[e] at e';cases e';obtain⟨f,fd,gf⟩:=g;refine Callee.mk' gf.F (C.m.hm gf.a) (b.ok k3 f fd gf.F) (gf.F.ok sc (λ vs H Q E ⟨F1,ts,P1,wd,r,s,_⟩=>by rw[<- r.length,(z2 _ _ s).1,lp]) (λ cdv A outer s H vs Q E hr h=>?_));obtain⟨F1,ts,P1,wd,r,sp,fin⟩:=h;have nl:vs.length<=N.length:=by rw[<- r.length,(z2 _ _ sp).1];exact k3
  have xo:XOk (bH CX0 P w K mg base N x (ah st) f cdv A outer s H E).nox J (dFT D j) GT (dFs D j) gs:=⟨rfl,by have:=hr.un;show(A.deeper _).units+20<cLine;lia,C.m.m.hJ,λ g y S h1 h2=>let ⟨ps,c⟩:=C.m.c.fns g y S h1 h2;⟨j,ps,hr,c⟩,C.m.m.glb,C.m.m.dic,C.m.m.blt,gP j⟩;refine⟨_,hb (bH CX0 P w K mg base N x (ah st) f cdv A outer s H E).nox F1 H rfl rfl rfl rfl rfl ⟨xo,⟨ca,ca⟩,sc.nd,λ _ _=>rfl,λ _=>mV⟩ ⟨λ g y S h1 h2=>let ⟨ps,c⟩:=u1 g y S h1 h2;⟨j,ps,hr,c⟩,C.cl,v1,⟨ca,ca⟩,ca⟩ ⟨λ g y S h1 h2=>let ⟨ps,c⟩:=u2 g y S h1 h2;⟨j,ps,hr,c⟩,C.cl,v2,⟨ca,ca⟩,ca⟩,F1,en0 N.length ts,er0 wd r,yi nl,?_⟩;exact mn _ _ _ _ _ (λ ρ' q F' H' σ' e _=>fin .non q F' H' .non e.gr rfl) (λ t q F' H' v g r=>fin t q F' H' v g r) (z2 ts P1 sp).2
 exact C.up M (jG M e1) (jG M e2)
def CN.law(C:CN P w K mg base J GT gs D X1 X2 cs CA CB j)(g:Gl' K x st f fd)(z:ZX' D GT gs j st N n p pN code):FnOk P w K mg base CX0 (j+1) f fd (N.take p) (pO K J):=C.m.law g z
end
abbrev p0:Stmt:=.Pass ⟨0,0,0,0⟩
noncomputable abbrev ZT'(D:List DR)(GT:List TV)(gs:List Str)(X1:List XSp)(cs:List Str)(m:Nat)(isC:Nat->Nat->Bool)(j:Nat)(st:Stmt)(N:List Str)(n p i:Nat)(S:PSp)(c b:Ct)(bx:Cq)(hs:List (Nat×Cs))(r:Ct):Prop :=
 ((scB (ah st) (N.take p) N&&decide (p<=N.length/\N.length=n))&&(decide (i<(aN st).length)&&bh (dFs D j) gs N (ah st).names true c ((aN st).take i)&&yn (dFs D j) gs cs N (ah st).names b bx hs ((aN st).getD i p0)&&bh (dFs D j) gs N (ah st).names true r ((aN st).drop (i+1))))=true /\
 ∀ts Q,S ts Q->ts.length=p/\wS (dFT D j) GT c (en0 n ts) (λ ρ=>tP (dFT D j) GT (X1.take j) m isC b bx hs ρ (λ ρ'=>wS (dFT D j) GT r ρ' (λ _=>Q .non) Q) Q) Q
section
variable {P:Program}{w:World}{K:FG}{mg:SV}{base:Heap}{J:Hp->Prop}{GT:List TV}{gs:List Str}{D:List DR}{X1 X2:List XSp}{cs:List Str}{CA:Nat->Addr}{CB:Addr}{j n p i i' e f k:Nat}{x:Str}{N:List Str}{st:Stmt}{S:PSp}{c b c' r:Ct}{bx:Cq}{hs:List (Nat×Cs)}{s:Cs}{ks:List Nat}{m:Nat}{isC:Nat->Nat->Bool}
theorem CN.y(C:CN P w K mg base J GT gs D X1 X2 cs CA CB j)(ex:∀k c,c<=k->k<m->W.exmOne K (.ref (CA k)) (.ref (CA c))=some (isC k c))(g:Gx K x st)(z:ZT' D GT gs X1 cs m isC j st N n p i S c b bx hs r)(e1:X1[j]?=some noX:=by rfl)(e2:X2[j]?=some noX:=by rfl)(e:D[j]?=some (x,N.take p,S):=by rfl)(b:Bds x st (N.take p) p:=by repeat' (first|rfl|(refine λ _=>?_))):CN P w K mg base J GT gs D X1 X2 cs CA CB (j+1):=by
 obtain⟨z1,z2⟩:=z;obtain⟨k0,z1⟩:=an z1;obtain⟨k1,k2,k3,k4⟩:=_L.a4 z1;refine C.t g k0 (λ X F0 H0 q1 q2 q3 q4 q5 y t1 t2=>?_) z2 (mn1 yq mn0) e1 e2 e b;subst q3;exact sg1 y k1 k2 yq (JF y t1 ex k3) (sg0 y k4)
end
end _L
namespace _M
open PySem _L PyProof.Rows
noncomputable def formsL:List (Str×List (Str×Int)):=[("in",[("sides",1)]),("num",[("number",1)]),("count",[("small",2),("sides",1)]),("each",[("word",1),("step",2)]),("pair",[("word",1),("step",2),("step",3)]),("pick",[("step",1),("step",2),("step",3)]),("turn",[("step",1),("sides",2)]),("flip",[("step",1),("small",2)]),("cut",[("step",1),("small",2),("small",3),("small",4),("small",5)]),("spread",[("step",1),("small",2),("small",3)]),("lay",[("step",1),("sides",2)]),("join",[("step",1),("step",2),("small",3)]),("fetch",[("step",1),("step",2)]),("fold",[("word",1),("step",2),("small",3)]),("run",[("word",1),("step",2),("small",3)])]
noncomputable def tQ(K:FG):List (Str×Int)->List V->Prop
 |[],[]=>True
 |f::fs,x::xs=>(∃a,x=.ref a/\KTup K a [.str f.1,.int f.2])/\tQ K fs xs
 |_,_=>False
noncomputable def tR(K:FG):List (Str×List (Str×Int))->LA->Prop
 |[],[]=>True
 |f::fs,p::ps=>(p.1=f.1/\∃xs,KTup K p.2 xs/\tQ K f.2 xs)/\tR K fs ps
 |_,_=>False
noncomputable def yt(P:Program)(w:World)(K:FG)(d:Addr):Prop:=∃kvs,KTab P w K d kvs/\tR K formsL kvs
def mX{K:FG}{sl:AV}(h:K.lookup a=some ⟨.type "tuple",none,.seq its n,sl⟩)(z:its.size<=sizeLine)(v:Vals xs its.toList):KTup K a xs:=⟨_,its,n,h,rfl,rfl,rfl,z,v⟩
def ae(ns:LI):Int:=ns.foldl (λ a b=>a*b) 1
def mY{ns:LI}{i:Nat}(h:ns[i]?=some x):ae (ns.take (i+1))=ae (ns.take i)*x:=by
 unfold ae;rw[List.take_add_one,h,List.foldl_append];rfl
def aV(ns:LI):Prop:=∀n∈ns,0<=n/\n<1000000000000000000
def ag(n:Int):Int:=if n=0 then 1 else n
def yu(h:aV ns):aV (ns.map ag):=by
 intro n hn;obtain⟨m,hm,rfl⟩:=bD.mp hn;have:=h m hm;unfold ag;split<;>lia
def stP(ns:LI)(j:Nat):Int:=ae (ns.reverse.take j)
def stL(ns:LI)(i:Nat):LI:=(List.range i).map (stP ns)
def yv(ns:LI)(i:Nat):stL ns (i+1)=stL ns i++[stP ns i]:=by
 unfold stL;rw[pU,cG];rfl
def JH{ns:LI}{i:Nat}(hi:i<ns.length)(h:ns[ns.length-1-i]?=some m):stP ns (i+1)=stP ns i*m:=by
 unfold stP;exact mY (by rw[ji hi];exact h)
def bZ(ns:LI):Prop:=6<ns.length\/512<ae (ns.map ag)
noncomputable def aY(ns ms:LI):Prop:=ms.length=ns.length/\∀(i:Nat) m n,ms[i]?=some m->ns[i]?=some n->0<=m/\m<n
noncomputable def aQ(ms ss:LI):Int:=(List.zipWith (λ a b=>a*b) ms ss).sum
noncomputable def lfI(ns:LI)(place:Int):Nat->Int
 |0=>place
 |i+1=>lfI ns place i/ns.reverse.getD i 1
noncomputable def dgI(ns:LI)(place:Int)(i:Nat):Int:=lfI ns place i%ns.reverse.getD i 1
noncomputable def dgL(ns:LI)(place:Int)(i:Nat):LI:=(List.range i).map (dgI ns place)
def JI(ns:LI)(p:Int)(i:Nat):dgL ns p (i+1)=dgL ns p i++[dgI ns p i]:=by
 unfold dgL;rw[pU,cG];rfl
def yw{ns:LI}{i:Nat}(hi:i<ns.length)(h:ns[ns.length-1-i]?=some m):ns.reverse.getD i 1=m:=by
 rw[aO,ji hi,h];rfl
def yz(xs:LI)(y:Int):ae (xs++[y])=ae xs*y:=by unfold ae;rw[List.foldl_append];rfl
def JJ(xs:LI):∀a:Int,xs.foldl (λ a b=>a*b) a=a*ae xs:=by
 induction xs with
 |nil=>intro a;show a=a*1;rw[s0t]
 |cons x xs ih=>intro a;show xs.foldl (λ a b=>a*b) (a*x)=a*(xs.foldl (λ a b=>a*b) (1*x));rw[ih,ih (1*x),mZ,pV]
def bB(x:Int)(xs:LI):ae (x::xs)=x*ae xs:=by
 show xs.foldl (λ a b=>a*b) (1*x)=_;rw[JJ,mZ]
def JK(ns:LI):ae ns.reverse=ae ns:=by
 induction ns with
 |nil=>rfl
 |cons x xs ih=>rw[ki,yz,bB,ih,nc]
def yA(h:ae ns≠0):∀n∈ns,n≠0:=by
 induction ns with
 |nil=>intro n hn;cases hn
 |cons x xs ih=>
  rw[bB] at h;intro n hn
  rcases bf.mp hn with rfl|hn
  ·intro z;rw[z,Int.zero_mul] at h;exact h rfl
  ·exact ih (λ z=>h (by rw[z,Int.mul_zero])) n hn
def JL(ns:LI):stP ns ns.length=ae ns:=by
 unfold stP;rw[<- gM,fk,JK]
def ng{ns:LI}(h:∀n∈ns,0<=n):0<=ae ns:=by
 induction ns with
 |nil=>decide
 |cons x xs ih=>rw[bB];exact nh (h x (bz ..)) (ih λ n hn=>h n (aW _ hn))
def JM{ns:LI}(nz:∀n∈ns,n≠0)(h:aV ns){i:Nat}(hi:i<ns.length)(hm:ns[ns.length-1-i]?=some m):0<=dgI ns pl i/\dgI ns pl i<m:=by
 unfold dgI;rw[yw hi hm];have mm:=aD hm;have m0:=(h m mm).1;have mz:=nz m mm;exact⟨eI _ mz,fE _ fu⟩
def JN{ns:LI}{k:Nat}(hk:k<ns.length):(dgL ns pl ns.length).reverse[k]?=some (dgI ns pl (ns.length-1-k)):=by
 have l:(dgL ns pl ns.length).length=ns.length:=by rw[dgL,ak,cn]
 have z:ns.length-1-k<ns.length:=fu;rw[ji (by rw[l];exact hk),l,dgL,aL,fX z];rfl
def JO{ns:LI}(nz:∀n∈ns,n≠0)(h:aV ns):aY ns (dgL ns pl ns.length).reverse:=by
 refine⟨by rw[gM,dgL,ak,cn],λ i m n hm hn=>?_⟩;have hi:=(be.mp hn).1;rw[JN hi] at hm;cases hm;exact JM nz h fu (by rw[show ns.length-1-(ns.length-1-i)=i by lia];exact hn)
def dN(n:Nat):LI:=List.replicate n 0
def JP(n:Nat):(dN n).length=n:=dX ..
noncomputable def fit(ns:LI):Prop:=(∀n∈ns,0<=n/\n<=512)/\ns.length<=6/\1<=ae (ns.map ag)/\ae (ns.map ag)<=512
noncomputable def grow(ns:LI)(free:Int)(i:Nat):Prop:=(∀n∈ns,0<=n/\n<=512)/\ns.length=i/\1<=free/\free<=512/\1<=ae (ns.map ag)/\free*ae (ns.map ag)<=512
noncomputable def off(ns:LI)(side:Int):Prop:=side<0\/(ns.length:Int)<=side
noncomputable def bad(ns:LI)(side first many step:Int):Prop:=first<0\/many<0\/step<1\/(0<many/\ns.getD side.toNat 0<=first+(many-1)*step)
def eJ(h:¬off ns side):∃k:Nat,side=k/\k<ns.length:=by
 unfold off at h;exact⟨side.toNat,fu,fu⟩
instance (ns:LI):Decidable (bZ ns):=by unfold bZ;infer_instance
noncomputable def agr(x y:LI):Prop:=∀k:Nat,k<x.length->k<y.length->x[k]?=y[k]?
def JQ(x:LI):agr x x:=λ _ _ _=>rfl
def yB(h:agr x y):agr y x:=λ k a b=>(h k b a).symm
def tS{x y:LI}(h:x.length<=y.length):agr x y ↔ y.take x.length=x:=by
 constructor
 ·intro a;apply jt;intro k;by_cases c:k<x.length
  ·rw[kg c];exact(a k c fu).symm
  ·rw[fb (by rw[bc];lia),fb fu]
 ·intro e k hx hy;have z:=br (λ l=>l[k]?) e;simp only[kg hx] at z;exact z.symm
noncomputable def dg(x y:LI):Prop:=if y.length<x.length then x.take y.length=y else y.take x.length=x
def bv(x y:LI):LI:=if y.length<x.length then x else y
def yC(x y:LI):dg x y ↔ agr x y:=by
 unfold dg;split
 ·rename_i h;exact(tS fu).symm.trans ⟨yB,yB⟩
 ·rename_i h;exact(tS fu).symm
def JR(h:agr x y)(l:x.length=y.length):x=y:=by
 have z:=(tS (x:=x) (y:=y) fu).mp h;rw[l,fk] at z;exact z.symm
noncomputable def tups(H:Hp)(ps:List Addr)(L:LL):Prop:=ps.length=L.length/\∀(i:Nat) p m,ps[i]?=some p->L[i]?=some m->H p=some (.tup (m.map V.int))
def sm(ns:LI):Prop:=∀n∈ns,0<=n/\n<=1000000
def gR(h:sm ns):aV ns:=λ n hn=>by have:=h n hn;lia
def yD{v:Int}(h:sm ns)(h0:0<=v)(h1:v<=1000000):sm (ns.set k v):=λ n hn=>by
 rcases lw hn with z|z
 ·exact h n z
 ·lia
noncomputable def aH(ns ms:LI)(side:Int):LI:=ns.set side.toNat (ns.getD side.toNat 0+ms.getD side.toNat 0)
def yE{ns ms:LI}(l:ns.length=ms.length):ns.eraseIdx k=ms.eraseIdx k ↔ ∀i:Nat,i≠k->ns[i]?=ms[i]?:=by
 constructor
 ·intro e i ne;by_cases c:i<k
  ·have z:=br (λ l=>l[i]?) e;simp only[nj,if_pos c] at z;exact z
  ·have z:=br (λ l=>l[i-1]?) e;simp only[nj,if_neg (show ¬i-1<k by lia),show i-1+1=i by lia] at z;exact z
 ·intro h;apply jt;intro i;rw[nj,nj];split
  ·exact h i fu
  ·exact h (i+1) fu
def JT{n k:Nat}(h:k<n):ixN n (k:Int)=some k:=by unfold ixN;rw[if_pos fu];simp;lia
def getD_mem{ns:LI}{k:Nat}(h:k<ns.length):ns.getD k 0∈ns:=by rw[aO,az h];exact kJ h
def atD(ns:LI)(p:Int):LI:=(dgL ns p ns.length).reverse
def lx(ns:LI)(p:Int):(atD ns p).length=ns.length:=by simp[atD,dgL]
def JU(a:LI):∀b:LI,ae (a++b)=ae a*ae b:=by
 induction a with
 |nil=>intro b;show ae b=1*ae b;rw[mZ]
 |cons x a ih=>intro b;rw[jn,bB,bB,ih,pV]
def plH(ns ms:LI):Int:=aQ ms (stL ns ns.length).reverse
def JV{p:Int}(h:aV ns)(h0:0<=p)(h1:p<ae ns):∀n∈ns,0<n:=λ n hn=>by
 have a:=yA (ns:=ns) fu n hn;have b:=h n hn;lia
def iJ{p:Int}(h:aV ns)(h0:0<=p)(h1:p<ae ns):aY ns (atD ns p):=JO (λ n hn=>by have:=JV h h0 h1 n hn;lia) h
def yF(n:Int)(ns:LI){j:Nat}(h:j<=ns.length):stP (n::ns) j=stP ns j:=by
 unfold stP;rw[ki,pW (by simpa using h)]
def tT(n:Int)(ns:LI):(stL (n::ns) (n::ns).length).reverse=ae ns::(stL ns ns.length).reverse:=by
 rw[List.length_cons,yv,List.reverse_append,yF n ns (av _),JL];show ae ns::(stL (n::ns) ns.length).reverse=_
 congr 2
 unfold stL;exact pj λ j hj=>yF n ns (dq (eV.mp hj))
def JW(n m:Int)(ns ms:LI):plH (n::ns) (m::ms)=m*ae ns+plH ns ms:=by
 unfold plH;rw[tT];show(List.zipWith _ (m::ms) (ae ns::_)).sum=_;rw[pX,List.sum_cons];rfl
theorem tU:∀ {ns ms:LI},aY ns ms->0<=plH ns ms/\plH ns ms<ae ns
 |[],[],_=>by decide
 |[],_::_,h=>by have:=h.1;simp at this
 |_::_,[],h=>by have:=h.1;simp at this
 |n::ns,m::ms,h=>by
  have g:aY ns ms:=⟨by have:=h.1;simpa using this,λ i a b e1 e2=>h.2 (i+1) a b (by simpa using e1) (by simpa using e2)⟩;have ih:=tU g;have m0:=h.2 0 m n rfl rfl;rw[JW,bB];have e:n*ae ns=m*ae ns+(n-m)*ae ns:=by rw[<- Int.add_mul];congr 1;lia
  have e2:ae ns<=(n-m)*ae ns:=by
   have:1*ae ns<=(n-m)*ae ns:=gU fu fu;lia
  have e3:0<=m*ae ns:=nh m0.1 fu;lia
noncomputable def nq(n:Int):Int:=if n%17=5 then [(-9223372036854775808:Int),9223372036854775807,-1,4611686018427387904].getD (n/17%4).toNat 0 else (n+9223372036854775808)%18446744073709551616-9223372036854775808
theorem dA:∀ {ns:LI},(∀n∈ns,0<=n)->0<=ae ns/\ae ns<=ae (ns.map ag)
 |[],_=>by decide
 |n::ns,h=>by
  obtain⟨i0,i1⟩:=dA (ns:=ns) λ m hm=>h m (aW _ hm);have n0:=h n bz;rw[bA,bB,bB];have o:n<=ag n/\0<=ag n:=by unfold ag;split<;>lia
  exact⟨nh n0 i0,s0s o.1 i1 i0 o.2⟩
def eK{ns:LI}{k:Nat}(hk:k<ns.length):ns[k]?=some (ns.getD k 0):=by rw[aO,az hk];rfl
noncomputable def cW(n:Int):Int:=(n+9223372036854775808)%18446744073709551616-9223372036854775808
def pY(x y:Int):Int:=if y=0 then 0 else cW (Int.fdiv x y)
def pZ(x y:Int):Int:=if y=0 then x else Int.fmod x y
noncomputable def bw(w:Str)(x y:Int):Int :=
 if w="add" then cW (x+y) else if w="sub" then cW (x-y) else if w="mul" then cW (x*y) else if w="quo" then pY x y else if w="rest" then pZ x y
 else if w="max" then (if x<y then y else x) else if w="min" then (if y<x then y else x) else if w="less" then (if x<y then 1 else 0) else if w="like" then (if x=y then 1 else 0)
 else if w="and" then Builtin.bitAnd x y else if w="or" then Builtin.bitOr x y else Builtin.bitXor x y
def JX(x y:Int):bw "add" x y=(cW (x+y)):=by unfold bw;rw[if_pos rfl]
def JY(x y:Int):bw "sub" x y=(cW (x-y)):=by unfold bw;rw[if_neg (by decide +kernel),if_pos rfl]
def JZ(x y:Int):bw "mul" x y=(cW (x*y)):=by unfold bw;rw[if_neg (by decide +kernel),if_neg (by decide +kernel),if_pos rfl]
def Ka(x y:Int):bw "quo" x y=(pY x y):=by unfold bw;rw[if_neg (by decide +kernel),if_neg (by decide +kernel),if_neg (by decide +kernel),if_pos rfl]
def Kb(x y:Int):bw "rest" x y=(pZ x y):=by unfold bw;rw[if_neg (by decide +kernel),if_neg (by decide +kernel),if_neg (by decide +kernel),if_neg (by decide +kernel),if_pos rfl]
def Kc(x y:Int):bw "max" x y=(if x<y then y else x):=by unfold bw;rw[if_neg (by decide +kernel),if_neg (by decide +kernel),if_neg (by decide +kernel),if_neg (by decide +kernel),if_neg (by decide +kernel),if_pos rfl]
def Kd(x y:Int):bw "min" x y=(if y<x then y else x):=by unfold bw;rw[if_neg (by decide +kernel),if_neg (by decide +kernel),if_neg (by decide +kernel),if_neg (by decide +kernel),if_neg (by decide +kernel),if_neg (by decide +kernel),if_pos rfl]
def Kf(x y:Int):bw "less" x y=(if x<y then 1 else 0):=by unfold bw;rw[if_neg (by decide +kernel),if_neg (by decide +kernel),if_neg (by decide +kernel),if_neg (by decide +kernel),if_neg (by decide +kernel),if_neg (by decide +kernel),if_neg (by decide +kernel),if_pos rfl]
def Kg(x y:Int):bw "like" x y=(if x=y then 1 else 0):=by unfold bw;rw[if_neg (by decide +kernel),if_neg (by decide +kernel),if_neg (by decide +kernel),if_neg (by decide +kernel),if_neg (by decide +kernel),if_neg (by decide +kernel),if_neg (by decide +kernel),if_neg (by decide +kernel),if_pos rfl]
def Kh(x y:Int):bw "and" x y=(Builtin.bitAnd x y):=by unfold bw;rw[if_neg (by decide +kernel),if_neg (by decide +kernel),if_neg (by decide +kernel),if_neg (by decide +kernel),if_neg (by decide +kernel),if_neg (by decide +kernel),if_neg (by decide +kernel),if_neg (by decide +kernel),if_neg (by decide +kernel),if_pos rfl]
def Ki(x y:Int):bw "or" x y=(Builtin.bitOr x y):=by unfold bw;rw[if_neg (by decide +kernel),if_neg (by decide +kernel),if_neg (by decide +kernel),if_neg (by decide +kernel),if_neg (by decide +kernel),if_neg (by decide +kernel),if_neg (by decide +kernel),if_neg (by decide +kernel),if_neg (by decide +kernel),if_neg (by decide +kernel),if_pos rfl]
def Kj(x y:Int):bw "xor" x y=(Builtin.bitXor x y):=by unfold bw;rw[if_neg (by decide +kernel),if_neg (by decide +kernel),if_neg (by decide +kernel),if_neg (by decide +kernel),if_neg (by decide +kernel),if_neg (by decide +kernel),if_neg (by decide +kernel),if_neg (by decide +kernel),if_neg (by decide +kernel),if_neg (by decide +kernel),if_neg (by decide +kernel)]
noncomputable abbrev tw:List Str:=["add","sub","mul","quo","rest","max","min","less","like","and","or","xor"]
noncomputable def inB(x:Int):Prop:=-9223372036854775808<=x/\x<9223372036854775808
def Kk(n:Int):inB (nq n):=by
 unfold nq inB;split
 ·have h:n/17%4=0\/n/17%4=1\/n/17%4=2\/n/17%4=3:=by lia
  rcases h with h|h|h|h<;>rw[h]<;>exact⟨on,on⟩
 ·lia
def Kl(x:Int):Int:=if x<0 then -x else x
noncomputable def nr(w:Str)(x:Int):Int:=if w="neg" then cW (-x) else if w="abs" then cW (Kl x) else if w="sign" then (if x<0 then -1 else if 0<x then 1 else 0) else if x=0 then 1 else 0
def yG:List Str:=["neg","abs","sign","not"]
noncomputable def qd:List Str:=["add","sub","mul","quo","rest","max","min","less","like","and","or","xor"]
noncomputable def jH(ns cs ms:LI)(i:Nat):Int:=cs.getD (plH ns ((atD ms (i:Int)).take ns.length)).toNat 0
noncomputable def fZ(ns cs ms:LI):LI:=(List.range (ae ms).toNat).map (jH ns cs ms)
def yH(ns cs ms:LI):(fZ ns cs ms).length=(ae ms).toNat:=by unfold fZ;rw[ak,cn]
def yI{ns cs ms:LI}(h:∀c∈cs,inB c):∀x∈fZ ns cs ms,inB x:=λ x hx=>by
 unfold fZ at hx;obtain⟨i,_,rfl⟩:=bD.mp hx;unfold jH;rw[aO]
 cases e:cs[(plH ns ((atD ms (i:Int)).take ns.length)).toNat]? with
 |none=>exact⟨on,on⟩
 |some c=>exact h c (aD e)
noncomputable def prC(w:Str)(ns cs ms ds P:LI):LI:=List.zipWith (bw w) (fZ ns cs P) (fZ ms ds P)
noncomputable def pkC(ks es ns cs ms ds P:LI):LI:=(List.range (ae P).toNat).map λ i=>if jH ks es P i≠0 then jH ns cs P i else jH ms ds P i
def yJ{ns cs ms:LI}(h:∀c∈cs,inB c):inB (jH ns cs ms i):=by
 unfold jH;rw[aO]
 cases e:cs[(plH ns ((atD ms (i:Int)).take ns.length)).toNat]? with
 |none=>exact⟨on,on⟩
 |some c=>exact h c (aD e)
noncomputable abbrev fw:List Str:=["add","mul","max","min","and","or","xor"]
def isF(w:Str):Prop:=w∈fw
noncomputable def qe(w:Str):Int:=if w="mul" then 1 else if w="max" then -9223372036854775808 else if w="min" then 9223372036854775807 else if w="and" then -1 else 0
noncomputable def kinds:List Str:=["in","num","count","each","pair","pick","turn","flip","cut","spread","lay","join","fetch","fold","run"]
def tV(i:Nat):Str:=kinds.getD i ""
noncomputable def Km(fs:List (Str×Int)):LI:=fs.filterMap λ f=>if f.1=("step" : Str) then some f.2 else none
def yK(i:Nat):LI:=Km ((formsL.getD i ("",[])).2)
def dO(n:Nat)(os:LI):Prop:=os.Perm (upL n)
def up_mem{n:Nat}{x:Int}:x∈upL n ↔ 0<=x/\x<n:=by
 unfold upL;constructor
 ·intro h;obtain⟨i,hi,rfl⟩:=bD.mp h;have:=eV.mp hi;lia
 ·intro h;exact bD.mpr ⟨x.toNat,eV.mpr fu,fu⟩
def dB(n:Nat):(upL n).length=n:=by simp[upL]
def Ko(n:Nat):(upL n).Pairwise (·<=·):=by
 unfold upL;rw[List.pairwise_map];exact List.Pairwise.imp (λ h=>by lia) (List.pairwise_lt_range (n:=n))
def yL(n:Nat):(upL n).Nodup:=by
 unfold upL;exact List.Pairwise.map _ (λ a b (h:a≠b)=>by lia) List.nodup_range
theorem yM:∀ {l1 l2:LI},l1.Perm l2->l1.Pairwise (·<=·)->l2.Pairwise (·<=·)->l1=l2
 |[],l2,p,_,_=>(List.nil_perm.mp p).symm
 |a::l1,l2,p,h1,h2=>by
  cases l2 with
  |nil=>exact List.perm_nil.mp p
  |cons b l2=>
   obtain⟨a1,a2⟩:=mD.mp h1;obtain⟨b1,b2⟩:=mD.mp h2
   have ab:a<=b:=by
    rcases bf.mp (p.symm.subset (bz ..)) with e|e
    ·lia
    ·exact a1 b e
   have ba:b<=a:=by
    rcases bf.mp (p.subset (bz ..)) with e|e
    ·lia
    ·exact b1 a e
   have e:a=b:=fu;subst e;rw[yM (List.perm_cons a |>.mp p) a2 b2]
def Kp{os ss:LI}(p:ss.Perm os)(s:ss.Pairwise (·<=·)):ss=upL n ↔ dO n os :=
 ⟨λ e=>p.symm.trans (by rw[e]),λ t=>yM (p.trans t) s (Ko n)⟩
def aC(ns os:LI):LI:=os.map λ k=>ns.getD k.toNat 0
def aG(ns:LI)(k:Nat)(m:Int):LI:=ns.take k++[m]++ns.drop k
def gW(ns:LI)(side:Int):Prop:=side<0\/(ns.length:Int)<side
def ny(ns:LI)(k:Nat)(m:Int):(aG ns k m).length=ns.length+1:=by
 unfold aG;simp only[aK,bc,da,List.length_cons,List.length_nil];lia
def Kq{m:Int}(h:aV ns)(h0:0<=m)(h1:m<1000000):aV (aG ns k m):=λ n hn=>by
 unfold aG at hn
 rcases cJ.mp hn with hn|hn
 ·rcases cJ.mp hn with hn|hn
  ·exact h n (tW hn)
  ·cases bY.mp hn;lia
 ·exact h n (nA hn)
def tX{ns:LI}{k:Nat}(h:k<ns.length):ns.getD k 0∈ns:=by rw[aO,az h];exact kJ h
def iK{n:Int}(h:0<=n):1<=ag n:=by unfold ag;split<;>lia
def tY{n:Int}(h:0<=n):(if n > 1 then n else 1)=ag n:=by unfold ag;split<;>split<;>lia
def nC{ns:LI}(h:∀n∈ns,0<=n):1<=ae (ns.map ag):=by
 induction ns with
 |nil=>decide
 |cons n ns ih=>
  rw[bA,bB];have a:=iK (h n bz);have b:=ih λ m hm=>h m (aW _ hm);exact ly on (s0s a b on fu)
def div_one{r d:Int}(h1:1<=d)(h2:d<=r):1<=r/d:=by
 have:=Int.ediv_le_ediv (a:=d) (b:=r) (c:=d) fu h2;rw[Int.ediv_self fu] at this;exact this
def Kr{ss:LI}{k:Nat}{x:Int}(kl:k<ss.length):ss.take k++[x]++ss.drop (k+1)=ss.set k x:=by
 rw[tZ,if_pos kl,jd];rfl
def lC(h:fit ns):aV ns:=λ n hn=>by have:=h.1 n hn;exact⟨this.1,fu⟩
def qg(h:fit ns):¬bZ ns:=λ b=>b.elim (λ z=>by have:=h.2.1;lia) (λ z=>by have:=h.2.2.2;lia)
def Ks{cs:LI}{n:Nat}(h:cs.length=n):(List.range n).map (λ i=>cs.getD i 0)=cs:=by
 subst h;apply jt;intro k;by_cases c:k<cs.length
 ·rw[aL,fX c];exact(eK c).symm
 ·rw[fb (by simp;lia),fb fu]
def nD{a b:LI}(h:a.Perm b):ae a=ae b:=by
 induction h with
 |nil=>rfl
 |cons x _ ih=>rw[bB,bB,ih]
 |swap x y l=>rw[bB,bB,bB,bB,<- pV,<- pV,nc x y]
 |trans _ _ h1 h2=>rw[h1,h2]
def yN{ns os:LI}(t:dO ns.length os):(aC ns os).Perm ns:=by
 have e:(upL ns.length).map (λ k:Int=>ns.getD k.toNat 0)=ns:=by
  unfold upL;rw[bK];exact Ks rfl
 have:=t.map (λ k:Int=>ns.getD k.toNat 0);rw[e] at this;exact this
inductive Stp where
 |inp (ms:LI)
 |num (n:Int)
 |count (ms:LI) (k:Int)
 |each (w:Str) (a:Nat)
 |pair (w:Str) (a b:Nat)
 |pick (a b c:Nat)
 |turn (a:Nat) (os:LI)
 |flip (a:Nat) (side:Int)
 |cut (a:Nat) (side f m g:Int)
 |spread (a:Nat) (side m:Int)
 |lay (a:Nat) (ms:LI)
 |join (a b:Nat) (side:Int)
 |fetch (a b:Nat)
 |fold (w:Str) (a:Nat) (side:Int)
 |run (w:Str) (a:Nat) (side:Int)
noncomputable def ax(mo:Int)(ns:LI):Prop:=(∀n∈ns,0<=n/\n<=mo)/\ns.length<=6/\1<=ae (ns.map ag)/\ae (ns.map ag)<=mo
def cq(mo:Int):Prop:=2<=mo/\mo<=512
def dC{mo:Int}(h:ax mo ns)(m:cq mo):fit ns:=⟨λ n hn=>by have:=h.1 n hn;have:=m.2;lia,h.2.1,h.2.2.1,ly h.2.2.2 m.2⟩
def qh{mo:Int}(m:cq mo):ax mo []:=⟨(λ n hn=>nomatch hn),on,on,by have:=m.1;show(1:Int)<=mo;lia⟩
def ua{mo n:Int}(h:ax mo ns)(l:ns.length<6)(n0:0<=n)(hn:n<=mo/ae (ns.map ag)):ax mo (ns++[n]):=by
 have p:=h.2.2.1;have e:ae ((ns++[n]).map ag)=ae (ns.map ag)*ag n:=by rw[cG];exact yz _ _
 have o1:=iK n0;have d1:1<=mo/ae (ns.map ag):=div_one p h.2.2.2;have le:mo/ae (ns.map ag)<=mo:=Int.ediv_le_self _ (by have:=h.2.2.2;lia);have m2:ae (ns.map ag)*(mo/ae (ns.map ag))<=mo:=s0l fu;generalize mo/ae (ns.map ag)=q at *;have o2:ag n<=q:=by unfold ag;split<;>lia
 have m1:=jI o2 (show 0<=ae (ns.map ag) by lia);refine⟨λ k hk=>?_,by rw[aK,gw];lia,?_,?_⟩
 ·rcases cJ.mp hk with z|z
  ·exact h.1 k z
  ·cases bY.mp z;lia
 ·rw[e];exact ly on (s0s p o1 on fu)
 ·rw[e];lia
noncomputable def OkS(Ss:LL)(S:LI):Stp->Prop
 |.inp ms=>S=ms/\¬bZ ms
 |.num n=>S=[]/\inB n
 |.count ms k=>S=ms/\¬bZ ms/\¬off ms k
 |.each w a=>Ss[a]?=some S/\w∈yG
 |.pair w a b=>∃A B,Ss[a]?=some A/\Ss[b]?=some B/\w∈qd/\dg A B/\S=bv A B
 |.pick a b c=>∃A B C,Ss[a]?=some A/\Ss[b]?=some B/\Ss[c]?=some C/\dg A B/\dg (bv A B) C/\S=bv (bv A B) C
 |.turn a os=>∃A,Ss[a]?=some A/\dO A.length os/\S=aC A os
 |.flip a side=>Ss[a]?=some S/\¬off S side
 |.cut a side f m g=>∃A,Ss[a]?=some A/\¬off A side/\¬bad A side f m g/\m<=512/\S=A.set side.toNat m
 |.spread a side m=>∃A,Ss[a]?=some A/\¬gW A side/\¬m<0/\m<=512/\¬bZ (aG A side.toNat m)/\S=aG A side.toNat m
 |.lay a ms=>∃A,Ss[a]?=some A/\¬bZ ms/\ae A=ae ms/\S=ms
 |.join a b side=>∃A B,Ss[a]?=some A/\Ss[b]?=some B/\A.length=B.length/\¬off A side/\A.eraseIdx side.toNat=B.eraseIdx side.toNat/\¬bZ (aH A B side)/\S=aH A B side
 |.fetch a b=>∃n r B,Ss[a]?=some (n::r)/\n≠0/\Ss[b]?=some B/\¬bZ (B++r)/\S=B++r
 |.fold w a side=>∃A,Ss[a]?=some A/\isF w/\¬off A side/\S=A.eraseIdx side.toNat
 |.run w a side=>Ss[a]?=some S/\isF w/\¬off S side
def dD{mo:Int}(h:ax mo ns):∀n∈ns,0<=n:=λ n hn=>(h.1 n hn).1
def Kt{n m:Int}(h:n<=m)(h1:1<=m):ag n<=m:=by unfold ag;split<;>lia
def Ku{mo:Int}(h:ax mo ns)(m:cq mo):ax mo [ae ns]:=by
 have p:=dA (dD h);have b:=h.2.2.2;have o:=iK p.1;have e:ae ([ae ns].map ag)=ag (ae ns):=by show ae [ag (ae ns)]=_;rw[bB];exact s0t _
 refine⟨λ n hn=>?_,lY (bS _),by rw[e];exact o,by rw[e];exact Kt fu (by have:=m.1;lia)⟩;cases bY.mp hn;lia
def Kv{mo:Int}(h:ax mo ns)(m:cq mo)(l:ns.length<6):ax mo (1::ns):=by
 have e:ae ((1::ns).map ag)=ae (ns.map ag):=by rw[bA,bB];exact mZ _
 refine⟨λ n hn=>?_,by rw[List.length_cons];lia,by rw[e];exact h.2.2.1,by rw[e];exact h.2.2.2⟩
 rcases bf.mp hn with z|z
 ·have:=m.1;lia
 ·exact h.1 n z
def Kw{mo:Int}(h:ax mo ns)(m:cq mo)(c:ae ns%2=0):ax mo [ae ns/2,2]/\ae [ae ns/2,2]=ae ns:=by
 have p:=dA (dD h);have b:=h.2.2.2;have m1:=m.1;have e:ae ([ae ns/2,2].map ag)=ag (ae ns/2)*2:=by show ae [ag (ae ns/2),2]=_;rw[bB,bB];show _*(2*1)=_;rfl
 have e2:ae [ae ns/2,2]=ae ns/2*2:=by rw[bB,bB];show _*(2*1)=_;rfl
 generalize ae ns=P at *;have o:1<=ag (P/2)/\ag (P/2)*2<=mo:=by unfold ag;split<;>lia
 refine⟨⟨λ n hn=>?_,lY (lY (bS _)),by rw[e];lia,by rw[e];exact o.2⟩,by rw[e2];lia⟩
 rcases bf.mp hn with z|z
 ·lia
 ·cases bY.mp z;lia
def Kx{mo:Int}(h:ax mo ns):ax mo ns.reverse/\ae ns.reverse=ae ns:=by
 have p:=List.reverse_perm ns;have e:=nD (p.map ag);exact⟨⟨λ n hn=>h.1 n (List.mem_reverse.mp hn),by rw[gM];exact h.2.1,by rw[e];exact h.2.2.1,by rw[e];exact h.2.2.2⟩,nD p⟩
def dj{mo:Int}(h:ax mo ns)(m:cq mo):aV ns:=λ n hn=>by have:=h.1 n hn;have:=m.2;exact⟨fu,fu⟩
noncomputable def jJ(ns:LI)(d:Int):LI:=if d%4=1 then [ae ns] else if d%4=2/\ns.length<6 then 1::ns else if d%4=3/\ae ns%2=0 then [ae ns/2,2] else ns.reverse
def Ky{mo:Int}(h:ax mo ns)(m:cq mo):ax mo (jJ ns d)/\ae (jJ ns d)=ae ns:=by
 unfold jJ;by_cases c1:d%4=1
 ·rw[if_pos c1];exact⟨Ku h m,by rw[bB];exact s0t _⟩
 rw[if_neg c1];by_cases c2:d%4=2/\ns.length<6
 ·rw[if_pos c2];exact⟨Kv h m c2.2,by rw[bB];exact mZ _⟩
 rw[if_neg c2];by_cases c3:d%4=3/\ae ns%2=0
 ·rw[if_pos c3];exact Kw h m c3.2
 rw[if_neg c3];exact Kx h
noncomputable def eO(A B:LI)(k:Nat):LI:=if A.length=B.length/\A.eraseIdx k=B.eraseIdx k then aH A B k else []
def Kz(i:Nat):upL (i+1)=upL i++[(i:Int)]:=by unfold upL;rw[pU,cG];rfl
def KA{os:LI}(h:os.Perm (upL i)):(os.take j++(i:Int)::os.drop j).Perm (upL (i+1)):=by
 rw[Kz];refine List.Perm.trans List.perm_middle ?_;rw[jF];exact(h.cons _).trans (yO _ _).symm
def KC{mo:Int}{ns os:LI}(h:ax mo ns)(t:dO ns.length os):ax mo (aC ns os):=by
 have p:=yN t;have e:=nD (p.map ag);exact⟨λ n hn=>h.1 n (p.subset hn),by rw[p.length_eq];exact h.2.1,by rw[e];exact h.2.2.1,by rw[e];exact h.2.2.2⟩
def KD{mo:Int}{A B:LI}(p:A.Perm B)(h:ax mo B):ax mo A:=by
 have e:=nD (p.map ag);exact⟨λ n hn=>h.1 n (p.subset hn),by rw[p.length_eq];exact h.2.1,by rw[e];exact h.2.2.1,by rw[e];exact h.2.2.2⟩
def KE{mo x:Int}(h:ax mo A)(l:A.length<6)(x0:0<=x)(x1:x<=mo/ae (A.map ag)):ax mo (aG A k x):=by
 refine KD ?_ (ua h l x0 x1);unfold aG;rw[jd];refine List.Perm.trans List.perm_middle ?_;show(x::(A.take k++A.drop k)).Perm _;rw[jF];exact(yO _ _).symm
def iL(x:Int)(xs:LI):ae ((x::xs).map ag)=ag x*ae (xs.map ag):=by rw[bA];exact bB _ _
def KF{ns:LI}(h:∀n∈ns,0<=n):∀n∈ns,n<=ae (ns.map ag):=by
 induction ns with
 |nil=>exact λ n hn=>nomatch hn
 |cons x xs ih=>
  intro n hn;have hx:=h x (bz ..);have ht:∀n∈xs,0<=n:=λ n hn=>h n (aW _ hn);have p:=nC ht;have o:=iK hx;rw[iL]
  rcases bf.mp hn with e|hn
  ·rw[e];have le:x<=ag x:=by unfold ag;split<;>lia
   have:=jI p (show 0<=ag x by lia);lia
  ·have:=ih ht n hn;have:=gU o (show 0<=ae (xs.map ag) by lia);lia
def KG{ns:LI}(h:∀n∈ns,0<=n):∀ {k:Nat}{m:Int},0<=m->m<=ns.getD k 0->ae ((ns.set k m).map ag)<=ae (ns.map ag):=by
 induction ns with
 |nil=>intro k m _ _;rw[List.set_nil];exact jq _
 |cons x xs ih=>
  intro k m m0 m1;have hx:=h x (bz ..);have ht:∀n∈xs,0<=n:=λ n hn=>h n (aW _ hn);have p:=nC ht
  cases k with
  |zero=>
   have m1:m<=x:=m1;show ae ((m::xs).map ag)<=_;rw[iL,iL];exact gU (by unfold ag;split<;>split<;>lia) fu
  |succ k=>
   have m1:m<=xs.getD k 0:=m1;show ae ((x::xs.set k m).map ag)<=_;rw[iL,iL];exact jI (ih ht m0 m1) (by have:=iK hx;lia)
def KH{ns:LI}(h:∀n∈ns,0<=n):∀ {k:Nat},ae ((ns.eraseIdx k).map ag)<=ae (ns.map ag):=by
 induction ns with
 |nil=>intro k;rw[List.eraseIdx_nil];exact jq _
 |cons x xs ih=>
  intro k;have hx:=h x (bz ..);have ht:∀n∈xs,0<=n:=λ n hn=>h n (aW _ hn);have p:=nC ht
  cases k with
  |zero=>
   show ae (xs.map ag)<=_;rw[iL];have:=gU (iK hx) (show 0<=ae (xs.map ag) by lia);lia
  |succ k=>
   show ae ((x::xs.eraseIdx k).map ag)<=_;rw[iL,iL];exact jI (ih ht) (by have:=iK hx;lia)
def uc{mo:Int}{ns:LI}(nn:∀n∈ns,0<=n)(l:ns.length<=6)(w:ae (ns.map ag)<=mo):ax mo ns:=⟨λ n hn=>⟨nn n hn,ly (KF nn n hn) w⟩,l,nC nn,w⟩
def KJ{mo m:Int}(h:ax mo A)(m0:0<=m)(m1:m<=A.getD k 0):ax mo (A.set k m):=uc (λ n hn=>by rcases lw hn with z|z;exact dD h n z;rw[z];exact m0) (by rw[bu];exact h.2.1) (ly (KG (dD h) m0 m1) h.2.2.2)
def KL{mo:Int}(h:ax mo A):ax mo (A.eraseIdx k):=uc (λ n hn=>dD h n (List.mem_of_mem_eraseIdx hn)) (cI (List.length_eraseIdx_le ..) h.2.1) (ly (KH (dD h)) h.2.2.2)
def KM{n f g e:Int}(n0:0<=n)(f0:0<=f)(g1:1<=g)(e0:0<=e):0<=(if (n-1-f).fdiv g+1-e > 0 then (n-1-f).fdiv g+1-e else 0)/\(if (n-1-f).fdiv g+1-e > 0 then (n-1-f).fdiv g+1-e else 0)<=n/\¬(0<(if (n-1-f).fdiv g+1-e > 0 then (n-1-f).fdiv g+1-e else 0)/\n<=f+((if (n-1-f).fdiv g+1-e > 0 then (n-1-f).fdiv g+1-e else 0)-1)*g):=by
 rw[lO _ fu];have q1:g*((n-1-f)/g)<=n-1-f:=s0l fu;generalize (n-1-f)/g=q at *;split
 ·rename_i c;have a1:=gU (show q+1-e-1<=q by lia) (show 0<=g by lia);rw[nc q g] at a1;have a2:=jI g1 (show 0<=q+1-e-1 by lia);generalize (q+1-e-1)*g=z at *;exact⟨fu,fu,λ y=>by lia⟩
 ·exact⟨fu,n0,λ y=>by lia⟩
def yP(A:LI):dg A A:=(yC A A).mpr (JQ A)
def yQ(h:dg x y)(l:y.length<=x.length):bv x y=x:=by
 unfold bv;split
 ·rfl
 ·exact(JR ((yC x y).mp h) fu).symm
def yR{x y:LI}(l:x.length<y.length):bv x y=y:=by unfold bv;rw[if_neg fu]
def yS{P:LI->Prop}(h:P x)(h2:P y):P (bv x y):=by unfold bv;split<;>assumption
def fF{k:Int}{n:Nat}(h:k∈upL n):∃a:Nat,k=a/\a<n:=⟨k.toNat,(jA (up_mem.mp h).1).symm,by have:=up_mem.mp h;lia⟩
def yT{a n:Nat}(h:a<n):(a:Int)∈upL n:=up_mem.mpr ⟨qR _,Int.ofNat_lt.mpr h⟩
noncomputable def lD(mo:Int)(ds:List Stp)(Ss:LL):Prop:=ds.length=Ss.length/\(∀S∈Ss,ax mo S)/\∀(i:Nat) (d:Stp) (S:LI),ds[i]?=some d->Ss[i]?=some S->OkS (Ss.take i) S d
def yU{mo:Int}(h:lD mo ds Ss)(o:OkS Ss S d)(f:ax mo S):lD mo (ds++[d]) (Ss++[S]):=by
 refine⟨by rw[aK,aK,h.1];rfl,λ T hT=>?_,λ i d' S' e1 e2=>?_⟩
 ·rcases cJ.mp hT with z|z
  ·exact h.2.1 T z
  ·cases bY.mp z;exact f
 ·by_cases c:i<ds.length
  ·rw[cZ c] at e1;have c':i<Ss.length:=by rw[<- h.1];exact c
   rw[cZ c'] at e2;rw[pW (dq c')];exact h.2.2 i d' S' e1 e2
  ·have jl:=(be.mp e1).1;rw[aK,gw] at jl;have je:i=ds.length:=fu;rw[je,dW (av _),s1t] at e1;rw[je,h.1,dW (av _),s1t] at e2;cases e1;cases e2;rw[je,h.1,pW (av _),fk];exact o
def yV(mo:Int):lD mo [] []:=⟨rfl,(λ _ h=>nomatch h),(λ _ _ _ h=>nomatch h)⟩
def yW(h:¬eO A B k=[]):A.length=B.length/\A.eraseIdx k=B.eraseIdx k/\eO A B k=aH A B k:=by
 unfold eO at h ⊢;split
 ·rename_i c;exact⟨c.1,c.2,rfl⟩
 ·rename_i c;rw[if_neg c] at h;exact absurd rfl h
def yX{ns:LI}{m:Int}(h:∀n∈ns,0<=n/\n<=m)(m0:0<=m)(k:Nat):0<=ns.getD k 0/\ns.getD k 0<=m:=by
 by_cases c:k<ns.length
 ·exact h _ (tX c)
 ·rw[aO,fb fu];exact⟨jq _,m0⟩
noncomputable def Md(kd:Int)(A:LI)(k:Nat)(Ss Ms:LL):Prop:=(kd=11/\Ms=Ss.map (λ B=>eO A B k))\/(kd=12/\0<A.getD 0 0/\Ms=Ss.map (λ B=>B++A.drop 1))\/(¬kd=11/\¬0<A.getD 0 0/\Ms=[[]])
def KN(h:Md kd A k Ss Ms)(l:Ss.length<=40):Ms.length<=40:=by
 rcases h with ⟨_,rfl⟩|⟨_,_,rfl⟩|⟨_,_,rfl⟩
 ·rw[ak];exact l
 ·rw[ak];exact l
 ·exact lY (bS _)
def KO{kd mo:Int}(h:Md kd A k Ss Ms)(fA:ax mo A)(fS:∀S∈Ss,ax mo S)(m:cq mo):∀M∈Ms,∀n∈M,0<=n/\n<=1024:=by
 have m2:=m.2;have m1:=m.1
 rcases h with ⟨_,rfl⟩|⟨_,_,rfl⟩|⟨_,_,rfl⟩
 ·intro M hM n hn;obtain⟨B,hB,rfl⟩:=bD.mp hM;by_cases c:eO A B k=[]
  ·rw[c] at hn;exact nomatch hn
  ·rw[(yW c).2.2] at hn;unfold aH at hn
   rcases lw hn with z|z
   ·have:=fA.1 n z;lia
   ·have a1:=yX fA.1 (show 0<=mo by lia) (k:Int).toNat
    have a2:=yX (fS B hB).1 (show 0<=mo by lia) (k:Int).toNat
    lia
 ·intro M hM n hn;obtain⟨B,hB,rfl⟩:=bD.mp hM
  rcases cJ.mp hn with z|z
  ·have:=(fS B hB).1 n z;lia
  ·have:=fA.1 n (nA z);lia
 ·intro M hM n hn;cases bY.mp hM;exact nomatch hn
def KP{M:LI}(h:∀n∈M,0<=n/\n<=1024):aV M:=λ n hn=>by have:=h n hn;exact⟨this.1,fu⟩
def KQ{M:LI}{mo:Int}(m:cq mo)(l:M.length<=6)(w:ae (M.map ag)<=mo):¬bZ M:=λ z=>z.elim fu (by have:=m.2;lia)
def KR{Ss:LL}{M:Int}(h:M∈Ss.map (λ S=>(S.length:Int)))(h0:0<M):∃S∈Ss,0<S.length:=by
 obtain⟨S,hS,rfl⟩:=bD.mp h;exact⟨S,hS,fu⟩
noncomputable def kdN:Stp->Nat
 |.inp ..=>0|.num ..=>1|.count ..=>2|.each ..=>3|.pair ..=>4|.pick ..=>5|.turn ..=>6|.flip ..=>7|.cut ..=>8|.spread ..=>9|.lay ..=>10|.join ..=>11|.fetch ..=>12|.fold ..=>13|.run ..=>14
noncomputable def cX:Stp->List Nat
 |.inp ..=>[]|.num ..=>[]|.count ..=>[]
 |.each _ a=>[a]|.pair _ a b=>[a,b]|.pick a b c=>[a,b,c]
 |.turn a _=>[a]|.flip a _=>[a]|.cut a ..=>[a]|.spread a ..=>[a]|.lay a _=>[a]
 |.join a b _=>[a,b]|.fetch a b=>[a,b]|.fold _ a _=>[a]|.run _ a _=>[a]
noncomputable def KS(mo:Int)(ds:List Stp)(Ss:LL)(os:LI):Prop:=cq mo/\lD mo ds Ss/\0<ds.length/\ds.length<=40/\0<os.length/\os.length<=8/\∀o∈os,0<=o/\o<(ds.length:Int)
def nE(h:fit A):sm A:=λ n hn=>by have:=h.1 n hn;exact⟨fu,fu⟩
def yY(k:Nat)(g:aY ns ms):aY (ns.eraseIdx k) (ms.eraseIdx k):=by
 obtain⟨l,g⟩:=g;refine⟨by rw[s0m,s0m,l],λ i m n em en=>?_⟩;rw[nj] at em en;split at em
 ·rename_i c;rw[if_pos c] at en;exact g i m n em en
 ·rename_i c;rw[if_neg c] at en;exact g (i+1) m n em en
def KU{ns:LI}{k:Nat}(h:k<=ns.length):(aG ns k m).eraseIdx k=ns:=by
 unfold aG;rw[jd,List.eraseIdx_append_of_length_le (by rw[bc];lia),bc,fT h,s1t];show ns.take k++ns.drop k=ns;exact jF _ _
def iM{ns ms at_:LI}{k:Nat}{y w:Int}(g:aY ns at_)(l:ms.length=ns.length)(e:∀j,j≠k->ms[j]?=ns[j]?)(hw:ms[k]?=some w)(h0:0<=y)(h1:y<w):aY ms (at_.set k y):=by
 refine⟨by rw[bu,l];exact g.1,λ i m n em en=>?_⟩;by_cases c:i=k
 ·subst c;have il:=(be.mp em).1;rw[bu] at il;rw[eW il] at em;rw[hw] at en;cases em;cases en;exact⟨h0,h1⟩
 ·rw[eX (λ z=>c z.symm)] at em;rw[e i c] at en;exact g.2 i m n em en
def yZ(w:Str):inB (qe w):=by
 unfold qe inB
 repeat' split
 all_goals lia
def zb{w:Str}(h:w∈fw):w∈tw:=by
 simp only[fw,tw,bf,fP,fQ] at *
 rcases h with h|h|h|h|h|h|h<;>simp[h]
def KW(x:Int){y:Int}(hy:y<0):y<Int.fmod x y/\Int.fmod x y<=0:=by
 have h1:Int.fmod x y=-(Int.fmod (-x) (-y)):=by
  rw[Int.fmod_def,Int.fmod_def,Int.neg_fdiv_neg,Int.neg_mul];omega
 have h2:=ze (-x) (show 0 < -y by omega);have h3:=s1o (-x) (show 0 < -y by omega);omega
def KY(x:Int){y:Int}(hy:y≠0):(0<y->0<=Int.fmod x y/\Int.fmod x y<y)/\(y<0->y<Int.fmod x y/\Int.fmod x y<=0) :=
 ⟨λ h=>⟨ze x h,s1o x h⟩,λ h=>KW x h⟩
def jK(n:Int):inB (cW n):=by unfold cW inB;lia
def KZ:inB (pY x y):=by
 unfold pY;split
 ·exact⟨on,on⟩
 ·exact jK _
def La(hx:inB x)(hy:inB y):inB (pZ x y):=by
 unfold pZ;unfold inB at *;split
 ·exact hx
 ·rename_i h;have r:=KY x h
  rcases(show 0<y\/y<0 by omega) with p|p
  ·have:=r.1 p;omega
  ·have:=r.2 p;omega
section
variable {band:Int->Int->Int}
variable (hv:∀x y,band x y=2*band (x/2) (y/2)+(if x%2=1/\y%2=1 then 1 else 0))
include hv
theorem Lb(h00:band 0 0=0)(h01:band 0 (-1)=0)(h10:band (-1) 0=0)(h11:band (-1) (-1)=-1)(n:Nat):∀x y:Int,-2 ^ n<=x->x<2 ^ n->-2 ^ n<=y->y<2 ^ n ->
  (-2 ^ n<=band x y/\band x y<2 ^ n)/\(-2 ^ n<=x+y-band x y/\x+y-band x y<2 ^ n)/\(-2 ^ n<=x+y-2*band x y/\x+y-2*band x y<2 ^ n):=by
 induction n with
 |zero=>
  intro x y a b c d;simp at a b c d;have hx:x=0\/x=-1:=by omega
  have hy:y=0\/y=-1:=by omega
  rcases hx with hx|hx<;>rcases hy with hy|hy<;>subst hx<;>subst hy<;>simp[h00,h01,h10,h11]
 |succ n ih=>
  intro x y a b c d;rw[Int.pow_succ] at *;have h:=ih (x/2) (y/2) (by omega) (by omega) (by omega) (by omega);have e:=hv x y;split at e<;>omega
end
def qi{w:Str}(hw:w∈(["max","min","less","like"]:List Str))(hx:inB x)(hy:inB y):w∈tw/\inB (bw w x y):=by
 simp only[bf,fP,fQ] at hw;unfold inB at *
 rcases hw with rfl|rfl|rfl|rfl
 ·refine⟨by simp[tw],?_⟩;rw[Kc];split<;>omega
 ·refine⟨by simp[tw],?_⟩;rw[Kd];split<;>omega
 ·refine⟨by simp[tw],?_⟩;rw[Kf];split<;>omega
 ·refine⟨by simp[tw],?_⟩;rw[Kg];split<;>omega
def ud(hx:inB x)(hy:inB y):inB (Builtin.bitAnd x y)/\inB (Builtin.bitOr x y)/\inB (Builtin.bitXor x y):=by
 have h:=Lb W.kbt_halves on on on on 63 x y;unfold inB at *;rw[bitOr_and,bitXor_and];have e:(2:Int) ^ 63=9223372036854775808:=on;rw[e] at h;exact h hx.1 fu hy.1 fu
def ue{w:Str}(hw:w∈tw)(hx:inB x)(hy:inB y):inB (bw w x y):=by
 simp only[tw,bf,fP,fQ] at hw
 rcases hw with rfl|rfl|rfl|rfl|rfl|rfl|rfl|rfl|rfl|rfl|rfl|rfl
 ·rw[JX];exact jK _
 ·rw[JY];exact jK _
 ·rw[JZ];exact jK _
 ·rw[Ka];exact KZ
 ·rw[Kb];exact La hx hy
 ·exact(qi pv hx hy).2
 ·exact(qi pv hx hy).2
 ·exact(qi pv hx hy).2
 ·exact(qi pv hx hy).2
 ·rw[Kh];exact(ud hx hy).1
 ·rw[Ki];exact(ud hx hy).2.1
 ·rw[Kj];exact(ud hx hy).2.2
theorem zi:∀ {ns:LI}{k:Nat},k<ns.length->(stL ns ns.length).reverse[k]?=some (ae (ns.drop (k+1)))
 |[],_,h=>by simp at h
 |n::ns,0,_=>by rw[tT];rfl
 |n::ns,k+1,h=>by rw[tT];exact zi (ns:=ns) (k:=k) (by simpa using h)
noncomputable def lE(w:Str)(b st n:Int)(cs:LI):Nat->LI
 |0=>[]
 |j+1=>lE w b st n cs j++[bw w (if (j:Int)/st%n=0 then b else (lE w b st n cs j).getD ((j:Int)-st).toNat 0) (cs.getD j 0)]
theorem zj(w:Str)(b st n:Int)(cs:LI):∀j,(lE w b st n cs j).length=j
 |0=>rfl
 |j+1=>by show(_++[_]).length=_;rw[aK,zj w b st n cs j];rfl
theorem zk{w:Str}{b st n:Int}{cs:LI}(hw:w∈fw)(hb:inB b)(hc:∀c∈cs,inB c):∀ {j:Nat},j<=cs.length->∀c∈lE w b st n cs j,inB c
 |0,_,c,h=>nomatch h
 |j+1,hj,c,h=>by
  have ih:=zk (b:=b) (st:=st) (n:=n) hw hb hc (j:=j) fu
  rcases cJ.mp h with h|h
  ·exact ih c h
  ·cases bY.mp h;refine ue (zb hw) ?_ (hc _ (getD_mem fu));split
   ·exact hb
   ·by_cases l:((j:Int)-st).toNat<(lE w b st n cs j).length
    ·exact ih _ (getD_mem l)
    ·rw[aO,fb fu];exact⟨on,on⟩
noncomputable def uf(w:Str)(b:Int)(ns cs:LI)(k:Nat)(A:LI):Nat->Int
 |0=>b
 |j+1=>bw w (uf w b ns cs k A j) (cs.getD (plH ns (aG A k (j:Int))).toNat 0)
theorem zm{w:Str}{ns cs A:LI}(hw:w∈fw)(hb:inB b)(hc:∀c∈cs,inB c):∀j,inB (uf w b ns cs k A j)
 |0=>hb
 |j+1=>by
  refine ue (zb hw) (zm hw hb hc j) ?_;by_cases l:(plH ns (aG A k (j:Int))).toNat<cs.length
  ·exact hc _ (getD_mem l)
  ·rw[aO,fb fu];exact⟨on,on⟩
noncomputable def zn(w:Str)(ns cs:LI)(k:Nat):LI:=(List.range (ae (ns.eraseIdx k)).toNat).map λ i:Nat=>uf w (qe w) ns cs k (atD (ns.eraseIdx k) (i:Int)) (ns.getD k 0).toNat
noncomputable def qj(w:Str)(ns cs:LI)(k:Nat):LI:=lE w (qe w) (ae (ns.drop (k+1))) (ns.getD k 0) cs cs.length
theorem ug:∀ {ns:LI}{k:Nat}{v:Int},(∀n∈ns,0<=n)->0<=v->v<=ns.getD k 0->ae ((ns.set k v).map ag)<=ae (ns.map ag)
 |[],_,_,_,_,_=>by simp
 |n::ns,0,v,h,h0,h1=>by
  have n0:=h n bz;have h1:v<=n:=h1;show ae ((v::ns).map ag)<=_;rw[bA,bA,bB,bB];have p:=dA λ m hm=>h m (aW _ hm);exact gU (by unfold ag;split<;>split<;>lia) fu
 |n::ns,k+1,v,h,h0,h1=>by
  have n0:=h n bz;have ih:=ug (ns:=ns) (k:=k) (λ m hm=>h m (aW _ hm)) h0 h1;show ae ((n::ns.set k v).map ag)<=_;rw[bA,bA,bB,bB];exact jI ih (by unfold ag;split<;>lia)
noncomputable def iN(ns cs ms ds:LI)(k:Nat)(at_:LI):Int:=if at_.getD k 0<ns.getD k 0 then cs.getD (plH ns at_).toNat 0 else ds.getD (plH ms (at_.set k (at_.getD k 0-ns.getD k 0))).toNat 0
noncomputable def qk(ns cs:LI)(k:Nat)(m:Int)(i:Nat):Int:=cs.getD (plH ns ((atD (aG ns k m) (i:Int)).eraseIdx k)).toNat 0
def nG{os:LI}(t:dO n os):os.length=n:=by rw[t.length_eq,dB]
def qm{os:LI}(t:dO n os){s:Nat}(h:s<n):(s:Int)∈os:=t.mem_iff.mpr (up_mem.mpr fu)
noncomputable def cY(os A:LI):LI:=(List.range os.length).map λ s:Nat=>A.getD (os.idxOf (s:Int)) 0
def Lc{ns os A:LI}(t:dO ns.length os)(g:aY (aC ns os) A):aY ns (cY os A):=by
 have ol:=nG t;have tl:(aC ns os).length=os.length:=ak ..;refine⟨by unfold cY;rw[ak,cn,ol],λ i m n em en=>?_⟩;have il:=(be.mp en).1;have xl:=qo.mpr (qm t il);unfold cY at em;rw[aL,fX fu] at em
 have e2:(aC ns os)[os.idxOf (i:Int)]?=some n:=by
  unfold aC;rw[aL,az xl,uh xl];show some (ns.getD ((i:Int)).toNat 0)=_;rw[Int.toNat_natCast,aO,en];rfl
 have al:=g.1;exact g.2 (os.idxOf (i:Int)) m n (by rw[eK fu];exact em) e2
noncomputable def bT(ns cs S:LI)(F:LI->LI):LI:=(List.range (ae S).toNat).map λ i:Nat=>cs.getD (plH ns (F (atD S (i:Int)))).toNat 0
noncomputable def iO(ns:LI)(k:Nat)(A:LI):LI:=A.set k (ns.getD k 0-1-A.getD k 0)
def iP(k:Nat)(f g:Int)(A:LI):LI:=A.set k (f+A.getD k 0*g)
def Ld{ns A:LI}{k:Nat}(hk:k<ns.length)(g:aY ns A):aY ns (iO ns k A):=by
 have al:=g.1;have ab:=g.2 k _ _ (eK fu) (eK hk);exact iM g rfl (λ _ _=>rfl) (eK hk) fu fu
def Le{ns A:LI}{k:Nat}(hk:k<ns.length)(nb:¬bad ns k f m s)(g:aY (ns.set k m) A):aY ns (iP k f s A):=by
 unfold bad at nb;simp only[Int.toNat_natCast] at nb;have al:=g.1;rw[bu] at al;have ab:=g.2 k _ _ (eK fu) (eW hk);have z1:A.getD k 0*s<=(m-1)*s:=gU fu fu;have z2:0<=A.getD k 0*s:=nh ab.1 fu;exact iM g (bu ..).symm (λ j hj=>by rw[eX (λ z=>hj z.symm)]) (eK hk) fu fu
def zq{ns:LI}(h0:0<=ns.getD k 0)(nb:¬bad ns k f m s):0<=m/\m<=ns.getD k 0:=by
 unfold bad at nb;simp only[Int.toNat_natCast] at nb;by_cases c:0<m
 ·have z1:(m-1)*1<=(m-1)*s:=jI (by omega) (by omega);omega
 ·omega
noncomputable def Lf(what:Int)(ns os:LI)(side f m g:Int)(S:LI)(F:LI->LI):Prop:=(what=0/\dO ns.length os/\S=aC ns os/\F=cY os)\/(what=1/\¬off ns side/\S=ns/\F=iO ns side.toNat)\/(what=2/\¬off ns side/\¬bad ns side f m g/\S=ns.set side.toNat m/\F=iP side.toNat f g)
def Lg{ns os:LI}(hm:sm ns)(h:Lf what ns os side f m g S F):sm S/\S.length=ns.length/\ae (S.map ag)<=ae (ns.map ag):=by
 rcases h with ⟨_,t,rfl,rfl⟩|⟨_,o,rfl,rfl⟩|⟨_,o,b,rfl,rfl⟩
 ·have p:=yN t;exact⟨λ n hn=>hm n (p.subset hn),p.length_eq,Int.le_of_eq (nD (p.map ag))⟩
 ·exact⟨hm,ca,jq _⟩
 ·obtain⟨k,rfl,hk⟩:=eJ o;have nk:=hm _ (getD_mem hk);obtain⟨c0,c1⟩:=zq (k:=k) nk.1 b;simp only[Int.toNat_natCast];exact⟨yD hm c0 fu,bu ..,ug (λ n hn=>(hm n hn).1) c0 c1⟩
noncomputable def zu(n:Int)(r cs ds:LI)(i:Nat):Int:=cs.getD ((ds.getD ((i:Int)/ae r).toNat 0)%n*ae r+(i:Int)%ae r).toNat 0
noncomputable def Lh(ns:LI)(side:Int):LI:=(List.range (ae ns).toNat).map λ i:Nat=>(atD ns (i:Int)).getD side.toNat 0
abbrev Tb:=List Int×LI
def gT(Ts:List Tb)(a:Nat):Tb:=Ts.getD a ([],[])
def cr{Ts:List Tb}{a:Nat}(h:Ts[a]?=some A):gT Ts a=A:=by unfold gT;rw[aO,h];rfl
noncomputable def TbG(mo:Int)(T:Tb):Prop:=ax mo T.1/\(T.2.length:Int)=ae T.1/\∀c∈T.2,inB c
noncomputable def dP(Ts:List Tb):Stp->LI
 |.inp _=>[]
 |.num n=>[cW n]
 |.count ms k=>Lh ms k
 |.each w a=>(gT Ts a).2.map (nr w)
 |.pair w a b=>prC w (gT Ts a).1 (gT Ts a).2 (gT Ts b).1 (gT Ts b).2 (bv (gT Ts a).1 (gT Ts b).1)
 |.pick a b c=>pkC (gT Ts a).1 (gT Ts a).2 (gT Ts b).1 (gT Ts b).2 (gT Ts c).1 (gT Ts c).2 (bv (bv (gT Ts a).1 (gT Ts b).1) (gT Ts c).1)
 |.turn a os=>bT (gT Ts a).1 (gT Ts a).2 (aC (gT Ts a).1 os) (cY os)
 |.flip a s=>bT (gT Ts a).1 (gT Ts a).2 (gT Ts a).1 (iO (gT Ts a).1 s.toNat)
 |.cut a s f m g=>bT (gT Ts a).1 (gT Ts a).2 ((gT Ts a).1.set s.toNat m) (iP s.toNat f g)
 |.spread a s m=>(List.range (ae (aG (gT Ts a).1 s.toNat m)).toNat).map (qk (gT Ts a).1 (gT Ts a).2 s.toNat m)
 |.lay a _=>(gT Ts a).2
 |.join a b s=>(List.range (ae (aH (gT Ts a).1 (gT Ts b).1 s)).toNat).map λ i:Nat=>iN (gT Ts a).1 (gT Ts a).2 (gT Ts b).1 (gT Ts b).2 s.toNat (atD (aH (gT Ts a).1 (gT Ts b).1 s) (i:Int))
 |.fetch a b=>(List.range (ae ((gT Ts b).1++(gT Ts a).1.tail)).toNat).map (zu ((gT Ts a).1.headD 0) (gT Ts a).1.tail (gT Ts a).2 (gT Ts b).2)
 |.fold w a s=>zn w (gT Ts a).1 (gT Ts a).2 s.toNat
 |.run w a s=>qj w (gT Ts a).1 (gT Ts a).2 s.toNat
def iQ{cs:LI}(h:∀c∈cs,inB c)(i:Nat):inB (cs.getD i 0):=by
 rw[aO]
 cases e:cs[i]? with
 |none=>exact⟨on,on⟩
 |some c=>exact h c (aD e)
def Li(w:Str)(x:Int):inB (nr w x):=by
 unfold nr;split
 ·exact jK _
 ·split
  ·exact jK _
  ·split
   ·split
    ·exact⟨on,on⟩
    ·split<;>exact⟨on,on⟩
   ·split<;>exact⟨on,on⟩
def gX{mo:Int}(fs:ax mo S){f:Nat->Int}(h:∀i:Nat,(i:Int)<ae S->inB (f i)):TbG mo (S,(List.range (ae S).toNat).map f):=by
 have p0:=ng (dD fs);refine⟨fs,by show(((List.range (ae S).toNat).map f).length:Int)=ae S;rw[ak,cn];lia,λ c hc=>?_⟩;obtain⟨i,hi,rfl⟩:=bD.mp hc;exact h i (by have:=eV.mp hi;lia)
def cP{Ts:List Tb}{a:Nat}(h:(Ts.map (·.1))[a]?=some A):∃C,Ts[a]?=some (A,C):=by
 rw[aL] at h;obtain⟨T,e,rfl⟩:=nH.mp h;exact⟨T.2,e⟩
def Lj{w:Str}(h:w∈qd):w∈tw:=(show ∀x∈qd,x∈tw by decide +kernel) w h
def Lk{mo:Int}{Ts:List Tb}(hG:∀T∈Ts,TbG mo T)(m:cq mo)(ok:OkS (Ts.map (·.1)) S d)(fs:ax mo S)(ni:∀ms,d≠.inp ms):TbG mo (S,dP Ts d):=by
 have gm:∀ {a:Nat}{T:Tb},Ts[a]?=some T->TbG mo T:=λ e=>hG _ (aD e)
 cases d with
 |inp ms=>exact absurd rfl (ni ms)
 |num n=>obtain⟨rfl,_⟩:=ok;exact⟨fs,rfl,λ c hc=>by cases bY.mp hc;exact jK _⟩
 |count ms k=>
  obtain⟨rfl,_,_⟩:=ok;refine gX fs λ i hi=>?_;have g:=iJ (dj fs m) (qR i) hi
  have b:∀c∈atD S (i:Int),inB c:=λ c hc=>by
   obtain⟨j,hj⟩:=pL hc;have jl:=(be.mp hj).1;have jS:j<S.length:=by rw[<- g.1];exact jl
   have z:=g.2 j c S[j] hj (az jS);have y:=fs.1 S[j] (kJ jS);have:=m.2;exact⟨fu,fu⟩
  exact iQ b _
 |each w a=>
  obtain⟨C,e⟩:=cP ok.1;have g:=gm e;show TbG mo (S,(gT Ts a).2.map (nr w));rw[cr e];exact⟨fs,by show((C.map (nr w)).length:Int)=_;rw[ak];exact g.2.1,λ c hc=>by obtain⟨x,_,rfl⟩:=bD.mp hc;exact Li _ _⟩
 |pair w a b=>
  obtain⟨A,B,ea,eb,hw,po,rfl⟩:=ok;obtain⟨C,e⟩:=cP ea;obtain⟨C',e'⟩:=cP eb;have p0:=ng (dD fs);show TbG mo (_,prC w (gT Ts a).1 (gT Ts a).2 (gT Ts b).1 (gT Ts b).2 (bv (gT Ts a).1 (gT Ts b).1));rw[cr e,cr e'];refine⟨fs,by show((prC w A C B C' (bv A B)).length:Int)=ae (bv A B);unfold prC;rw[mK,yH,yH,s1s];lia,λ c hc=>?_⟩;obtain⟨i,hi⟩:=pL hc;have hi:(List.zipWith (bw w) (fZ A C (bv A B)) (fZ B C' (bv A B)))[i]?=some c:=hi;rw[sP] at hi
  cases e1:(fZ A C (bv A B))[i]? with
  |none=>rw[e1] at hi;cases hi
  |some x=>
   cases e2:(fZ B C' (bv A B))[i]? with
   |none=>rw[e1,e2] at hi;cases hi
   |some y=>
    rw[e1,e2] at hi;cases hi;exact ue (Lj hw) (yI (gm e).2.2 x (aD e1)) (yI (gm e').2.2 y (aD e2))
 |pick a b c=>
  obtain⟨A,B,C,ea,eb,ec,po,po2,rfl⟩:=ok;obtain⟨A',e⟩:=cP ea;obtain⟨B',e'⟩:=cP eb;obtain⟨C',e2⟩:=cP ec;show TbG mo (_,pkC (gT Ts a).1 (gT Ts a).2 (gT Ts b).1 (gT Ts b).2 (gT Ts c).1 (gT Ts c).2 (bv (bv (gT Ts a).1 (gT Ts b).1) (gT Ts c).1));rw[cr e,cr e',cr e2];refine gX fs λ i hi=>?_;split
  ·exact yJ (gm e').2.2
  ·exact yJ (gm e2).2.2
 |turn a os=>
  obtain⟨A,ea,tk,rfl⟩:=ok;obtain⟨C,e⟩:=cP ea;show TbG mo (_,bT (gT Ts a).1 (gT Ts a).2 (aC (gT Ts a).1 os) (cY os));rw[cr e];exact gX fs λ i hi=>iQ (gm e).2.2 _
 |flip a s=>
  obtain⟨C,e⟩:=cP ok.1;show TbG mo (_,bT (gT Ts a).1 (gT Ts a).2 (gT Ts a).1 (iO (gT Ts a).1 s.toNat));rw[cr e];exact gX fs λ i hi=>iQ (gm e).2.2 _
 |cut a s f m' g=>
  obtain⟨A,ea,_,_,_,rfl⟩:=ok;obtain⟨C,e⟩:=cP ea;show TbG mo (_,bT (gT Ts a).1 (gT Ts a).2 ((gT Ts a).1.set s.toNat m') (iP s.toNat f g));rw[cr e];exact gX fs λ i hi=>iQ (gm e).2.2 _
 |spread a s m'=>
  obtain⟨A,ea,_,_,_,_,rfl⟩:=ok;obtain⟨C,e⟩:=cP ea;show TbG mo (_,(List.range (ae (aG (gT Ts a).1 s.toNat m')).toNat).map (qk (gT Ts a).1 (gT Ts a).2 s.toNat m'));rw[cr e];exact gX fs λ i hi=>iQ (gm e).2.2 _
 |lay a ms=>
  obtain⟨A,ea,_,pe,rfl⟩:=ok;obtain⟨C,e⟩:=cP ea;show TbG mo (_,(gT Ts a).2);rw[cr e];exact⟨fs,(gm e).2.1.trans pe,(gm e).2.2⟩
 |join a b s=>
  obtain⟨A,B,ea,eb,_,_,_,_,rfl⟩:=ok;obtain⟨C,e⟩:=cP ea;obtain⟨C',e'⟩:=cP eb;show TbG mo (_,(List.range (ae (aH (gT Ts a).1 (gT Ts b).1 s)).toNat).map λ i:Nat=>iN (gT Ts a).1 (gT Ts a).2 (gT Ts b).1 (gT Ts b).2 s.toNat (atD (aH (gT Ts a).1 (gT Ts b).1 s) (i:Int)));rw[cr e,cr e'];refine gX fs λ i hi=>?_;unfold iN;split
  ·exact iQ (gm e).2.2 _
  ·exact iQ (gm e').2.2 _
 |fetch a b=>
  obtain⟨n,r,B,ea,_,eb,_,rfl⟩:=ok;obtain⟨C,e⟩:=cP ea;obtain⟨C',e'⟩:=cP eb;show TbG mo (_,(List.range (ae ((gT Ts b).1++(gT Ts a).1.tail)).toNat).map (zu ((gT Ts a).1.headD 0) (gT Ts a).1.tail (gT Ts a).2 (gT Ts b).2));rw[cr e,cr e'];exact gX fs λ i hi=>iQ (gm e).2.2 _
 |fold w a s=>
  obtain⟨A,ea,hw,_,rfl⟩:=ok;obtain⟨C,e⟩:=cP ea;show TbG mo (_,zn w (gT Ts a).1 (gT Ts a).2 s.toNat);rw[cr e];exact gX fs λ i hi=>zm hw (yZ _) (gm e).2.2 _
 |run w a s=>
  obtain⟨ea,hw,_⟩:=ok;obtain⟨C,e⟩:=cP ea;show TbG mo (_,qj w (gT Ts a).1 (gT Ts a).2 s.toNat);rw[cr e];exact⟨fs,by show((qj w S C s.toNat).length:Int)=ae S;unfold qj;rw[zj];exact(gm e).2.1,zk hw (yZ _) (gm e).2.2 (av _)⟩
noncomputable def zw(f:Nat->Nat):Stp->Stp
 |.inp ms=>.inp ms
 |.num n=>.num n
 |.count ms k=>.count ms k
 |.each w a=>.each w (f a)
 |.pair w a b=>.pair w (f a) (f b)
 |.pick a b c=>.pick (f a) (f b) (f c)
 |.turn a os=>.turn (f a) os
 |.flip a s=>.flip (f a) s
 |.cut a s g m h=>.cut (f a) s g m h
 |.spread a s m=>.spread (f a) s m
 |.lay a ms=>.lay (f a) ms
 |.join a b s=>.join (f a) (f b) s
 |.fetch a b=>.fetch (f a) (f b)
 |.fold w a s=>.fold w (f a) s
 |.run w a s=>.run w (f a) s
def Ll{Ss Zs:LL}{f:Nat->Nat}(h:OkS Ss S d)(g:∀a∈cX d,∀A,Ss[a]?=some A->Zs[f a]?=some A):OkS Zs S (zw f d):=by
 cases d with
 |inp|num|count=>exact h
 |each|flip|run=>exact⟨g _ (.head _) _ h.1,h.2⟩
 |turn|cut|spread|lay|fold=>obtain⟨A,e,r⟩:=h;exact⟨A,g _ (.head _) _ e,r⟩
 |pair|join=>obtain⟨A,B,e1,e2,r⟩:=h;exact⟨A,B,g _ (.head _) _ e1,g _ (.tail _ (.head _)) _ e2,r⟩
 |fetch=>obtain⟨n,r,B,e1,n0,e2,z⟩:=h;exact⟨n,r,B,g _ (.head _) _ e1,n0,g _ (.tail _ (.head _)) _ e2,z⟩
 |pick=>obtain⟨A,B,C,e1,e2,e3,r⟩:=h;exact⟨A,B,C,g _ (.head _) _ e1,g _ (.tail _ (.head _)) _ e2,g _ (.tail _ (.tail _ (.head _))) _ e3,r⟩
end _M
structure PySem.W.Fast:Prop where(tw5378472772014658318 tw5743677505414028927 tw514634337553422387 tw2048548353095752796 tw11613848717805473715 tw12471758719074590682 tw656224987007934749 tw4589335819133636135 tw14985994182023183035 tw9404459958013065347 tw13676723140852671931 tw15613853076813621147 tw1316509894150525938 tw5022293188256256522 tw3573567785260670715 tw5479324110834464677 tw11689906790088282714 tw5771288874242166903 tw7419221477878681645 tw18334910196440367618 tw18374004132298959999 tw16504325682701845925 tw16208404636387505632 tw17127673703376598611 tw12367157568561948489 tw2002876152238099015 tw4742284582832267463 tw2405863935194659869 tw944870020004976854 tw18323567575376183469 tw9020477828224630421 tw8790816545565472020 tw6591515878463514295 tw2887527259379188771 tw3043493833248102233 tw12502038342490391883 tw14019935050952660234 tw7595977685202036603 tw5648571185576969707 tw16309937250785371241 tw11065038162118427970 tw7272352135791524683 tw12501254196578369271 tw2597538378172982792 tw8448657567116630064 tw7472621011680353022 tw6605969403128186214 tw5144565187770628136 tw7161474403377167365 tw9352725836654737634 tw8700047589160271300 tw6265598476952521413 tw52869250627204286 tw10791311006986559479 tw14542031332587251265 tw4128475567918381624 tw5388085496634301280 tw17108357663956652120 tw14509968467570927994 tw9305543112297117525 tw11052482530635985345 tw2150979223700742891 tw2145333346454153821 tw7749472033523489020 tw11477252313128332809 tw11306519884916482533 tw13432153081459181649 tw2038323637380211977 tw697366108017151028 tw8539475932065535092 tw6583401455320012286 tw12022468107229102094 tw1714391236976864927 tw6100464014294897650 tw14060396099191266912 tw9404894877387183216 tw10639147679031436115 tw13632640220198020445 tw1920628396703700697 tw13756725387128636902 tw7367723444182999380 tw2645070074256980345 tw13978892461128387617 tw14784434580445836342 tw8782661544682321602 tw12638666162174823922 tw545948877227709828 tw17430233687842876321 tw11022381130265160614 tw17812261040911824060 tw12873640872410378970 tw14977902698343258703 tw16947783464807291655 tw10981483537443449439 tw13270958559959233125 tw10360545250081972230 tw2288840156510520423 tw13193288940175873770 tw12152773863276686755 tw17617418398042724354 tw6231142066871177420 tw10440534748197789261 tw16703382846468498971 tw9361754274333570664 tw7131134609723014930 tw11382125535001959386 tw17799240719168654202 tw16940176565053725244 tw12196400885202579576 tw15925634160070369451 tw4686139515956596562 tw12615881997565705534 tw5949322440004653205 tw8202571009986061930 tw5134999426547480606 tw5856652524120301344 tw14290262839378300261 tw15836631239772627886 tw10372692266489304738 tw16168207575831364802 tw17545144345149729888 tw5723846648235614590 tw5093577076541798585 tw18269907769404700141 tw11885500474434666978 tw17109533296688432682 tw16501253511278742097 tw16079938344645771101 tw17237544985358123916 tw14864405752713433647 tw3692044822551560799 tw8786402360546027192 tw5324499723999383752 tw10952587789352885994 tw11227268765098197447 tw15814803681633498486 tw14963130406655352897 tw1801107897386682366 tw12185952091406260152 tw16609598783053543442 tw5126467726218785577 tw12148715232165646360 tw2620935924996362880 tw2232716780397303829 tw3441560668682900212 tw9995004049960033631 tw18271935649961224381 tw12290107746917214756 tw3600204140636389960 tw114557489997159859 tw12294442919439232401 tw13136605055060033924 tw7201718999703750445 tw16946467650416360389 tw8482750078075172120 tw8996199614879518006 tw949535460281807482 tw935413432464551588 tw1397032061573401388 tw13976208504161217601 tw4084168437421804890 tw10231779651560357326 tw8809673525883323157 tw16099620800226542262 tw12432418073020353699 tw11074117158784151948 tw2951459397611926022 tw2991129992655565418 tw12710292188014916830 tw15621970818103218249 tw13763679522592611451 tw1705818374985237779 tw13997062218495964823 tw2088275915848142595 tw3182074238251072243 tw13093278007692204376 tw13718761192267090403 tw14070304819275789899 tw8449209589875385764 tw3556119106917120473 tw2400143915392051385 tw325122734704467503 tw14581308286464683166 tw13051992659897244196 tw14906757470612517223 tw13510903626827202992 tw17973490152751434282 tw13804153002640818814 tw11511443706636173924 tw17725315737351690785 tw14779274720882823782 tw17936730190073318480 tw12757341138538175372 tw18010987612057026493 tw2252703309447957529 tw13664016706104083908 tw11020318231301337600 tw5006899563972771938 tw14811584624547169247 tw17455025985026252091 tw2871739885223271021 tw16930195348625722355 tw10801665840064286536 tw15619489644808664813 tw3746053045587826193 tw11599624083305927068 tw11286046829012241735 tw10636035990751502161 tw14809148399644920996 tw18286611282377814732 tw11243499499196468847 tw2664338324264537450 tw3979508096999300126 tw10150121116404116106 tw11924771205147091741 tw10723264076863128247 tw5289287404169824466 tw9979008500996758140 tw4909988341882376751 tw13253513580187500883 tw8991623069241968743 tw15692639377138477545 tw15941860071718937283 tw955437971925289825 tw199070377305068312 tw15278818253898698386 tw14745145884372234095 tw17692515145772350948 tw9406589066341421307 tw7161487173491631583 tw15609360938010072507 tw12323759174095615268 tw8582519381140544586 tw17068296500898956549 tw503773590377826832 tw7102235852164580777 tw5276830855495071780 tw14645947151158474697 tw4750819433528912230 tw9710404034045703759 tw4176831945135312827 tw8667582707470386934 tw17868874704207489913 tw9305741520079248346 tw12908708983579327882 tw3412241270166246730 tw17200343184976993850 tw15839299175201317774 tw13693499630923284190 tw3468800674416796116 tw14964666010667050929 tw11363067296997908127 tw6958365809131870671 tw17212784090560656159 tw23114133645800636 tw8792869933430283326 tw11682832790954880633 tw11194072719899814213 tw17570703695284038947 tw6674708050080197012 tw4595623848648721999 tw14327142412877785591 tw1198480297163738032 tw13748410799035123841 tw14575043708924575359 tw10858604048501291873 tw11599230827169133627 tw11794932092134739099:True)
namespace _M
open PySem _L PyProof.Rows
noncomputable def top(i:Nat):Stmt:=PySem.Challenge.pw_sideloom_k39_looks_of_what_is_moved.main.body.getD i (.Pass ⟨0,0,0,0⟩)
def tI(ns:LI):TV:=.tup (ns.map .int)
def lI(ns:LI):TV:=.lst (ns.map .int)
def jL{ns:LI}{i:Nat}(h:(ns.map TV.int)[i]?=some t):∃n,t=.int n/\ns[i]?=some n:=by
 rw[aL] at h
 cases q:ns[i]? with
 |none=>rw[q] at h;cases h
 |some n=>rw[q] at h;cases h;exact⟨n,rfl,rfl⟩
noncomputable def ats(t:TV)(its:List TV):Prop:=∃ns,t=tI ns/\aV ns/\ns.length<=63/\ae ns<=512/\its=(List.range (ae ns).toNat).map λ i:Nat=>tI (atD ns (i:Int))
def ai(ns:LI):(ns.map TV.int).length=ns.length:=ak ..
def p64:lN 2 64:=⟨on,on,on⟩
def p63:lN 2 63:=⟨on,on,on⟩
def gY{i j:Int}(h0:-18446744073709551616<j)(h1:j<18446744073709551616):IntMulOk i j:=CMul.ok (.inr ⟨fu,fu⟩)
def iR{i j:Int}(h0:-18446744073709551616<i)(h1:i<18446744073709551616):IntMulOk i j:=CMul.ok (.inl ⟨fu,fu⟩)
def s2{a b:Prop}{P:Bool}(h1:P=true->a)(h2:P=false->b):if P=true then a else b:=by
 cases P
 ·exact h2 rfl
 ·exact h1 rfl
def sF{a b:Prop}{P:Bool}(h:P=false)(k:b):if P=true then a else b:=by rw[h];exact k
def sT{a b:Prop}{P:Bool}(h:P=true)(k:a):if P=true then a else b:=by rw[h];exact k
def cl{FT:List PSp}{f:Nat}{ts:List TV}{K:TV->Prop}(e:FT[f]?=some S)(h:S (ts.map .fz) K)(n:ts.all TV.nb=true):∃P,(∃S,FT[f]?=some S/\S (ts.map .fz) P)/\∀t,P t->(ts.all TV.nb=false->LF t)/\K t:=⟨K,⟨S,e,h⟩,λ t k=>⟨λ z=>(by rw[n] at z;cases z),k⟩⟩
theorem dn{GT:List TV}{α:Type}(f g:α->TV):∀(l:List α) {Kn:List TV->Prop},(∀a∈l,stE ρ tg (f a) λ ρ'=>wE FT GT e ρ' λ y=>y.nb=true/\y.fz=g a)->Kn (l.map g)->cmF (λ t K'=>stE ρ tg t λ ρ'=>wE FT GT e ρ' λ y=>(y.nb=true/\K' [y.fz])) (l.map f) Kn
 |[],_,_,k=>k
 |a::l,Kn,h,k=>fg (λ ρ' q=>ao e (λ y ⟨n,z⟩=>⟨n,by rw[z];exact dn f g l (λ b hb=>h b (by simp[hb])) k⟩) q) (h a pv)
def zx{ns:LI}{i:Nat}(h:((ns.map TV.int).reverse)[i]?=some t):i<ns.length/\∃n,t=.int n/\ns[ns.length-1-i]?=some n:=by
 have hl:=(be.mp h).1;rw[gM,ai] at hl;rw[ji (by rw[ai];exact hl),ai] at h;exact⟨hl,jL h⟩
def zy{ns ms:LI}{i:Nat}(h:(List.zipWith (λ x y=>TV.tup [x,y]) (ns.map TV.int) (ms.map TV.int))[i]?=some t):∃n m,t=.tup [.int n,.int m]/\ns[i]?=some n/\ms[i]?=some m:=by
 rw[sP,aL,aL] at h
 cases a:ns[i]? with
 |none=>rw[a] at h;cases h
 |some n=>
  cases b:ms[i]? with
  |none=>rw[a,b] at h;cases h
  |some m=>rw[a,b] at h;cases h;exact⟨n,m,rfl,rfl,rfl⟩
def Lm{n:Int}(h:(!decide (n=0))=true):ag n=n:=by unfold ag;rw[if_neg (by simpa using h)]
def Ln{n:Int}(h:(!decide (n=0))=false):ag n=1:=by unfold ag;rw[if_pos (by simpa using h)]
def neF{a b:Int}(h:a=b):(!_L.eqT (TV.int a).fz (TV.int b).fz)=false:=by subst h;show(!decide (a=a))=false;rw[cL rfl];rfl
def zz{GT:List TV}{α:Type}{l:List α}{f:α->TV}{its:List TV}(h0:its=l.map f)(g:α->TV){Kn:List TV->Prop}(h:∀a∈l,stE ρ tg (f a) λ ρ'=>wE FT GT e ρ' λ y=>y.nb=true/\y.fz=g a)(k:Kn (l.map g)):cmF (λ t K'=>stE ρ tg t λ ρ'=>wE FT GT e ρ' λ y=>(y.nb=true/\K' [y.fz])) its Kn:=h0 ▸ dn f g l h k
def zA(ms ss:LI):List.zipWith (λ x y=>TV.tup [x,y]) (ms.map TV.int) (ss.map TV.int)=(ms.zip ss).map λ p=>TV.tup [.int p.1,.int p.2]:=by
 induction ms generalizing ss with
 |nil=>rfl
 |cons a ms ih=>cases ss with
  |nil=>rfl
  |cons b ss=>rw[bA,bA,pX,ih,pM,bA]
def zB(ms ss:LI):((ms.zip ss).map λ p:Int×Int=>TV.int (p.1*p.2))=(List.zipWith (λ a b=>a*b) ms ss).map TV.int:=by
 induction ms generalizing ss with
 |nil=>rfl
 |cons a ms ih=>cases ss with
  |nil=>rfl
  |cons b ss=>rw[pM,bA,pX,bA,ih]
def Lo{cs:LI}{i c:Int}(h:0<=i)(e:cs[i.toNat]?=some c):atI (cs.map TV.int) i=some (.int c):=by
 have z:=oo (xs:=cs.map TV.int) (j:=i.toNat) (v:=.int c) (by rw[aL,e];rfl)
 rwa [show((i.toNat:Nat):Int)=i by lia] at z
def bU{ns:LI}{k:Nat}(h:k<ns.length):atI (ns.map TV.int) (k:Int)=some (.int (ns.getD k 0)):=oo (by rw[aL,az h,aO,az h];rfl)
def dE{n i:Nat}(h:((List.range n).map f)[i]?=some a):i<n/\a=f i:=by
 have hi:=(be.mp h).1;rw[ak,cn] at hi;rw[aL,fX hi] at h;exact⟨hi,(bj h).symm⟩
def ui{i:Nat}(h:((bT ns cs S F).map TV.int)[i]?=some b):b=.int (cs.getD (plH ns (F (atD S (i:Int)))).toNat 0):=by
 unfold bT at h;rw[bK] at h;exact(dE h).2
def sN{a b:Prop}{x y:Int}(h1:x=y->a)(h2:x≠y->b):if _L.eqT (TV.int x).fz (TV.int y).fz=true then a else b:=by
 by_cases h:x=y
 ·rw[if_pos (show _L.eqT (TV.int x).fz (TV.int y).fz=true from cL h)];exact h1 h
 ·rw[if_neg (by rw[show _L.eqT (TV.int x).fz (TV.int y).fz=decide (x=y) from rfl];simpa using h)];exact h2 h
def s3{a b:Prop}{P:Prop} [Decidable P] (h1:P->a)(h2:¬P->b):if decide P=true then a else b:=by
 by_cases h:P
 ·rw[if_pos (cL h)];exact h1 h
 ·rw[if_neg (by simpa using h)];exact h2 h
theorem uj:∀(l m:LI),_L.eqTL (l.map TV.int) (m.map TV.int)=decide (l=m)
 |[],[]=>rfl
 |[],_::_=>rfl
 |_::_,[]=>rfl
 |x::xs,y::ys=>by
  rw[bA,bA,_L.eqTL_c,uj xs ys,show _L.eqT (TV.int x) (TV.int y)=decide (x=y) from rfl,<- Bool.decide_and];exact qS.mpr (by rw[List.cons.injEq])
def qp(l m:LI):_L.eqT (TV.tup (l.map TV.int)) (TV.tup (m.map TV.int))=decide (l=m):=uj l m
def Lp(l m:LI):_L.eqT (TV.lst (l.map TV.int)) (TV.lst (m.map TV.int))=decide (l=m):=uj l m
def dpI(ns:LI):∀x∈ns.map TV.int,_L.dp 8 x:=λ x hx=>by obtain⟨n,_,rfl⟩:=bD.mp hx;trivial
def dpT(ns:LI):_L.dp 9 (TV.tup (ns.map TV.int)):=dpI ns
def dpL(ns:LI):_L.dp 9 (TV.lst (ns.map TV.int)):=dpI ns
def nI{ns:LI}{o:Int}(h0:0<=o)(h1:o<ns.length):atI (ns.map TV.int) o=some (.int (ns.getD o.toNat 0)):=by
 have z:=bU (ns:=ns) (k:=o.toNat) fu
 rwa [show((o.toNat:Nat):Int)=o by lia] at z
def Lq(x:Int):aI x y=Int.fdiv x y:=by unfold aI;split<;>first|rfl|exact(lO _ fu).symm
noncomputable def stI:Stp->List TV
 |.inp ms=>[.str "in",tI ms]
 |.num n=>[.str "num",.int n]
 |.count ms k=>[.str "count",tI ms,.int k]
 |.each w a=>[.str "each",.str w,.int a]
 |.pair w a b=>[.str "pair",.str w,.int a,.int b]
 |.pick a b c=>[.str "pick",.int a,.int b,.int c]
 |.turn a os=>[.str "turn",.int a,tI os]
 |.flip a side=>[.str "flip",.int a,.int side]
 |.cut a side f m g=>[.str "cut",.int a,.int side,.int f,.int m,.int g]
 |.spread a side m=>[.str "spread",.int a,.int side,.int m]
 |.lay a ms=>[.str "lay",.int a,tI ms]
 |.join a b side=>[.str "join",.int a,.int b,.int side]
 |.fetch a b=>[.str "fetch",.int a,.int b]
 |.fold w a side=>[.str "fold",.str w,.int a,.int side]
 |.run w a side=>[.str "run",.str w,.int a,.int side]
def stT(d:Stp):TV:=.tup (stI d)
def fl2:∀x∈[TV.str "fold",TV.str "run"],flT x=true:=on
def bd{α:Type}{f:α->TV}{Ss:List α}{a:Nat}{A:α}(e:Ss[a]?=some A):atI (Ss.map f) (a:Int)=some (f A):=oo (by rw[aL,e];rfl)
def clB{FT:List PSp}{f:Nat}{ts:List TV}{K:TV->Prop}(e:FT[f]?=some S)(h:S (ts.map .fz) λ t=>LF t/\K t):∃P,(∃S,FT[f]?=some S/\S (ts.map .fz) P)/\∀t,P t->(ts.all TV.nb=false->LF t)/\K t:=⟨_,⟨S,e,h⟩,λ t k=>⟨λ _=>k.1,k.2⟩⟩
def sl3{n:Nat}(h:n<=3):n<sizeLine:=aX fu
def LFI(ns:LI):LF (tI ns):=by unfold tI;simp only[LF];intro x hx;obtain⟨n,_,rfl⟩:=bD.mp hx;simp[LF]
def tbT(T:Tb):TV:=.tup [tI T.1,tI T.2]
def qr{Ts:List Tb}{a:Nat}(h:(Ts.map (·.1))[a]?=some A):∃C,Ts[a]?=some (A,C):=by
 rw[aL] at h;obtain⟨T,eT,rfl⟩:=nH.mp h;exact⟨T.2,eT⟩
def neT{a b:Int}(h:a≠b):(!_L.eqT (TV.int a).fz (TV.int b).fz)=true:=by rw[show _L.eqT (TV.int a).fz (TV.int b).fz=decide (a=b) from rfl];simp[h]
theorem jM{GT:List TV}{α:Type}(f g:α->TV)(p:α->Bool):∀(l:List α) {its:List TV}{Kn:List TV->Prop},its=l.map f->(∀a∈l,stE ρ tg (f a) λ ρ'=>wE FT GT c ρ' λ x=>x=.bl (p a)/\(p a=true->wE FT GT e ρ' λ y=>y.nb=true/\y.fz=g a))->Kn ((l.filter p).map g)->cmF (λ t K'=>stE ρ tg t λ ρ'=>wE FT GT c ρ' λ x=>b1 x λ q=>if q=true then wE FT GT e ρ' λ y=>(y.nb=true/\K' [y.fz]) else K' []) its Kn
 |[],_,_,h0,_,k=>by subst h0;exact k
 |a::l,_,Kn,h0,h,k=>by
  subst h0;show stE ρ tg (f a) λ ρ'=>wE FT GT c ρ' λ x=>b1 x λ q=>if q=true then wE FT GT e ρ' (λ y=>y.nb=true/\cmF _ (l.map f) λ ys=>Kn ([y.fz]++ys)) else cmF _ (l.map f) λ ys=>Kn ([]++ys);refine fg (λ ρ' q=>ao c (λ x ⟨e1,q⟩=>?_) q) (h a pv);subst e1;have hr:=λ b hb=>h b (aW a hb);show if p a=true then _ else _;by_cases z:p a=true
  ·rw[if_pos z];rw[xT z,bA] at k;exact ao e (λ y ⟨n,w⟩=>⟨n,by rw[w];exact jM f g p l rfl hr k⟩) (q z)
  ·rw[if_neg z];rw[xU z] at k;exact jM f g p l rfl hr k
def p62:lN 2 62:=⟨on,on,on⟩
def Lr{i:Int}(h0:0<=i)(h1:i<4):atI [TV.int (-(2 ^ (63:Int).toNat)),TV.int (2 ^ (63:Int).toNat-1),TV.int (-1),TV.int (2 ^ (62:Int).toNat)] i=some (.int ([(-9223372036854775808:Int),9223372036854775807,-1,4611686018427387904].getD i.toNat 0)):=by
 have:i=0\/i=1\/i=2\/i=3:=fu
 rcases this with rfl|rfl|rfl|rfl<;>rfl
def bN{n:Nat}(h:n<=1000):n<=sizeLine:=dq (aX h)
def g0L:0<=sizeLine:=bN on
def g1L:1<=sizeLine:=bN on
def g2L:2<=sizeLine:=bN on
def g3L:3<=sizeLine:=bN on
def g4L:4<=sizeLine:=bN on
def g6L:6<=sizeLine:=bN on
def g7L:7<=sizeLine:=bN on
def Lu:12<=sizeLine:=bN on
def qt(ns:LI)(a b:Option Int):aq (ns.map TV.int) a b=((ns.drop (_H.sIx ns.length 0 a)).take (_H.sIx ns.length ns.length b-_H.sIx ns.length 0 a)).map TV.int:=by
 unfold aq;rw[ak,qu,List.map_drop]
def gb(ns:LI)(k:Nat):aq (ns.map TV.int) none (some (k:Int))=(ns.take k).map TV.int:=by
 rw[qt];simp only[_H.sIx,s0r,Nat.sub_zero];rw[if_neg fu,Int.toNat_natCast,s1y];split
 ·rfl
 ·rw[iw fu,iw fu]
def gc(ns:LI)(k:Nat):aq (ns.map TV.int) (some (k:Int)) none=(ns.drop k).map TV.int:=by
 rw[qt];simp only[_H.sIx];rw[if_neg fu,Int.toNat_natCast,s1y];split
 ·rw[iw (by rw[da];lia)]
 ·rw[lg,List.drop_of_length_le fu];simp
noncomputable def Lv(i:Nat):LI:=[[],[],[],[2],[2,3],[1,2,3],[1],[1],[1],[1],[1],[1,2],[1,2],[2],[2]].getD i []
def Lw:∀i,i<15->yK i=Lv i:=by decide +kernel
def mdT(d:Stp)(S:LI):TV:=.tup [stT d,tI S]
def bV{i j:Int}(h:0<j):aE i j=i%j:=if_pos h
def zD{i j:Int}(h:0<j):aI i j=i/j:=if_pos h
def Lx(k:Int)(h0:0<=k)(h1:k<7):∃x:Int,atI [TV.int 2,TV.int 3,TV.int 1,TV.int 4,TV.int 2,TV.int 3,TV.int 0] k=some (.int x)/\0<=x:=by
 have:k=0\/k=1\/k=2\/k=3\/k=4\/k=5\/k=6:=fu
 rcases this with rfl|rfl|rfl|rfl|rfl|rfl|rfl<;>exact⟨_,rfl,on⟩
def uk(ws:List Str){k:Int}(h0:0<=k)(h1:k<(ws.length:Int)):∃w,atI (ws.map TV.str) k=some (.str w)/\w∈ws:=by
 have l:k.toNat<ws.length:=fu;refine⟨ws[k.toNat],?_,kJ l⟩;have z:=oo (xs:=ws.map TV.str) (j:=k.toNat) (v:=.str ws[k.toNat]) (by rw[aL,az l];rfl)
 rwa [jA h0] at z
def lF(ms:LI):_L.eqT (TV.tup (ms.map TV.int)).fz (TV.tup []).fz=decide (ms=[]):=qp ms []
def Ly(d:Stp):LF (stT d):=by
 unfold stT;simp only[LF];intro x hx
 cases d<;>simp only[stI,bf,fP,fQ] at hx<;>(try rcases hx with rfl|rfl|rfl|rfl|rfl|rfl)<;>(try rcases hx with rfl|rfl|rfl|rfl|rfl)<;>(try rcases hx with rfl|rfl|rfl|rfl)<;>(try rcases hx with rfl|rfl|rfl)<;>(try rcases hx with rfl|rfl)<;>first|exact LFI _|simp[LF]
def qv(d:Stp)(S:LI):LF (mdT d S):=by
 unfold mdT;simp only[LF];intro x hx;simp only[bf,fP,fQ] at hx
 rcases hx with rfl|rfl
 ·exact Ly d
 ·exact LFI S
def qw(n:Nat):((List.range (((n:Nat):Int)).toNat).map λ i:Nat=>TV.int (i:Nat))=(upL n).map TV.int:=by unfold upL;rw[bK];rfl
def mxT(h:dg A B):TV.tup (if (A.map TV.int).length<(B.map TV.int).length then B.map TV.int else A.map TV.int)=tI (bv A B):=by
 rw[ai,ai];by_cases c:A.length<B.length
 ·rw[if_pos c,yR c];rfl
 ·rw[if_neg c,yQ h fu];rfl
noncomputable def pB(Ss:LL)(A:LI)(k:Int):Bool:=@decide (dg A (Ss.getD k.toNat [])) (Classical.propDecidable _)
def qx:pB Ss A k=true ↔ dg A (Ss.getD k.toNat []):=by unfold pB;exact @decide_eq_true_iff _ (Classical.propDecidable _)
def zE{a b:Bool}{p:Prop}(h1:a=true ↔ p)(h2:b=true ↔ p):a=b:=by
 cases a<;>cases b<;>simp_all
def eQ{Ss:LL}{a:Nat}(h:a<Ss.length):Ss[a]?=some (Ss.getD a []):=by rw[aO,az h];rfl
def or3{G N:Prop}{e1 e2 e3:Bool}(g:(e1=true\/e2=true/\e3=true)->G)(n:e1=false->N):if e1=true then G else True/\(if e2=true then (if e3=true then G else N) else N):=by
 cases e1
 ·refine⟨BT,?_⟩;cases e2
  ·exact n rfl
  ·cases e3
   ·exact n rfl
   ·exact g (.inr ⟨ca,ca⟩)
 ·exact g (.inl rfl)
def Lz{A:LI}{k:Nat}:(aq (A.map TV.int) none (some (k:Int))++[TV.int x])++aq (A.map TV.int) (some (k:Int)) none=(aG A k x).map TV.int:=by rw[gb,gc];unfold aG;simp
def LB{A:LI}{k:Nat}(kl:k<A.length):(aq (A.map TV.int) none (some (k:Int))++[TV.int x])++aq (A.map TV.int) (some ((k:Int)+1)) none=(A.set k x).map TV.int:=by
 rw[show(k:Int)+1=((k+1:Nat):Int) by lia,gb,gc,<- Kr kl];simp
def jN{A:LI}(h:A.length<=6):(aq (A.map TV.int) a b).length<=6:=by
 rw[qt,ai,bc,da];lia
def um{GT:List TV}(P:En->Prop)(h:wS FT GT (.ite c a b .nil) ρ P rt)(k:∀ρ',P ρ'->wS FT GT r ρ' nx rt):wS FT GT (.ite c a b r) ρ nx rt :=
 ao c (λ t q=>cj (λ _ q=>kM (λ q=>bE a (λ ρ' p=>k ρ' p) (λ _ h=>h) q) (λ q=>bE b (λ ρ' p=>k ρ' p) (λ _ h=>h) q) q) q) h
def zF{A:LI}(h:0<A.length):atI (A.map TV.int) 0=some (.int (A.getD 0 0)):=bU (k:=0) h
def LC{os:LI}{s:Int}(h:s∈os):(os.map TV.int)[os.idxOf s]?=some (.int s)/\∀(m:Nat) (z:TV),m<os.idxOf s->(os.map TV.int)[m]?=some z->_L.eqT z (.int s)=false:=by
 have xl:=qo.mpr h;refine⟨by rw[aL,az xl,uh xl];rfl,λ m z hm ez=>?_⟩;obtain⟨n,rfl,hn⟩:=jL ez;obtain⟨ml,en⟩:=be.mp hn;have y:=ne_of_lt_idxOf hm ml;rw[en] at y;show decide (n=s)=false;simpa using y
def flI(ns:LI):∀z∈ns.map TV.int,flT z=true:=λ z hz=>by obtain⟨n,_,rfl⟩:=bD.mp hz;rfl
def eqI(n:Int):_L.eqT (.int n) (.int n)=true:=cL rfl
def LD(k:Int)(h0:0<=k)(h1:k<6):∃x:Int,atI [TV.int 1,TV.int 2,TV.int 3,TV.int 2,TV.int 1,TV.int 8] k=some (.int x)/\1<=x/\x<=8:=by
 have:k=0\/k=1\/k=2\/k=3\/k=4\/k=5:=fu
 rcases this with rfl|rfl|rfl|rfl|rfl|rfl<;>exact⟨_,rfl,on,on⟩
def LG(ns:LI)(lo hi:Nat):∃ms:LI,aq (ns.map TV.int) (some (lo:Int)) (some (hi:Int))=ms.map TV.int/\ms.length<=hi-lo/\ms.length<=ns.length:=by
 refine⟨_,qt ns _ _,?_,?_⟩
 ·rw[bc,da];simp only[_H.sIx];rw[if_neg (by omega),if_neg (by omega),Int.toNat_natCast,Int.toNat_natCast];omega
 ·rw[bc,da];omega
def zG(d:Stp):atI (stI d) 0=some (.str (tV (kdN d))):=by cases d<;>rfl
abbrev bO(ns:LI):LI:=(stL ns ns.length).reverse
abbrev vwT(S:LI)(b:Int)(s:LI):TV:=.tup [tI S,.int b,tI s]
def zH(ns:LI):(bO ns).length=ns.length:=by simp[stL]
def LH{mo mo':Int}(h:ax mo ns)(l:mo<=mo'):ax mo' ns:=⟨λ n hn=>by have:=h.1 n hn;lia,h.2.1,h.2.2.1,by have:=h.2.2.2;lia⟩
def cH:cq 40:=⟨on,on⟩
def qy:∀x∈[TV.str "turn",.str "flip",.str "cut",.str "spread"],flT x=true:=on
def LJ:∀x∈[TV.str "turn",.str "flip",.str "cut",.str "spread",.str "lay",.str "join"],flT x=true:=on
def LK{ns:LI}{j:Nat}(h:(ns.map TV.int)[j]?=some u):∃c,u=.int c/\ns[j]?=some c:=by
 rw[aL] at h;obtain⟨c,e,q⟩:=nH.mp h;exact⟨c,q.symm,e⟩
def LM{ns:LI}(h:∀n∈ns,0<=n)(i:Nat):ae (ns.drop i)<=ae (ns.map ag):=by
 have a:=(dA (ns:=ns.drop i) λ n hn=>h n (nA hn));have b:1<=ae ((ns.take i).map ag):=nC λ n hn=>h n (tW hn);have c:ae (ns.map ag)=ae ((ns.take i).map ag)*ae ((ns.drop i).map ag):=by rw[<- JU,<- cG,jF]
 have d:1*ae ((ns.drop i).map ag)<=ae ((ns.take i).map ag)*ae ((ns.drop i).map ag):=gU b fu;lia
def nJ(h:ax 40 ns):0<=ae ns/\ae ns<=40:=by have:=dA (dD h);have:=h.2.2.2;lia
def LN(d:Stp):zw (λ a=>a) d=d:=by cases d<;>rfl
def sm7{n:Nat}(h:n<=63):Builtin.Range.small 0 (if (n:Int) > 1 then (n:Int) else 1) 7=true:=by
 have z:∀m:Fin 64,Builtin.Range.small 0 (if ((m.val:Nat):Int) > 1 then ((m.val:Nat):Int) else 1) 7=true:=by decide +kernel
 exact z ⟨n,fu⟩
def gS{Ss:LL}{a:Nat}(e:Ss[a]?=some A):Ss.getD a []=A:=by rw[aO,e];rfl
def stg{A:LI}{k:Nat}(kl:k<A.length):(bO A).getD k 0=ae (A.drop (k+1)):=by rw[aO,zi kl];rfl
def dQ(a b:Int)(as bs:LI):aQ (a::as) (b::bs)=a*b+aQ as bs:=by
 unfold aQ;rw[pX,List.sum_cons]
def nK(bs:LI):aQ [] bs=0:=by unfold aQ;rw[List.zipWith_nil_left];rfl
def uo(as:LI):aQ as []=0:=by unfold aQ;rw[List.zipWith_nil_right];rfl
theorem nL:∀ {A S:LI}{k:Nat}{y:Int},k<A.length->k<S.length->aQ (A.set k y) S=aQ A S+(y-A.getD k 0)*S.getD k 0
 |[],_,_,_,h,_=>absurd h (kF _)
 |_::_,[],_,_,_,h=>absurd h (kF _)
 |a::A,s::S,0,y,_,_=>by rw[List.set_cons_zero,dQ,dQ,uq,uq];grind
 |a::A,s::S,k+1,y,h1,h2=>by rw[List.set_cons_succ,dQ,dQ,nL (oN h1) (oN h2),ur,ur];grind
theorem qz:∀(A S:LI),aQ A S=aQ S A
 |[],S=>by rw[nK,uo]
 |a::A,[]=>by rw[nK,uo]
 |a::A,s::S=>by rw[dQ,dQ,qz A S,nc]
def zI{A S:LI}{k:Nat}(h1:k<A.length)(h2:k<S.length):aQ A (S.set k t)=aQ A S+A.getD k 0*(t-S.getD k 0):=by
 rw[qz,nL h2 h1,qz,nc]
theorem zJ:∀ {A S:LI}{k:Nat}{t:Int},A.length=S.length+1->k<=S.length->aQ A (aG S k t)=aQ (A.eraseIdx k) S+A.getD k 0*t
 |[],_,_,_,h,_=>by simp at h
 |a::A,S,0,t,h,_=>by
  show aQ (a::A) (t::S)=_;rw[dQ,List.eraseIdx_cons_zero,uq,Int.add_comm]
 |a::A,[],k+1,t,h,h2=>by simp at h2
 |a::A,s::S,k+1,t,h,h2=>by
  show aQ (a::A) (s::aG S k t)=_;rw[dQ,vq,dQ,ur,zJ (by simpa using h) (by simpa using h2),Int.add_assoc]
def LP{A:LI}{k:Nat}(h:k<=A.length):(aG A k y).eraseIdx k=A:=by
 unfold aG;apply jt;intro i;grind
theorem ut:∀ {A B S T:LI},A.length=S.length->aQ (A++B) (S++T)=aQ A S+aQ B T
 |[],B,[],T,_=>by rw[ow,ow,nK];lia
 |a::A,B,s::S,T,h=>by rw[jn,jn,dQ,dQ,ut (by simpa using h),Int.add_assoc]
 |[],B,s::S,T,h=>by simp at h
 |a::A,B,[],T,h=>by simp at h
theorem zK:∀(A:LI) (n:Nat),aQ A (dN n)=0
 |[],n=>nK _
 |a::A,0=>uo _
 |a::A,n+1=>by show aQ (a::A) (0::dN n)=0;rw[dQ,zK A n,Int.mul_zero];rfl
noncomputable def cN:LI->LI->LI->LI
 |out,o::os,a::as=>cN (out.set o.toNat a) os as
 |out,_,_=>out
theorem uu:∀(out os as:LI),(cN out os as).length=out.length
 |out,o::os,a::as=>by unfold cN;rw[uu,bu]
 |out,[],as=>by unfold cN;rfl
 |out,o::os,[]=>by unfold cN;rfl
theorem zM{S:LI}:∀ {os out as:LI},os.Nodup->as.length=os.length->out.length<=S.length->(∀o∈os,0<=o/\o<out.length/\out.getD o.toNat 0=0)->aQ (cN out os as) S=aQ out S+aQ as (aC S os)
 |[],out,as,_,h,_,_=>by
  cases as with
  |nil=>unfold cN;rw[nK];lia
  |cons=>simp at h
 |o::os,out,[],_,h,_,_=>by simp at h
 |o::os,out,a::as,nd,h,hl,hz=>by
  have z:=hz o bz;have nd2:=fH.mp nd;unfold cN
  rw[zM nd2.2 (by simpa using h) (by rw[bu];exact hl) (λ p hp=>by
   have y:=hz p (aW _ hp)
   have ne:o.toNat≠p.toNat:=λ w=>nd2.1 (by have:o=p:=(by lia);rw[this];exact hp)
   refine⟨y.1,by rw[bu];exact y.2.1,?_⟩
   rw[aO,eX ne,<- aO];exact y.2.2),nL fu fu,z.2.2]
  show _=aQ out S+aQ (a::as) (S.getD o.toNat 0::aC S os);rw[dQ];grind
theorem uv:∀ {os out as:LI}{i:Nat}{m:Int},(∀o∈os,0<=o)->(cN out os as)[i]?=some m->(out[i]?=some m/\((i:Int) ∉ os\/as.length<os.length))\/∃j:Nat,os[j]?=some (i:Int)/\as[j]?=some m
 |[],out,as,i,m,_,h=>by unfold cN at h;exact .inl ⟨h,.inl pv⟩
 |o::os,out,[],i,m,_,h=>by unfold cN at h;exact .inl ⟨h,.inr pv⟩
 |o::os,out,a::as,i,m,hz,h=>by
  unfold cN at h;have z:=hz o bz
  rcases uv (λ p hp=>hz p (aW _ hp)) h with ⟨h1,h2⟩|⟨j,h1,h2⟩
  ·by_cases c:o.toNat=i
   ·refine .inr ⟨0,?_,?_⟩
    ·show some o=_;congr 1;lia
    ·subst c
     have il:o.toNat<out.length:=by
      have:=(be.mp h1).1
      rwa [bu] at this
     rw[eW il] at h1;exact h1
   ·rw[eX c] at h1;refine .inl ⟨h1,h2.imp (λ h2 w=>?_) (λ h2=>by simpa using h2)⟩
    rcases bf.mp w with w|w
    ·lia
    ·exact h2 w
  ·exact .inr ⟨j+1,h1,h2⟩
def zN(g:aY N A){k:Nat}(h:k<N.length):0<=A.getD k 0/\A.getD k 0<N.getD k 0 :=
 g.2 k _ _ (eK (by rw[g.1];exact h)) (eK h)
def zO{ns L:LI}{k:Nat}(h:k<ns.length):(ns++L).getD k 0=ns.getD k 0:=by
 rw[aO,cZ h,aO]
def LQ{ns ss L A:LI}{st:Int}{k:Nat}(kl:k<ns.length)(hl:ss.length=ns.length+L.length)(g:aY (ns++L) A):aY (ns++L) (A.set k (ns.getD k 0-1-A.getD k 0))/\st+(ns.getD k 0-1)*ss.getD k 0+aQ A (ss.set k (-ss.getD k 0))=st+aQ (A.set k (ns.getD k 0-1-A.getD k 0)) ss:=by
 have gk:=zN g (k:=k) (by rw[aK];lia);have al:=g.1;rw[aK] at al;rw[zO kl] at gk;refine⟨iM g rfl (λ _ _=>rfl) (by rw[cZ kl];exact eK kl) fu fu,?_⟩;rw[nL fu fu,zI fu fu];grind
def LR{f g m a n:Int}(f0:0<=f)(g1:1<=g)(h:f+(m-1)*g<n)(a0:0<=a)(a1:a<m):0<=f+a*g/\f+a*g<n:=by
 have h1:=nh a0 (show 0<=g by lia);have h2:=gU (show a<=m-1 by lia) (show 0<=g by lia);lia
def LS{ns ss L A:LI}{st f m t:Int}{k:Nat}(kl:k<ns.length)(nb:¬bad ns (k:Int) f m t)(hl:ss.length=ns.length+L.length)(g:aY (ns.set k m++L) A):aY (ns++L) (A.set k (f+A.getD k 0*t))/\st+f*ss.getD k 0+aQ A (ss.set k (ss.getD k 0*t))=st+aQ (A.set k (f+A.getD k 0*t)) ss:=by
 have gk:=zN g (k:=k) (by rw[aK,bu];lia);have al:=g.1;rw[aK,bu] at al;rw[zO (by rw[bu];exact kl)] at gk;have e:(ns.set k m).getD k 0=m:=by rw[aO,eW kl];rfl
 rw[e] at gk;unfold bad at nb;rw[Int.toNat_natCast] at nb;have ci:=LR (f:=f) (g:=t) (m:=m) (a:=A.getD k 0) (n:=ns.getD k 0) fu fu fu gk.1 gk.2;refine⟨iM g (by rw[aK,aK,bu]) (λ j hj=>?_) (by rw[cZ kl];exact eK kl) ci.1 ci.2,?_⟩
 ·rw[qA,qA,bu,eX (λ z=>hj z.symm)]
 ·rw[nL fu fu,zI fu fu];grind
def LU{ns L:LI}{k:Nat}(h:k<=ns.length):aG ns k m++L=aG (ns++L) k m:=by
 unfold aG;rw[pW h,List.drop_append_of_le_length h];simp
def LW{ns ss L A:LI}{st m:Int}{k:Nat}(kl:k<=ns.length)(hl:ss.length=ns.length+L.length)(g:aY (aG ns k m++L) A):aY (ns++L) (A.eraseIdx k)/\st+aQ A (aG ss k 0)=st+aQ (A.eraseIdx k) ss:=by
 rw[LU kl] at g;have al:=g.1;rw[ny,aK] at al;have g2:=yY k g;rw[LP (by rw[aK];lia)] at g2;refine⟨g2,?_⟩;rw[zJ fu fu];lia
def LX(n k:Nat):(dN n).getD k 0=0:=by
 unfold dN;rw[aO,iY];split<;>rfl
def LY{ss os:LI}{n:Nat}(h:∀o∈os,0<=o/\o<n):aC (ss.take n) os=aC ss os:=by
 unfold aC;refine pj λ o ho=>?_;have:=h o ho;rw[aO,kg fu,aO]
def LZ{ns ss L os A:LI}{st:Int}(t:dO ns.length os)(hl:ss.length=ns.length+L.length)(g:aY (aC ns os++L) A):aY (ns++L) (cN (dN ns.length) os (A.take (aC ns os).length)++A.drop (aC ns os).length)/\st+aQ A (aC ss os++ss.drop ns.length)=st+aQ (cN (dN ns.length) os (A.take (aC ns os).length)++A.drop (aC ns os).length) ss:=by
 have ol:os.length=ns.length:=by rw[t.length_eq,dB]
 have tl:(aC ns os).length=ns.length:=by unfold aC;rw[ak,ol]
 have om:∀o∈os,0<=o/\o<(ns.length:Int):=λ o ho=>up_mem.mp (t.subset ho);have nd:os.Nodup:=t.nodup_iff.mpr (yL _);have al:=g.1;rw[aK,tl] at al;rw[tl];have rl:(dN ns.length).length=ns.length:=dX ..;have pl:(cN (dN ns.length) os (A.take ns.length)).length=ns.length:=by rw[uu,rl]
 have kl:(A.take ns.length).length=ns.length:=by rw[bc];lia
 refine⟨⟨by rw[aK,pl,da,aK];lia,λ i m n em en=>?_⟩,?_⟩
 ·rw[qA,pl] at em;rw[qA] at en;split at em
  ·rename_i c;rw[if_pos c] at en
   rcases uv (λ o ho=>(om o ho).1) em with ⟨_,h2⟩|⟨j,h1,h2⟩
   ·rcases h2 with h2|h2
    ·exact absurd (t.mem_iff.mpr (up_mem.mpr fu)) h2
    ·lia
   ·have jl:=(be.mp h1).1;rw[kg fu] at h2;refine g.2 j m n h2 ?_;rw[cZ fu];unfold aC;rw[aL,h1];show some (ns.getD (i:Int).toNat 0)=some n;rw[Int.toNat_natCast,aO,en];rfl
  ·rename_i c;rw[if_neg c] at en;rw[List.getElem?_drop] at em;refine g.2 _ m n em ?_;rw[dW fu,tl,show ns.length+(i-ns.length)-ns.length=i-ns.length by lia];exact en
 ·have tl2:(aC ss os).length=ns.length:=by unfold aC;rw[ak,ol]
  conv=>lhs;rw[<- jF ns.length A]
  conv=>rhs;rw[<- jF ns.length ss]
  rw[ut fu,ut (by rw[pl,bc];lia),zM nd fu (by rw[rl,bc];lia) (λ o ho=>⟨(om o ho).1,by rw[rl];exact(om o ho).2,LX _ _⟩),LY om,qz (dN _),zK];lia
def Ma{os A:LI}(t:dO n os)(al:A.length=n):cN (dN n) os A=cY os A:=by
 have ol:=nG t;have om:∀o∈os,0<=o:=λ o ho=>(up_mem.mp (t.subset ho)).1;have nd:os.Nodup:=t.nodup_iff.mpr (yL _);have l1:(cN (dN n) os A).length=n:=by rw[uu,JP]
 have l2:(cY os A).length=n:=by unfold cY;rw[ak,cn,ol]
 refine jt λ i=>?_;by_cases c:i<n
 ·have e1:=az (l:=cN (dN n) os A) (i:=i) fu;have mi:=qm t (s:=i) c
  rcases uv om e1 with ⟨_,h2⟩|⟨j,h1,h2⟩
  ·rcases h2 with h2|h2
   ·exact absurd mi h2
   ·lia
  ·have jl:=(be.mp h1).1;have xl:=qo.mpr mi;have e3:os[os.idxOf (i:Int)]?=some (i:Int):=by rw[az xl,uh xl]
   have ij:os.idxOf (i:Int)=j:=(List.getElem?_inj xl nd).mp (e3.trans h1.symm);rw[e1];unfold cY;rw[aL,fX fu];show some _=some (A.getD (os.idxOf (i:Int)) 0);rw[ij,aO,h2];rfl
 ·rw[fb fu,fb fu]
noncomputable def mv4:Stp->Prop
 |.turn ..=>True|.flip ..=>True|.cut ..=>True|.spread ..=>True
 |_=>False
noncomputable def mv6:Stp->Prop
 |.turn ..=>True|.flip ..=>True|.cut ..=>True|.spread ..=>True|.lay ..=>True|.join ..=>True
 |_=>False
noncomputable def mvV(A:LI):Stp->Int×LI
 |.turn _ os=>(0,aC (bO A) os)
 |.flip _ s=>(0+(A.getD s.toNat 0-1)*(bO A).getD s.toNat 0,(bO A).set s.toNat (-(bO A).getD s.toNat 0))
 |.cut _ s f _ g=>(0+f*(bO A).getD s.toNat 0,(bO A).set s.toNat ((bO A).getD s.toNat 0*g))
 |.spread _ s _=>(0,aG (bO A) s.toNat 0)
 |_=>(0,[])
noncomputable def mvO(A at_:LI):Stp->LI
 |.turn _ os=>cY os at_
 |.flip _ s=>iO A s.toNat at_
 |.cut _ s f _ g=>iP s.toNat f g at_
 |.spread _ s _=>at_.eraseIdx s.toNat
 |_=>[]
noncomputable def iS(a b:Nat)(A B:LI)(k:Nat)(at_:LI):LI:=if at_.getD k 0<A.getD k 0 then [(a:Int),plH A at_] else [(b:Int),plH B (at_.set k (at_.getD k 0-A.getD k 0))]
noncomputable def mvQ(Ss:LL)(S:LI)(pl:Int):Stp->LI
 |.lay a _=>[(a:Int),pl]
 |.join a b s=>iS a b (Ss.getD a []) (Ss.getD b []) s.toNat (atD S pl)
 |d=>[(((cX d).headD 0:Nat):Int),plH (Ss.getD ((cX d).headD 0) []) (mvO (Ss.getD ((cX d).headD 0) []) (atD S pl) d)]
def zP(m:mv4 d)(ok:OkS Ss S d)(ea:Ss[(cX d).headD 0]?=some A)(sd:aV A)(g:aY S at_):aY A (mvO A at_ d)/\(mvV A d).1+aQ at_ (mvV A d).2=plH A (mvO A at_ d)/\(mvV A d).2.length=S.length:=by
 have sl:=zH A
 cases d with
 |turn a os=>
  obtain⟨A',e2,tk,rfl⟩:=ok;cases bj (ea.symm.trans e2);have ol:=nG tk;have tl:(aC A os).length=A.length:=by unfold aC;rw[ak,ol]
  have b:=LZ (ns:=A) (ss:=bO A) (L:=[]) (os:=os) (A:=at_) (st:=0) tk (by rw[sl];rfl) (by rw[cu];exact g);have al:at_.length=A.length:=by rw[g.1,tl]
  rw[cu,tl,<- al,fk,lg,cu,al,Ma tk al,<- sl,lg,cu] at b;refine⟨b.1,b.2.trans (s0d _),?_⟩;show(aC (bO A) os).length=_;unfold aC;rw[ak,ak]
 |flip a s=>
  obtain⟨e2,no⟩:=ok;cases bj (ea.symm.trans e2);obtain⟨k,rfl,kl⟩:=eJ no;have b:=LQ (ns:=S) (ss:=bO S) (L:=[]) (A:=at_) (st:=0) kl (by rw[sl];rfl) (by rw[cu];exact g);rw[cu] at b;exact⟨b.1,b.2.trans (s0d _),(bu ..).trans sl⟩
 |cut a s f m' g'=>
  obtain⟨A',e2,no,nb,m5,rfl⟩:=ok;cases bj (ea.symm.trans e2);obtain⟨k,rfl,kl⟩:=eJ no;have b:=LS (ns:=A) (ss:=bO A) (L:=[]) (A:=at_) (st:=0) kl nb (by rw[sl];rfl) (by rw[cu];exact g);rw[cu] at b;exact⟨b.1,b.2.trans (s0d _),((bu ..).trans sl).trans (bu ..).symm⟩
 |spread a s m'=>
  obtain⟨A',e2,no,m0,m5,nb,rfl⟩:=ok;cases bj (ea.symm.trans e2);unfold gW at no;obtain⟨k,rfl⟩:∃k:Nat,s=k:=⟨s.toNat,fu⟩;have b:=LW (ns:=A) (ss:=bO A) (L:=[]) (A:=at_) (st:=0) (m:=m') (k:=k) fu (by rw[sl];rfl) (by rw[cu];exact g);rw[cu] at b;exact⟨b.1,b.2.trans (s0d _),by show(aG (bO A) k 0).length=(aG A k m').length;rw[ny,ny,sl]⟩
 |_=>exact m.elim
def Mb{k:Nat}(f:ax 40 A)(kl:k<A.length):0<=(bO A).getD k 0/\(bO A).getD k 0<=40:=by
 rw[stg kl];have:=LM (dD f) (k+1);have:=f.2.2.2;have:0<=ae (A.drop (k+1)):=ng λ n hn=>dD f n (nA hn);lia
def rgD{f:Nat->Int}{n i:Nat}(h:i<n):((List.range n).map f).getD i 0=f i:=by rw[aO,aL,fX h];rfl
def uw{A B At:LI}{k:Nat}(ll:A.length=B.length)(hk:k<A.length)(ee:A.eraseIdx k=B.eraseIdx k)(gd:aY (aH A B k) At):(At.getD k 0<A.getD k 0->aY A At)/\(¬At.getD k 0<A.getD k 0->aY B (At.set k (At.getD k 0-A.getD k 0))):=by
 have li:(aH A B k).length=A.length:=by unfold aH;rw[bu]
 have gl:=gd.1;have jne:∀j,j≠k->A[j]?=(aH A B k)[j]?:=λ j hj=>by unfold aH;rw[eX (by simpa using λ z=>hj z.symm)]
 have jk:(aH A B k)[k]?=some (A.getD k 0+B.getD k 0):=by unfold aH;simp only[Int.toNat_natCast];rw[eW hk]
 have nke:A[k]?=some (A.getD k 0):=by rw[aO,az hk];rfl
 have mke:B[k]?=some (B.getD k 0):=by rw[aO,az (show k<B.length by lia)];rfl
 have ake:At[k]?=some (At.getD k 0):=by rw[aO,az (show k<At.length by lia)];rfl
 have ab:=gd.2 k _ _ ake jk;refine⟨λ lt=>?_,λ lt=>?_⟩
 ·have:=iM (ms:=A) (w:=A.getD k 0) (y:=At.getD k 0) gd fu jne nke ab.1 lt
  rwa [show At.set k (At.getD k 0)=At from by rw[aO,az (show k<At.length by lia)];exact s0e _] at this
 ·exact iM gd fu (λ j hj=>by rw[<- (yE ll).mp ee j hj];exact jne j hj) mke fu fu
noncomputable def dF(a:Nat)(A:LI):LI:=(List.range (ae A).toNat).map λ n:Nat=>1000*(a:Int)+(n:Int)
noncomputable def aJ(Ss:LL)(k:Nat):List Tb:=(List.range k).map λ j=>(Ss.getD j [],dF j (Ss.getD j []))
def Mc{Ss:LL}{k:Nat}(h:k<=Ss.length):(aJ Ss k).map (·.1)=Ss.take k:=by
 unfold aJ;rw[bK];apply jt;intro i;rw[aL,mW];by_cases c:i<k
 ·rw[fX c,if_pos c,az (show i<Ss.length by lia)];show some (Ss.getD i [])=_;rw[aO,az (show i<Ss.length by lia)];rfl
 ·rw[if_neg c,fb (by simp;lia)];rfl
def iT{Ss:LL}{k a:Nat}(e:(Ss.take k)[a]?=some A):gT (aJ Ss k) a=(A,dF a A)/\Ss[a]?=some A:=by
 rw[mW] at e;split at e
 ·refine⟨cr ?_,e⟩;unfold aJ;rw[aL,fX (by assumption)];show some (Ss.getD a [],dF a (Ss.getD a []))=_;rw[gS e]
 ·cases e
def zQ{p:Int}(p0:0<=p)(p1:p<ae A):(dF a A).getD p.toNat 0=1000*(a:Int)+p:=by
 unfold dF;rw[rgD fu];lia
def Me{Ss:LL}{k:Nat}(h:k<=Ss.length)(k40:k<=40)(fS:∀T∈Ss,ax 40 T):∀T∈aJ Ss k,TbG 40 T:=λ T hT=>by
 obtain⟨j,hj,rfl⟩:=bD.mp hT;have jk:=eV.mp hj;have e:=az (show j<Ss.length by lia);generalize Ss[j]=A at e;rw[gS e];have fA:=fS A (aD e);have p4:=nJ fA;refine⟨fA,?_,λ c hc=>?_⟩
 ·show((dF j A).length:Int)=ae A;unfold dF;rw[ak,cn];lia
 ·obtain⟨n,hn,rfl⟩:=bD.mp hc;have:=eV.mp hn;unfold inB;constructor<;>lia
def Mf(h:mv6 d):∀ms,d≠.inp ms:=λ ms e=>by subst e;exact h.elim
def Mg{Ss:LL}{k i:Nat}(fS:∀T∈Ss,ax 40 T)(ok:OkS (Ss.take k) S d)(fs:ax 40 S)(m6:mv6 d)(il:(i:Int)<ae S):∃(a:Nat) (p:Int),mvQ Ss S i d=[(a:Int),p]/\0<=p/\p<1000/\(dP (aJ Ss k) d).getD i 0=1000*(a:Int)+p:=by
 have sd:=dj fs cH;have gd:=iJ (p:=(i:Int)) sd fu il
 have fin:∀(a:Nat) (A ms:LI),Ss[a]?=some A->aY A ms->0<=plH A ms/\plH A ms<1000/\(dF a A).getD (plH A ms).toNat 0=1000*(a:Int)+plH A ms:=λ a A ms ea g=>by
  have:=nJ (fS A (aD ea));have:=tU g;exact⟨this.1,fu,zQ this.1 this.2⟩
 have mv:mv4 d->∀A,(Ss.take k)[(cX d).headD 0]?=some A->aY A (mvO A (atD S i) d):=λ m A ea=>(zP m ok ea (dj (fS A (aD (iT ea).2)) cH) gd).1
 cases d with
 |turn a os=>
  obtain⟨A,ea,tk,rfl⟩:=id ok;obtain⟨eT,e⟩:=iT ea;obtain⟨h0,h1,h2⟩:=fin a A _ e (mv trivial A ea);refine⟨a,_,(by show[(a:Int),plH (Ss.getD a []) (mvO (Ss.getD a []) _ _)]=_;rw[gS e]),h0,h1,?_⟩;show(bT (gT (aJ Ss k) a).1 (gT (aJ Ss k) a).2 (aC (gT (aJ Ss k) a).1 os) (cY os)).getD i 0=_;rw[eT,<- h2];unfold bT;exact rgD (nM.mpr il)
 |flip a s=>
  obtain⟨ea,no⟩:=id ok;obtain⟨eT,e⟩:=iT ea;obtain⟨h0,h1,h2⟩:=fin a S _ e (mv trivial S ea);refine⟨a,_,(by show[(a:Int),plH (Ss.getD a []) (mvO (Ss.getD a []) _ _)]=_;rw[gS e]),h0,h1,?_⟩;show(bT (gT (aJ Ss k) a).1 (gT (aJ Ss k) a).2 (gT (aJ Ss k) a).1 (iO (gT (aJ Ss k) a).1 s.toNat)).getD i 0=_;rw[eT,<- h2];unfold bT;exact rgD (nM.mpr il)
 |cut a s f m g=>
  obtain⟨A,ea,no,nb,m5,rfl⟩:=id ok;obtain⟨eT,e⟩:=iT ea;obtain⟨h0,h1,h2⟩:=fin a A _ e (mv trivial A ea);refine⟨a,_,(by show[(a:Int),plH (Ss.getD a []) (mvO (Ss.getD a []) _ _)]=_;rw[gS e]),h0,h1,?_⟩;show(bT (gT (aJ Ss k) a).1 (gT (aJ Ss k) a).2 ((gT (aJ Ss k) a).1.set s.toNat m) (iP s.toNat f g)).getD i 0=_;rw[eT,<- h2];unfold bT;exact rgD (nM.mpr il)
 |spread a s m=>
  obtain⟨A,ea,no,m0,m5,nb,rfl⟩:=id ok;obtain⟨eT,e⟩:=iT ea;obtain⟨h0,h1,h2⟩:=fin a A _ e (mv trivial A ea);refine⟨a,_,(by show[(a:Int),plH (Ss.getD a []) (mvO (Ss.getD a []) _ _)]=_;rw[gS e]),h0,h1,?_⟩;show((List.range (ae (aG (gT (aJ Ss k) a).1 s.toNat m)).toNat).map (qk (gT (aJ Ss k) a).1 (gT (aJ Ss k) a).2 s.toNat m)).getD i 0=_;rw[eT,<- h2];exact rgD (nM.mpr il)
 |lay a ms=>
  obtain⟨A,ea,nb,pe,rfl⟩:=id ok;obtain⟨eT,e⟩:=iT ea;have p4:=nJ fs;refine⟨a,i,ca,fu,fu,?_⟩;show(gT (aJ Ss k) a).2.getD i 0=_;rw[eT];exact zQ (a:=a) (A:=A) (p:=i) fu fu
 |join a b s=>
  obtain⟨A,B,ea,eb,hl,no,ee,nb,rfl⟩:=id ok;obtain⟨q,rfl,kl⟩:=eJ no;obtain⟨eT,e⟩:=iT ea;obtain⟨eU,e'⟩:=iT eb;obtain⟨g1,g2⟩:=uw hl kl ee gd;have z1:mvQ Ss (aH A B q) i (.join a b q)=iS a b A B q (atD (aH A B q) i):=by show iS a b (Ss.getD a []) (Ss.getD b []) _ _=_;rw[gS e,gS e'];rfl
  have z2:(dP (aJ Ss k) (.join a b q)).getD i 0=iN A (dF a A) B (dF b B) q (atD (aH A B q) i):=by
   show((List.range (ae (aH (gT (aJ Ss k) a).1 (gT (aJ Ss k) b).1 q)).toNat).map λ i:Nat=>iN (gT (aJ Ss k) a).1 (gT (aJ Ss k) a).2 (gT (aJ Ss k) b).1 (gT (aJ Ss k) b).2 q (atD (aH (gT (aJ Ss k) a).1 (gT (aJ Ss k) b).1 q) (i:Int))).getD i 0=_;rw[eT,eU];exact rgD (nM.mpr il)
  rw[z1,z2];unfold iS iN;by_cases c:(atD (aH A B q) i).getD q 0<A.getD q 0
  ·rw[if_pos c,if_pos c];exact⟨a,_,ca,fin a A _ e (g1 c)⟩
  ·rw[if_neg c,if_neg c];exact⟨b,_,ca,fin b B _ e' (g2 c)⟩
 |_=>exact m6.elim
def Mh{Ss:LL}(ok:OkS (Ss.take k) S d):OkS Ss S d:=by
 have z:=Ll (Zs:=Ss) (f:=λ a=>a) ok (λ a ha A e=>by rw[mW] at e;split at e;exact e;cases e)
 rwa [LN] at z
def Mi(h:inT (TV.str (tV (kdN d))) (List.map TV.fz [TV.str "turn",TV.str "flip",TV.str "cut",TV.str "spread",TV.str "lay",TV.str "join"])=true):mv6 d:=by
 generalize e:kdN d=i at h
 have h5:i≠0/\i≠1/\i≠2/\i≠3/\i≠4/\i≠5/\i≠kdN (.fetch 0 0)/\i≠kdN (.fold "" 0 0)/\i≠kdN (.run "" 0 0):=by
  refine⟨?_,?_,?_,?_,?_,?_,?_,?_,?_⟩<;>(rintro rfl;exact absurd h (by decide +kernel))
 obtain⟨h0,h1,h2,h3,h4,h5,h6,h7,h8⟩:=h5
 cases d<;>first|trivial|exact absurd e.symm h0|exact absurd e.symm h1|exact absurd e.symm h2|exact absurd e.symm h3|exact absurd e.symm h4|exact absurd e.symm h5|exact absurd e.symm h6|exact absurd e.symm h7|exact absurd e.symm h8
def Mj{k n:Nat}(h:k<=n):aq ((aJ Ss n).map tbT) none (some (k:Int))=(aJ Ss k).map tbT:=by
 have e:aq ((aJ Ss n).map tbT) none (some (k:Int))=((aJ Ss n).map tbT).take k:=by
  unfold aq;simp only[_H.sIx,s0r,Nat.sub_zero];rw[if_neg fu,Int.toNat_natCast,s1y];split
  ·rfl
  ·rw[iw fu,iw fu]
 rw[e,<- qu];unfold aJ;rw[<- qu,List.take_range,fT h]
noncomputable def zR:XSp:=λ ts E=>∃(ns:LI) (pl:Int),ts=[tI ns,.int pl]/\aV ns/\(pl<0\/ae ns<=pl)/\E (.c 0)
noncomputable def zU:XSp:=λ ts E=>∃(d:Stp) (S:LI) (Ss:LL) (pl:Int),ts=[stT d,.tup (Ss.map tI),.int pl]/\(∀T∈Ss,ax 40 T)/\OkS Ss S d/\ax 40 S/\mv6 d/\(pl<0\/ae S<=pl)/\E (.c 0)
def zp0:PSp:=λ ts Q=>∃n,ts=[.int n]/\Q (.int (cW n))
noncomputable def zc0:Ct:=(.ret (.ad (.md (.sb V0 (.g 0)) (.bin .Pow N2 (.n 64))) (.g 0)))
def zp1:PSp:=λ _ _=>False
def zc1:Ct:=.never
def zp2:PSp:=λ _ _=>False
def zc2:Ct:=.never
def zp3:PSp:=λ _ _=>False
def zc3:Ct:=.never
def zp4:PSp:=λ _ _=>False
def zc4:Ct:=.never
def zp5:PSp:=λ _ _=>False
def zc5:Ct:=.never
def zp6:PSp:=λ _ _=>False
def zc6:Ct:=.never
noncomputable def zp7:PSp:=λ ts Q=>∃i:Nat,i<15/\ts=[.str (tV i)]/\Q (.lst ((yK i).map .int))
noncomputable def zc7:Ct:=(.ret (.compI ["kind","place"] [] [] [0,1] .seq (.a1 (.dk 4 V0)) (.es V0 "step") V1))
noncomputable def zp8:PSp:=λ ts Q=>∃d:Stp,ts=[stT d]/\Q (tI ((cX d).map λ a:Nat=>(a:Int)))
noncomputable def zc8:Ct:=(.ret (.b1 .tuple (.comp ["place"] ["step"] [0] [0] .seq (.a1 (.c1 7 (.x 0 0))) (.ix V1 V0))))
noncomputable def zp9:PSp:=λ ts Q=>∃(t:TV),ts=[t]/\∃ns,(t=tI ns\/t=lI ns)/\aV ns/\Q (.int (ae ns))
noncomputable def zc9:Ct:=(.set 1 N1 (.for [2] .seq (.a1 V0) (.set 1 (.ml V1 V2) .nil) (.ret V1)))
noncomputable def zV:PSp:=λ ts Q=>∃ns,ts=[tI ns]/\aV ns/\ns.length<=63/\Q (.int (ae (ns.map ag)))
noncomputable def Ml:Ct:=(.ret (.c1 9 (.comp ["side"] [] [] [0] .seq (.a1 V0) (.ite (.ne V0 N0) V0 N1))))
noncomputable def zW:PSp:=λ ts Q=>∃ns,ts=[tI ns]/\aV ns/\ns.length<=63/\¬bZ ns/\Q (tI ns)
noncomputable def Mm:Ct:=(.nv (.gt (.ln V0) (.g 2)) (.nv (.gt (.c1 10 V0) (.g 3)) (.ret V0)))
noncomputable def zX:PSp:=λ ts Q=>∃ns,ts=[tI ns]/\aV ns/\ns.length<=63/\Q (tI (stL ns ns.length).reverse)
noncomputable def Mp:Ct:=(.set 1 .l0 (.set 2 N1 (.for [3] (.rev true) (.a1 V0) (.met .append 1 (.a1 V2) (.set 2 (.ml V2 V3) .nil)) (.ret (.trev false V1)))))
noncomputable def zY:PSp:=λ ts Q=>∃(ns ms:LI),ts=[tI ns,tI ms]/\aV ns/\ns.length<=63/\aY ns ms/\Q (.int (plH ns ms))
noncomputable def Mq:Ct:=(.nv (.ne (.ln V1) (.ln V0)) (.for [2,3] (.zip true true) (.a2 V0 V1) (.nv (.or (.lt V3 N0) (.ge V3 V2)) .nil) (.ret (.b1 .sum (.comp ["coordinate","stride"] [] [] [0,1] (.zip true true) (.a2 V1 (.c1 12 V0)) (.ml V0 V1))))))
noncomputable def zZ:PSp:=λ ts Q=>∃(ns:LI) (pl:Int),ts=[tI ns,.int pl]/\aV ns/\ns.length<=63/\0<=pl/\pl<ae ns/\Q (tI (atD ns pl))
noncomputable def Mr:Ct:=(.nv (.or (.lt V1 N0) (.ge V1 (.c1 9 V0))) (.set 2 .l0 (.set 3 V1 (.for [4] (.rev true) (.a1 V0) (.met .append 2 (.a1 (.md V3 V4)) (.set 3 (.dv V3 V4) .nil)) (.ret (.trev false V2))))))
noncomputable def qB:PSp:=λ ts Q=>∃ns,ts=[tI ns]/\aV ns/\ns.length<=63/\ae ns<=512/\Q (.lst ((List.range (ae ns).toNat).map λ i:Nat=>tI (atD ns (i:Int))))
noncomputable def Mt:Ct:=(.ret (.comp ["place"] ["sides"] [0] [0] .rng (.a1 (.c1 9 V0)) (.c2 14 V1 V0)))
noncomputable def Aa:PSp:=λ ts Q=>∃(ns:LI) (k:Nat) (m:Int),ts=[tI ns,.int k,.int m]/\ns.length<=63/\k<ns.length/\Q (tI (ns.set k m))
noncomputable def Mu:Ct:=(.ret (.ad (.ad (.st V0 V1) (.t1 V2)) (.sf V0 (.ad V1 N1))))
noncomputable def Ab:PSp:=λ ts Q=>∃(ns:LI) (k:Nat) (m:Int),ts=[tI ns,.int k,.int m]/\ns.length<=63/\Q (tI (aG ns k m))
noncomputable def Mv:Ct:=(.ret (.ad (.ad (.st V0 V1) (.t1 V2)) (.sf V0 V1)))
noncomputable def Ac:PSp:=λ ts Q=>∃(ns:LI) (k:Nat),ts=[tI ns,.int k]/\ns.length<=63/\k<ns.length/\Q (tI (ns.eraseIdx k))
def Mw:Ct:=(.ret (.ad (.st V0 V1) (.sf V0 (.ad V1 N1))))
noncomputable def Ad:PSp:=λ ts Q=>∃(ns:LI) (side:Int),ts=[tI ns,.int side]/\¬off ns side/\Q .non
def Mx:Ct:=(.nv (.or (.lt V1 N0) (.ge V1 (.ln V0))) .nil)
noncomputable def Ae:PSp:=λ ts Q=>∃(ns os:LI),ts=[tI ns,tI os]/\ns.length<=20/\os.length<=20/\dO ns.length os/\Q (tI (aC ns os))
noncomputable def Mz:Ct:=(.nv (.ne (.b1 .sorted V1) (.lrng false (.ln V0))) (.ret (.b1 .tuple (.comp ["side"] ["sides"] [0] [0] .seq (.a1 V1) (.ix V1 V0)))))
noncomputable def Af:PSp:=λ ts Q=>∃(ns:LI) (side:Int),ts=[tI ns,.int side]/\¬off ns side/\Q (tI ns)
def MA:Ct:=(.ex (.c2 19 V0 V1) (.ret V0))
noncomputable def Ag:PSp:=λ ts Q=>∃(ns:LI) (side first many step:Int),ts=[tI ns,.int side,.int first,.int many,.int step]/\ns.length<=63/\-100<many/\many<1000000/\¬off ns side/\¬bad ns side first many step/\Q (tI (ns.set side.toNat many))
noncomputable def MB:Ct:=(.ex (.c2 19 V0 V1) (.nv (.or (.lt V2 N0) (.or (.lt V3 N0) (.lt V4 N1))) (.nv (.and (.gt V3 N0) (.ge (.ad V2 (.ml (.sb V3 N1) V4)) (.ix V0 V1))) (.ret (.c3 16 V0 V1 V3)))))
noncomputable def Ah:PSp:=λ ts Q=>∃(ns:LI) (side many:Int),ts=[tI ns,.int side,.int many]/\aV ns/\ns.length<=20/\many<1000000/\¬gW ns side/\¬many<0/\¬bZ (aG ns side.toNat many)/\Q (tI (aG ns side.toNat many))
noncomputable def MC:Ct:=(.nv (.or (.lt V1 N0) (.gt V1 (.ln V0))) (.nv (.lt V2 N0) (.ret (.c1 11 (.c3 17 V0 V1 V2)))))
noncomputable def Ai:PSp:=λ ts Q=>∃(ns ms:LI),ts=[tI ns,tI ms]/\aV ns/\aV ms/\ms.length<=20/\¬bZ ms/\ae ns=ae ms/\Q (tI ms)
noncomputable def MD:Ct:=(.ex (.c1 11 V1) (.nv (.ne (.c1 9 V0) (.c1 9 V1)) (.ret V1)))
noncomputable def Aj:PSp:=λ ts Q=>∃(ns ms:LI) (side:Int),ts=[tI ns,tI ms,.int side]/\sm ns/\sm ms/\ns.length<=20/\ns.length=ms.length/\¬off ns side/\ns.eraseIdx side.toNat=ms.eraseIdx side.toNat/\¬bZ (aH ns ms side)/\Q (tI (aH ns ms side))
noncomputable def ME:Ct:=(.nv (.ne (.ln V0) (.ln V1)) (.ex (.c2 19 V0 V2) (.nv (.ne (.c2 18 V0 V2) (.c2 18 V1 V2)) (.ret (.c1 11 (.c3 16 V0 V2 (.ad (.ix V0 V2) (.ix V1 V2))))))))
def Ak:PSp:=λ _ _=>False
def MF:Ct:=.never
def Al:PSp:=λ _ _=>False
def MG:Ct:=.never
def Am:PSp:=λ _ _=>False
def MH:Ct:=.never
def Ao:PSp:=λ _ _=>False
def MI:Ct:=.never
def Ap:PSp:=λ _ _=>False
def MJ:Ct:=.never
def Aq:PSp:=λ _ _=>False
def MK:Ct:=.never
def Ar:PSp:=λ ts Q=>∃d:Stp,ts=[stT d]/\mv6 d/\Q .non
noncomputable def ML:Ct:=(.i (.es (.x 0 0) "each") (.ex (.c2 4 (.x 0 1) N0) .nil) (.i (.es (.x 0 0) "pair") (.ex (.c3 5 (.x 0 1) N0 N0) .nil) (.i (.cmp .In (.x 0 0) (.t2 (.w "fold") (.w "run"))) (.ex (.c1 6 (.x 0 1)) .nil) .nil)))
def As:PSp:=λ _ _=>False
def MN:Ct:=.never
noncomputable def Au:PSp:=λ ts Q=>∃(d:Stp) (S A:LI) (Ss:LL) (a:Nat),ts=[stT d,tI A]/\cX d=[a]/\mv6 d/\Ss[a]?=some A/\fit A/\OkS Ss S d/\fit S/\Q (tI S)
noncomputable def MO:Ct:=(.set 2 (.x 0 0) (.r (.es V2 "turn") (.c2 20 V1 (.x 0 2)) (.r (.es V2 "flip") (.c2 21 V1 (.x 0 2)) (.r (.es V2 "cut") (.call 22 (.cons V1 (.cons (.x 0 2) (.cons (.x 0 3) (.cons (.x 0 4) (.cons (.x 0 5) .nil)))))) (.r (.es V2 "spread") (.c3 23 V1 (.x 0 2) (.x 0 3)) (.r (.es V2 "lay") (.c2 24 V1 (.x 0 2)) (.r (.es V2 "fold") (.c2 30 V1 (.x 0 3)) (.r (.es V2 "run") (.c2 21 V1 (.x 0 3)) (.ret V1)))))))))
noncomputable def Av:PSp:=λ ts Q=>∃(t:TV) (d:Stp) (S:LI) (Ss:LL),ts=[stT d,t]/\t=.tup (Ss.map tI)/\mv6 d/\(∀T∈Ss,fit T)/\OkS Ss S d/\fit S/\Q (tI S)
noncomputable def MP:Ct:=(.ex (.c1 32 V0) (.set 2 (.comp ["number"] ["sides"] [1] [0] .seq (.a1 (.c1 8 V0)) (.ix V1 V0)) (.set 3 (.x 0 0) (.r (.eq (.ln V2) N0) (.c1 33 V0) (.r (.eq (.ln V2) N1) (.c2 34 V0 (.x 2 0)) (.r (.es V3 "pair") (.c2 27 (.x 2 0) (.x 2 1)) (.r (.es V3 "join") (.c3 25 (.x 2 0) (.x 2 1) (.x 0 3)) (.r (.es V3 "fetch") (.c2 29 (.x 2 0) (.x 2 1)) (.ret (.c3 28 (.x 2 0) (.x 2 1) (.x 2 2)))))))))))
noncomputable def Aw:PSp:=λ ts Q=>∃(t:TV) (ns cs:LI),ts=[tI ns,t]/\(t=tI cs\/t=lI cs)/\aV ns/\ns.length<=63/\cs.length<=900/\¬bZ ns/\(cs.length:Int)=ae ns/\Q (.tup [tI ns,tI (cs.map cW)])
noncomputable def MQ:Ct:=(.ex (.c1 11 V0) (.nv (.ne (.ln V1) (.c1 9 V0)) (.ret (.t2 V0 (.b1 .tuple (.comp ["cell"] [] [] [0] .seq (.a1 V1) (.c1 0 V0)))))))
noncomputable def Ax:PSp:=λ ts Q=>∃(ns cs ms:LI),ts=[.tup [tI ns,tI cs],tI ms]/\aV ns/\ns.length<=63/\aY ns ms/\(cs.length:Int)=ae ns/\Q (.int (cs.getD (plH ns ms).toNat 0))
def MR:Ct:=(.ret (.ix (.x 0 1) (.c2 13 (.x 0 0) V1)))
def Ay:PSp:=λ _ _=>False
def MS:Ct:=.never
def Az:PSp:=λ _ _=>False
def MT:Ct:=.never
noncomputable def AA:PSp:=λ ts Q=>∃ns,ts=[tI ns]/\aV ns/\ns.length<=63/\Q (vwT ns 0 (bO ns))
def MU:Ct:=(.ret (.t3 V0 N0 (.c1 12 V0)))
noncomputable def AB:PSp:=λ ts Q=>∃(ns ss os:LI) (b:Int),ts=[vwT ns b ss,tI os]/\ns.length<=6/\ss.length=ns.length/\dO ns.length os/\Q (vwT (aC ns os) b (aC ss os))
noncomputable def MV:Ct:=(.set 2 (.c2 20 (.x 0 0) V1) (.set 3 (.x 0 2) (.set 4 (.b1 .tuple (.comp ["side"] ["strides"] [3] [0] .seq (.a1 V1) (.ix V1 V0))) (.ret (.t3 V2 (.x 0 1) (.ad V4 (.sf V3 (.ln V2))))))))
noncomputable def AC:PSp:=λ ts Q=>∃(ns ss:LI) (b:Int) (k:Nat),ts=[vwT ns b ss,.int k]/\ns.length<=6/\ss.length=ns.length/\k<ns.length/\(∀n∈ns,0<=n/\n<=512)/\Q (vwT ns (b+(ns.getD k 0-1)*ss.getD k 0) (ss.set k (-ss.getD k 0)))
noncomputable def MW:Ct:=(.set 2 (.c2 21 (.x 0 0) V1) (.set 3 (.ix (.x 0 2) V1) (.set 4 (.ad (.x 0 1) (.ml (.sb (.ix V2 V1) N1) V3)) (.fz 4 (.ret (.t3 V2 V4 (.c3 16 (.x 0 2) V1 (.neg V3))))))))
noncomputable def AD:PSp:=λ ts Q=>∃(ns ss:LI) (b f m g:Int) (k:Nat),ts=[vwT ns b ss,.int k,.int f,.int m,.int g]/\ns.length<=6/\ss.length=ns.length/\k<ns.length/\-100<m/\m<1000000/\(-1000000<ss.getD k 0/\ss.getD k 0<1000000)/\¬bad ns k f m g/\Q (vwT (ns.set k m) (b+f*ss.getD k 0) (ss.set k (ss.getD k 0*g)))
noncomputable def MY:Ct:=(.set 5 (.call 22 (.cons (.x 0 0) (.cons V1 (.cons V2 (.cons V3 (.cons V4 .nil)))))) (.set 6 (.ix (.x 0 2) V1) (.ret (.t3 V5 (.ad (.x 0 1) (.ml V2 V6)) (.c3 16 (.x 0 2) V1 (.ml V6 V4))))))
noncomputable def AE:PSp:=λ ts Q=>∃(ns ss:LI) (b m:Int) (k:Nat),ts=[vwT ns b ss,.int k,.int m]/\aV ns/\ns.length<=6/\ss.length=ns.length/\k<=ns.length/\0<=m/\m<1000000/\¬bZ (aG ns k m)/\Q (vwT (aG ns k m) b (aG ss k 0))
noncomputable def MZ:Ct:=(.set 3 (.c3 23 (.x 0 0) V1 V2) (.ret (.t3 V3 (.x 0 1) (.c3 17 (.x 0 2) V1 N0))))
def AF:PSp:=λ _ _=>False
def Na:Ct:=.never
noncomputable def AG:PSp:=λ ts Q=>∃(d:Stp) (A S:LI) (Ss:LL),ts=[stT d,vwT A 0 (bO A)]/\mv4 d/\Ss[(cX d).headD 0]?=some A/\ax 40 A/\OkS Ss S d/\ax 40 S/\Q (vwT S (mvV A d).1 (mvV A d).2)
noncomputable def Nb:Ct:=(.r (.es (.x 0 0) "turn") (.c2 41 V1 (.x 0 2)) (.r (.es (.x 0 0) "flip") (.c2 42 V1 (.x 0 2)) (.r (.es (.x 0 0) "cut") (.call 43 (.cons V1 (.cons (.x 0 2) (.cons (.x 0 3) (.cons (.x 0 4) (.cons (.x 0 5) .nil)))))) (.ret (.c3 44 V1 (.x 0 2) (.x 0 3))))))
noncomputable def AH:PSp:=λ ts Q=>∃(S ss ms:LI) (b:Int),ts=[vwT S b ss,tI ms]/\ms.length=ss.length/\ms.length<=20/\(∀m∈ms,-100000000<m/\m<100000000)/\(∀(i:Nat) m n,S[i]?=some n->ms[i]?=some m->0<=m/\m<n)/\Q (.int (b+aQ ms ss))
noncomputable def Nc:Ct:=(.nv (.ne (.ln V1) (.ln (.x 0 2))) (.for [2,3] (.zip true true) (.a2 (.x 0 0) V1) (.nv (.or (.lt V3 N0) (.ge V3 V2)) .nil) (.ret (.ad (.x 0 1) (.b1 .sum (.comp ["coordinate","stride"] [] [] [0,1] (.zip true true) (.a2 V1 (.x 0 2)) (.ml V0 V1)))))))
def AI:PSp:=λ _ _=>False
def Nd:Ct:=.never
noncomputable def AJ:PSp:=λ ts Q=>∃(a b k:Nat) (A B ms:LI) (Ss:LL),ts=[stT (.join a b k),.tup (Ss.map tI),tI ms]/\Ss[a]?=some A/\Ss[b]?=some B/\aV A/\aV B/\A.length<=6/\B.length<=6/\k<A.length/\ms.length=A.length/\(ms.getD k 0<A.getD k 0->aY A ms)/\(¬ms.getD k 0<A.getD k 0->aY B (ms.set k (ms.getD k 0-A.getD k 0)))/\Q (.lst [kT (iS a b A B k ms)])
noncomputable def Nf:Ct:=(.set 3 (.x 0 3) (.set 4 (.ix (.ix V1 (.x 0 1)) V3) (.r (.lt (.ix V2 V3) V4) (.lst (.a1 (.t2 (.x 0 1) (.c2 13 (.ix V1 (.x 0 1)) V2)))) (.ret (.lst (.a1 (.t2 (.x 0 2) (.c2 13 (.ix V1 (.x 0 2)) (.c3 16 V2 V3 (.sb (.ix V2 V3) V4))))))))))
def AK:PSp:=λ _ _=>False
def Ng:Ct:=.never
def AL:PSp:=λ _ _=>False
def Nh:Ct:=.never
noncomputable def AM:PSp:=λ ts Q=>∃(d:Stp) (S:LI) (Ss:LL) (pl:Int),ts=[stT d,.tup (Ss.map tI),.int pl]/\(∀T∈Ss,ax 40 T)/\OkS Ss S d/\ax 40 S/\0<=pl/\pl<ae S/\mv6 d/\Q (.lst [kT (mvQ Ss S pl d)])
noncomputable def Ni:Ct:=(.set 3 (.c2 14 (.c2 35 V0 V1) V2) (.set 4 (.x 0 0) (.r (.es V4 "join") (.c3 49 V0 V1 V3) (.r (.es V4 "lay") (.lst (.a1 (.t2 (.x 0 1) V2))) (.r (.cmp .In V4 (.tup (.cons (.w "turn") (.cons (.w "flip") (.cons (.w "cut") (.cons (.w "spread") .nil)))))) (.lst (.a1 (.t2 (.x 0 1) (.c2 47 (.c2 46 V0 (.c1 40 (.ix V1 (.x 0 1)))) V3)))) .never)))))
def AN:PSp:=λ _ _=>False
def Nj:Ct:=.never
def AO:PSp:=λ _ _=>False
def Nk:Ct:=.never
def AQ:PSp:=λ _ _=>False
def Nl:Ct:=.never
def AR:PSp:=λ _ _=>False
def Nm:Ct:=.never
def AS:PSp:=λ _ _=>False
def No:Ct:=.never
def AT:PSp:=λ _ _=>False
def Np:Ct:=.never
def AU:PSp:=λ _ _=>False
def Nq:Ct:=.never
def AW:PSp:=λ _ _=>False
def Nr:Ct:=.never
noncomputable def AX:PSp:=λ ts Q=>∃(ns cs os:LI),ts=[.tup [tI ns,tI cs],tI os]/\sm ns/\ns.length<=20/\os.length<=20/\ae (ns.map ag)<=512/\(cs.length:Int)=ae ns/\dO ns.length os/\Q (.tup [tI (aC ns os),tI (bT ns cs (aC ns os) (cY os))])
noncomputable def Nt:Ct:=(.set 2 (.c2 20 (.x 0 0) V1) (.set 3 (.comp ["side"] ["order"] [1] [0] .rng (.a1 (.ln V1)) (.idx 1 V0)) (.fz 3 .nil)))
def Nu:Cd:=V2
noncomputable def Nv:Cd:=(.c2 37 V1 (.b1 .tuple (.comp ["place"] ["at"] [0] [0] .seq (.a1 V2) (.ix V1 V0))))
noncomputable def AY:PSp:=λ ts Q=>∃(ns cs:LI) (side:Int),ts=[.tup [tI ns,tI cs],.int side]/\sm ns/\ns.length<=20/\ae (ns.map ag)<=512/\(cs.length:Int)=ae ns/\¬off ns side/\Q (.tup [tI ns,tI (bT ns cs ns (iO ns side.toNat))])
def Nw:Ct:=(.set 2 (.c2 21 (.x 0 0) V1) .nil)
def Nx:Cd:=V2
noncomputable def Ny:Cd:=(.c2 37 V1 (.c3 16 V0 V3 (.sb (.sb (.ix V2 V3) N1) (.ix V0 V3))))
noncomputable def AZ:PSp:=λ ts Q=>∃(ns cs:LI) (side f m g:Int),ts=[.tup [tI ns,tI cs],.int side,.int f,.int m,.int g]/\sm ns/\ns.length<=20/\ae (ns.map ag)<=512/\(cs.length:Int)=ae ns/\-100<m/\m<1000000/\¬off ns side/\¬bad ns side f m g/\Q (.tup [tI (ns.set side.toNat m),tI (bT ns cs (ns.set side.toNat m) (iP side.toNat f g))])
noncomputable def Nz:Ct:=(.set 5 (.call 22 (.cons (.x 0 0) (.cons V1 (.cons V2 (.cons V3 (.cons V4 .nil)))))) .nil)
def NA:Cd:=V5
noncomputable def NB:Cd:=(.c2 37 V1 (.c3 16 V0 V3 (.ad V4 (.ml (.ix V0 V3) V2))))
noncomputable def Ba:PSp:=λ ts Q=>∃(ns cs:LI) (side many:Int),ts=[.tup [tI ns,tI cs],.int side,.int many]/\aV ns/\ns.length<=20/\(cs.length:Int)=ae ns/\many<1000000/\¬gW ns side/\¬many<0/\¬bZ (aG ns side.toNat many)/\Q (.tup [tI (aG ns side.toNat many),tI ((List.range (ae (aG ns side.toNat many)).toNat).map (qk ns cs side.toNat many))])
def NC:Ct:=(.set 3 (.c3 23 (.x 0 0) V1 V2) .nil)
def ND:Cd:=V3
def NE:Cd:=(.c2 37 V1 (.c2 18 V0 V2))
noncomputable def Bb:PSp:=λ ts Q=>∃(ns cs ms:LI),ts=[.tup [tI ns,tI cs],tI ms]/\aV ns/\aV ms/\ms.length<=20/\¬bZ ms/\ae ns=ae ms/\Q (.tup [tI ms,tI cs])
def NF:Ct:=(.ret (.t2 (.c2 24 (.x 0 0) V1) (.x 0 1)))
noncomputable def Bc:PSp:=λ ts Q=>∃(ns cs ms ds:LI) (side:Int),ts=[.tup [tI ns,tI cs],.tup [tI ms,tI ds],.int side]/\sm ns/\sm ms/\ns.length<=20/\(cs.length:Int)=ae ns/\(ds.length:Int)=ae ms/\ns.length=ms.length/\¬off ns side/\ns.eraseIdx side.toNat=ms.eraseIdx side.toNat/\¬bZ (aH ns ms side)/\Q (.tup [tI (aH ns ms side),tI ((List.range (ae (aH ns ms side)).toNat).map λ i:Nat=>iN ns cs ms ds side.toNat (atD (aH ns ms side) (i:Int)))])
noncomputable def NG:Ct:=(.set 3 (.c3 25 (.x 0 0) (.x 1 0) V2) (.set 4 (.ix (.x 0 0) V2) .nil))
def NH:Cd:=V3
noncomputable def NI:Ct:=(.r (.lt (.ix V0 V2) V4) (.c2 37 V1 V0) (.ret (.c2 37 V3 (.c3 16 V0 V2 (.sb (.ix V0 V2) V4)))))
noncomputable def Bd:PSp:=λ ts Q=>∃(d:Stp) (S:LI) (A:Tb) (Ts:List Tb) (a:Nat) (mo:Int),ts=[stT d,tbT A]/\cX d=[a]/\mv6 d/\Ts[a]?=some A/\TbG mo A/\cq mo/\OkS (Ts.map (·.1)) S d/\ax mo S/\Q (.tup [tI S,tI (dP Ts d)])
noncomputable def NJ:Ct:=(.set 2 (.x 0 0) (.r (.es V2 "each") (.c2 56 (.x 0 1) V1) (.r (.es V2 "turn") (.c2 61 V1 (.x 0 2)) (.r (.es V2 "flip") (.c2 62 V1 (.x 0 2)) (.r (.es V2 "cut") (.call 63 (.cons V1 (.cons (.x 0 2) (.cons (.x 0 3) (.cons (.x 0 4) (.cons (.x 0 5) .nil)))))) (.r (.es V2 "spread") (.c3 64 V1 (.x 0 2) (.x 0 3)) (.r (.es V2 "lay") (.c2 65 V1 (.x 0 2)) (.r (.es V2 "fold") (.c3 53 (.x 0 1) V1 (.x 0 3)) (.ret (.c3 54 (.x 0 1) V1 (.x 0 3)))))))))))
noncomputable def Be:PSp:=λ ts Q=>∃(t:TV) (d:Stp) (S:LI) (Ts:List Tb) (mo:Int),ts=[stT d,t]/\t=.lst (Ts.map tbT)/\mv6 d/\(∀T∈Ts,TbG mo T)/\cq mo/\OkS (Ts.map (·.1)) S d/\ax mo S/\Q (.tup [tI S,tI (dP Ts d)])
noncomputable def NK:Ct:=(.set 2 (.x 0 0) (.set 3 (.comp ["number"] ["tabs"] [1] [0] .seq (.a1 (.c1 8 V0)) (.ix V1 V0)) (.r (.es V2 "num") (.c1 38 (.x 0 1)) (.r (.es V2 "count") (.c2 60 (.x 0 1) (.x 0 2)) (.r (.es V2 "pair") (.c3 57 (.x 0 1) (.x 3 0) (.x 3 1)) (.r (.es V2 "pick") (.c3 58 (.x 3 0) (.x 3 1) (.x 3 2)) (.r (.es V2 "join") (.c3 66 (.x 3 0) (.x 3 1) (.x 0 3)) (.r (.es V2 "fetch") (.c2 59 (.x 3 0) (.x 3 1)) (.ret (.c2 67 V0 (.x 3 0)))))))))))
noncomputable def Bf:PSp:=λ ts Q=>∃(t:TV) (ns:LI),ts=[t]/\(t=tI ns\/t=lI ns)/\aV ns/\Q (.int (ae ns))
noncomputable def NL:Ct:=(.set 1 N1 (.for [2] .seq (.a1 V0) (.set 1 (.ml V1 V2) .nil) (.ret V1)))
noncomputable def Bg:PSp:=λ ts Q=>∃ns:LI,ts=[tI ns]/\aV ns/\ns.length<=500/\Q (.int (ae (ns.map ag)))
noncomputable def NM:Ct:=(.ret (.c1 69 (.comp ["length"] [] [] [0] .seq (.a1 V0) (.b2 .max N1 V0))))
def Bh:PSp:=λ ts Q=>∃n:Int,ts=[.int n]/\Q (.int (nq n))
noncomputable def NN:Ct:=(.r (.eq (.md V0 (.n 17)) N5) (.ix (.lst (.cons (.neg (.bin .Pow N2 (.n 63))) (.cons (.sb (.bin .Pow N2 (.n 63)) N1) (.cons (.neg N1) (.cons (.bin .Pow N2 (.n 62)) .nil))))) (.md (.dv V0 (.n 17)) N4)) (.ret (.sb (.md (.ad V0 (.bin .Pow N2 (.n 63))) (.bin .Pow N2 (.n 64))) (.bin .Pow N2 (.n 63)))))
noncomputable def Bi:PSp:=λ ts Q=>∃(ks:LI) (d:Int),ts=[lI ks,.int d]/\0<ks.length/\ks.length<1000000/\∀k∈ks,Q (.int k)
noncomputable def NO:Ct:=(.r (.eq (.md V1 N3) N0) (.ix V0 (.md (.dv V1 N3) (.ln V0))) (.ret (.ix V0 (.sb (.sb (.ln V0) N1) (.md (.dv V1 N3) (.b2 .min N3 (.ln V0)))))))
noncomputable def Bj:PSp:=λ ts Q=>∃kd n cell mo:Int,ts=[.int kd,.int n,.int cell,.int mo]/\cq mo/\∀d S,(∀Ss,OkS Ss S d)->ax mo S->Q (mdT d S)
noncomputable def NP:Ct:=(.r (.eq V0 N1) (.t2 (.t2 (.w "num") (.c1 71 V2)) .t0) (.set 4 .t0 (.set 5 (.dv V1 (.n 15)) (.for [6] .rng (.a1 (.md V5 N5)) (.set 5 (.dv V5 N5) (.set 7 (.dv V3 (.c1 70 V4)) (.set 8 (.b2 .min (.ix (.lst (.cons N2 (.cons N3 (.cons N1 (.cons N4 (.cons N2 (.cons N3 (.cons N0 .nil)))))))) (.md V5 N7)) V7) (.i (.eq (.md V5 N11) N10) (.set 8 V7 .nil) (.set 4 (.ad V4 (.t1 V8)) .nil))))) (.i (.eq V0 N0) (.fz 4 (.ret (.t2 (.t2 (.w "in") V4) V4))) (.i (.eq V4 .t0) (.set 4 (.t1 (.b2 .min N3 V3)) .nil) (.fz 4 (.ret (.t2 (.t3 (.w "count") V4 (.md (.dv V1 (.n 15)) (.ln V4))) V4)))))))))
noncomputable def Bk:PSp:=λ ts Q=>∃(ns ms:LI),ts=[tI ns,tI ms]/\∀b,(b=true ↔ dg ns ms)->Q (.bl b)
noncomputable def NQ:Ct:=(.set 2 (.b2 .min (.ln V0) (.ln V1)) (.ret (.eq (.st V0 V2) (.st V1 V2))))
noncomputable def Bl:PSp:=λ ts Q=>∃(kd d0 d1 d2 mo:Int) (Ss:LL),ts=[.int kd,lI [d0,d1,d2],.lst (Ss.map tI)]/\0<Ss.length/\Ss.length<=40/\(∀S∈Ss,ax mo S)/\∀d S,OkS Ss S d->ax mo S->Q (mdT d S)
noncomputable def NR:Ct:=(.set 3 (.lrng false (.ln V2)) (.set 4 (.c2 72 V3 (.x 1 0)) (.r (.eq V0 N3) (.t2 (.t3 (.w "each") (.ix (.lst (.cons (.w "neg") (.cons (.w "abs") (.cons (.w "sign") (.cons (.w "not") .nil))))) (.md (.x 1 2) N4)) V4) (.ix V2 V4)) (.set 5 (.compI ["k"] ["sides","a"] [2,4] [0] .seq (.a1 V3) (.c2 74 (.ix V1 V2) (.ix V1 V0)) V0) (.set 6 (.c2 72 V5 (.x 1 1)) (.set 7 (.mxl (.ix V2 V4) (.ix V2 V6)) (.i (.eq V0 N4) (.set 8 (.lst (.cons (.w "add") (.cons (.w "sub") (.cons (.w "mul") (.cons (.w "quo") (.cons (.w "rest") (.cons (.w "max") (.cons (.w "min") (.cons (.w "less") (.cons (.w "like") (.cons (.w "and") (.cons (.w "or") (.cons (.w "xor") .nil))))))))))))) (.ret (.t2 (.tup (.cons (.w "pair") (.cons (.ix V8 (.md (.x 1 2) (.n 12))) (.cons V4 (.cons V6 .nil))))) V7))) (.set 5 (.compI ["k"] ["sides","b"] [2,6] [0] .seq (.a1 V5) (.c2 74 (.ix V1 V2) (.ix V1 V0)) V0) (.set 9 (.c2 72 V5 (.x 1 2)) (.ret (.t2 (.tup (.cons (.w "pick") (.cons V4 (.cons V6 (.cons V9 .nil))))) (.mxl V7 (.ix V2 V9)))))))))))))
noncomputable def Bm:PSp:=λ ts Q=>∃(ns:LI) (d mo:Int),ts=[tI ns,.int d]/\ax mo ns/\cq mo/\Q (tI (jJ ns d))
noncomputable def NS:Ct:=(.set 2 (.c1 69 V0) (.r (.eq (.md V1 N4) N1) (.t1 V2) (.r (.and (.eq (.md V1 N4) N2) (.lt (.ln V0) N6)) (.ad (.t1 N1) V0) (.r (.and (.eq (.md V1 N4) N3) (.eq (.md V2 N2) N0)) (.t2 (.dv V2 N2) N2) (.ret (.trev true V0))))))
noncomputable def Bn:PSp:=λ ts Q=>∃(kd d0 d1 d2 mo:Int) (a:Nat) (A:LI) (Ss:LL),ts=[.int kd,lI [d0,d1,d2],.int a,tI A,.int mo]/\Ss[a]?=some A/\ax mo A/\cq mo/\∀d S,OkS Ss S d->ax mo S->Q (mdT d S)
noncomputable def NT:Ct:=(.i (.eq V0 N6) (.set 5 .l0 (.set 6 (.x 1 2) (.for [7] .rng (.a1 (.ln V3)) (.met .insert 5 (.a2 (.md V6 (.ad V7 N1)) V7) (.set 6 (.dv V6 (.ad V7 N1)) .nil)) (.ret (.t2 (.t3 (.w "turn") V2 (.b1 .tuple V5)) (.b1 .tuple (.comp ["k"] ["own"] [3] [0] .seq (.a1 V5) (.ix V1 V0)))))))) (.r (.eq V0 N10) (.t2 (.t3 (.w "lay") V2 (.c2 76 V3 (.x 1 2))) (.c2 76 V3 (.x 1 2))) (.i (.or (.eq V3 .t0) (.and (.eq V0 N9) (.lt (.ln V3) N6))) (.set 8 (.md (.x 1 1) (.ad (.ln V3) N1)) (.set 9 (.ad N1 (.md (.x 1 2) (.b2 .min N4 (.dv V4 (.c1 70 V3))))) (.i (.eq (.md (.x 1 2) N9) N8) (.set 9 N0 .nil) (.fz 9 (.fz 8 (.ret (.t2 (.tup (.cons (.w "spread") (.cons V2 (.cons V8 (.cons V9 .nil))))) (.ad (.ad (.st V3 V8) (.t1 V9)) (.sf V3 V8))))))))) (.set 10 (.md (.x 1 1) (.ln V3)) (.i (.ne V0 N8) (.fz 10 (.ret (.t2 (.t3 (.w "flip") V2 V10) V3))) (.set 11 (.ad N1 (.md (.x 1 2) N3)) (.set 12 (.md (.dv (.x 1 2) N3) (.b2 .max N1 (.ix V3 V10))) (.set 13 (.b2 .max N0 (.sb (.ad (.dv (.sb (.sb (.ix V3 V10) N1) (.v 12)) V11) N1) (.md (.dv (.x 1 2) (.n 300)) N3))) (.fz 11 (.fz 12 (.fz 10 (.ret (.t2 (.tup (.cons (.w "cut") (.cons V2 (.cons V10 (.cons (.v 12) (.cons (.v 13) (.cons V11 .nil))))))) (.ad (.ad (.st V3 V10) (.t1 (.v 13))) (.sf V3 (.ad V10 N1))))))))))))))))
noncomputable def Bo:PSp:=λ ts Q=>∃(A B:LI) (k:Nat),ts=[tI A,tI B,.int k]/\k<A.length/\A.length<=6/\B.length<=6/\Q (tI (eO A B k))
noncomputable def NU:Ct:=(.r (.or (.ne (.ln V0) (.ln V1)) (.ne (.ad (.st V0 V2) (.sf V0 (.ad V2 N1))) (.ad (.st V1 V2) (.sf V1 (.ad V2 N1))))) .t0 (.ret (.ad (.ad (.st V0 V2) (.t1 (.ad (.ix V0 V2) (.ix V1 V2)))) (.sf V0 (.ad V2 N1)))))
noncomputable def Bp:PSp:=λ ts Q=>∃(kd d0 d1 d2 mo:Int) (Ss:LL),ts=[.int kd,lI [d0,d1,d2],.lst (Ss.map tI),.int mo]/\(∃S∈Ss,0<S.length)/\11<=kd/\kd<=14/\Ss.length<=40/\(∀S∈Ss,ax mo S)/\cq mo/\∀d S,OkS Ss S d->ax mo S->Q (mdT d S)
noncomputable def NV:Ct:=(.set 4 (.compI ["k"] ["sides"] [2] [0] .rng (.a1 (.ln V2)) (.ne (.ix V1 V0) .t0) V0) (.set 5 (.c2 72 V4 (.x 1 0)) (.set 6 (.ix V2 V5) (.set 7 (.md (.x 1 1) (.ln V6)) (.set 8 (.lst (.cons (.w "add") (.cons (.w "mul") (.cons (.w "max") (.cons (.w "min") (.cons (.w "and") (.cons (.w "or") (.cons (.w "xor") .nil)))))))) (.i (.eq V0 (.n 13)) (.fz 7 (.ret (.t2 (.tup (.cons (.w "fold") (.cons (.ix V8 (.md (.x 1 2) N7)) (.cons V5 (.cons V7 .nil))))) (.ad (.st V6 V7) (.sf V6 (.ad V7 N1)))))) (.i (.eq V0 (.n 14)) (.fz 7 (.ret (.t2 (.tup (.cons (.w "run") (.cons (.ix V8 (.md (.x 1 2) N7)) (.cons V5 (.cons V7 .nil))))) V6))) (.set 9 (.lst (.a1 .t0)) (.ite (.eq V0 N11) (.set 9 (.comp ["other"] ["own","side"] [6,7] [0] .seq (.a1 V2) (.c3 78 V1 V0 V2)) .nil) (.i (.gt (.x 6 0) N0) (.set 9 (.comp ["other"] ["own"] [6] [0] .seq (.a1 V2) (.ad V0 (.sf V1 N1))) .nil) .nil) (.set 10 (.compI ["k"] ["kind","made","own"] [0,9,6] [0] .rng (.a1 (.ln V9)) (.or (.and (.eq V1 (.n 12)) (.gt (.x 3 0) N0)) (.ne (.ix V2 V0) .t0)) V0) (.set 10 (.compI ["k"] ["most","made"] [3,9] [0] .seq (.a1 V10) (.and (.cmp .LtE (.ln (.ix V2 V0)) N6) (.cmp .LtE (.c1 70 (.ix V2 V0)) V1)) V0) (.i (.eq (.ln V10) N0) (.fz 7 (.ret (.t2 (.t3 (.w "flip") V5 V7) V6))) (.set 11 (.c2 72 V10 (.x 1 2)) (.i (.eq V0 N11) (.fz 7 (.ret (.t2 (.tup (.cons (.w "join") (.cons V5 (.cons V11 (.cons V7 .nil))))) (.ix V9 V11)))) (.ret (.t2 (.t3 (.w "fetch") V5 V11) (.ix V9 V11)))))))))))))))))
noncomputable def Bq:PSp:=λ ts Q=>∃(cell mo:Int) (Ss:LL),ts=[.int cell,.lst (Ss.map tI),.int mo]/\Ss.length<=40/\(∀S∈Ss,ax mo S)/\cq mo/\∀d S,OkS Ss S d->ax mo S->Q (mdT d S)
noncomputable def NW:Ct:=(.set 3 (.md (.ml V0 (.n 48271)) (.n 2147483647)) (.set 4 (.md V3 (.n 15)) (.set 5 (.lst (.a3 (.md (.dv V3 (.n 15)) (.n 120)) (.md (.dv V3 (.n 1800)) (.n 120)) (.dv V3 (.n 216000)))) (.r (.or (.eq (.ln V1) N0) (.lt V4 N3)) (.call 73 (.cons (.md V4 N3) (.cons V3 (.cons V0 (.cons V2 .nil))))) (.r (.lt V4 N6) (.c3 75 V4 V5 V1) (.r (.and (.gt V4 N10) (.gt (.b1 .max (.comp ["own"] [] [] [0] .seq (.a1 V1) (.ln V0))) N0)) (.call 79 (.cons V4 (.cons V5 (.cons V1 (.cons V2 .nil))))) (.set 6 (.c2 72 (.lrng false (.ln V1)) (.x 5 0)) (.ret (.call 77 (.cons (.b2 .min V4 (.sb N10 (.b1 .int (.gt V4 N10)))) (.cons V5 (.cons V6 (.cons (.ix V1 V6) (.cons V2 .nil))))))))))))))
noncomputable def Br:PSp:=λ ts Q=>∃(cs:LI) (mo:Int),ts=[lI cs,.int mo]/\cs.length<=40/\cq mo/\∀ds Ss os,KS mo ds Ss os->Q (.tup [.tup (ds.map stT),tI os,.lst (Ss.map tI)])
noncomputable def NX:Ct:=(.set 2 .l0 (.set 3 .l0 (.for [4] .seq (.a1 V0) (.set 5 (.c3 80 V4 V3 V1) (.met .append 2 (.a1 (.x 5 0)) (.met .append 3 (.a1 (.x 5 1)) .nil))) (.i (.eq (.ln V2) N0) (.met .append 2 (.a1 (.t2 (.w "num") N0)) (.met .append 3 (.a1 .t0) .nil)) (.set 6 .l0 (.set 7 (.md (.ml (.b1 .sum V0) (.n 16807)) (.n 2147483647)) (.for [8] .rng (.a1 (.ix (.lst (.cons N1 (.cons N2 (.cons N3 (.cons N2 (.cons N1 (.cons N8 .nil))))))) (.md V7 N6))) (.set 7 (.md (.ad (.ml V7 (.n 48271)) N11) (.n 2147483647)) (.met .append 6 (.a1 (.md (.dv V7 (.n 16)) (.ln V2))) .nil)) (.put 6 (.md V7 (.ln V6)) (.sb (.ln V2) N1) (.fz 3 (.ret (.t3 (.b1 .tuple V2) (.b1 .tuple V6) V3)))))))))))
noncomputable def Bt:PSp:=λ ts Q=>∃ms:LL,ts=[.lst (ms.map kT)]/\(∀m∈ms,m.length=2)/\Q (.bl true)
noncomputable def NY:Ct:=(.r (.not (.isi .isL V0)) (.c (.bl false)) (.for [1] .seq (.a1 V0) (.r (.or (.not (.isi .isT V1)) (.ne (.ln V1) N2)) (.c (.bl false)) (.for [2] .seq (.a1 V1) (.r (.or (.not (.isi .isI V2)) (.isi .isB V2)) (.c (.bl false)) .nil) .nil)) (.ret (.c (.bl true)))))
noncomputable def Bu:PSp:=λ ts Q=>∃(d:Stp) (S:LI) (Ss:LL) (pl:Int),ts=[stT d,.tup (Ss.map tI),.int pl]/\(∀T∈Ss,ax 40 T)/\OkS Ss S d/\ax 40 S/\mv6 d/\(pl<0\/ae S<=pl)/\Q (.bl true)
def NZ:Ct:=(.set 3 (.c (.bl false)) .nil)
def Oa:Ct:=(.ex (.c3 52 V0 V1 V2) .nil)
noncomputable def Ob:Cq:=(.ex (.call 52 (.a3 (.v 0) (.v 1) (.v 2))) (.call 52 (.a3 (.v 0) (.v 1) (.v 2))) .nil)
def Oc:List (Nat×Cs):=[(0,.set 3 (.bl true))]
def Od:Ct:=(.ret V3)
noncomputable def Bv:PSp:=λ ts Q=>∃(d:Stp) (S:LI) (Ss:LL) (k:Nat),ts=[stT d,.tup (Ss.map tI),.lst ((aJ Ss k).map tbT)]/\k<=Ss.length/\k<=40/\(∀T∈Ss,ax 40 T)/\OkS (Ss.take k) S d/\ax 40 S/\mv6 d/\Q (.bl true)
noncomputable def Oe:Ct:=(.set 3 (.ix (.c2 68 V0 V2) N1) (.for [4] .rng (.a1 (.ln V3)) (.set 5 (.c3 52 V0 V1 V4) (.r (.or (.not (.c1 82 V5)) (.ne (.ln V5) N1)) (.c (.bl false)) (.r (.or (.not (.cm2 .LtE .Lt N0 (.ix (.x 5 0) N1) (.n 1000))) (.ne (.ad (.ml (.n 1000) (.ix (.x 5 0) N0)) (.ix (.x 5 0) N1)) (.ix V3 V4))) (.c (.bl false)) .nil))) (.ret (.and (.c3 83 V0 V1 (.neg N1)) (.c3 83 V0 V1 (.ln V3))))))
noncomputable def Bw:PSp:=λ ts Q=>∃(cs:LI) (mo:Int),ts=[lI cs,.int mo]/\cs.length<=40/\(2<=mo/\mo<=40)/\Q (.bl true)
noncomputable def Of:Ct:=(.set 2 (.c2 81 V0 V1) (.set 3 (.b1 .tuple (.x 2 2)) (.set 4 .l0 (.for [5] .rng (.a1 (.ln V3)) (.met .append 4 (.a1 (.t2 (.ix V3 V5) (.b1 .tuple (.comp ["n"] ["k"] [5] [0] .rng (.a1 (.c1 69 (.ix V3 V5))) (.ad (.ml (.n 1000) V1) V0))))) .nil) (.for [5] .rng (.a1 (.ln V3)) (.i (.cmp .In (.ix (.ix (.x 2 0) V5) N0) (.tup (.cons (.w "turn") (.cons (.w "flip") (.cons (.w "cut") (.cons (.w "spread") (.cons (.w "lay") (.cons (.w "join") .nil)))))))) (.r (.not (.c3 84 (.ix (.x 2 0) V5) V3 (.st V4 V5))) (.c (.bl false)) .nil) .nil) (.ret (.c (.bl true))))))))
def Bx:PSp:=pN
noncomputable def Og:Ct:=(.set 1 N10 (.i (.eq (.md (.b1 .sum V0) N8) N3) (.set 1 (.n 40) .nil) (.for [2] .rng3 (.a3 N0 (.b2 .max N1 (.ln V0)) N7) (.r (.not (.c2 85 (.sl V0 V2 (.ad V2 N7)) V1)) (.c (.bl false)) .nil) (.ret (.c (.bl true))))))
noncomputable def DL:List DR:=[dr "wrapped" ["n"] zp0,dr "sign_of" ["x"] zp1,dr "quotient" ["x","y"] zp2,dr "remainder" ["x","y"] zp3,dr "once" ["word","x"] zp4,dr "twice" ["word","x","y"] zp5,dr "neutral" ["word"] zp6,dr "arg_places" ["form"] zp7,dr "args_of" ["step"] zp8,dr "amount" ["sides"] zp9,dr "breadth" ["sides"] zV,dr "allowed" ["sides"] zW,dr "strides_of" ["sides"] zX,dr "place_of" ["sides","at"] zY,dr "at_of" ["sides","place"] zZ,dr "all_at" ["sides"] qB,dr "changed_at" ["row","k","number"] Aa,dr "added_at" ["row","k","number"] Ab,dr "dropped_at" ["row","k"] Ac,dr "ask_side" ["sides","side"] Ad,dr "turned_sides" ["sides","order"] Ae,dr "flipped_sides" ["sides","side"] Af,dr "cut_sides" ["sides","side","first","many","step"] Ag,dr "spread_sides" ["sides","side","many"] Ah,dr "laid_sides" ["sides","others"] Ai,dr "joined_sides" ["sides","others","side"] Aj,dr "led_sides" ["sides","others"] Ak,dr "paired_sides" ["sides","others"] Al,dr "picked_sides" ["marks","sides","others"] Am,dr "fetched_sides" ["sides","others"] Ao,dr "folded_sides" ["sides","side"] Ap,dr "counted_sides" ["sides","side"] Aq,dr "ask_word" ["step"] Ar,dr "first_sides" ["step"] As,dr "moved_sides" ["step","sides"] Au,dr "step_sides" ["step","sides"] Av,dr "table_of" ["sides","cells"] Aw,dr "cell_at" ["tab","at"] Ax,dr "alone" ["n"] Ay,dr "table_by" ["sides","number_at"] Az,dr "plain_view" ["sides"] AA,dr "turned_view" ["view","order"] AB,dr "flipped_view" ["view","side"] AC,dr "cut_view" ["view","side","first","many","step"] AD,dr "spread_view" ["view","side","many"] AE,dr "inner_view" ["view","side"] AF,dr "moved_view" ["step","view"] AG,dr "spot_of" ["view","at"] AH,dr "places_along" ["sides","side","at","many"] AI,dr "joined_looks" ["step","sides","at"] AJ,dr "fetched_looks" ["step","sides","at"] AK,dr "put_together_looks" ["step","sides","at"] AL,dr "looks_in" ["step","sides","place"] AM,dr "fold" ["word","tab","side"] AN,dr "run" ["word","tab","side"] AO,dr "lead" ["tab","sides"] AQ,dr "each" ["word","tab"] AR,dr "pair" ["word","tab","other"] AS,dr "pick" ["marks","tab","other"] AT,dr "fetch" ["tab","other"] AU,dr "counted" ["sides","side"] AW,dr "turn" ["tab","order"] AX,dr "flip" ["tab","side"] AY,dr "cut" ["tab","side","first","many","step"] AZ,dr "spread" ["tab","side","many"] Ba,dr "lay" ["tab","sides"] Bb,dr "join" ["tab","other","side"] Bc,dr "moved_table" ["step","tab"] Bd,dr "step_table" ["step","tabs"] Be,dr "_law_size" ["sides"] Bf,dr "_law_wide" ["sides"] Bg,dr "_law_number" ["n"] Bh,dr "_law_recent" ["pool","d"] Bi,dr "_law_begun" ["kind","n","cell","most"] Bj,dr "_law_led" ["one","other"] Bk,dr "_law_lifted" ["kind","d","sides"] Bl,dr "_law_laid" ["own","d"] Bm,dr "_law_moved" ["kind","d","a","own","most"] Bn,dr "_law_both" ["own","other","side"] Bo,dr "_law_met" ["kind","d","sides","most"] Bp,dr "_law_step" ["cell","sides","most"] Bq,dr "_law_program" ["cells","most"] Br,dr "_law_pairs" ["found"] Bt,dr "_law_refused" ["step","sides","place"] Bu,dr "_law_taken" ["step","sides","tabs"] Bv,dr "_law_all" ["cells","most"] Bw,dr "law" ["script"] Bx]
noncomputable def gs:List Str:=["LOW","HIGH","MOST_SIDES","MOST_BREADTH","PARTS"]
noncomputable def GT:List TV:=[.int (-9223372036854775808),.int 9223372036854775807,.int 6,.int 512,.bor [.tup [.str "in",.tup [.tup [.str "sides",.int 1]]],.tup [.str "num",.tup [.tup [.str "number",.int 1]]],.tup [.str "count",.tup [.tup [.str "small",.int 2],.tup [.str "sides",.int 1]]],.tup [.str "each",.tup [.tup [.str "word",.int 1],.tup [.str "step",.int 2]]],.tup [.str "pair",.tup [.tup [.str "word",.int 1],.tup [.str "step",.int 2],.tup [.str "step",.int 3]]],.tup [.str "pick",.tup [.tup [.str "step",.int 1],.tup [.str "step",.int 2],.tup [.str "step",.int 3]]],.tup [.str "turn",.tup [.tup [.str "step",.int 1],.tup [.str "sides",.int 2]]],.tup [.str "flip",.tup [.tup [.str "step",.int 1],.tup [.str "small",.int 2]]],.tup [.str "cut",.tup [.tup [.str "step",.int 1],.tup [.str "small",.int 2],.tup [.str "small",.int 3],.tup [.str "small",.int 4],.tup [.str "small",.int 5]]],.tup [.str "spread",.tup [.tup [.str "step",.int 1],.tup [.str "small",.int 2],.tup [.str "small",.int 3]]],.tup [.str "lay",.tup [.tup [.str "step",.int 1],.tup [.str "sides",.int 2]]],.tup [.str "join",.tup [.tup [.str "step",.int 1],.tup [.str "step",.int 2],.tup [.str "small",.int 3]]],.tup [.str "fetch",.tup [.tup [.str "step",.int 1],.tup [.str "step",.int 2]]],.tup [.str "fold",.tup [.tup [.str "word",.int 1],.tup [.str "step",.int 2],.tup [.str "small",.int 3]]],.tup [.str "run",.tup [.tup [.str "word",.int 1],.tup [.str "step",.int 2],.tup [.str "small",.int 3]]]]]
abbrev Ft(j:Nat):List PSp:=dFT DL j
def Oh:∀t its,ats t its->t.pl=true/\its.length<sizeLine/\qB [t] λ u=>u=.lst its:=λ t its ⟨ns,e,sd,l,p,ei⟩=>by
 subst e ei;exact⟨ca,by rw[ak,cn];exact aX fu,ns,ca,sd,l,p,ca⟩
noncomputable abbrev ZX(j i:Nat)(N:List Str)(n p:Nat)(S:PSp)(c:Ct):Prop:=ZX' DL GT gs j (top i) N n p S c
noncomputable abbrev ZL(j i:Nat)(N N':List Str)(js:List Nat)(n n2 p:Nat)(S:PSp)(c:Ct)(e k:Cd):Prop:=ZL' DL GT gs ats 38 j (top i) N N' js n n2 p S c e k
noncomputable abbrev ZD(j i:Nat)(N N':List Str)(js:List Nat)(n n2 p i0:Nat)(S:PSp)(c:Ct)(e:Cd)(k:Ct):Prop:=ZD' DL GT gs ats 38 j (top i) N N' js n n2 p i0 S c e k
noncomputable def Oi:Cq:=(.ite (.or (.cmp .Lt (.v 1) (.n 0)) (.cmp .GtE (.v 1) (.call 9 (.a1 (.v 0))))) (.rs 0 (.a1 (.w "a place that is no cell's"))) .nil (.set 2 (.lst .nil) (.set 3 (.v 1) .no)))
noncomputable def Oj:Cq:=(.sx 3 (.or (.call 14 (.a2 (.call 35 (.a2 (.v 0) (.v 1))) (.v 2))) (.fst (.call 35 (.a2 (.v 0) (.v 1))))))
noncomputable def X1L:List XSp:=[noX,noX,noX,noX,noX,noX,noX,noX,noX,noX,noX,noX,noX,noX,zR,noX,noX,noX,noX,noX,noX,noX,noX,noX,noX,noX,noX,noX,noX,noX,noX,noX,noX,noX,noX,noX,noX,noX,noX,noX,noX,noX,noX,noX,noX,noX,noX,noX,noX,noX,noX,noX,zU,noX,noX,noX,noX,noX,noX,noX,noX,noX,noX,noX,noX,noX,noX,noX,noX,noX,noX,noX,noX,noX,noX,noX,noX,noX,noX,noX,noX,noX,noX,noX,noX,noX,noX]
noncomputable def X2L:List XSp:=[noX,noX,noX,noX,noX,noX,noX,noX,noX,noX,noX,noX,noX,noX,noX,noX,noX,noX,noX,noX,noX,noX,noX,noX,noX,noX,noX,noX,noX,noX,noX,noX,noX,noX,noX,noX,noX,noX,noX,noX,noX,noX,noX,noX,noX,noX,noX,noX,noX,noX,noX,noX,noX,noX,noX,noX,noX,noX,noX,noX,noX,noX,noX,noX,noX,noX,noX,noX,noX,noX,noX,noX,noX,noX,noX,noX,noX,noX,noX,noX,noX,noX,noX,noX,noX,noX,noX]
def CSL:List Str:=["NoPlace","LoomError"]
def isC(k c:Nat):Bool:=decide (k=c)
noncomputable abbrev ZT(j i:Nat)(N:List Str)(n p q:Nat)(S:PSp)(c b:Ct)(bx:Cq)(hs:List (Nat×Cs))(r:Ct):Prop:=ZT' DL GT gs X1L CSL 1 isC j (top i) N n p q S c b bx hs r
noncomputable abbrev ZR(tp:Bool)(j i:Nat)(N:List Str)(n p:Nat)(T:XSp)(c:Cq):Prop:=ZR' DL GT gs (if tp=true then X1L else X2L) CSL tp j (top i) N n p T c
def zw0:ZX 0 11 ["n"] 1 1 zp0 zc0:=by
 refine⟨by kernel_rfl,?_⟩;rintro ts Q ⟨n,rfl,q⟩;refine⟨ca,?_⟩;exact⟨p64,on,ca,q⟩
def zw1:ZX 1 12 ["x"] 1 1 zp1 zc1:=by
 refine⟨by kernel_rfl,?_⟩;exact λ _ _ h=>h.elim
def zw2:ZX 2 13 ["x","y"] 2 2 zp2 zc2:=by
 refine⟨by kernel_rfl,?_⟩;exact λ _ _ h=>h.elim
def zw3:ZX 3 14 ["x","y"] 2 2 zp3 zc3:=by
 refine⟨by kernel_rfl,?_⟩;exact λ _ _ h=>h.elim
def zw4:ZX 4 15 ["word","x"] 2 2 zp4 zc4:=by
 refine⟨by kernel_rfl,?_⟩;exact λ _ _ h=>h.elim
def zw5:ZX 5 16 ["word","x","y"] 3 3 zp5 zc5:=by
 refine⟨by kernel_rfl,?_⟩;exact λ _ _ h=>h.elim
def zw6:ZX 6 17 ["word"] 1 1 zp6 zc6:=by
 refine⟨by kernel_rfl,?_⟩;exact λ _ _ h=>h.elim
def zw7:ZX 7 20 ["form"] 1 1 zp7 zc7:=by
 refine⟨by kernel_rfl,?_⟩;rintro ts Q ⟨i,hi,rfl,q⟩;refine⟨ca,?_⟩;have sl:∀n:Nat,n<=9->n<sizeLine:=λ n h=>aX fu
 match i,hi with
 |0,_=>exact⟨_,rfl,sl 1 on,trivial,rfl,q⟩
 |1,_=>exact⟨_,rfl,sl 1 on,trivial,rfl,q⟩
 |2,_=>exact⟨_,rfl,sl 2 on,trivial,trivial,rfl,q⟩
 |3,_=>exact⟨_,rfl,sl 2 on,trivial,trivial,rfl,rfl,q⟩
 |4,_=>exact⟨_,rfl,sl 3 on,trivial,trivial,rfl,trivial,rfl,rfl,q⟩
 |5,_=>exact⟨_,rfl,sl 3 on,trivial,rfl,trivial,rfl,trivial,rfl,rfl,q⟩
 |6,_=>exact⟨_,rfl,sl 2 on,trivial,rfl,trivial,rfl,q⟩
 |7,_=>exact⟨_,rfl,sl 2 on,trivial,rfl,trivial,rfl,q⟩
 |8,_=>exact⟨_,rfl,sl 5 on,trivial,rfl,trivial,trivial,trivial,trivial,rfl,q⟩
 |9,_=>exact⟨_,rfl,sl 3 on,trivial,rfl,trivial,trivial,rfl,q⟩
 |10,_=>exact⟨_,rfl,sl 2 on,trivial,rfl,trivial,rfl,q⟩
 |11,_=>exact⟨_,rfl,sl 3 on,trivial,rfl,trivial,rfl,trivial,rfl,q⟩
 |12,_=>exact⟨_,rfl,sl 2 on,trivial,rfl,trivial,rfl,rfl,q⟩
 |13,_=>exact⟨_,rfl,sl 3 on,trivial,trivial,rfl,trivial,rfl,q⟩
 |14,_=>exact⟨_,rfl,sl 3 on,trivial,trivial,rfl,trivial,rfl,q⟩
 |i+15,h=>lia
def zw8:ZX 8 21 ["step"] 1 1 zp8 zc8:=by
 refine⟨by kernel_rfl,?_⟩;rintro ts Q ⟨d,rfl,q⟩;refine⟨ca,?_⟩;have sl:∀n:Nat,n<=3->n<sizeLine:=λ n h=>aX fu;have k15:kdN d<15:=by cases d<;>exact jO rfl
 refine⟨_,zG d,cl rfl ⟨kdN d,k15,ca,?_⟩ rfl⟩;rw[Lw _ k15]
 cases d<;>first|exact⟨sl 0 on,rfl,q⟩|exact⟨sl 1 on,_,rfl,rfl,rfl,q⟩|exact⟨sl 2 on,_,rfl,rfl,_,rfl,rfl,rfl,q⟩|exact⟨sl 3 on,_,rfl,rfl,_,rfl,rfl,_,rfl,rfl,rfl,q⟩
def zw9:ZX 9 25 ["sides","product","side"] 3 1 zp9 zc9:=by
 refine⟨by kernel_rfl,?_⟩;rintro ts Q ⟨t,rfl,ns,ht,sd,q⟩;refine⟨ca,?_⟩
 rcases ht with rfl|rfl
 ·refine⟨ca,ca,cM (λ i ρ=>∃y,ρ=[some (tI ns),some (.int (ae (ns.take i))),y]) ⟨_,ca⟩ (λ i u ρ hu ⟨y,e⟩=>?_) (λ ρ ⟨y,e⟩=>?_)⟩
  ·subst e;obtain⟨n,rfl,hn⟩:=jL hu;have b:=sd n (aD hn);exact⟨gY fu fu,ca,some (.int n),by rw[mY hn];rfl⟩
  ·subst e;rw[ai,fk];exact⟨ca,q⟩
 ·refine⟨ca,ca,cM (λ i ρ=>∃y,ρ=[some (lI ns),some (.int (ae (ns.take i))),y]) ⟨_,ca⟩ (λ i u ρ hu ⟨y,e⟩=>?_) (λ ρ ⟨y,e⟩=>?_)⟩
  ·subst e;obtain⟨n,rfl,hn⟩:=jL hu;have b:=sd n (aD hn);exact⟨gY fu fu,ca,some (.int n),by rw[mY hn];rfl⟩
  ·subst e;rw[ai,fk];exact⟨ca,q⟩
def Ol:ZX 10 26 ["sides"] 1 1 zV Ml:=by
 refine⟨by kernel_rfl,?_⟩;rintro ts Q ⟨ns,rfl,sd,l,q⟩;refine⟨ca,?_⟩;refine⟨by rw[ai];exact aX fu,dn .int (λ n=>.int (ag n)) ns (λ n _=>?_) (cl rfl ⟨_,ca,ns.map ag,.inr (by unfold lI;rw[bK];rfl),yu sd,ca,q⟩ rfl)⟩;refine⟨BT,s2 (λ h=>⟨ca,?_⟩) (λ h=>⟨ca,?_⟩)⟩
 ·rw[Lm h];rfl
 ·rw[Ln h];rfl
def Om:ZX 11 27 ["sides"] 1 1 zW Mm:=by
 refine⟨by kernel_rfl,?_⟩;rintro ts Q ⟨ns,rfl,sd,l,nb,q⟩;refine⟨ca,?_⟩;unfold bZ at nb;exact sF (bo (show ¬((6:Int)<((ns.map TV.int).length:Nat)) by rw[ai];lia)) (cl rfl ⟨ns,ca,sd,l,sF (bo (show ¬((512:Int)<ae (ns.map ag)) by lia)) ⟨ca,q⟩⟩ rfl)
def On:ZX 12 28 ["sides","strides","stride","side"] 4 1 zX Mp:=by
 refine⟨by kernel_rfl,?_⟩;rintro ts Q ⟨ns,rfl,sd,l,q⟩;refine⟨ca,?_⟩;refine⟨ca,bS _,ca,ca,ca,?_⟩;refine cM (λ i ρ=>∃y,ρ=[some (tI ns),some (.own ((stL ns i).map .int)),some (.int (stP ns i)),y]) ⟨_,ca⟩ (λ i u ρ hu ⟨y,e⟩=>?_) (λ ρ ⟨y,e⟩=>?_)
 ·subst e;obtain⟨hi,n,rfl,hn⟩:=zx hu;have b:=sd n (aD hn);refine⟨ca,by rw[ai,stL,ak,cn];exact aX fu,gY fu fu,ca,some (.int n),?_⟩;rw[JH hi hn,yv,cG];rfl
 ·subst e;rw[gM,ai];refine⟨ca,?_⟩;show Q (.tup ((stL ns ns.length).map TV.int).reverse);rw[<- ux];exact q
def Oo:ZX 13 29 ["sides","at","side","coordinate"] 4 2 zY Mq:=by
 refine⟨by kernel_rfl,?_⟩;rintro ts Q ⟨ns,ms,rfl,sd,l,g,q⟩;refine⟨ca,?_⟩;have hl:=g.1;refine⟨BT,sF (neF (by rw[ai,ai,hl])) ⟨ca,?_⟩⟩;refine cM (λ i ρ=>∃y2 y3,ρ=[some (tI ns),some (tI ms),y2,y3]) ⟨_,_,ca⟩ (λ i u ρ hu ⟨y2,y3,e⟩=>?_) (λ ρ ⟨y2,y3,e⟩=>?_)
 ·subst e;obtain⟨n,m,rfl,hn,hm⟩:=zy hu;have b:=g.2 i m n hm hn;refine sF (bo (show ¬m<0 by lia)) (sF (bo (show ¬n<=m by lia)) ⟨_,_,ca⟩)
 ·subst e;refine cl rfl ⟨ns,ca,sd,l,by rw[mK,ai,ai];exact aX fu,zz (zA ms _) (λ p:Int×Int=>.int (p.1*p.2)) (λ p hp=>?_) ⟨_,zB _ _,?_⟩⟩ rfl
  ·obtain⟨i,ei⟩:=kB.mp hp;obtain⟨e1,e2⟩:=sZ.mp ei;obtain⟨n,hn⟩:∃n,ns[i]?=some n:=⟨ns[i]'(by have:=(be.mp e1).1;lia),az _⟩;have mb:=g.2 i p.1 n e1 hn;have nb:=sd n (aD hn);exact⟨iR fu fu,ca,ca⟩
  ·exact⟨ca,q⟩
def Op:ZR true 14 30 ["sides","place","at","left","side"] 5 2 zR Oi:=by
 refine⟨by kernel_rfl,?_⟩;rintro ts E ⟨ns,pl,rfl,sd,h,q⟩;refine⟨ca,?_⟩;refine s3 (λ c=>⟨g1L,q⟩) (λ c=>?_);exact cl rfl ⟨_,ca,ns,.inl rfl,sd,sT (cL (show ae ns<=pl by lia)) ⟨g1L,q⟩⟩ rfl
def Oq:ZX 14 30 ["sides","place","at","left","side"] 5 2 zZ Mr:=by
 refine⟨by kernel_rfl,?_⟩;rintro ts Q ⟨ns,pl,rfl,sd,l,p0,p1,q⟩;refine⟨ca,?_⟩;have nz:=yA (ns:=ns) fu;refine sF (bo (show ¬pl<0 by lia)) (cl rfl ⟨_,ca,ns,.inl rfl,sd,sF (bo (show ¬ae ns<=pl by lia)) ⟨ca,bS _,ca,ca,ca,?_⟩⟩ rfl);refine cM (λ i ρ=>∃y,ρ=[some (tI ns),some (.int pl),some (.own ((dgL ns pl i).map .int)),some (.int (lfI ns pl i)),y]) ⟨_,ca⟩ (λ i u ρ hu ⟨y,e⟩=>?_) (λ ρ ⟨y,e⟩=>?_)
 ·subst e;obtain⟨hi,n,rfl,hn⟩:=zx hu;have b:=sd n (aD hn);have mz:=nz n (aD hn);have rg:=yw hi hn;have d1:dgI ns pl i=lfI ns pl i%n:=by unfold dgI;rw[rg]
  have l1:lfI ns pl (i+1)=lfI ns pl i/n:=by show lfI ns pl i/_=_;rw[rg]
  have fd:(lfI ns pl i).fdiv n=lfI ns pl i/n:=lO _ b.1;refine⟨mz,ca,by rw[ai,dgL,ak,cn];exact aX fu,⟨mz,fu,fu⟩,ca,some (.int n),?_⟩;have m1:aE (lfI ns pl i) n=lfI ns pl i%n:=if_pos fu;have v1:aI (lfI ns pl i) n=lfI ns pl i/n:=if_pos fu;rw[JI,cG,d1,l1,<- m1,<- v1];rfl
 ·subst e;rw[gM,ai];refine⟨ca,?_⟩;show Q (.tup ((dgL ns pl ns.length).map TV.int).reverse);rw[<- ux];exact q
def Os:ZX 15 31 ["sides"] 1 1 qB Mt:=by
 refine⟨by kernel_rfl,?_⟩;rintro ts Q ⟨ns,rfl,sd,l,p5,q⟩;refine⟨ca,?_⟩;have pn:=ng λ n hn=>(sd n hn).1;refine cl rfl ⟨_,ca,ns,.inl rfl,sd,⟨fu,fu⟩,by rw[ak,cn];exact aX fu,dn (λ i:Nat=>.int (i:Nat)) (λ i:Nat=>tI (atD ns (i:Int))) (List.range (ae ns).toNat) (λ i hi=>cl rfl ⟨ns,_,ca,sd,l,fu,by have:=eV.mp hi;lia,ca,ca⟩ rfl) ⟨ca,q⟩⟩ rfl
def Ot:ZX 16 32 ["row","k","number"] 3 3 Aa Mu:=by
 refine⟨by kernel_rfl,?_⟩;rintro ts Q ⟨ns,k,m,rfl,l,kl,q⟩;refine⟨ca,?_⟩;have e1:=gb ns k;have e2:aq (ns.map TV.int) (some ((k:Int)+1)) none=(ns.drop (k+1)).map TV.int:=by rw[show(k:Int)+1=((k+1:Nat):Int) by lia];exact gc ns (k+1)
 have e3:(aq (ns.map TV.int) none (some (k:Int))++[TV.int m])++aq (ns.map TV.int) (some ((k:Int)+1)) none=(ns.set k m).map TV.int:=by rw[e1,e2,tZ,if_pos kl];simp
 have l1:(aq (ns.map TV.int) none (some (k:Int))).length<=63:=by rw[e1,ai,bc];lia
 have l2:(aq (ns.map TV.int) (some ((k:Int)+1)) none).length<=63:=by rw[e2,ai,da];lia
 unfold tI at q;rw[<- e3] at q;exact⟨ca,g1L,bN (show(aq (ns.map TV.int) none (some (k:Int))).length+1<=1000 by lia),bN (show(aq (ns.map TV.int) none (some (k:Int))++[TV.int m]).length+(aq (ns.map TV.int) (some ((k:Int)+1)) none).length<=1000 by rw[aK,gw];lia),ca,q⟩
def Ou:ZX 17 33 ["row","k","number"] 3 3 Ab Mv:=by
 refine⟨by kernel_rfl,?_⟩;rintro ts Q ⟨ns,k,m,rfl,l,q⟩;refine⟨ca,?_⟩;have e1:=gb ns k;have e2:=gc ns k;have e3:(aq (ns.map TV.int) none (some (k:Int))++[TV.int m])++aq (ns.map TV.int) (some (k:Int)) none=(aG ns k m).map TV.int:=by rw[e1,e2];unfold aG;simp
 have l1:(aq (ns.map TV.int) none (some (k:Int))).length<=63:=by rw[e1,ai,bc];lia
 have l2:(aq (ns.map TV.int) (some (k:Int)) none).length<=63:=by rw[e2,ai,da];lia
 unfold tI at q;rw[<- e3] at q;exact⟨ca,g1L,bN (show(aq (ns.map TV.int) none (some (k:Int))).length+1<=1000 by lia),bN (show(aq (ns.map TV.int) none (some (k:Int))++[TV.int m]).length+(aq (ns.map TV.int) (some (k:Int)) none).length<=1000 by rw[aK,gw];lia),ca,q⟩
def Ov:ZX 18 34 ["row","k"] 2 2 Ac Mw:=by
 refine⟨by kernel_rfl,?_⟩;rintro ts Q ⟨ns,k,rfl,l,kl,q⟩;refine⟨ca,?_⟩;have e1:=gb ns k;have e2:aq (ns.map TV.int) (some ((k:Int)+1)) none=(ns.drop (k+1)).map TV.int:=by rw[show(k:Int)+1=((k+1:Nat):Int) by lia];exact gc ns (k+1)
 have e3:aq (ns.map TV.int) none (some (k:Int))++aq (ns.map TV.int) (some ((k:Int)+1)) none=(ns.eraseIdx k).map TV.int:=by rw[e1,e2,mU,cG]
 have l1:(aq (ns.map TV.int) none (some (k:Int))).length<=63:=by rw[e1,ai,bc];lia
 have l2:(aq (ns.map TV.int) (some ((k:Int)+1)) none).length<=63:=by rw[e2,ai,da];lia
 unfold tI at q;rw[<- e3] at q;exact⟨bN (show(aq (ns.map TV.int) none (some (k:Int))).length+(aq (ns.map TV.int) (some ((k:Int)+1)) none).length<=1000 by lia),ca,q⟩
def Ow:ZX 19 36 ["sides","side"] 2 2 Ad Mx:=by
 refine⟨by kernel_rfl,?_⟩;rintro ts Q ⟨ns,side,rfl,no,q⟩;refine⟨ca,?_⟩;unfold off at no;exact sF (bo (show ¬side<0 by lia)) (sF (bo (show ¬((ns.map TV.int).length:Int)<=side by rw[ai];lia)) q)
def Ox:ZX 20 37 ["sides","order"] 2 2 Ae Mz:=by
 refine⟨by kernel_rfl,?_⟩;rintro ts Q ⟨ns,os,rfl,l1,l2,tk,q⟩;refine⟨ca,?_⟩;refine⟨os,ca,fu,λ ss pm pw=>?_⟩;have c:=(Kp (n:=ns.length) pm pw).mpr tk;refine⟨⟨fu,by rw[ai];lia⟩,dpL _,sF ?_ ?_⟩
 ·show(!_L.eqT (TV.lst (ss.map TV.int)) (TV.lst ((List.range (((ns.map TV.int).length:Nat):Int).toNat).map λ i:Nat=>TV.int (i:Nat))))=false;rw[show((List.range (((ns.map TV.int).length:Nat):Int).toNat).map λ i:Nat=>TV.int (i:Nat))=(upL ns.length).map TV.int by rw[ai];unfold upL;rw[bK];rfl,Lp,c];simp
 ·refine⟨by rw[ai];exact aX fu,dn .int (λ o:Int=>.int (ns.getD o.toNat 0)) os (λ o ho=>?_) ⟨ca,by unfold tI aC at q;rw[bK] at q;exact q⟩⟩;have om:=up_mem.mp (tk.subset ho);exact⟨_,nI om.1 om.2,ca,ca⟩
def Oy:ZX 21 38 ["sides","side"] 2 2 Af MA:=by
 refine⟨by kernel_rfl,?_⟩;rintro ts Q ⟨ns,side,rfl,no,q⟩;refine⟨ca,?_⟩;exact cl rfl ⟨ns,side,ca,no,ca,q⟩ rfl
def Oz:ZX 22 39 ["sides","side","first","many","step"] 5 5 Ag MB:=by
 refine⟨by kernel_rfl,?_⟩;rintro ts Q ⟨ns,side,f,m,g,rfl,l,m0,m1,no,nb,q⟩;refine⟨ca,?_⟩;refine cl rfl ⟨ns,side,ca,no,?_⟩ rfl;obtain⟨k,rfl,hk⟩:=eJ no;unfold bad at nb;simp only[Int.toNat_natCast] at nb q;refine sF (bo λ z=>nb (.inl z)) (sF (bo λ z=>nb (.inr (.inl z))) (sF (bo λ z=>nb (.inr (.inr (.inl z)))) ?_));refine s3 (λ c=>?_) (λ c=>cl rfl ⟨ns,k,m,ca,l,hk,ca,q⟩ rfl);exact⟨iR fu fu,_,bU hk,sF (bo λ z=>nb (.inr (.inr (.inr ⟨c,z⟩)))) (cl rfl ⟨ns,k,m,ca,l,hk,ca,q⟩ rfl)⟩
def OB:ZX 23 40 ["sides","side","many"] 3 3 Ah MC:=by
 refine⟨by kernel_rfl,?_⟩;rintro ts Q ⟨ns,side,m,rfl,sd,l,m1,no,mn,nb,q⟩;refine⟨ca,?_⟩;unfold gW at no;obtain⟨k,rfl⟩:∃k:Nat,side=k:=⟨side.toNat,fu⟩;simp only[Int.toNat_natCast] at nb q;have il:=ny ns k m;refine sF (bo (show ¬((ns.map TV.int).length:Int)<k by rw[ai];lia)) (sF (bo mn) (cl rfl ⟨ns,k,m,ca,fu,cl rfl ⟨aG ns k m,ca,λ n hn=>?_,fu,nb,ca,q⟩ rfl⟩ rfl));unfold aG at hn;simp only[cJ,bY] at hn
 rcases hn with (h|h)|h
 ·exact sd n (tW h)
 ·lia
 ·exact sd n (nA h)
def OC:ZX 24 41 ["sides","others"] 2 2 Ai MD:=by
 refine⟨by kernel_rfl,?_⟩;rintro ts Q ⟨ns,ms,rfl,sd,sm',l,nb,e,q⟩;refine⟨ca,?_⟩;exact cl rfl ⟨ms,ca,sm',fu,nb,cl rfl ⟨_,ca,ns,.inl rfl,sd,cl rfl ⟨_,ca,ms,.inl rfl,sm',BT,sF (neF e) ⟨ca,q⟩⟩ rfl⟩ rfl⟩ rfl
def OD:ZX 25 42 ["sides","others","side"] 3 3 Aj ME:=by
 refine⟨by kernel_rfl,?_⟩;rintro ts Q ⟨ns,ms,side,rfl,hn,hm,l,ll,no,c,nb,q⟩;refine⟨ca,?_⟩;refine⟨BT,sF (neF (by rw[ai,ai,ll])) (cl rfl ⟨ns,side,ca,no,?_⟩ rfl)⟩;obtain⟨k,rfl,hk⟩:=eJ no;simp only[Int.toNat_natCast] at c;have n1:=hn _ (getD_mem hk);have n2:=hm _ (getD_mem (ns:=ms) (k:=k) fu);refine cl rfl ⟨ns,k,ca,fu,hk,cl rfl ⟨ms,k,ca,fu,fu,dpT _,sF ?_ ?_⟩ rfl⟩ rfl
 ·show(!_L.eqT (TV.tup ((ns.eraseIdx k).map TV.int)) (TV.tup ((ms.eraseIdx k).map TV.int)))=false;rw[qp,c];simp
 ·refine⟨_,bU hk,_,bU (ns:=ms) fu,cl rfl ⟨ns,k,_,ca,fu,hk,cl rfl ⟨_,ca,λ n hn'=>?_,by rw[bu];lia,nb,ca,q⟩ rfl⟩ rfl⟩
  rcases lw hn' with z|z
  ·exact gR hn n z
  ·lia
def OE:ZX 26 43 ["sides","others"] 2 2 Ak MF:=by
 refine⟨by kernel_rfl,?_⟩;exact λ _ _ h=>h.elim
def OF:ZX 27 44 ["sides","others"] 2 2 Al MG:=by
 refine⟨by kernel_rfl,?_⟩;exact λ _ _ h=>h.elim
def OG:ZX 28 45 ["marks","sides","others"] 3 3 Am MH:=by
 refine⟨by kernel_rfl,?_⟩;exact λ _ _ h=>h.elim
def OH:ZX 29 46 ["sides","others"] 2 2 Ao MI:=by
 refine⟨by kernel_rfl,?_⟩;exact λ _ _ h=>h.elim
def OI:ZX 30 47 ["sides","side"] 2 2 Ap MJ:=by
 refine⟨by kernel_rfl,?_⟩;exact λ _ _ h=>h.elim
def OJ:ZX 31 48 ["sides","side"] 2 2 Aq MK:=by
 refine⟨by kernel_rfl,?_⟩;exact λ _ _ h=>h.elim
def OL:ZX 32 50 ["step"] 1 1 Ar ML:=by
 refine⟨by kernel_rfl,?_⟩;rintro ts Q ⟨d,rfl,m6,q⟩;refine⟨ca,?_⟩
 cases d<;>first|exact m6.elim|exact⟨_,rfl,trivial,_,rfl,trivial,_,rfl,rfl,g2L,rfl,fl2,q⟩
def OM:ZX 33 51 ["step"] 1 1 As MN:=by
 refine⟨by kernel_rfl,?_⟩;exact λ _ _ h=>h.elim
def ON:ZX 34 52 ["step","sides","form"] 3 2 Au MO:=by
 refine⟨by kernel_rfl,?_⟩;rintro ts Q ⟨d,S,A,Ss,a,rfl,ha,m6,ea,fA,ok,fs,q⟩;refine⟨ca,?_⟩;have sd:=lC fs;have sdA:=lC fA;have s6:=fs.2.1;have a6:=fA.2.1
 cases d with
 |turn a os=>
  cases ha;obtain⟨A',ea',tk,rfl⟩:=ok;cases ea'.symm.trans ea;exact⟨_,ca,ca,BT,_,ca,cl rfl ⟨A,os,ca,fu,by rw[tk.length_eq,dB];lia,tk,ca,q⟩ rfl⟩
 |flip a s=>
  cases ha;obtain⟨ea',no⟩:=ok;cases ea'.symm.trans ea;exact⟨_,ca,ca,BT,BT,_,ca,cl rfl ⟨S,s,ca,no,ca,q⟩ rfl⟩
 |cut a s f m g=>
  cases ha;obtain⟨A',ea',no,nb,m5,rfl⟩:=ok;cases ea'.symm.trans ea;exact⟨_,ca,ca,BT,BT,BT,_,ca,_,ca,_,ca,_,ca,cl rfl ⟨A,s,f,m,g,ca,fu,by unfold bad at nb;lia,fu,no,nb,ca,q⟩ rfl⟩
 |spread a s m=>
  cases ha;obtain⟨A',ea',no,nm,m5,nb,rfl⟩:=ok;cases ea'.symm.trans ea;exact⟨_,ca,ca,BT,BT,BT,BT,_,ca,_,ca,cl rfl ⟨A,s,m,ca,sdA,fu,fu,no,nm,nb,ca,q⟩ rfl⟩
 |lay a ms=>
  cases ha;obtain⟨A',ea',nb,e,rfl⟩:=ok;cases ea'.symm.trans ea;exact⟨_,ca,ca,BT,BT,BT,BT,BT,_,ca,cl rfl ⟨A,S,ca,sdA,sd,fu,nb,e,ca,q⟩ rfl⟩
 |join a b s=>cases ha
 |_=>exact m6.elim
def OO:ZX 35 53 ["step","sides","used","form"] 4 2 Av MP:=by
 refine⟨by kernel_rfl,?_⟩;rintro ts Q ⟨t,d,S,Ss,rfl,ht,m6,fS,ok,fs,q⟩;refine⟨ca,?_⟩;subst ht
 cases d with
 |join a b s=>
  obtain⟨A,B,ea,eb,ll,no,ee,nb,rfl⟩:=ok;have fA:=fS _ (aD ea);have fB:=fS _ (aD eb);have a6:=fA.2.1;exact cl rfl ⟨(Stp.join a b s),ca,BT,cl rfl ⟨(Stp.join a b s),ca,sl3 (jO rfl),tI A,bd ea,ca,tI B,bd eb,ca,ca,_,ca,ca,BT,BT,BT,BT,_,ca,_,ca,_,ca,cl rfl ⟨A,B,s,ca,nE fA,nE fB,fu,ll,no,ee,nb,ca,q⟩ rfl⟩ rfl⟩ rfl
 |flip a s=>exact cl rfl ⟨_,rfl,trivial,cl rfl ⟨_,rfl,sl3 (jO rfl),tI S,bd ok.1,rfl,rfl,_,rfl,rfl,trivial,trivial,_,rfl,cl rfl ⟨_,S,S,Ss,_,rfl,rfl,trivial,ok.1,fS _ (aD ok.1),ok,fs,rfl,q⟩ rfl⟩ rfl⟩ rfl
 |_=>first|exact m6.elim|(obtain⟨A,ea,_⟩:=id ok;exact cl rfl ⟨_,rfl,trivial,cl rfl ⟨_,rfl,sl3 (jO rfl),tI A,bd ea,rfl,rfl,_,rfl,rfl,trivial,trivial,_,rfl,cl rfl ⟨_,S,A,Ss,_,rfl,rfl,trivial,ea,fS _ (aD ea),ok,fs,rfl,q⟩ rfl⟩ rfl⟩ rfl)
def OP:ZX 36 55 ["sides","cells"] 2 2 Aw MQ:=by
 refine⟨by kernel_rfl,?_⟩;rintro ts Q ⟨t,ns,cs,rfl,ht,sd,l,cl',nb,e,q⟩;refine⟨ca,?_⟩;have q2:Q (.tup [tI ns,.tup (cs.map λ c=>TV.int (cW c))]):=by unfold tI at q ⊢;rw[bK] at q;exact q
 have sm':(cs.map TV.int).length<sizeLine:=by rw[ai];exact aX fu
 rcases ht with rfl|rfl
 all_goals
  exact cl rfl ⟨ns,ca,sd,l,nb,cl rfl ⟨_,ca,ns,.inl rfl,sd,BT,sF (neF (by rw[ai];exact e)) ⟨sm',dn .int (λ c=>.int (cW c)) cs (λ c _=>cl rfl ⟨c,ca,ca,ca⟩ rfl) ⟨ca,g2L,ca,q2⟩⟩⟩ rfl⟩ rfl
def OQ:ZX 37 58 ["tab","at"] 2 2 Ax MR:=by
 refine⟨by kernel_rfl,?_⟩;rintro ts Q ⟨ns,cs,ms,rfl,sd,l,g,cl',q⟩;refine⟨ca,?_⟩;have pi:=tU g
 have ex:cs[(plH ns ms).toNat]?=some (cs.getD (plH ns ms).toNat 0):=by
  rw[aO,az fu];rfl
 exact⟨_,ca,_,ca,cl rfl ⟨ns,ms,ca,sd,l,g,.int (cs.getD (plH ns ms).toNat 0),Lo pi.1 ex,ca,q⟩ rfl⟩
def OR:ZX 38 57 ["n"] 1 1 Ay MS:=by
 refine⟨by kernel_rfl,?_⟩;exact λ _ _ h=>h.elim
def OS:ZX 39 56 ["sides","number_at"] 2 2 Az MT:=by
 refine⟨by kernel_rfl,?_⟩;exact λ _ _ h=>h.elim
def OT:ZX 40 60 ["sides"] 1 1 AA MU:=by
 refine⟨by kernel_rfl,?_⟩;rintro ts Q ⟨ns,rfl,sd,l,q⟩;refine⟨ca,?_⟩;exact cl rfl ⟨ns,ca,sd,l,ca,g3L,ca,q⟩ rfl
def OU:ZX 41 61 ["view","order","sides","strides","own"] 5 2 AB MV:=by
 refine⟨by kernel_rfl,?_⟩;rintro ts Q ⟨ns,ss,os,b,rfl,l,sl,t,q⟩;refine⟨ca,?_⟩;have ol:=nG t;have tl:(aC ns os).length=ns.length:=by unfold aC;rw[ak,ol]
 refine⟨_,ca,cl rfl ⟨ns,os,ca,fu,fu,t,ca,?_⟩ rfl⟩;have om:∀o∈os,0<=o/\o<(ns.length:Int):=λ o ho=>up_mem.mp (t.subset ho);have e1:aq (ss.map TV.int) (some (((aC ns os).map TV.int).length:Nat)) none=[]:=by rw[ai,tl,gc,<- sl,lg];rfl
 refine⟨_,ca,ca,by rw[ai];exact aX fu,dn TV.int (λ o:Int=>.int (ss.getD o.toNat 0)) os (λ o ho=>?_) ⟨ca,_,ca,?_⟩⟩
 ·have:=om o ho;exact⟨.int (ss.getD o.toNat 0),nI fu (by rw[sl];lia),ca,ca⟩
 refine⟨?_,ca,g3L,ca,?_⟩
 ·show(os.map λ o:Int=>TV.int (ss.getD o.toNat 0)).length+(aq (ss.map TV.int) (some (((aC ns os).map TV.int).length:Nat)) none).length<=sizeLine;rw[e1,ak];exact bN (by show os.length+0<=1000;lia)
 ·show Q (.tup [tI (aC ns os),.int b,.tup ((os.map λ o:Int=>TV.int (ss.getD o.toNat 0))++aq (ss.map TV.int) (some (((aC ns os).map TV.int).length:Nat)) none)]);rw[e1,cu];have z:(os.map λ o:Int=>TV.int (ss.getD o.toNat 0))=(aC ss os).map TV.int:=by unfold aC;rw[bK];rfl
  rw[z];exact q
def OV:ZX 42 62 ["view","side","sides","stride","start"] 5 2 AC MW:=by
 refine⟨by kernel_rfl,?_⟩;rintro ts Q ⟨ns,ss,b,k,rfl,l,sl,kl,nb,q⟩;refine⟨ca,?_⟩;have n5:=nb (ns.getD k 0) (getD_mem kl);refine⟨_,ca,cl rfl ⟨ns,(k:Int),ca,by unfold off;lia,ca,?_⟩ rfl⟩;refine⟨_,ca,.int (ss.getD k 0),bU fu,ca,_,ca,.int (ns.getD k 0),bU kl,iR fu fu,ca,_,ca,?_⟩;exact cl rfl ⟨ss,k,_,ca,fu,fu,ca,g3L,ca,q⟩ rfl
def OW:ZX 43 63 ["view","side","first","many","step","sides","stride"] 7 5 AD MY:=by
 refine⟨by kernel_rfl,?_⟩;rintro ts Q ⟨ns,ss,b,f,m,g,k,rfl,l,sl,kl,m0,m1,⟨f0,f1⟩,nb,q⟩;refine⟨ca,?_⟩;refine⟨_,ca,cl rfl ⟨ns,(k:Int),f,m,g,ca,fu,m0,m1,by unfold off;lia,nb,ca,?_⟩ rfl⟩;rw[Int.toNat_natCast];refine⟨_,ca,.int (ss.getD k 0),bU fu,ca,_,ca,gY fu fu,_,ca,iR fu fu,?_⟩;exact cl rfl ⟨ss,k,_,ca,fu,fu,ca,g3L,ca,q⟩ rfl
def OX:ZX 44 64 ["view","side","many","sides"] 4 3 AE MZ:=by
 refine⟨by kernel_rfl,?_⟩;rintro ts Q ⟨ns,ss,b,m,k,rfl,sd,l,sl,kl,m0,m1,nb,q⟩;refine⟨ca,?_⟩;refine⟨_,ca,cl rfl ⟨ns,(k:Int),m,ca,sd,fu,m1,by unfold gW;lia,fu,by rw[Int.toNat_natCast];exact nb,ca,?_⟩ rfl⟩;rw[Int.toNat_natCast];exact⟨_,ca,_,ca,cl rfl ⟨ss,k,0,ca,fu,ca,g3L,ca,q⟩ rfl⟩
def OY:ZX 45 65 ["view","side","sides","strides"] 4 2 AF Na:=by
 refine⟨by kernel_rfl,?_⟩;exact λ _ _ h=>h.elim
def OZ:ZX 46 66 ["step","view"] 2 2 AG Nb:=by
 refine⟨by kernel_rfl,?_⟩;rintro ts Q ⟨d,A,S,Ss,rfl,m4,ea,fA,ok,fs,q⟩;refine⟨ca,?_⟩;have sl:=zH A;have sd:=dj fA cH;have l6:=fA.2.1
 cases d with
 |turn a os=>
  obtain⟨A',e2,tk,rfl⟩:=ok;cases bj (ea.symm.trans e2);exact⟨_,ca,BT,_,ca,cl rfl ⟨A,bO A,os,0,ca,l6,sl,tk,ca,q⟩ rfl⟩
 |flip a s=>
  obtain⟨e2,no⟩:=ok;cases bj (ea.symm.trans e2);obtain⟨k,rfl,kl⟩:=eJ no;exact⟨_,ca,BT,_,ca,BT,_,ca,cl rfl ⟨A,bO A,0,k,ca,l6,sl,kl,λ n hn=>by have:=fA.1 n hn;lia,ca,q⟩ rfl⟩
 |cut a s f m g=>
  obtain⟨A',e2,no,nb,m5,rfl⟩:=ok;cases bj (ea.symm.trans e2);obtain⟨k,rfl,kl⟩:=eJ no;have s4:=Mb fA kl;have m0:0<=m:=by unfold bad at nb;lia
  exact⟨_,ca,BT,_,ca,BT,_,ca,BT,_,ca,_,ca,_,ca,_,ca,cl rfl ⟨A,bO A,0,f,m,g,k,ca,l6,sl,kl,fu,fu,⟨fu,fu⟩,nb,ca,q⟩ rfl⟩
 |spread a s m=>
  obtain⟨A',e2,no,m0,m5,nb,rfl⟩:=ok;cases bj (ea.symm.trans e2);unfold gW at no;obtain⟨k,rfl⟩:∃k:Nat,s=k:=⟨s.toNat,fu⟩;exact⟨_,ca,BT,_,ca,BT,_,ca,BT,_,ca,_,ca,cl rfl ⟨A,bO A,0,m,k,ca,sd,l6,sl,fu,fu,fu,nb,ca,q⟩ rfl⟩
 |_=>exact m4.elim
def Pa:ZX 47 67 ["view","at","side","coordinate"] 4 2 AH Nc:=by
 refine⟨by kernel_rfl,?_⟩;rintro ts Q ⟨S,ss,ms,b,rfl,hl,l,mb,g,q⟩;refine⟨ca,?_⟩;refine⟨_,ca,BT,sF (neF (by rw[ai,ai,hl])) ⟨_,ca,ca,?_⟩⟩;refine cM (λ i ρ=>∃y2 y3,ρ=[some (vwT S b ss),some (tI ms),y2,y3]) ⟨_,_,ca⟩ (λ i u ρ hu ⟨y2,y3,e⟩=>?_) (λ ρ ⟨y2,y3,e⟩=>?_)
 ·subst e;obtain⟨n,m,rfl,hn,hm⟩:=zy hu;have b:=g i m n hn hm;refine sF (bo (show ¬m<0 by lia)) (sF (bo (show ¬n<=m by lia)) ⟨_,_,ca⟩)
 ·subst e;refine⟨_,ca,_,ca,by rw[mK,ai,ai];exact aX fu,zz (zA ms _) (λ p:Int×Int=>.int (p.1*p.2)) (λ p hp=>?_) ⟨_,zB _ _,?_⟩⟩
  ·have m1:=mb p.1 (jY (a:=p.1) (b:=p.2) hp).1;exact⟨iR fu fu,ca,ca⟩
  ·exact⟨ca,q⟩
def Pb:ZX 48 69 ["sides","side","at","many","view","first","stride"] 7 4 AI Nd:=by
 refine⟨by kernel_rfl,?_⟩;exact λ _ _ h=>h.elim
def Pc:ZX 49 70 ["step","sides","at","side","length"] 5 3 AJ Nf:=by
 refine⟨by kernel_rfl,?_⟩;rintro ts Q ⟨a,b,k,A,B,ms,Ss,rfl,ea,eb,sA,sB,lA,lB,kl,ml,h1,h2,q⟩;refine⟨ca,?_⟩;unfold iS at q;refine⟨_,ca,ca,_,ca,tI A,bd ea,.int (A.getD k 0),bU kl,ca,.int (ms.getD k 0),bU fu,s3 (λ c=>?_) (λ c=>?_)⟩
 ·rw[if_pos c] at q;exact⟨_,ca,_,ca,tI A,bd ea,cl rfl ⟨A,ms,ca,sA,fu,h1 c,ca,g2L,ca,g1L,ca,q⟩ rfl⟩
 ·rw[if_neg c] at q;exact⟨_,ca,_,ca,tI B,bd eb,.int (ms.getD k 0),bU fu,cl rfl ⟨ms,k,_,ca,fu,fu,cl rfl ⟨B,_,ca,sB,fu,h2 c,ca,g2L,ca,g1L,ca,q⟩ rfl⟩ rfl⟩
def Pd:ZX 50 71 ["step","sides","at","asked","told_by","rows"] 6 3 AK Ng:=by
 refine⟨by kernel_rfl,?_⟩;exact λ _ _ h=>h.elim
def Pe:ZX 51 72 ["step","sides","at","used","side","places"] 6 3 AL Nh:=by
 refine⟨by kernel_rfl,?_⟩;exact λ _ _ h=>h.elim
def Pf:ZR true 52 73 ["step","sides","place","at","form","pairs","used"] 7 3 zU Oj:=by
 refine⟨by kernel_rfl,?_⟩;rintro ts E ⟨d,S,Ss,pl,rfl,fS,ok,fs,m6,h,q⟩;refine⟨ca,?_⟩;exact .inl (cl rfl ⟨_,d,S,Ss,ca,ca,m6,λ T hT=>dC (fS T hT) cH,ok,dC fs cH,_,⟨_,ca,S,pl,ca,dj fs cH,h,ca⟩,λ n h=>h ▸ q⟩ rfl)
def Pg:ZX 52 73 ["step","sides","place","at","form","pairs","used"] 7 3 AM Ni:=by
 refine⟨by kernel_rfl,?_⟩;rintro ts Q ⟨d,S,Ss,pl,rfl,fS,ok,fs,p0,p1,m6,q⟩;refine⟨ca,?_⟩;have sd:=dj fs cH;have sl:=fs.2.1;have al:=lx S pl;have gd:=iJ sd p0 p1;refine cl rfl ⟨_,d,S,Ss,ca,ca,m6,λ T hT=>dC (fS T hT) cH,ok,dC fs cH,cl rfl ⟨S,pl,ca,sd,fu,p0,p1,ca,?_⟩ rfl⟩ rfl
 have mb:∀m∈atD S pl,-100000000<m/\m<100000000:=λ m hm=>by
  obtain⟨i,ei⟩:=kB.mp hm;obtain⟨n,hn⟩:∃n,S[i]?=some n:=⟨_,az (by rw[<- al];exact(be.mp ei).1)⟩;have:=gd.2 i m n ei hn;have:=fs.1 n (aD hn);lia
 have mv:mv4 d->∀A,Ss[(cX d).headD 0]?=some A->aY A (mvO A (atD S pl) d)/\(mvV A d).1+aQ (atD S pl) (mvV A d).2=plH A (mvO A (atD S pl) d)/\(mvV A d).2.length=S.length:=λ m A ea=>zP m ok ea (dj (fS A (aD ea)) cH) gd
 have hq:mv4 d->∀A,Ss[(cX d).headD 0]?=some A->Q (.lst [kT [(((cX d).headD 0:Nat):Int),plH A (mvO A (atD S pl) d)]]):=λ m A ea=>by
  have e:mvQ Ss S pl d=[(((cX d).headD 0:Nat):Int),plH (Ss.getD ((cX d).headD 0) []) (mvO (Ss.getD ((cX d).headD 0) []) (atD S pl) d)]:=by cases d<;>first|rfl|exact m.elim
  rw[e,gS ea] at q;exact q
 cases d with
 |join a b s=>
  obtain⟨A,B,ea,eb,hl,no,ee,nb,rfl⟩:=id ok;obtain⟨k,rfl,kl⟩:=eJ no;have fA:=fS A (aD ea);have fB:=fS B (aD eb)
  have q':Q (.lst [kT (iS a b A B k (atD (aH A B k) pl))]):=by
   have z:Q (.lst [kT (iS a b (Ss.getD a []) (Ss.getD b []) k (atD (aH A B k) pl))]):=q;rw[gS ea,gS eb] at z;exact z
  have jl:(aH A B (k:Int)).length=A.length:=by unfold aH;rw[bu]
  exact⟨_,ca,ca,BT,cl rfl ⟨a,b,k,A,B,_,Ss,ca,ea,eb,dj fA cH,dj fB cH,fA.2.1,fB.2.1,kl,by rw[al,jl],(uw hl kl ee gd).1,(uw hl kl ee gd).2,ca,q'⟩ rfl⟩
 |lay a ms=>exact⟨_,rfl,rfl,trivial,trivial,_,rfl,rfl,g2L,rfl,g1L,rfl,q⟩
 |turn a os=>
  obtain⟨A,ea,tk,rfl⟩:=id ok;obtain⟨g1,e1,e2⟩:=mv trivial A ea;have q':=hq trivial A ea;have fA:=fS A (aD ea);refine⟨_,ca,ca,BT,BT,ca,g4L,ca,qy,_,ca,_,ca,tI A,bd ea,cl rfl ⟨A,ca,dj fA cH,by have:=fA.2.1;lia,cl rfl ⟨_,A,_,Ss,ca,BT,ea,fA,ok,fs,cl rfl ⟨_,_,_,_,ca,by rw[al,e2],fu,mb,λ i m n hn hm=>gd.2 i m n hm hn,ca,g2L,ca,g1L,ca,?_⟩ rfl⟩ rfl⟩ rfl⟩;rw[e1];exact q'
 |flip a s=>
  obtain⟨ea,no⟩:=id ok;obtain⟨g1,e1,e2⟩:=mv trivial S ea;have q':=hq trivial S ea;have fA:=fS S (aD ea);refine⟨_,ca,ca,BT,BT,ca,g4L,ca,qy,_,ca,_,ca,tI S,bd ea,cl rfl ⟨S,ca,dj fA cH,by have:=fA.2.1;lia,cl rfl ⟨_,S,_,Ss,ca,BT,ea,fA,ok,fs,cl rfl ⟨_,_,_,_,ca,by rw[al,e2],fu,mb,λ i m n hn hm=>gd.2 i m n hm hn,ca,g2L,ca,g1L,ca,?_⟩ rfl⟩ rfl⟩ rfl⟩;rw[e1];exact q'
 |cut a s f m g=>
  obtain⟨A,ea,_,_,_,_⟩:=id ok;obtain⟨g1,e1,e2⟩:=mv trivial A ea;have q':=hq trivial A ea;have fA:=fS A (aD ea);refine⟨_,ca,ca,BT,BT,ca,g4L,ca,qy,_,ca,_,ca,tI A,bd ea,cl rfl ⟨A,ca,dj fA cH,by have:=fA.2.1;lia,cl rfl ⟨_,A,_,Ss,ca,BT,ea,fA,ok,fs,cl rfl ⟨_,_,_,_,ca,by rw[al,e2],fu,mb,λ i m n hn hm=>gd.2 i m n hm hn,ca,g2L,ca,g1L,ca,?_⟩ rfl⟩ rfl⟩ rfl⟩;rw[e1];exact q'
 |spread a s m=>
  obtain⟨A,ea,_,_,_,_,_⟩:=id ok;obtain⟨g1,e1,e2⟩:=mv trivial A ea;have q':=hq trivial A ea;have fA:=fS A (aD ea);refine⟨_,ca,ca,BT,BT,ca,g4L,ca,qy,_,ca,_,ca,tI A,bd ea,cl rfl ⟨A,ca,dj fA cH,by have:=fA.2.1;lia,cl rfl ⟨_,A,_,Ss,ca,BT,ea,fA,ok,fs,cl rfl ⟨_,_,_,_,ca,by rw[al,e2],fu,mb,λ i m n hn hm=>gd.2 i m n hm hn,ca,g2L,ca,g1L,ca,?_⟩ rfl⟩ rfl⟩ rfl⟩;rw[e1];exact q'
 |_=>exact m6.elim
def Ph:ZX 53 75 ["word","tab","side","begin","sides","length","number_at"] 7 3 AN Nj:=by
 refine⟨by kernel_rfl,?_⟩;exact λ _ _ h=>h.elim
def Pi:ZX 54 76 ["word","tab","side","begin","sides","stride","cells","place","cell","is_first","before"] 11 3 AO Nk:=by
 refine⟨by kernel_rfl,?_⟩;exact λ _ _ h=>h.elim
def Pj:ZX 55 78 ["tab","sides","many"] 3 2 AQ Nl:=by
 refine⟨by kernel_rfl,?_⟩;exact λ _ _ h=>h.elim
def Pk:ZX 56 79 ["word","tab"] 2 2 AR Nm:=by
 refine⟨by kernel_rfl,?_⟩;exact λ _ _ h=>h.elim
def Pl:ZX 57 80 ["word","tab","other","sides","xs","ys"] 6 3 AS No:=by
 refine⟨by kernel_rfl,?_⟩;exact λ _ _ h=>h.elim
def Pm:ZX 58 81 ["marks","tab","other","sides","asked","xs","ys"] 7 3 AT Np:=by
 refine⟨by kernel_rfl,?_⟩;exact λ _ _ h=>h.elim
def Pn:ZX 59 82 ["tab","other","sides","length","many","number_at"] 6 2 AU Nq:=by
 refine⟨by kernel_rfl,?_⟩;exact λ _ _ h=>h.elim
def Po:ZX 60 83 ["sides","side"] 2 2 AW Nr:=by
 refine⟨by kernel_rfl,?_⟩;exact λ _ _ h=>h.elim
def Pp:ZL 61 85 ["tab","order","sides","places"] ["at","tab","places"] [0,3] 4 3 2 AX Nt Nu Nv:=by
 refine⟨by kernel_rfl,?_⟩;rintro ts Q ⟨ns,cs,os,rfl,hm,h20,o20,p5,csl,tk,q⟩;refine⟨ca,?_⟩;have hs:=gR hm;have ol:=nG tk;obtain⟨smS,lS,pS⟩:=Lg (side:=0) (f:=0) (m:=0) (g:=0) hm (.inl ⟨rfl,tk,rfl,rfl⟩);have sdS:=gR smS;have pb:=dA λ n hn=>(sdS n hn).1;refine⟨_,ca,cl rfl ⟨ns,os,ca,h20,o20,tk,ca,⟨fu,by rw[ai];lia⟩,by rw[ak,cn,ai];exact aX fu,?_⟩ rfl⟩;rw[ai,Int.toNat_natCast];refine dn (λ i:Nat=>.int (i:Nat)) (λ i:Nat=>.int (os.idxOf (i:Int):Nat)) (List.range os.length) (λ i hi=>?_) ?_
 ·obtain⟨i1,i2⟩:=LC (qm tk (s:=i) (by have:=eV.mp hi;lia));exact⟨ca,flI _,_,_,i1,eqI _,i2,ca,ca⟩
 refine⟨ca,?_⟩;refine⟨(List.range (ae (aC ns os)).toNat).map λ i:Nat=>tI (atD (aC ns os) (i:Int)),(bT ns cs (aC ns os) (cY os)).map .int,[.tup [tI ns,tI cs],.lst ((List.range os.length).map λ i:Nat=>.int (os.idxOf (i:Int):Nat))],⟨aC ns os,ca,sdS,fu,fu,ca⟩,by simp[bT],ca,ca,ca,λ i a b ea eb=>?_,q⟩;obtain⟨il,rfl⟩:=dE ea;have eb:=ui eb;subst eb;have gd:=iJ (p:=i) sdS fu fu;have al:=lx (aC ns os) i;have tl:(aC ns os).length=os.length:=ak ..;generalize atD (aC ns os) (i:Int)=At at *;have gf:=Lc tk gd;refine⟨by rw[ak,cn];exact aX fu,dn (λ i:Nat=>.int (os.idxOf (i:Int):Nat)) (λ i:Nat=>.int (At.getD (os.idxOf (i:Int)) 0)) (List.range os.length) (λ i hi=>?_) (cl rfl ⟨ns,cs,cY os At,?_,hs,fu,gf,csl,ca,ca⟩ rfl)⟩
 ·have xl:=qo.mpr (qm tk (s:=i) (by have:=eV.mp hi;lia));exact⟨_,bU fu,ca,ca⟩
 ·show[TV.tup [tI ns,tI cs],TV.tup ((List.range os.length).map λ i:Nat=>TV.int (At.getD (os.idxOf (i:Int)) 0))]=_;unfold tI cY;rw[bK];rfl
def Pq:ZL 62 86 ["tab","side","sides"] ["at","tab","sides","side"] [0,2,1] 3 4 2 AY Nw Nx Ny:=by
 refine⟨by kernel_rfl,?_⟩;rintro ts Q ⟨ns,cs,side,rfl,hm,h20,p5,csl,no,q⟩;refine⟨ca,?_⟩;obtain⟨k,rfl,hk⟩:=eJ no;simp only[Int.toNat_natCast] at q;have hs:=gR hm;have po:=dA λ n hn=>(hs n hn).1;have pn:=ng λ n hn=>(hs n hn).1;refine⟨_,ca,cl rfl ⟨ns,k,ca,no,ca,?_⟩ rfl⟩;refine⟨(List.range (ae ns).toNat).map λ i:Nat=>tI (atD ns (i:Int)),(bT ns cs ns (iO ns k)).map .int,[.tup [tI ns,tI cs],tI ns,.int k],⟨ns,ca,hs,fu,fu,ca⟩,by simp[bT],ca,ca,ca,λ i a b ea eb=>?_,q⟩;obtain⟨il,rfl⟩:=dE ea;have eb:=ui eb;subst eb;have gd:=iJ (p:=i) hs fu fu;have al:=lx ns i;generalize atD ns (i:Int)=At at *;have gf:=Ld hk gd;exact⟨_,bU hk,_,bU fu,cl rfl ⟨At,k,_,ca,fu,fu,cl rfl ⟨ns,cs,_,ca,hs,fu,gf,csl,ca,ca⟩ rfl⟩ rfl⟩
def Ps:ZL 63 87 ["tab","side","first","many","step","sides"] ["at","tab","step","side","first"] [0,4,1,2] 6 5 5 AZ Nz NA NB:=by
 refine⟨by kernel_rfl,?_⟩;rintro ts Q ⟨ns,cs,side,ff,mm,gg,rfl,hm,h20,p5,csl,m0,m1,no,nb,q⟩;refine⟨ca,?_⟩;have no':=no;obtain⟨k,rfl,hk⟩:=eJ no;have nb':=nb;simp only[Int.toNat_natCast] at q;have hs:=gR hm;have nn:∀n∈ns,0<=n:=λ n hn=>(hs n hn).1;have nk:=hm _ (getD_mem hk);have cm:=zq nk.1 nb;have sdA:=gR (yD (k:=k) hm cm.1 (show mm<=1000000 by lia));have po:=dA λ n hn=>(sdA n hn).1;have so:=ug (k:=k) nn cm.1 cm.2;have li:(ns.set k mm).length=ns.length:=bu ..;refine⟨_,ca,cl rfl ⟨ns,k,ff,mm,gg,ca,fu,m0,m1,no',nb',ca,?_⟩ rfl⟩;refine⟨(List.range (ae (ns.set k mm)).toNat).map λ i:Nat=>tI (atD (ns.set k mm) (i:Int)),(bT ns cs (ns.set k mm) (iP k ff gg)).map .int,[.tup [tI ns,tI cs],.int gg,.int k,.int ff],⟨ns.set k mm,ca,sdA,fu,fu,ca⟩,by simp[bT],ca,ca,ca,λ i a b ea eb=>?_,q⟩;obtain⟨il,rfl⟩:=dE ea;have eb:=ui eb;subst eb;have gd:=iJ (p:=i) sdA fu fu;have al:=lx (ns.set k mm) i;generalize atD (ns.set k mm) (i:Int)=At at *;have gf:=Le hk nb gd;have ab:=gd.2 k _ _ (eK fu) (eW hk);exact⟨_,bU fu,iR fu fu,cl rfl ⟨At,k,_,ca,fu,fu,cl rfl ⟨ns,cs,_,ca,hs,fu,gf,csl,ca,ca⟩ rfl⟩ rfl⟩
def Pt:ZL 64 88 ["tab","side","many","sides"] ["at","tab","side"] [0,1] 4 3 3 Ba NC ND NE:=by
 refine⟨by kernel_rfl,?_⟩;rintro ts Q ⟨ns,cs,side,many,rfl,hs,h20,csl,hmany,no,nn,nb,q⟩;refine⟨ca,?_⟩;have no':=no;unfold gW at no;obtain⟨k,rfl⟩:∃k:Nat,side=k:=⟨side.toNat,fu⟩;have nb0:=nb;simp only[Int.toNat_natCast] at nb q;have sdA:=Kq (k:=k) hs fu hmany;have pb:=dA λ n hn=>(sdA n hn).1;have nb':=nb;unfold bZ at nb';have li:=ny ns k many;refine⟨_,ca,cl rfl ⟨ns,k,many,ca,hs,h20,hmany,no',nn,nb0,ca,?_⟩ rfl⟩;refine⟨(List.range (ae (aG ns k many)).toNat).map λ i:Nat=>tI (atD (aG ns k many) (i:Int)),_,[.tup [tI ns,tI cs],.int k],⟨aG ns k many,ca,sdA,fu,fu,ca⟩,pv,ca,ca,ca,λ i a b ea eb=>?_,q⟩;obtain⟨il,rfl⟩:=dE ea;rw[bK] at eb;obtain⟨_,rfl⟩:=dE eb;have gd:=yY k (iJ (p:=i) sdA fu fu);rw[KU fu] at gd;have al:=lx (aG ns k many) i;exact cl rfl ⟨_,k,ca,fu,fu,cl rfl ⟨ns,cs,_,ca,hs,fu,gd,csl,ca,ca⟩ rfl⟩ rfl
def Pu:ZX 65 89 ["tab","sides"] 2 2 Bb NF:=by
 refine⟨by kernel_rfl,?_⟩;rintro ts Q ⟨ns,cs,ms,rfl,sd,sm',l,nb,e,q⟩;refine⟨ca,?_⟩;exact⟨_,ca,cl rfl ⟨ns,ms,ca,sd,sm',l,nb,e,_,ca,ca,g2L,ca,q⟩ rfl⟩
def Pv:ZD 66 90 ["tab","other","side","sides","length","number_at"] ["at","tab","side","other","length"] [0,2,1,4] 6 5 3 5 Bc NG NH NI:=by
 refine⟨by kernel_rfl,?_⟩;rintro ts Q ⟨ns,cs,ms,ds,side,rfl,hs,hm,h20,csl,dsl,le,no,ee,nb,q⟩;refine⟨ca,?_⟩;have no':=no;have ee':=ee;obtain⟨k,rfl,hk⟩:=eJ no;simp only[Int.toNat_natCast] at ee q;have nk:=hs _ (getD_mem hk);have mk:=hm _ (getD_mem (ns:=ms) (k:=k) fu)
 have sdA:aV (aH ns ms k):=λ n hn'=>by
  unfold aH at hn';simp only[Int.toNat_natCast] at hn'
  rcases lw hn' with z|z
  ·exact gR hs n z
  ·lia
 have pb:=dA λ n hn=>(sdA n hn).1;have nb':=nb;unfold bZ at nb';have li:(aH ns ms k).length=ns.length:=by unfold aH;rw[bu]
 have jne:∀j,j≠k->ns[j]?=(aH ns ms k)[j]?:=λ j hj=>by unfold aH;rw[eX (by simpa using λ z=>hj z.symm)]
 have jk:(aH ns ms k)[k]?=some (ns.getD k 0+ms.getD k 0):=by unfold aH;simp only[Int.toNat_natCast];rw[eW hk]
 have nke:ns[k]?=some (ns.getD k 0):=by rw[aO,az hk];rfl
 have mke:ms[k]?=some (ms.getD k 0):=by rw[aO,az (show k<ms.length by lia)];rfl
 refine⟨_,ca,_,ca,cl rfl ⟨ns,ms,k,ca,hs,hm,h20,le,no',ee',nb,ca,_,ca,_,bU hk,ca,ca,?_⟩ rfl⟩;refine⟨(List.range (ae (aH ns ms k)).toNat).map λ i:Nat=>tI (atD (aH ns ms k) (i:Int)),_,[.tup [tI ns,tI cs],.int k,.tup [tI ms,tI ds],.int (ns.getD k 0)],⟨aH ns ms k,ca,sdA,fu,fu,ca⟩,pv,ca,ca,ca,λ i a b ea eb=>?_,q⟩;obtain⟨il,rfl⟩:=dE ea;rw[bK] at eb;have eb:=(dE eb).2;simp only[Function.comp] at eb;subst eb;have gd:=iJ (p:=i) sdA fu fu;have al:=lx (aH ns ms k) i;generalize atD (aH ns ms k) (i:Int)=At at *;have ake:At[k]?=some (At.getD k 0):=by rw[aO,az (show k<At.length by lia)];rfl
 have ab:=gd.2 k _ _ ake jk;unfold iN;refine⟨_,bU fu,s3 (λ lt=>?_) (λ lt=>?_)⟩
 ·rw[if_pos lt]
  have gn:aY ns At:=by
   have:=iM (ms:=ns) (w:=ns.getD k 0) (y:=At.getD k 0) gd fu jne nke ab.1 lt
   rwa [show At.set k (At.getD k 0)=At from by rw[aO,az (show k<At.length by lia)];exact s0e _] at this
  exact cl rfl ⟨ns,cs,At,ca,gR hs,fu,gn,csl,ca,ca⟩ rfl
 ·rw[if_neg lt];have gm:aY ms (At.set k (At.getD k 0-ns.getD k 0)):=iM gd fu (λ j hj=>by rw[<- (yE le).mp ee j hj];exact jne j hj) mke fu fu;exact⟨_,bU fu,cl rfl ⟨At,k,_,ca,fu,fu,cl rfl ⟨ms,ds,_,ca,gR hm,fu,gm,dsl,ca,ca⟩ rfl⟩ rfl⟩
def Pw:ZX 67 92 ["step","tab","form"] 3 2 Bd NJ:=by
 refine⟨by kernel_rfl,?_⟩;rintro ts Q ⟨d,S,⟨A,C⟩,Ts,a,mo,rfl,ha,m6,ea,gA,hmo,ok,fs,q⟩;refine⟨ca,?_⟩;have gA1:ax mo A:=gA.1;have fA:=dC gA1 hmo;have sdA:=lC fA;have smA:=nE fA;have a6:=fA.2.1;have a5:=fA.2.2.2;have sd:=lC (dC fs hmo);have s6:=fs.2.1;have cl':(C.length:Int)=ae A:=gA.2.1;have cb:∀c∈C,inB c:=gA.2.2;have pA:=dA (dD gA1);have ea1:(Ts.map (·.1))[a]?=some A:=by rw[aL,ea];rfl
 have eg:=cr ea
 cases d with
 |turn a os=>
  cases ha;obtain⟨A',ea',tk,rfl⟩:=ok;cases ea'.symm.trans ea1;simp only[dP,eg] at q;exact⟨_,ca,ca,BT,BT,_,ca,cl rfl ⟨A,C,os,ca,smA,fu,by rw[tk.length_eq,dB];lia,a5,cl',tk,ca,q⟩ rfl⟩
 |flip a s=>
  cases ha;obtain⟨ea',no⟩:=ok;cases ea'.symm.trans ea1;simp only[dP,eg] at q;exact⟨_,ca,ca,BT,BT,BT,_,ca,cl rfl ⟨S,C,s,ca,smA,fu,a5,cl',no,ca,q⟩ rfl⟩
 |cut a s f m g=>
  cases ha;obtain⟨A',ea',no,nb,m5,rfl⟩:=ok;cases ea'.symm.trans ea1;simp only[dP,eg] at q;exact⟨_,ca,ca,BT,BT,BT,BT,_,ca,_,ca,_,ca,_,ca,cl rfl ⟨A,C,s,f,m,g,ca,smA,fu,a5,cl',by unfold bad at nb;lia,fu,no,nb,ca,q⟩ rfl⟩
 |spread a s m=>
  cases ha;obtain⟨A',ea',no,nm,m5,nb,rfl⟩:=ok;cases ea'.symm.trans ea1;simp only[dP,eg] at q;exact⟨_,ca,ca,BT,BT,BT,BT,BT,_,ca,_,ca,cl rfl ⟨A,C,s,m,ca,sdA,fu,cl',fu,no,nm,nb,ca,q⟩ rfl⟩
 |lay a ms=>
  cases ha;obtain⟨A',ea',nb,e,rfl⟩:=ok;cases ea'.symm.trans ea1;simp only[dP,eg] at q;exact⟨_,ca,ca,BT,BT,BT,BT,BT,BT,_,ca,cl rfl ⟨A,C,S,ca,sdA,sd,fu,nb,e,ca,q⟩ rfl⟩
 |join a b s=>cases ha
 |_=>exact m6.elim
def Px:ZX 68 93 ["step","tabs","form","used"] 4 2 Be NK:=by
 refine⟨by kernel_rfl,?_⟩;rintro ts Q ⟨t,d,S,Ts,mo,rfl,ht,m6,gT',hmo,ok,fs,q⟩;refine⟨ca,?_⟩;have sd:=lC (dC fs hmo);have s6:=fs.2.1;subst ht
 cases d with
 |join a b s=>
  obtain⟨A,B,ea,eb,ll,no,ee,nb,rfl⟩:=ok;obtain⟨C,eA⟩:=qr ea;obtain⟨D,eB⟩:=qr eb;have gA:=gT' _ (aD eA);have gB:=gT' _ (aD eB);have fA:fit A:=dC gA.1 hmo;have fB:fit B:=dC gB.1 hmo;have a6:=fA.2.1;have b6:=fB.2.1;have a5:=fA.2.2.2;have b5:=fB.2.2.2;have pA:0<=ae A/\ae A<=ae (List.map ag A):=dA (dD gA.1);have pB:0<=ae B/\ae B<=ae (List.map ag B):=dA (dD gB.1);have e1:=cr eA;have e2:=cr eB;simp only[dP,e1,e2] at q;exact⟨_,ca,ca,cl rfl ⟨(Stp.join a b s),ca,sl3 (jO rfl),tbT (A,C),bd eA,ca,tbT (B,D),bd eB,ca,ca,BT,BT,BT,BT,BT,_,ca,_,ca,_,ca,cl rfl ⟨A,C,B,D,s,ca,nE fA,nE fB,fu,gA.2.1,gB.2.1,ll,no,ee,nb,ca,q⟩ rfl⟩ rfl⟩
 |flip a s=>obtain⟨C,eT⟩:=qr ok.1;exact⟨_,rfl,rfl,cl rfl ⟨_,rfl,sl3 (jO rfl),tbT (S,C),bd eT,rfl,rfl,trivial,trivial,trivial,trivial,trivial,trivial,_,rfl,cl rfl ⟨_,S,(S,C),Ts,_,mo,rfl,rfl,trivial,eT,gT' _ (aD eT),hmo,ok,fs,rfl,q⟩ rfl⟩ rfl⟩
 |_=>first|exact m6.elim|(obtain⟨A,ea,_⟩:=id ok;obtain⟨C,eT⟩:=qr ea;exact⟨_,rfl,rfl,cl rfl ⟨_,rfl,sl3 (jO rfl),tbT (A,C),bd eT,rfl,rfl,trivial,trivial,trivial,trivial,trivial,trivial,_,rfl,cl rfl ⟨_,S,(A,C),Ts,_,mo,rfl,rfl,trivial,eT,gT' _ (aD eT),hmo,ok,fs,rfl,q⟩ rfl⟩ rfl⟩)
def Py:ZX 69 95 ["sides","size","length"] 3 1 Bf NL:=by
 refine⟨by kernel_rfl,?_⟩;rintro ts Q ⟨t,ns,rfl,ht,sd,q⟩;refine⟨ca,?_⟩
 rcases ht with rfl|rfl
 ·refine⟨ca,ca,cM (λ i ρ=>∃y,ρ=[some (tI ns),some (.int (ae (ns.take i))),y]) ⟨_,ca⟩ (λ i u ρ hu ⟨y,e⟩=>?_) (λ ρ ⟨y,e⟩=>?_)⟩
  ·subst e;obtain⟨n,rfl,hn⟩:=jL hu;have b:=sd n (aD hn);exact⟨gY fu fu,ca,some (.int n),by rw[mY hn];rfl⟩
  ·subst e;rw[ai,fk];exact⟨ca,q⟩
 ·refine⟨ca,ca,cM (λ i ρ=>∃y,ρ=[some (lI ns),some (.int (ae (ns.take i))),y]) ⟨_,ca⟩ (λ i u ρ hu ⟨y,e⟩=>?_) (λ ρ ⟨y,e⟩=>?_)⟩
  ·subst e;obtain⟨n,rfl,hn⟩:=jL hu;have b:=sd n (aD hn);exact⟨gY fu fu,ca,some (.int n),by rw[mY hn];rfl⟩
  ·subst e;rw[ai,fk];exact⟨ca,q⟩
def Pz:ZX 70 96 ["sides"] 1 1 Bg NM:=by
 refine⟨by kernel_rfl,?_⟩;rintro ts Q ⟨ns,rfl,sd,l,q⟩;refine⟨ca,?_⟩;refine⟨by rw[ai];exact aX fu,dn .int (λ n=>.int (ag n)) ns (λ n hn=>⟨ca,?_⟩) (cl rfl ⟨_,ns.map ag,ca,.inr (by unfold lI;rw[bK];rfl),yu sd,ca,q⟩ rfl)⟩;rw[<- tY (sd n hn).1];rfl
def PB:ZX 71 97 ["n"] 1 1 Bh NN:=by
 refine⟨by kernel_rfl,?_⟩;rintro ts Q ⟨n,rfl,q⟩;refine⟨ca,?_⟩;have m17:aE n 17=n%17:=if_pos on;unfold nq at q;refine⟨on,BT,sN (λ h=>?_) (λ h=>?_)⟩
 ·rw[m17] at h;rw[if_pos h] at q;have e:aE (aI n 17) 4=n/17%4:=by rw[show aI n 17=n/17 from if_pos on];exact if_pos on
  exact⟨p63,p63,p62,ca,g4L,⟨on,on,on⟩,on,.int _,(by rw[e];exact Lr fu fu),ca,q⟩
 ·rw[m17] at h;rw[if_neg h] at q;exact⟨p63,p64,on,p63,ca,q⟩
def PD:ZX 72 98 ["pool","d"] 2 2 Bi NO:=by
 refine⟨by kernel_rfl,?_⟩;rintro ts Q ⟨ks,d,rfl,l,l2,q⟩;refine⟨ca,?_⟩;have in1:∀i:Int,0<=i->i<ks.length->Q (.int (ks.getD i.toNat 0)):=λ i h0 h1=>q _ (getD_mem fu);have d3:aI d 3=d/3:=if_pos on;refine⟨on,BT,sN (λ h=>?_) (λ h=>?_)⟩
 ·have m1:aE (aI d 3) (((ks.map TV.int).length:Nat):Int)=d/3%(ks.length:Int):=by rw[ai,d3];exact if_pos fu
  have a0:=eI (d/3) (show(ks.length:Int)≠0 by lia);have a1:=fE (d/3) (show(0:Int)<ks.length by lia);exact⟨⟨on,on,on⟩,by rw[ai];lia,.int (ks.getD (d/3%(ks.length:Int)).toNat 0),by rw[m1];exact nI a0 a1,ca,in1 _ a0 a1⟩
 ·have m1:aE (aI d 3) (if (((ks.map TV.int).length:Nat):Int)<3 then (((ks.map TV.int).length:Nat):Int) else 3)=d/3%(if (ks.length:Int)<3 then (ks.length:Int) else 3):=by rw[ai,d3];exact if_pos (by split<;>lia)
  have a0:=eI (d/3) (show(if (ks.length:Int)<3 then (ks.length:Int) else 3)≠0 by split<;>lia);have a1:=fE (d/3) (show(0:Int)<(if (ks.length:Int)<3 then (ks.length:Int) else 3) by split<;>lia);have a2:(if (ks.length:Int)<3 then (ks.length:Int) else 3)<=ks.length:=by split<;>lia
  exact⟨⟨on,on,on⟩,by rw[ai];split<;>lia,.int (ks.getD ((ks.length:Int)-1-d/3%(if (ks.length:Int)<3 then (ks.length:Int) else 3)).toNat 0),by rw[m1,ai];exact nI fu fu,ca,in1 _ fu fu⟩
def PF:ZX 73 99 ["kind","n","cell","most","made","part","k","free","length"] 9 4 Bj NP:=by
 refine⟨by kernel_rfl,?_⟩;rintro ts Q ⟨kd,n,cell,mo,rfl,hmo,q⟩;refine⟨ca,?_⟩;have m2:=hmo.1;have m3:=hmo.2;refine⟨BT,sN (λ c=>cl rfl ⟨cell,ca,ca,g2L,ca,g0L,ca,g2L,ca,q (.num (nq cell)) [] (λ _=>⟨ca,Kk cell⟩) (qh hmo)⟩ rfl) (λ c=>?_)⟩;have b5:0<=aE (aI n 15) 5/\aE (aI n 15) 5<5:=by rw[bV on];lia
 refine⟨ca,g0L,ca,⟨on,on,on⟩,ca,on,ca,⟨fu,fu⟩,?_⟩;refine cM (λ i ρ=>∃(ms:LI) (pt:Int) (y6 y7 y8:Option TV),ax mo ms/\ms.length=i/\ρ=[some (.int kd),some (.int n),some (.int cell),some (.int mo),some (tI ms),some (.int pt),y6,y7,y8]) ⟨[],_,_,_,_,qh hmo,ca,ca⟩ (λ i t ρ ht h=>?_) (λ ρ h=>?_)
 ·obtain⟨ms,pt,y6,y7,y8,hf,ml,rfl⟩:=h;obtain⟨il,rfl⟩:=dE ht;have sdm:aV ms:=λ n hn=>by have:=hf.1 n hn;exact⟨fu,fu⟩
  have pb:=hf.2.2;have d1:1<=mo/ae (ms.map ag):=div_one pb.1 pb.2;have dv:aI mo (ae (ms.map ag))=mo/ae (ms.map ag):=zD fu;have fs:=λ n=>ua (n:=n) hf fu;obtain⟨x,hx,x0⟩:=Lx (aE (aI pt 5) 7) (by rw[bV on];lia) (by rw[bV on];lia);refine⟨⟨on,on,on⟩,ca,cl rfl ⟨ms,ca,sdm,fu,⟨fu,fu,fu⟩,ca,ca,g7L,on,.int x,hx,ca,?_⟩ rfl⟩;rw[dv];generalize mo/ae (ms.map ag)=fr at *
  have fin:∀x:Int,0<=x->x<=fr->(ms.map TV.int).length + [TV.int x].length<=sizeLine/\(TV.tup (ms.map TV.int++[TV.int x])).nb=true/\∃(ms':LI) (pt':Int) (y6 y7 y8:Option TV),ax mo ms'/\ms'.length=i+1/\[some (TV.int kd),some (.int n),some (.int cell),some (.int mo),some (TV.tup (ms.map TV.int++[TV.int x])),some (.int (aI pt 5)),some (.int (i:Nat)),some (.int fr),some (.int x)]=[some (.int kd),some (.int n),some (.int cell),some (.int mo),some (tI ms'),some (.int pt'),y6,y7,y8]:=λ x x0 x1=>
   ⟨bN (show(ms.map TV.int).length+1<=1000 by rw[ai];lia),rfl,ms++[x],_,_,_,_,fs x x0 x1,by rw[aK,ml];rfl,by unfold tI;rw[cG];rfl⟩
  exact⟨on,BT,sN (λ _=>⟨ca,ca,g1L,fin fr fu (jq _)⟩) (λ _=>⟨ca,g1L,fin _ (by split<;>lia) (by split<;>lia)⟩)⟩
 ·obtain⟨ms,pt,y6,y7,y8,hf,ml,rfl⟩:=h;refine⟨BT,sN (λ _=>⟨ca,g2L,ca,g2L,ca,q (.inp ms) ms (λ _=>⟨ca,qg (dC hf hmo)⟩) hf⟩) (λ _=>⟨ca,g0L,dpT ms,?_⟩)⟩
  have fin:∀ns:LI,ax mo ns->0<ns.length->((15:Int)≠0/\-18446744073709551616<(15:Int)/\(15:Int)<1606938044258990275541962092341162602522202993782792835301376)/\(((ns.map TV.int).length:Nat):Int)≠0/\[TV.str "count",tI ns,TV.int (aE (aI n 15) ((ns.map TV.int).length:Nat))].all TV.nb=true/\3<=sizeLine/\[TV.tup [TV.str "count",tI ns,TV.int (aE (aI n 15) ((ns.map TV.int).length:Nat))],tI ns].all TV.nb=true/\2<=sizeLine/\true=true/\Q (.tup [TV.tup [TV.str "count",tI ns,TV.int (aE (aI n 15) ((ns.map TV.int).length:Nat))],tI ns]):=λ ns hf l0=>by
   refine⟨⟨on,on,on⟩,by rw[ai];lia,ca,g3L,ca,g2L,ca,?_⟩;rw[ai,bV fu];have f0:=eI (aI n 15) (show(ns.length:Int)≠0 by lia);have f1:=fE (aI n 15) (show(0:Int)<ns.length by lia);exact q (.count ns (aI n 15%ns.length)) ns (λ _=>⟨ca,qg (dC hf hmo),λ z=>by unfold off at z;lia⟩) hf
  by_cases c0:ms=[]
  ·have x0:0<=(if mo<3 then mo else 3)/\(if mo<3 then mo else 3)<=mo:=by split<;>lia
   exact sT ((lF ms).trans (cL c0)) ⟨ca,g1L,ca,fin [if mo<3 then mo else 3] (ua (ns:=[]) (qh hmo) on x0.1 (by show _<=mo/1;rw[Int.ediv_one];exact x0.2)) (mG _)⟩
  ·exact sF ((lF ms).trans (bo c0)) (fin ms hf (kE.mpr c0))
def PH:ZX 74 100 ["one","other","least"] 3 2 Bk NQ:=by
 refine⟨by kernel_rfl,?_⟩;rintro ts Q ⟨ns,ms,rfl,q⟩;refine⟨ca,?_⟩;have hm:(if (((ms.map TV.int).length:Nat):Int)<(((ns.map TV.int).length:Nat):Int) then (((ms.map TV.int).length:Nat):Int) else (((ns.map TV.int).length:Nat):Int))=((if ms.length<ns.length then ms.length else ns.length:Nat):Int):=by rw[ai,ai];split<;>split<;>lia
 refine⟨ca,?_⟩;rw[hm];generalize hL:(if ms.length<ns.length then ms.length else ns.length)=L;have e1:=gb ns L;have e2:=gb ms L;refine⟨by show _L.dp 9 (TV.tup (aq (ns.map TV.int) none (some (L:Int))));rw[e1];exact dpT _,ca,?_⟩;show Q (.bl (_L.eqT (TV.tup (aq (ns.map TV.int) none (some (L:Int)))) (TV.tup (aq (ms.map TV.int) none (some (L:Int))))));rw[e1,e2,qp];refine q _ ?_;rw[gQ];unfold dg;subst hL;by_cases c:ms.length<ns.length
 ·rw[if_pos c,if_pos c,fk]
 ·rw[if_neg c,if_neg c,fk];exact eq_comm
def PJ:ZX 75 101 ["kind","d","sides","every","a","fit","b","longer","words","c"] 10 3 Bl NR:=by
 refine⟨by kernel_rfl,?_⟩;rintro ts Q ⟨kd,d0,d1,d2,mo,Ss,rfl,n0,n4,hS,q⟩;refine⟨ca,?_⟩;refine⟨⟨fu,by rw[ak];lia⟩,ca,?_⟩;rw[ak,qw];refine⟨_,ca,clB rfl ⟨upL Ss.length,d0,ca,by rw[dB];exact n0,by rw[dB];lia,λ k hk=>?_⟩⟩;obtain⟨a,rfl,al⟩:=fF hk;have eA:=eQ al;generalize Ss.getD a []=A at eA;have fA:=hS _ (aD eA);obtain⟨w4,hw4,wm4⟩:=uk yG (k:=aE d2 4) (by rw[bV on];lia) (by rw[bV on];show d2%4<((4:Nat):Int);lia);refine⟨by simp[LF],ca,BT,sN (λ _=>⟨ca,g4L,_,ca,on,.str w4,hw4,ca,g3L,tI A,bd eA,ca,g2L,ca,q (.each w4 a) A ⟨eA,wm4⟩ fA⟩) (λ _=>?_)⟩;refine⟨by rw[ai,dB];exact aX fu,jM TV.int TV.int (pB Ss A) (upL Ss.length) rfl (λ k hk=>?_) ?_⟩
 ·obtain⟨j,rfl,jl⟩:=fF hk;exact⟨tI A,bd eA,tI (Ss.getD j []),bd (eQ jl),cl rfl ⟨A,Ss.getD j [],ca,λ b hb=>⟨by rw[zE hb (qx (k:=(j:Int)))],λ _=>⟨ca,ca⟩⟩⟩ rfl⟩
 generalize hks:(upL Ss.length).filter (pB Ss A)=ks;have km:∀k,k∈ks ↔ k∈upL Ss.length/\dg A (Ss.getD k.toNat []):=λ k=>by rw[<- hks,gZ,qx]
 have kl:ks.length<=40:=by rw[<- hks];exact cI (nN _ _) (by rw[dB];exact n4)
 have kpos:0<ks.length:=uy ((km a).mpr ⟨yT al,by rw[Int.toNat_natCast,aO,eA];exact yP A⟩);refine⟨ca,_,ca,clB rfl ⟨ks,d1,ca,kpos,fu,λ k hk=>?_⟩⟩;obtain⟨ku,pB'⟩:=(km k).mp hk;obtain⟨b,rfl,bl⟩:=fF ku;have eB:=eQ bl;rw[Int.toNat_natCast] at pB';generalize Ss.getD b []=B at eB pB';have fB:=hS _ (aD eB);have fL:ax mo (bv A B):=yS fA fB;obtain⟨w,hw,wm⟩:=uk qd (k:=aE d2 12) (by rw[bV on];lia) (by rw[bV on];show d2%12<((12:Nat):Int);lia);refine⟨by simp[LF],ca,tI A,bd eA,tI B,bd eB,ca,?_⟩;rw[mxT pB'];refine⟨BT,sN (λ _=>⟨ca,Lu,ca,_,ca,on,.str w,hw,ca,g4L,ca,g2L,ca,q (.pair w a b) (bv A B) ⟨A,B,eA,eB,wm,pB',ca⟩ fL⟩) (λ _=>?_)⟩;refine⟨by rw[ai];exact aX fu,jM TV.int TV.int (pB Ss B) ks rfl (λ k hk=>?_) ?_⟩
 ·obtain⟨j,rfl,jl⟩:=fF ((km k).mp hk).1;exact⟨tI B,bd eB,tI (Ss.getD j []),bd (eQ jl),cl rfl ⟨B,Ss.getD j [],ca,λ b hb=>⟨by rw[zE hb (qx (k:=(j:Int)))],λ _=>⟨ca,ca⟩⟩⟩ rfl⟩
 generalize hls:ks.filter (pB Ss B)=ls;have lm:∀k,k∈ls ↔ k∈ks/\dg B (Ss.getD k.toNat []):=λ k=>by rw[<- hls,gZ,qx]
 have ll:ls.length<=40:=by rw[<- hls];exact cI (nN _ _) kl
 have lpos:0<ls.length:=uy ((lm b).mpr ⟨hk,by rw[Int.toNat_natCast,aO,eB];exact yP B⟩);refine⟨ca,_,ca,clB rfl ⟨ls,d2,ca,lpos,fu,λ k hk2=>?_⟩⟩;obtain⟨kk,pC⟩:=(lm k).mp hk2;obtain⟨ku2,pAC⟩:=(km k).mp kk;obtain⟨c,rfl,cl'⟩:=fF ku2;have eC:=eQ cl';rw[Int.toNat_natCast] at pC pAC;generalize Ss.getD c []=C at eC pC pAC;have fC:=hS _ (aD eC)
 have pLC:dg (bv A B) C:=by
  by_cases z:A.length<B.length
  ·rw[yR z];exact pC
  ·rw[yQ pB' fu];exact pAC
 have z:Q (.tup [stT (.pick a b c),TV.tup (if ((bv A B).map TV.int).length<(C.map TV.int).length then C.map TV.int else (bv A B).map TV.int)]):=by rw[mxT pLC];exact q (.pick a b c) (bv (bv A B) C) ⟨A,B,C,eA,eB,eC,pB',pLC,rfl⟩ (yS fL fC)
 exact⟨by simp[LF],ca,ca,g4L,tI C,bd eC,ca,g2L,ca,z⟩
def PL:ZX 76 102 ["own","d","size"] 3 2 Bm NS:=by
 refine⟨by kernel_rfl,?_⟩;rintro ts Q ⟨ns,d,mo,rfl,ft,mk,q⟩;refine⟨ca,?_⟩;have fA:=dC ft mk;have sd:=lC fA;have l6:=fA.2.1;have m4:aE d 4=d%4:=if_pos on;unfold jJ at q;refine cl rfl ⟨_,ns,ca,.inl rfl,sd,ca,on,BT,sN (λ h=>?_) (λ h=>⟨on,BT,?_⟩)⟩ rfl
 ·rw[m4] at h;rw[if_pos h] at q;exact⟨ca,g1L,ca,q⟩
 rw[m4] at h;rw[if_neg h] at q;have v2:aI (ae ns) 2=ae ns/2:=if_pos on;have w2:aE (ae ns) 2=ae ns%2:=if_pos on;have rv:Q (tI ns.reverse)->Q (TV.tup (ns.map TV.int).reverse):=λ q=>by rw[<- ux];exact q
 refine sN (λ h2=>?_) (λ h2=>?_)
 ·rw[m4] at h2;refine s2 (λ h3=>?_) (λ h3=>?_)
  ·have h3:(((ns.map TV.int).length:Nat):Int)<6:=au h3;rw[ai] at h3;rw[if_pos ⟨h2,fu⟩] at q;exact⟨ca,g1L,bN (show 1+(ns.map TV.int).length<=1000 by rw[ai];lia),ca,q⟩
  ·have h3:¬(((ns.map TV.int).length:Nat):Int)<6:=qC h3;rw[ai] at h3;rw[if_neg fu,if_neg fu] at q;exact⟨on,BT,sN (λ h4=>by rw[m4] at h4;lia) (λ h4=>⟨ca,rv q⟩)⟩
 ·rw[m4] at h2;rw[if_neg (λ z=>h2 z.1)] at q;refine⟨on,BT,sN (λ h4=>⟨on,BT,sN (λ h5=>?_) (λ h5=>⟨ca,rv ?_⟩)⟩) (λ h4=>⟨ca,rv ?_⟩)⟩
  ·rw[m4] at h4;rw[w2] at h5;rw[if_pos ⟨h4,h5⟩,<- v2] at q;exact⟨⟨on,on,on⟩,ca,g2L,ca,q⟩
  ·rw[w2] at h5
   rwa [if_neg (λ z=>h5 z.2)] at q
  ·rw[m4] at h4
   rwa [if_neg (λ z=>h4 z.1)] at q
def PP:ZX 77 103 ["kind","d","a","own","most","order","part","k","place","length","side","gap","first","many"] 14 5 Bn NT:=by
 refine⟨by kernel_rfl,?_⟩;rintro ts Q ⟨kd,d0,d1,d2,mo,a,A,Ss,rfl,ea,hf,hmo,q⟩;refine⟨ca,?_⟩;have a6:=hf.2.1;have sd:=dj hf hmo;have m1:=hmo.1;have m2:=hmo.2;have pb:=hf.2.2;refine⟨BT,sN (λ _=>?_) (λ _=>?_)⟩
 ·refine⟨ca,g0L,ca,_,ca,ca,ca,⟨fu,by rw[ai];lia⟩,?_⟩;refine cM (λ i ρ=>∃(os:LI) (n:Int) (y:Option TV),os.Perm (upL i)/\ρ=[some (.int kd),some (lI [d0,d1,d2]),some (.int a),some (tI A),some (.int mo),some (.own (os.map .int)),some (.int n),y,none,none,none,none,none,none]) ⟨[],_,_,List.Perm.refl _,ca⟩ (λ i t ρ ht h=>?_) (λ ρ h=>?_)
  ·obtain⟨os,n,y,pm,rfl⟩:=h;obtain⟨il,rfl⟩:=dE ht;rw[ai] at il;have ol:os.length=i:=by rw[pm.length_eq,dB]
   have mp:aE n ((i:Int)+1)=n%((i:Int)+1):=bV fu;have f0:=eI n (show(i:Int)+1≠0 by lia);have f1:=fE n (show(0:Int)<(i:Int)+1 by lia);refine⟨show(i:Int)+1≠0 by lia,ca,⟨by rw[mp];exact f0,by rw[mp,ai,ol];lia⟩,by rw[ai];exact aX fu,⟨show(i:Int)+1≠0 by lia,show -18446744073709551616<(i:Int)+1 by lia,show(i:Int)+1<_ by lia⟩,ca,os.take (aE n ((i:Int)+1)).toNat++(i:Int)::os.drop (aE n ((i:Int)+1)).toNat,aI n ((i:Int)+1),some (.int (i:Nat)),KA pm,by rw[cG,bA,qu,List.map_drop];rfl⟩
  ·obtain⟨os,n,y,pm,rfl⟩:=h;rw[ak,cn,ai,Int.toNat_natCast] at pm;have ol:os.length=A.length:=by rw[pm.length_eq,dB]
   have om:∀z∈os,0<=z/\z<(A.length:Int):=λ z hz=>up_mem.mp (pm.subset hz);refine⟨ca,g3L,by rw[ai];exact aX fu,dn .int (λ z:Int=>.int (A.getD z.toNat 0)) os (λ z hz=>⟨_,nI (om z hz).1 (om z hz).2,ca,ca⟩) ⟨ca,g2L,ca,?_⟩⟩;have z:=q (.turn a os) (aC A os) ⟨A,ea,pm,rfl⟩ (KC hf pm);unfold mdT stT stI tI aC at z;rw[bK] at z;exact z
 have lo:=Ky (d:=d2) hf hmo;refine⟨BT,sN (λ _=>⟨_,ca,cl rfl ⟨A,d2,mo,ca,hf,hmo,ca,g3L,_,ca,cl rfl ⟨A,d2,mo,ca,hf,hmo,ca,g2L,ca,q (.lay a (jJ A d2)) (jJ A d2) ⟨A,ea,qg (dC lo.1 hmo),lo.2.symm,ca⟩ lo.1⟩ rfl⟩ rfl⟩) (λ _=>?_)⟩;refine⟨ca,g0L,dpT A,or3 (λ sp=>?_) (λ ne=>?_)⟩
 ·have l6:A.length<6:=by
   rcases sp with z|⟨_,z⟩
   ·have z:=au ((lF A).symm.trans z);rw[z];decide
   ·have z:(((A.map TV.int).length:Nat):Int)<6:=au z;rw[ai] at z;lia
  have mp:aE d1 ((((A.map TV.int).length:Nat):Int)+1)=d1%((A.length:Int)+1):=by rw[ai];exact bV fu
  have f0:=eI d1 (show(A.length:Int)+1≠0 by lia);have f1:=fE d1 (show(0:Int)<(A.length:Int)+1 by lia);obtain⟨k,hk⟩:∃k:Nat,d1%((A.length:Int)+1)=k:=⟨_,(jA f0).symm⟩;rw[hk] at f1 mp;refine⟨_,ca,show(((A.map TV.int).length:Nat):Int)+1≠0 by rw[ai];lia,ca,?_⟩;rw[mp];have dv:=div_one pb.1 pb.2;have de:aI mo (ae (A.map ag))=mo/ae (A.map ag):=zD fu;refine⟨_,ca,cl rfl ⟨A,ca,sd,fu,⟨fu,fu,fu⟩,?_⟩ rfl⟩;rw[de];have fi:=λ x=>KE (x:=x) (k:=k) hf l6;have fm:mo/ae (A.map ag)<=mo:=Int.ediv_le_self _ fu;generalize mo/ae (A.map ag)=fr at *;have c4:0<(if fr<4 then fr else 4)/\(if fr<4 then fr else 4)<=fr:=by split<;>lia
  have me:aE d2 (if fr<4 then fr else 4)=d2%(if fr<4 then fr else 4):=bV c4.1;have g0:=eI d2 (show(if fr<4 then fr else 4)≠0 by lia);have g1:=fE d2 c4.1
  have fin:∀x:Int,0<=x->x<=fr->Q (.tup [.tup [.str "spread",.int a,.int k,.int x],.tup ((aq (A.map TV.int) none (some (k:Int))++[TV.int x])++aq (A.map TV.int) (some (k:Int)) none)]):=λ x x0 x1=>by
   rw[Lz];exact q (.spread a k x) (aG A k x) ⟨A,ea,by unfold gW;lia,fu,fu,qg (dC (fi x x0 x1) hmo),ca⟩ (fi x x0 x1)
  have la:=jN (a:=none) (b:=some (k:Int)) a6;have lb:=jN (a:=some (k:Int)) (b:=none) a6;have l2:∀x,(aq (A.map TV.int) none (some (k:Int))++[TV.int x]).length+(aq (A.map TV.int) (some (k:Int)) none).length<=sizeLine:=λ x=>bN (by rw[aK,gw];lia);have l1:(aq (A.map TV.int) none (some (k:Int))).length+1<=sizeLine:=bN fu;exact⟨show(if fr<4 then fr else 4)≠0 by lia,ca,_,ca,on,BT,sN (λ _=>⟨ca,ca,g4L,ca,g1L,l1,l2 _,ca,g2L,ca,fin 0 fu fu⟩) (λ _=>⟨ca,g4L,ca,g1L,l1,l2 _,ca,g2L,ca,fin _ (by rw[me];lia) (by rw[me];lia)⟩)⟩
 ·have A0:0<A.length:=kE.mpr (qC ((lF A).symm.trans ne));have mp:aE d1 (((A.map TV.int).length:Nat):Int)=d1%(A.length:Int):=by rw[ai];exact bV fu
  have f0:=eI d1 (show(A.length:Int)≠0 by lia);have f1:=fE d1 (show(0:Int)<(A.length:Int) by lia);obtain⟨k,hk⟩:∃k:Nat,d1%(A.length:Int)=k:=⟨_,(jA f0).symm⟩;rw[hk] at f1 mp;refine⟨_,ca,show(((A.map TV.int).length:Nat):Int)≠0 by rw[ai];lia,ca,?_⟩;rw[mp];have kl:k<A.length:=fu;refine⟨BT,s2 (λ _=>⟨ca,g3L,ca,g2L,ca,q (.flip a k) A ⟨ea,by unfold off;lia⟩ hf⟩) (λ _=>?_)⟩;have an:=(hf.1 _ (tX kl)).1;have am:=(hf.1 _ (tX kl)).2;have o1:=iK an;have ge:aE d2 3=d2%3:=bV on;have fe:aE (aI d2 3) (if A.getD k 0 > 1 then A.getD k 0 else 1)=aI d2 3%ag (A.getD k 0):=by rw[tY an];exact bV fu
  have h0:=eI (aI d2 3) (show ag (A.getD k 0)≠0 by lia);have g1:1<=1+aE d2 3/\1+aE d2 3<=3:=by rw[ge];lia
  refine⟨_,ca,on,ca,_,ca,⟨on,on,on⟩,_,bU kl,show(if A.getD k 0 > 1 then A.getD k 0 else 1)≠0 by rw[tY an];lia,ca,?_⟩;rw[fe];generalize aI d2 3%ag (A.getD k 0)=f at *;generalize 1+aE d2 3=g at *;have e3:0<=aE (aI d2 300) 3:=by rw[bV on];lia
  have cm:=KM (e:=aE (aI d2 300) 3) an h0 g1.1 e3;rw[<- Lq] at cm;have la:=jN (a:=none) (b:=some (k:Int)) a6;have lb:=jN (a:=some ((k:Int)+1)) (b:=none) a6;have l2:∀x,(aq (A.map TV.int) none (some (k:Int))++[TV.int x]).length+(aq (A.map TV.int) (some ((k:Int)+1)) none).length<=sizeLine:=λ x=>bN (by rw[aK,gw];lia);refine⟨_,bU kl,⟨fu,fu,fu⟩,_,ca,⟨on,on,on⟩,on,ca,?_⟩;generalize (if aI (A.getD k 0-1-f) g+1-aE (aI d2 300) 3 > 0 then aI (A.getD k 0-1-f) g+1-aE (aI d2 300) 3 else 0)=m at *;refine⟨ca,g6L,ca,g1L,bN (by show(aq (A.map TV.int) none (some (k:Int))).length+1<=1000;lia),l2 m,ca,g2L,ca,?_⟩;show Q (.tup [.tup [.str "cut",.int a,.int k,.int f,.int m,.int g],.tup ((aq (A.map TV.int) none (some (k:Int))++[TV.int m])++aq (A.map TV.int) (some ((k:Int)+1)) none)]);rw[LB kl];exact q (.cut a k f m g) (A.set k m) ⟨A,ea,by unfold off;lia,by unfold bad;rw[Int.toNat_natCast];exact λ z=>z.elim fu λ z=>z.elim fu λ z=>z.elim fu cm.2.2,fu,by rw[Int.toNat_natCast]⟩ (KJ hf cm.1 cm.2.1)
def PQ:ZX 78 104 ["own","other","side"] 3 3 Bo NU:=by
 refine⟨by kernel_rfl,?_⟩;rintro ts Q ⟨A,B,k,rfl,kl,a6,b6,q⟩;refine⟨ca,?_⟩
 have ct:∀L:LI,L.length<=6->aq (L.map TV.int) none (some (k:Int))++aq (L.map TV.int) (some ((k:Int)+1)) none=(L.eraseIdx k).map TV.int/\(aq (L.map TV.int) none (some (k:Int))).length<=6/\(aq (L.map TV.int) (some ((k:Int)+1)) none).length<=6:=λ L hL=>by
  have e1:=gb L k;have e2:aq (L.map TV.int) (some ((k:Int)+1)) none=(L.drop (k+1)).map TV.int:=by rw[show(k:Int)+1=((k+1:Nat):Int) by lia];exact gc L (k+1)
  refine⟨by rw[e1,e2,mU,cG],by rw[e1,ai,bc];lia,by rw[e2,ai,da];lia⟩
 obtain⟨ea,la,lb⟩:=ct A a6;obtain⟨eb,lc,ld⟩:=ct B b6;unfold eO at q;have nl:∀a b:Nat,a<=6->b<=6->a+b<=sizeLine:=λ a b h1 h2=>bN fu;have dpA:_L.dp 9 (TV.tup (aq (A.map TV.int) none (some (k:Int))++aq (A.map TV.int) (some ((k:Int)+1)) none)):=by rw[ea];exact dpT _
 have eq1:_L.eqT (TV.tup (aq (A.map TV.int) none (some (k:Int))++aq (A.map TV.int) (some ((k:Int)+1)) none)) (TV.tup (aq (B.map TV.int) none (some (k:Int))++aq (B.map TV.int) (some ((k:Int)+1)) none))=decide (A.eraseIdx k=B.eraseIdx k):=by rw[ea,eb,qp]
 by_cases c1:A.length=B.length
 ·by_cases c2:A.eraseIdx k=B.eraseIdx k
  ·rw[if_pos ⟨c1,c2⟩] at q;have e1:=gb A k;have e2:aq (A.map TV.int) (some ((k:Int)+1)) none=(A.drop (k+1)).map TV.int:=by rw[show(k:Int)+1=((k+1:Nat):Int) by lia];exact gc A (k+1)
   have e3:(aq (A.map TV.int) none (some (k:Int))++[TV.int (A.getD k 0+B.getD k 0)])++aq (A.map TV.int) (some ((k:Int)+1)) none=(aH A B k).map TV.int:=by unfold aH;rw[Int.toNat_natCast,e1,e2,tZ,if_pos kl];simp
   unfold tI at q;rw[<- e3] at q;exact⟨BT,sF (neF (by rw[ai,ai,c1])) ⟨nl _ _ la lb,nl _ _ lc ld,dpA,sF (by show(!_L.eqT (TV.tup _) (TV.tup _))=false;rw[eq1,cL c2];rfl) ⟨_,bU kl,_,bU fu,ca,g1L,nl _ 1 la on,bN (show(aq (A.map TV.int) none (some (k:Int))++[TV.int (A.getD k 0+B.getD k 0)]).length+(aq (A.map TV.int) (some ((k:Int)+1)) none).length<=1000 by rw[aK,gw];lia),ca,q⟩⟩⟩
  ·rw[if_neg (λ z=>c2 z.2)] at q;exact⟨BT,sF (neF (by rw[ai,ai,c1])) ⟨nl _ _ la lb,nl _ _ lc ld,dpA,sT (by show(!_L.eqT (TV.tup _) (TV.tup _))=true;rw[eq1,bo c2];rfl) ⟨ca,g0L,ca,q⟩⟩⟩
 ·rw[if_neg (λ z=>c1 z.1)] at q;exact⟨BT,sT (neT (by rw[ai,ai];lia)) ⟨ca,g0L,ca,q⟩⟩
def PR:ZX 79 105 ["kind","d","sides","most","sided","a","own","side","words","made","fit","b"] 12 4 Bp NV:=by
 refine⟨by kernel_rfl,?_⟩;rintro ts Q ⟨kd,d0,d1,d2,mo,Ss,rfl,⟨S0,S0m,S0l⟩,k11,k14,n4,hS,hmo,q⟩;refine⟨ca,?_⟩;obtain⟨j0,j0l,j0e⟩:=List.mem_iff_getElem.mp S0m;refine⟨⟨fu,by rw[ak];lia⟩,by rw[ak,cn,ak];exact aX fu,jM TV.int TV.int (λ k:Int=>!decide (Ss.getD k.toNat []=[])) (upL Ss.length) (by rw[ak];exact qw _) (λ k hk=>?_) ?_⟩
 ·obtain⟨j,rfl,jl⟩:=fF hk;exact⟨tI (Ss.getD j []),bd (eQ jl),ca,g0L,dpT _,by rw[Int.toNat_natCast,<- lF];rfl,λ _=>⟨ca,ca⟩⟩
 generalize hks:(upL Ss.length).filter (λ k:Int=>!decide (Ss.getD k.toNat []=[]))=ks;have km:∀k,k∈ks ↔ k∈upL Ss.length/\Ss.getD k.toNat []≠[]:=λ k=>by rw[<- hks,gZ];simp
 have kl:ks.length<=40:=by rw[<- hks];exact cI (nN _ _) (by rw[dB];exact n4)
 have kpos:0<ks.length:=uy ((km j0).mpr ⟨yT j0l,by rw[Int.toNat_natCast,aO,az j0l,j0e];exact kE.mp S0l⟩);refine⟨ca,_,ca,clB rfl ⟨ks,d0,ca,kpos,fu,λ k hk=>?_⟩⟩;obtain⟨ku,An⟩:=(km k).mp hk;obtain⟨a,rfl,al⟩:=fF ku;have eA:=eQ al;rw[Int.toNat_natCast] at An;generalize Ss.getD a []=A at eA An;have A0:=kE.mpr An;have fA:=hS _ (aD eA);have a6:=fA.2.1;have mp:aE d1 (((A.map TV.int).length:Nat):Int)=d1%(A.length:Int):=by rw[ai];exact bV fu
 have f0:=eI d1 (show(A.length:Int)≠0 by lia);have f1:=fE d1 (show(0:Int)<(A.length:Int) by lia);obtain⟨k,hk⟩:∃k:Nat,d1%(A.length:Int)=k:=⟨_,(jA f0).symm⟩;rw[hk] at f1 mp;have kl:k<A.length:=fu;refine⟨by simp[LF],ca,tI A,bd eA,ca,_,ca,show(((A.map TV.int).length:Nat):Int)≠0 by rw[ai];lia,ca,?_⟩;rw[mp];obtain⟨w,hw,wm⟩:=uk fw (k:=aE d2 7) (by rw[bV on];lia) (by rw[bV on];show d2%7<((7:Nat):Int);lia);have la:=jN (a:=none) (b:=some (k:Int)) a6;have lb:=jN (a:=some ((k:Int)+1)) (b:=none) a6;have er:aq (A.map TV.int) none (some (k:Int))++aq (A.map TV.int) (some ((k:Int)+1)) none=(A.eraseIdx k).map TV.int:=by rw[show(k:Int)+1=((k+1:Nat):Int) by lia,gb,gc,mU,cG]
 have qf:Q (.tup [.tup [.str "fold",.str w,.int a,.int k],.tup (aq (A.map TV.int) none (some (k:Int))++aq (A.map TV.int) (some ((k:Int)+1)) none)]):=by
  rw[er];exact q (.fold w a k) (A.eraseIdx k) ⟨A,eA,wm,by unfold off;lia,by rw[Int.toNat_natCast]⟩ (KL fA)
 refine⟨ca,g7L,ca,BT,sN (λ _=>⟨_,ca,on,.str w,hw,ca,g4L,bN (by show(aq (A.map TV.int) none (some (k:Int))).length+(aq (A.map TV.int) (some ((k:Int)+1)) none).length<=1000;lia),ca,g2L,ca,qf⟩) (λ n13=>?_)⟩;refine⟨BT,sN (λ _=>⟨_,ca,on,.str w,hw,ca,g4L,ca,g2L,ca,q (.run w a k) A ⟨eA,wm,by unfold off;lia⟩ fA⟩) (λ n14=>?_)⟩;refine⟨ca,g0L,ca,g1L,ca,?_⟩;refine um (λ ρ=>∃Ms:LL,Md kd A k Ss Ms/\ρ=[some (.int kd),some (lI [d0,d1,d2]),some (.lst (Ss.map tI)),some (.int mo),some (.own (ks.map .int)),some (.int a),some (tI A),some (.int k),some (.own (fw.map .str)),some (.own (Ms.map tI)),none,none]) ?_ (λ ρ' ⟨Ms,hM,e⟩=>?_)
 ·refine⟨BT,sN (λ c11=>⟨by rw[ak];exact aX fu,dn tI (λ B=>tI (eO A B k)) Ss (λ B hB=>cl rfl ⟨A,B,k,ca,kl,a6,(hS B hB).2.1,ca,ca⟩ rfl) ⟨ca,Ss.map (λ B=>eO A B k),.inl ⟨c11,ca⟩,by rw[bK];rfl⟩⟩) (λ c11=>⟨_,zF A0,s3 (λ cA=>⟨by rw[ak];exact aX fu,dn tI (λ B=>tI (B++A.drop 1)) Ss (λ B hB=>?_) ⟨ca,Ss.map (λ B=>B++A.drop 1),.inr (.inl ⟨fu,cA,ca⟩),by rw[bK];rfl⟩⟩) (λ cA=>⟨[[]],.inr (.inr ⟨c11,cA,ca⟩),ca⟩)⟩)⟩;have e1:aq (A.map TV.int) (some 1) none=(A.drop 1).map TV.int:=gc A 1;have b6:=(hS B hB).2.1;have lc:=jN (a:=some 1) (b:=none) a6;refine⟨bN (by show(B.map TV.int).length+(aq (A.map TV.int) (some 1) none).length<=1000;rw[ai];lia),ca,?_⟩;show TV.tup (B.map TV.int++aq (A.map TV.int) (some 1) none)=tI (B++A.drop 1);rw[e1,<- cG];rfl
 subst e;have ml:=KN hM n4;have mb:=KO hM fA hS hmo;refine⟨⟨fu,by rw[ak];lia⟩,by rw[ak,cn,ak];exact aX fu,jM TV.int TV.int (λ k:Int=>(decide (kd=12)&&decide (0<A.getD 0 0)) || !decide (Ms.getD k.toNat []=[])) (upL Ms.length) (by rw[ak];exact qw _) (λ k hk=>?_) ?_⟩
 ·obtain⟨j,rfl,jl⟩:=fF hk;have nn:(!_L.eqT (tI (Ms.getD j [])).fz (TV.tup []).fz)=!decide (Ms.getD ((j:Int).toNat) []=[]):=by rw[Int.toNat_natCast,<- lF];rfl
  refine⟨BT,sN (λ c12=>⟨_,zF A0,s3 (λ cA=>?_) (λ cA=>?_)⟩) (λ c12=>?_)⟩
  ·exact⟨by rw[cL c12,cL cA];rfl,λ _=>⟨ca,ca⟩⟩
  ·exact⟨tI (Ms.getD j []),bd (eQ jl),ca,g0L,dpT _,by rw[bo cA,oV,s1n,<- nn];rfl,λ _=>⟨ca,ca⟩⟩
  ·exact⟨tI (Ms.getD j []),bd (eQ jl),ca,g0L,dpT _,by rw[bo c12,s0n,s1n,<- nn];rfl,λ _=>⟨ca,ca⟩⟩
 generalize hks1:(upL Ms.length).filter (λ k:Int=>(decide (kd=12)&&decide (0<A.getD 0 0)) || !decide (Ms.getD k.toNat []=[]))=ks1;have km1:∀k,k∈ks1 ↔ k∈upL Ms.length/\((kd=12/\0<A.getD 0 0)\/Ms.getD k.toNat []≠[]):=λ k=>by rw[<- hks1,gZ];simp
 have kl1:ks1.length<=40:=by rw[<- hks1];exact cI (nN _ _) (by rw[dB];exact ml)
 refine⟨ca,by rw[ai];exact aX fu,jM TV.int TV.int (λ k:Int=>decide ((Ms.getD k.toNat []).length<=6)&&decide (ae ((Ms.getD k.toNat []).map ag)<=mo)) ks1 rfl (λ k hk=>?_) ?_⟩
 ·obtain⟨j,rfl,jl⟩:=fF ((km1 k).mp hk).1;rw[Int.toNat_natCast];have eM:=eQ jl;generalize Ms.getD j []=M at *;refine⟨tI M,bd eM,s2 (λ c6=>?_) (λ c6=>?_)⟩
  ·have c6:(((M.map TV.int).length:Nat):Int)<=6:=au c6;rw[ai] at c6;exact⟨tI M,bd eM,cl rfl ⟨M,ca,KP (mb M (aD eM)),fu,by rw[cL (show M.length<=6 by lia),Bool.true_and],λ _=>⟨ca,ca⟩⟩ rfl⟩
  ·have c6:¬(((M.map TV.int).length:Nat):Int)<=6:=qC c6;rw[ai] at c6;exact⟨by rw[bo (show ¬M.length<=6 by lia),s0n],λ _=>⟨ca,ca⟩⟩
 generalize hls:ks1.filter (λ k:Int=>decide ((Ms.getD k.toNat []).length<=6)&&decide (ae ((Ms.getD k.toNat []).map ag)<=mo))=ls;have lm:∀k,k∈ls ↔ k∈ks1/\(Ms.getD k.toNat []).length<=6/\ae ((Ms.getD k.toNat []).map ag)<=mo:=λ k=>by rw[<- hls,gZ,aU,gQ,gQ]
 have ll:ls.length<=40:=by rw[<- hls];exact cI (nN _ _) kl1
 refine⟨ca,BT,sN (λ _=>⟨ca,g3L,ca,g2L,ca,q (.flip a k) A ⟨eA,by unfold off;lia⟩ fA⟩) (λ lne=>?_)⟩;have lne:ls.length≠0:=λ z=>lne (by rw[ai,z];rfl);refine⟨_,ca,clB rfl ⟨ls,d2,ca,fu,fu,λ x hx=>?_⟩⟩;obtain⟨xm,m6,mw⟩:=(lm x).mp hx;obtain⟨xu,hb⟩:=(km1 x).mp xm;obtain⟨b,rfl,bl⟩:=fF xu;rw[Int.toNat_natCast] at m6 mw hb;have eM:=eQ bl;generalize Ms.getD b []=M at *;have nb:=KQ hmo m6 mw;have fM:=uc (λ n hn=>(mb M (aD eM) n hn).1) m6 mw;refine⟨by simp[LF],ca,BT,sN (λ c11=>?_) (λ n11=>?_)⟩
 ·have mne:¬M=[]:=hb.elim (λ z=>by lia) id
  obtain⟨B,eB,rfl⟩:∃B,Ss[b]?=some B/\M=eO A B k:=by
   rcases hM with ⟨_,rfl⟩|⟨z,_⟩|⟨z,_⟩
   ·rw[aL] at eM
    cases hx:Ss[b]? with
    |none=>rw[hx] at eM;cases eM
    |some B=>rw[hx] at eM;cases eM;exact⟨B,rfl,rfl⟩
   ·lia
   ·exact absurd c11 z
  obtain⟨j1,j2,j3⟩:=yW mne;exact⟨ca,g4L,tI (eO A B k),bd eM,ca,g2L,ca,q (.join a b k) (eO A B k) ⟨A,B,eA,eB,j1,by unfold off;lia,by rw[Int.toNat_natCast];exact j2,by rw[<- j3];exact nb,j3⟩ fM⟩
 have k12:kd=12:=fu
 obtain⟨n,r,rfl⟩:∃n r,A=n::r:=by
  match A,A0 with
  |n::r,_=>exact⟨n,r,rfl⟩
 obtain⟨B,n0,eB,rfl⟩:∃B,0<n/\Ss[b]?=some B/\M=B++r:=by
  rcases hM with ⟨z,_⟩|⟨_,z,rfl⟩|⟨_,z,rfl⟩
  ·exact absurd z n11
  ·rw[aL] at eM
   cases hx:Ss[b]? with
   |none=>rw[hx] at eM;cases eM
   |some B=>rw[hx] at eM;cases eM;exact⟨B,z,rfl,rfl⟩
  ·rcases hb with y|y
   ·exact absurd y.2 z
   ·match b,eM with
    |0,eM=>cases eM;exact absurd rfl y
 exact⟨ca,g3L,tI (B++r),bd eM,ca,g2L,ca,q (.fetch a b) (B++r) ⟨n,r,B,eA,fu,eB,nb,ca⟩ fM⟩
def PU:ZX 80 106 ["cell","sides","most","n","kind","d","a"] 7 3 Bq NW:=by
 refine⟨by kernel_rfl,?_⟩;rintro ts Q ⟨cell,mo,Ss,rfl,n4,hS,hmo,q⟩;refine⟨ca,?_⟩;refine⟨gY on on,on,ca,?_⟩;generalize aE (cell*48271) 2147483647=n;refine⟨on,ca,?_⟩;obtain⟨kd,ek⟩:∃kd,aE n 15=kd:=⟨_,rfl⟩;have kb:0<=kd/\kd<15:=by rw[<- ek,bV on];lia
 rw[ek];refine⟨⟨on,on,on⟩,on,⟨on,on,on⟩,on,⟨on,on,on⟩,ca,g3L,ca,?_⟩;generalize aE (aI n 15) 120=d0;generalize aE (aI n 1800) 120=d1;generalize aI n 216000=d2;refine⟨BT,s2 (λ _=>⟨on,cl rfl ⟨_,n,cell,mo,ca,hmo,λ d S ok fs=>⟨ca,q d S (ok Ss) fs⟩⟩ rfl⟩) (λ h0=>s3 (λ _=>⟨on,cl rfl ⟨_,n,cell,mo,ca,hmo,λ d S ok fs=>⟨ca,q d S (ok Ss) fs⟩⟩ rfl⟩) (λ k3=>?_))⟩
 have n0:0<Ss.length:=by
  have h0:¬(((Ss.map tI).length:Nat):Int)=0:=qC h0;rw[ak] at h0;lia
 refine s3 (λ _=>clB rfl ⟨kd,d0,d1,d2,mo,Ss,ca,n0,n4,hS,λ d S ok fs=>⟨qv d S,ca,q d S ok fs⟩⟩) (λ k6=>?_);refine um (λ ρ=>ρ=[some (.int cell),some (.lst (Ss.map tI)),some (.int mo),some (.int n),some (.int kd),some (.own [.int d0,.int d1,.int d2]),none]) ?_ (λ ρ' e=>?_)
 ·refine s3 (λ h10=>⟨by rw[ak];exact aX fu,dn tI (λ S=>.int ((S.map TV.int).length:Nat)) Ss (λ S _=>⟨ca,ca⟩) ⟨Ss.map (λ S=>(S.length:Int)),by rw[bK];exact pj λ S _=>by rw[ai];rfl,by rw[ak];exact n0,λ M hM _=>s3 (λ hM0=>?_) (λ _=>rfl)⟩⟩) (λ h10=>rfl);exact clB rfl ⟨kd,d0,d1,d2,mo,Ss,ca,KR hM fu,fu,fu,n4,hS,hmo,λ d S ok fs=>⟨qv d S,ca,q d S ok fs⟩⟩
 subst e;refine⟨⟨fu,by rw[ak];lia⟩,_,ca,cl rfl ⟨upL Ss.length,d0,by show[TV.lst ((List.range (((Ss.map tI).length:Nat):Int).toNat).map λ i:Nat=>TV.int (i:Nat)),TV.int d0]=_;rw[ak,qw];rfl,by rw[dB];exact n0,by rw[dB];lia,λ k hk=>?_⟩ rfl⟩;obtain⟨a,rfl,al⟩:=fF hk;have eA:=eQ al;generalize Ss.getD a []=A at eA;exact⟨ca,tI A,bd eA,clB rfl ⟨_,d0,d1,d2,mo,a,A,Ss,ca,eA,hS _ (aD eA),hmo,λ d S ok fs=>⟨qv d S,ca,q d S ok fs⟩⟩⟩
def PV:ZX 81 107 ["cells","most","steps","sides","cell","made","outs","n","k"] 9 2 Br NX:=by
 refine⟨by kernel_rfl,?_⟩;rintro ts Q ⟨cs,mo,rfl,c40,hmo,q⟩;refine⟨ca,?_⟩;refine⟨ca,g0L,ca,ca,g0L,ca,ca,?_⟩;refine cM (λ i ρ=>∃(ds:List Stp) (Ss:LL) (y4 y5:Option TV),lD mo ds Ss/\ds.length=i/\ρ=[some (lI cs),some (.int mo),some (.own (ds.map stT)),some (.own (Ss.map tI)),y4,y5,none,none,none]) ⟨[],[],_,_,yV mo,ca,ca⟩ (λ i t ρ ht h=>?_) (λ ρ h=>?_)
 ·obtain⟨ds,Ss,y4,y5,gl,dl,rfl⟩:=h;obtain⟨c,rfl,hc⟩:=jL ht;have il:=(be.mp hc).1;have Sl:Ss.length=i:=by rw[<- gl.1,dl]
  exact clB rfl ⟨c,mo,Ss,ca,fu,gl.2.1,hmo,λ d S ok fs=>⟨qv d S,ca,_,ca,ca,by rw[ak,dl];exact aX fu,_,ca,ca,by rw[ak,Sl];exact aX fu,ds++[d],Ss++[S],_,_,yU gl ok fs,by rw[aK,dl];rfl,by rw[cG,cG];rfl⟩⟩
 obtain⟨ds,Ss,y4,y5,gl,dl,rfl⟩:=h;rw[ak] at dl;refine um (λ ρ=>∃(ds:List Stp) (Ss:LL),lD mo ds Ss/\0<ds.length/\ds.length<=40/\ρ=[some (lI cs),some (.int mo),some (.own (ds.map stT)),some (.own (Ss.map tI)),y4,y5,none,none,none]) ?_ (λ ρ' h=>?_)
 ·refine⟨BT,sN (λ z=>?_) (λ z=>⟨ds,Ss,gl,by rw[ak] at z;lia,fu,ca⟩)⟩;rw[ak] at z;have e1:ds=[]:=By.mp fu;have e2:Ss=[]:=By.mp (by rw[<- gl.1,e1];rfl);subst e1 e2;exact⟨ca,g2L,ca,sl3 (n:=0) on,ca,g0L,ca,sl3 (n:=0) on,[.num 0],[[]],yU (yV mo) (d:=.num 0) (S:=[]) ⟨ca,by unfold inB;decide⟩ (qh hmo),on,on,ca⟩
 obtain⟨ds,Ss,gl,d0,d40,rfl⟩:=h;refine⟨ca,g0L,ca,cs,ca,gY on on,on,ca,?_⟩;generalize aE (cs.sum*16807) 2147483647=n;obtain⟨x,hx,x1,x8⟩:=LD (aE n 6) (by rw[bV on];lia) (by rw[bV on];lia);refine⟨ca,g6L,on,.int x,hx,ca,⟨fu,fu⟩,?_⟩;refine cM (λ i ρ=>∃(os:LI) (n:Int) (y8:Option TV),os.length=i/\(∀o∈os,0<=o/\o<(ds.length:Int))/\ρ=[some (lI cs),some (.int mo),some (.own (ds.map stT)),some (.own (Ss.map tI)),y4,y5,some (.own (os.map .int)),some (.int n),y8]) ⟨[],n,_,ca,(λ o ho=>nomatch ho),ca⟩ (λ i t ρ ht h=>?_) (λ ρ h=>?_)
 ·obtain⟨os,n,y8,ol,ob,rfl⟩:=h;obtain⟨il,rfl⟩:=dE ht;have f0:=eI (aI (aE (n*48271+11) 2147483647) 16) (show(ds.length:Int)≠0 by lia);have f1:=fE (aI (aE (n*48271+11) 2147483647) 16) (show(0:Int)<ds.length by lia);have em:aE (aI (aE (n*48271+11) 2147483647) 16) (((ds.map stT).length:Nat):Int)=aI (aE (n*48271+11) 2147483647) 16%(ds.length:Int):=by rw[ak];exact bV fu
  refine⟨gY on on,on,ca,⟨on,on,on⟩,by rw[ak];lia,ca,by rw[ai,ol];exact aX fu,os++[aE (aI (aE (n*48271+11) 2147483647) 16) (((ds.map stT).length:Nat):Int)],aE (n*48271+11) 2147483647,some (.int (i:Nat)),by rw[aK,ol];rfl,λ o ho=>?_,by rw[cG];rfl⟩
  rcases cJ.mp ho with z|z
  ·exact ob o z
  ·cases bY.mp z;rw[em];exact⟨f0,f1⟩
 obtain⟨os,n,y8,ol,ob,rfl⟩:=h;rw[ak,cn] at ol;have f0:=eI n (show(os.length:Int)≠0 by lia);have f1:=fE n (show(0:Int)<os.length by lia);obtain⟨k,hk⟩:∃k:Nat,n%(os.length:Int)=k:=⟨_,(jA f0).symm⟩;rw[hk] at f1;refine⟨ca,by rw[ai];lia,k,by rw[ai,bV fu,hk];exact JT fu,ca,g3L,ca,?_⟩
 have z:=q ds Ss (os.set k ((ds.length:Int) - 1)) ⟨hmo,gl,d0,d40,by rw[bu];lia,by rw[bu];lia,λ o ho=>by
  rcases lw ho with z|z
  ·exact ob o z
  ·lia⟩
 unfold tI at z;rw[List.map_set] at z;show Q (.tup [.tup (ds.map stT),.tup ((os.map TV.int).set k (.int (((ds.map stT).length:Nat)-1))),.lst (Ss.map tI)]);rw[ak];exact z
def PX:ZX 82 108 ["found","two","n"] 3 1 Bt NY:=by
 refine⟨by kernel_rfl,?_⟩;rintro ts Q ⟨ms,rfl,h2,q⟩;refine⟨ca,?_⟩;refine⟨ca,?_⟩;refine cM (λ i ρ=>∃y z,ρ=[some (.lst (ms.map kT)),y,z]) ⟨_,_,ca⟩ (λ i u ρ hu h=>?_) (λ ρ h=>?_)
 ·obtain⟨y,z,rfl⟩:=h;rw[aL] at hu;obtain⟨m,em,rfl⟩:=nH.mp hu;have l2:=h2 m (aD em)
  obtain⟨a,b,rfl⟩:∃a b,m=[a,b]:=by
   match m,l2 with
   |[a,b],_=>exact⟨a,b,rfl⟩
  refine⟨BT,ca,cM (λ j ρ=>∃z,ρ=[some (.lst (ms.map kT)),some (kT [a,b]),z]) ⟨_,ca⟩ (λ j u ρ hj h=>?_) (λ ρ h=>?_)⟩
  ·obtain⟨z,rfl⟩:=h;obtain⟨c,rfl,_⟩:=LK hj;exact⟨_,ca⟩
  ·obtain⟨z,rfl⟩:=h;exact⟨_,_,ca⟩
 ·obtain⟨y,z,rfl⟩:=h;exact⟨ca,q⟩
def PY:ZT 83 109 ["step","sides","place","told"] 4 3 1 Bu NZ Oa Ob Oc Od:=by
 refine⟨by kernel_rfl,?_⟩;intro ts Q ⟨d,S,Ss,pl,e,fS,ok,fs,m6,h,q⟩;subst e;exact⟨ca,ca,.inr (.inl ⟨_,⟨_,ca,d,S,Ss,pl,ca,fS,ok,fs,m6,h,ca⟩,λ n hn=>⟨0,hn.symm,⟨on,on⟩,ca,q⟩⟩)⟩
def PZ:ZX 84 110 ["step","sides","tabs","due","place","found"] 6 3 Bv Oe:=by
 refine⟨by kernel_rfl,?_⟩;rintro ts Q ⟨d,S,Ss,k,rfl,kS,k40,fS,ok,fs,m6,q⟩;refine⟨ca,?_⟩;have ok':OkS ((aJ Ss k).map (·.1)) S d:=by rw[Mc kS];exact ok
 have gT':=Me kS k40 fS;have tg:=Lk gT' cH ok' fs (Mf m6);have tl:((dP (aJ Ss k) d).length:Int)=ae S:=tg.2.1;have okk:=Mh ok;have p4:=nJ fs;refine cl rfl ⟨_,d,S,aJ Ss k,40,ca,ca,m6,gT',cH,ok',fs,_,ca,ca,ca,by rw[ai];exact⟨fu,fu⟩,?_⟩ rfl;refine cM (λ i ρ=>∃y4 y5,ρ=[some (stT d),some (.tup (Ss.map tI)),some (.lst ((aJ Ss k).map tbT)),some (tI (dP (aJ Ss k) d)),y4,y5]) ⟨_,_,ca⟩ (λ i t ρ ht h=>?_) (λ ρ h=>?_)
 ·obtain⟨y4,y5,rfl⟩:=h;obtain⟨il,rfl⟩:=dE ht;rw[ai] at il;have il':(i:Int)<ae S:=fu;obtain⟨a,p,e,p0,p1,ev⟩:=Mg fS ok fs m6 il';refine cl rfl ⟨d,S,Ss,(i:Int),ca,fS,okk,fs,fu,il',m6,ca,?_⟩ rfl;rw[e];refine cl rfl ⟨[[(a:Int),p]],ca,λ m hm=>by cases bY.mp hm;rfl,BT,?_⟩ rfl;refine⟨_,ca,_,ca,sT (cL p0) (sF (by show(!decide (p<1000))=false;rw[cL p1];rfl) ?_)⟩;exact⟨_,ca,_,ca,iR on on,_,ca,_,ca,.int (1000*(a:Int)+p),by rw[<- ev];exact bU fu,BT,sF (neF rfl) ⟨_,_,ca⟩⟩
 ·obtain⟨y4,y5,rfl⟩:=h;exact cl rfl ⟨d,S,Ss,-1,ca,fS,okk,fs,m6,.inl on,cl rfl ⟨d,S,Ss,_,ca,fS,okk,fs,m6,.inr (by rw[ai];lia),ca,q⟩ rfl⟩ rfl
def Qa:ZX 85 111 ["cells","most","made","sides","tabs","k"] 6 2 Bw Of:=by
 refine⟨by kernel_rfl,?_⟩;rintro ts Q ⟨cs,mo,rfl,l40,⟨mo2,mo4⟩,q⟩;refine⟨ca,?_⟩;have hmo:cq mo:=⟨mo2,fu⟩;refine cl rfl ⟨cs,mo,ca,l40,hmo,λ ds Ss os gd=>?_⟩ rfl;obtain⟨_,gl,d0,d40,o0,o8,ob⟩:=id gd;have dS:=gl.1;have fS:∀T∈Ss,ax 40 T:=λ T hT=>LH (gl.2.1 T hT) mo4;refine⟨ca,_,ca,ca,ca,g0L,ca,ca,⟨fu,by rw[ak];have:=dS;lia⟩,?_⟩;refine cM (λ i ρ=>∃y5,i<=Ss.length/\ρ=[some (lI cs),some (.int mo),some (.tup [.tup (ds.map stT),tI os,.lst (Ss.map tI)]),some (.tup (Ss.map tI)),some (.own ((aJ Ss i).map tbT)),y5]) ⟨_,bS _,ca⟩ (λ k t ρ ht h=>?_) (λ ρ h=>?_)
 ·obtain⟨y5,kS,rfl⟩:=h;obtain⟨kl,rfl⟩:=dE ht;rw[ak,Int.toNat_natCast] at kl;have eS:=az kl;generalize Ss[k]=S at eS;have fs:=fS S (aD eS);have p4:=nJ fs;refine⟨tI S,bd eS,tI S,bd eS,cl rfl ⟨_,S,ca,.inl rfl,dj fs cH,⟨fu,fu⟩,by rw[ak,cn];exact aX fu,dn (λ i:Nat=>.int (i:Nat)) (λ n:Nat=>.int (1000*(k:Int)+(n:Int))) (List.range (ae S).toNat) (λ n hn=>⟨iR on on,ca,ca⟩) ⟨ca,g2L,ca,?_⟩⟩ rfl⟩;refine⟨by unfold aJ;rw[ak,ak,cn];exact aX fu,some (.int (k:Int)),kl,?_⟩;show[some (lI cs),some (TV.int mo),some (.tup [.tup (ds.map stT),tI os,.lst (Ss.map tI)]),some (.tup (Ss.map tI)),some (.own ((aJ Ss k).map tbT++[.tup [tI S,.tup ((List.range (ae S).toNat).map λ n:Nat=>TV.int (1000*(k:Int)+(n:Int)))]])),some (.int (k:Int))]=_
  congr 6
  unfold aJ;rw[pU,cG,cG];show _=TV.own (_++[tbT (Ss.getD k [],dF k (Ss.getD k []))]);rw[gS eS];show _=TV.own (_++[TV.tup [tI S,TV.tup ((dF k S).map TV.int)]]);rw[show(dF k S).map TV.int=(List.range (ae S).toNat).map λ n:Nat=>TV.int (1000*(k:Int)+(n:Int)) by unfold dF;rw[bK];rfl]
 ·obtain⟨y5,_,rfl⟩:=h;rw[ak,cn,ak,Int.toNat_natCast];refine⟨ca,⟨fu,by rw[ak];have:=dS;lia⟩,?_⟩;refine cM (λ i ρ=>∃y5,ρ=[some (lI cs),some (.int mo),some (.tup [.tup (ds.map stT),tI os,.lst (Ss.map tI)]),some (.tup (Ss.map tI)),some (.own ((aJ Ss Ss.length).map tbT)),y5]) ⟨_,ca⟩ (λ k t ρ ht h=>?_) (λ ρ h=>?_)
  ·obtain⟨y5,rfl⟩:=h;obtain⟨kl,rfl⟩:=dE ht;rw[ak,Int.toNat_natCast] at kl;have eS:=az kl;generalize Ss[k]=S at eS;have ed:=az (show k<ds.length by lia);generalize ds[k]=d at ed;have fs:=fS S (aD eS);have ok:=gl.2.2 k d S ed eS;refine⟨_,ca,stT d,bd ed,_,zG d,ca,g6L,ca,LJ,s2 (λ h=>?_) (λ h=>⟨_,ca⟩)⟩;have m6:=Mi h;refine⟨_,ca,stT d,bd ed,cl rfl ⟨d,S,Ss,k,?_,fu,fu,fS,ok,fs,m6,⟨_,ca⟩⟩ rfl⟩;show[stT d,TV.tup (Ss.map tI),TV.lst (aq ((aJ Ss Ss.length).map tbT) none (some (k:Int)))]=_;rw[Mj fu]
  ·obtain⟨y5,rfl⟩:=h;exact⟨ca,q⟩
def Qb:ZX 86 112 ["script","most","k"] 3 1 Bx Og:=by
 refine⟨by kernel_rfl,?_⟩;rintro ts Q ⟨ns,rfl,h63,q⟩;refine⟨ca,?_⟩
 have go:∀mo:Int,2<=mo->mo<=40->wS (dFT DL 86) GT (Ct.for [2] IK.rng3 (N0.a3 (Cd.b2 BI.max N1 V0.ln) N7) (Ct.r (Cd.c2 85 (V0.sl V2 (V2.ad N7)) V1).not (Cd.c (TV.bl false)) Ct.nil) (Ct.ret (Cd.c (TV.bl true)))) [some (lI ns),some (.int mo),none] (λ _=>Q .non) Q:=λ mo m2 m4=>by
  refine⟨ca,⟨on,on,?_⟩,cM (λ i ρ=>∃y,ρ=[some (lI ns),some (.int mo),y]) ⟨_,ca⟩ (λ i t ρ ht h=>?_) (λ ρ h=>?_)⟩
  ·rw[ai];exact sm7 h63
  ·obtain⟨y,rfl⟩:=h;rw[aL] at ht;obtain⟨j,ej,rfl⟩:=nH.mp ht;obtain⟨ms,e8,m8,_⟩:=LG ns (j*7) (j*7+7);exact cl rfl ⟨ms,mo,by show[TV.lst (aq (ns.map TV.int) (some (0+(j:Int)*7)) (some (0+(j:Int)*7+7))),TV.int mo]=_;rw[show(0:Int)+(j:Int)*7=((j*7:Nat):Int) by lia,show((j*7:Nat):Int)+7=((j*7+7:Nat):Int) by lia,e8];rfl,fu,⟨m2,m4⟩,_,ca⟩ rfl
  ·obtain⟨y,rfl⟩:=h;exact⟨ca,q⟩
 exact⟨ca,ns,ca,on,BT,s2 (λ h=>⟨ca,go 40 on on⟩) (λ h=>go 10 on on)⟩
def glt_ex{K:FG}{st:Stmt}{oc:Value}{od an:OA}{osl:AV}{kV doc pm ct:Value}{oc2:Value}{od2:OA}{vs:Array Value}{sl2:AV}(a:W.nsIn K mainGlobals x=some (some (.ref f)))(l:K.lookup f=some ⟨oc,od,.func (W.fnOf x x (cy st) (aN st) (ah st) .none kV doc pm an (.ref c) ct),osl⟩)(q:W.codeIn K (.ref c) x=true)(k:W.keepIn K (.ref f)=true)(h4:K.lookup c=some ⟨oc2,od2,.fields vs,sl2⟩)(h5:vs[11]?=some (.ref T)):∃f fd c,GlT' K x st f fd c T:=⟨_,_,_,⟨vz l q k,a⟩,rfl,Gv a l rfl h4 h5⟩
noncomputable def qD(K:FG)(ts:List Addr):Sp:=λ vs H Q _=>∃(a:Addr) (ns:LI),vs=[.ref a]/\SqL K H a (ns.map V.int)/\ns.length<=63/\(∀T∈ts,H T=some (.tbl #[]))/\∀H',Q (.bl true) H'
def fx{α:Type}{p:α->Prop}{a:α}{l:List α}(h:p a)(t:∀n∈l,p n):∀n∈a::l,p n:=λ n hn=>by
 rcases bf.mp hn with rfl|z
 ·exact h
 ·exact t n z
def fx0{α:Type}{p:α->Prop}:∀n∈([]:List α),p n:=λ _ h=>nomatch h
noncomputable def pT(p:Str×List (Str×Int)):TV:=.tup [.str p.1,.tup (p.2.map λ q=>.tup [.str q.1,.int q.2])]
theorem Bz{K:FG}:∀ {fs:List (Str×Int)}{xs:List V},tQ K fs xs->RpL K F H (fs.map λ q=>.tup [.str q.1,.int q.2]) xs
 |[],[],_=>rfl
 |[],_::_,h=>h.elim
 |_::_,[],h=>h.elim
 |f::fs,y::ys,⟨⟨a,e,k⟩,h2⟩=>⟨y,ys,rfl,⟨a,_,e,k.sq,_,_,rfl,rfl,_,_,rfl,rfl,rfl⟩,Bz h2⟩
theorem BA{K:FG}:∀ {fs:List (Str×List (Str×Int))}{kvs:LA},tR K fs kvs->∀y t,dlk (fs.map pT) y=some t->∃a,kvs.lookup y=some a/\∀F H,Rp K F H t (.ref a)
 |[],_,_,y,t,e=>nomatch e
 |_::_,[],h,_,_,_=>h.elim
 |(g,gs)::fs,(p,pa)::ps,h,y,t,e=>by
  obtain⟨⟨e1,xs,k1,k2⟩,h2⟩:=h;cases (show p=g from e1);have e:(if decide (g=y)=true then some (TV.tup (gs.map λ q=>.tup [.str q.1,.int q.2])) else dlk (fs.map pT) y)=some t:=e;rw[ef];by_cases c:g=y
  ·subst c;rw[if_pos (cL rfl)] at e;cases e;rw[show(g == g)=true from kz g];exact⟨pa,ca,λ F H=>⟨pa,xs,ca,k1.sq,Bz k2⟩⟩
  ·rw[if_neg (by rw[bo c];decide)] at e;rw[show(y == g)=false from qF.mpr λ z=>c z.symm];exact BA h2 y t e
def kts{K:FG}{sl:AV}(h:K.lookup a=some ⟨.type "tuple",none,.seq #[.str x t,.int i u] n,sl⟩):KTup K a [.str x,.int i]:=mX h (small (show(2:Nat)<=1000 by decide)) (.cons ⟨_,rfl⟩ (.cons ⟨_,rfl⟩ .nil))
def ktr1{K:FG}{sl:AV}(h:K.lookup a=some ⟨.type "tuple",none,.seq #[.ref a0] n,sl⟩):KTup K a [.ref a0]:=mX h (small (show(1:Nat)<=1000 by decide)) (.cons rfl (.nil))
def ktr2{K:FG}{sl:AV}(h:K.lookup a=some ⟨.type "tuple",none,.seq #[.ref a0,.ref a1] n,sl⟩):KTup K a [.ref a0,.ref a1]:=mX h (small (show(2:Nat)<=1000 by decide)) (.cons rfl (.cons rfl (.nil)))
def ktr3{K:FG}{sl:AV}(h:K.lookup a=some ⟨.type "tuple",none,.seq #[.ref a0,.ref a1,.ref a2] n,sl⟩):KTup K a [.ref a0,.ref a1,.ref a2]:=mX h (small (show(3:Nat)<=1000 by decide)) (.cons rfl (.cons rfl (.cons rfl (.nil))))
def ktr5{K:FG}{a a0 a1 a2 a3 a4:Addr}{sl:AV}(h:K.lookup a=some ⟨.type "tuple",none,.seq #[.ref a0,.ref a1,.ref a2,.ref a3,.ref a4] n,sl⟩):KTup K a [.ref a0,.ref a1,.ref a2,.ref a3,.ref a4]:=mX h (small (show(5:Nat)<=1000 by decide)) (.cons rfl (.cons rfl (.cons rfl (.cons rfl (.cons rfl (.nil))))))
theorem pt_mk{w:World}{K:FG}{t0 t1 t2 t3 t4 t5 t6 t7 t8 t9 t10 t11 t12 t13 t14:Tok}{a0 a1 a2 a3 a4 a5 a6 a7 a8 a9 a10 a11 a12 a13 a14:Addr}
  (gPT:W.nsIn K mainGlobals "PARTS"=some (some (.ref dPT))) (dPT0:(dPT == sysModules)=false)
  (lPT:K.lookup dPT=some { cls:=.type "dict",data:=.dict #[⟨PyData.keyHash w.params "in",.str "in" t0,.ref a0⟩,⟨PyData.keyHash w.params "num",.str "num" t1,.ref a1⟩,⟨PyData.keyHash w.params "count",.str "count" t2,.ref a2⟩,⟨PyData.keyHash w.params "each",.str "each" t3,.ref a3⟩,⟨PyData.keyHash w.params "pair",.str "pair" t4,.ref a4⟩,⟨PyData.keyHash w.params "pick",.str "pick" t5,.ref a5⟩,⟨PyData.keyHash w.params "turn",.str "turn" t6,.ref a6⟩,⟨PyData.keyHash w.params "flip",.str "flip" t7,.ref a7⟩,⟨PyData.keyHash w.params "cut",.str "cut" t8,.ref a8⟩,⟨PyData.keyHash w.params "spread",.str "spread" t9,.ref a9⟩,⟨PyData.keyHash w.params "lay",.str "lay" t10,.ref a10⟩,⟨PyData.keyHash w.params "join",.str "join" t11,.ref a11⟩,⟨PyData.keyHash w.params "fetch",.str "fetch" t12,.ref a12⟩,⟨PyData.keyHash w.params "fold",.str "fold" t13,.ref a13⟩,⟨PyData.keyHash w.params "run",.str "run" t14,.ref a14⟩] nPT })(l0:KTup K a0 [.ref a0_0])
  (l0_0:KTup K a0_0 [.str "sides",.int 1])(l1:KTup K a1 [.ref a1_0])
  (l1_0:KTup K a1_0 [.str "number",.int 1])(l2:KTup K a2 [.ref a2_0,.ref a2_1])
  (l2_0:KTup K a2_0 [.str "small",.int 2])
  (l2_1:KTup K a2_1 [.str "sides",.int 1])(l3:KTup K a3 [.ref a3_0,.ref a3_1])
  (l3_0:KTup K a3_0 [.str "word",.int 1])
  (l3_1:KTup K a3_1 [.str "step",.int 2])(l4:KTup K a4 [.ref a4_0,.ref a4_1,.ref a4_2])
  (l4_0:KTup K a4_0 [.str "word",.int 1])
  (l4_1:KTup K a4_1 [.str "step",.int 2])
  (l4_2:KTup K a4_2 [.str "step",.int 3])(l5:KTup K a5 [.ref a5_0,.ref a5_1,.ref a5_2])
  (l5_0:KTup K a5_0 [.str "step",.int 1])
  (l5_1:KTup K a5_1 [.str "step",.int 2])
  (l5_2:KTup K a5_2 [.str "step",.int 3])(l6:KTup K a6 [.ref a6_0,.ref a6_1])
  (l6_0:KTup K a6_0 [.str "step",.int 1])
  (l6_1:KTup K a6_1 [.str "sides",.int 2])(l7:KTup K a7 [.ref a7_0,.ref a7_1])
  (l7_0:KTup K a7_0 [.str "step",.int 1])
  (l7_1:KTup K a7_1 [.str "small",.int 2])(l8:KTup K a8 [.ref a8_0,.ref a8_1,.ref a8_2,.ref a8_3,.ref a8_4])
  (l8_0:KTup K a8_0 [.str "step",.int 1])
  (l8_1:KTup K a8_1 [.str "small",.int 2])
  (l8_2:KTup K a8_2 [.str "small",.int 3])
  (l8_3:KTup K a8_3 [.str "small",.int 4])
  (l8_4:KTup K a8_4 [.str "small",.int 5])(l9:KTup K a9 [.ref a9_0,.ref a9_1,.ref a9_2])
  (l9_0:KTup K a9_0 [.str "step",.int 1])
  (l9_1:KTup K a9_1 [.str "small",.int 2])
  (l9_2:KTup K a9_2 [.str "small",.int 3])(l10:KTup K a10 [.ref a10_0,.ref a10_1])
  (l10_0:KTup K a10_0 [.str "step",.int 1])
  (l10_1:KTup K a10_1 [.str "sides",.int 2])(l11:KTup K a11 [.ref a11_0,.ref a11_1,.ref a11_2])
  (l11_0:KTup K a11_0 [.str "step",.int 1])
  (l11_1:KTup K a11_1 [.str "step",.int 2])
  (l11_2:KTup K a11_2 [.str "small",.int 3])(l12:KTup K a12 [.ref a12_0,.ref a12_1])
  (l12_0:KTup K a12_0 [.str "step",.int 1])
  (l12_1:KTup K a12_1 [.str "step",.int 2])(l13:KTup K a13 [.ref a13_0,.ref a13_1,.ref a13_2])
  (l13_0:KTup K a13_0 [.str "word",.int 1])
  (l13_1:KTup K a13_1 [.str "step",.int 2])
  (l13_2:KTup K a13_2 [.str "small",.int 3])(l14:KTup K a14 [.ref a14_0,.ref a14_1,.ref a14_2])
  (l14_0:KTup K a14_0 [.str "word",.int 1])
  (l14_1:KTup K a14_1 [.str "step",.int 2])
  (l14_2:KTup K a14_2 [.str "small",.int 3]):∃d,W.nsIn K mainGlobals "PARTS"=some (some (.ref d))/\yt P w K d:=⟨_,gPT,⟨_,KTab.mk (l:=[("in",t0,a0),("num",t1,a1),("count",t2,a2),("each",t3,a3),("pair",t4,a4),("pick",t5,a5),("turn",t6,a6),("flip",t7,a7),("cut",t8,a8),("spread",t9,a9),("lay",t10,a10),("join",t11,a11),("fetch",t12,a12),("fold",t13,a13),("run",t14,a14)]) dPT0 lPT rfl (show(["in","num","count","each","pair","pick","turn","flip","cut","spread","lay","join","fetch","fold","run"]:List Str).Nodup by decide +kernel),⟨⟨rfl,_,l0,⟨⟨_,rfl,l0_0⟩,trivial⟩⟩,⟨⟨rfl,_,l1,⟨⟨_,rfl,l1_0⟩,trivial⟩⟩,⟨⟨rfl,_,l2,⟨⟨_,rfl,l2_0⟩,⟨⟨_,rfl,l2_1⟩,trivial⟩⟩⟩,⟨⟨rfl,_,l3,⟨⟨_,rfl,l3_0⟩,⟨⟨_,rfl,l3_1⟩,trivial⟩⟩⟩,⟨⟨rfl,_,l4,⟨⟨_,rfl,l4_0⟩,⟨⟨_,rfl,l4_1⟩,⟨⟨_,rfl,l4_2⟩,trivial⟩⟩⟩⟩,⟨⟨rfl,_,l5,⟨⟨_,rfl,l5_0⟩,⟨⟨_,rfl,l5_1⟩,⟨⟨_,rfl,l5_2⟩,trivial⟩⟩⟩⟩,⟨⟨rfl,_,l6,⟨⟨_,rfl,l6_0⟩,⟨⟨_,rfl,l6_1⟩,trivial⟩⟩⟩,⟨⟨rfl,_,l7,⟨⟨_,rfl,l7_0⟩,⟨⟨_,rfl,l7_1⟩,trivial⟩⟩⟩,⟨⟨rfl,_,l8,⟨⟨_,rfl,l8_0⟩,⟨⟨_,rfl,l8_1⟩,⟨⟨_,rfl,l8_2⟩,⟨⟨_,rfl,l8_3⟩,⟨⟨_,rfl,l8_4⟩,trivial⟩⟩⟩⟩⟩⟩,⟨⟨rfl,_,l9,⟨⟨_,rfl,l9_0⟩,⟨⟨_,rfl,l9_1⟩,⟨⟨_,rfl,l9_2⟩,trivial⟩⟩⟩⟩,⟨⟨rfl,_,l10,⟨⟨_,rfl,l10_0⟩,⟨⟨_,rfl,l10_1⟩,trivial⟩⟩⟩,⟨⟨rfl,_,l11,⟨⟨_,rfl,l11_0⟩,⟨⟨_,rfl,l11_1⟩,⟨⟨_,rfl,l11_2⟩,trivial⟩⟩⟩⟩,⟨⟨rfl,_,l12,⟨⟨_,rfl,l12_0⟩,⟨⟨_,rfl,l12_1⟩,trivial⟩⟩⟩,⟨⟨rfl,_,l13,⟨⟨_,rfl,l13_0⟩,⟨⟨_,rfl,l13_1⟩,⟨⟨_,rfl,l13_2⟩,trivial⟩⟩⟩⟩,⟨⟨rfl,_,l14,⟨⟨_,rfl,l14_0⟩,⟨⟨_,rfl,l14_1⟩,⟨⟨_,rfl,l14_2⟩,trivial⟩⟩⟩⟩,trivial⟩⟩⟩⟩⟩⟩⟩⟩⟩⟩⟩⟩⟩⟩⟩⟩⟩
noncomputable abbrev nB(K:FG)(x:Str):Prop:=W.nsIn K mainGlobals x=some none
structure Sv (P:Program)(w:World)(K:FG)(T61 T62 T63 T64 T66 C0 C1:Addr):Prop where
 n0:W.nsIn K mainGlobals "NoPlace"=some (some (.ref C0))
 n1:W.nsIn K mainGlobals "LoomError"=some (some (.ref C1))
 x0:W.excIn K C0 [.type "ValueError",.type "Exception",.type "BaseException",.type "object"] "ValueError.__new__"=true
 x1:W.excIn K C1 [.type "ValueError",.type "Exception",.type "BaseException",.type "object"] "ValueError.__new__"=true
 e0_0:W.exmOne K (.ref C0) (.ref C0)=some true
 g0:Gx K "wrapped" (top 11)
 g1:Gx K "sign_of" (top 12)
 g2:Gx K "quotient" (top 13)
 g3:Gx K "remainder" (top 14)
 g4:Gx K "once" (top 15)
 g5:Gx K "twice" (top 16)
 g6:Gx K "neutral" (top 17)
 g7:Gx K "arg_places" (top 20)
 g8:Gx K "args_of" (top 21)
 g9:Gx K "amount" (top 25)
 g10:Gx K "breadth" (top 26)
 g11:Gx K "allowed" (top 27)
 g12:Gx K "strides_of" (top 28)
 g13:Gx K "place_of" (top 29)
 g14:Gx K "at_of" (top 30)
 g15:Gx K "all_at" (top 31)
 g16:Gx K "changed_at" (top 32)
 g17:Gx K "added_at" (top 33)
 g18:Gx K "dropped_at" (top 34)
 g19:Gx K "ask_side" (top 36)
 g20:Gx K "turned_sides" (top 37)
 g21:Gx K "flipped_sides" (top 38)
 g22:Gx K "cut_sides" (top 39)
 g23:Gx K "spread_sides" (top 40)
 g24:Gx K "laid_sides" (top 41)
 g25:Gx K "joined_sides" (top 42)
 g26:Gx K "led_sides" (top 43)
 g27:Gx K "paired_sides" (top 44)
 g28:Gx K "picked_sides" (top 45)
 g29:Gx K "fetched_sides" (top 46)
 g30:Gx K "folded_sides" (top 47)
 g31:Gx K "counted_sides" (top 48)
 g32:Gx K "ask_word" (top 50)
 g33:Gx K "first_sides" (top 51)
 g34:Gx K "moved_sides" (top 52)
 g35:Gx K "step_sides" (top 53)
 g36:Gx K "table_of" (top 55)
 g37:Gx K "cell_at" (top 58)
 g38:Gx K "alone" (top 57)
 g39:Gx K "table_by" (top 56)
 g40:Gx K "plain_view" (top 60)
 g41:Gx K "turned_view" (top 61)
 g42:Gx K "flipped_view" (top 62)
 g43:Gx K "cut_view" (top 63)
 g44:Gx K "spread_view" (top 64)
 g45:Gx K "inner_view" (top 65)
 g46:Gx K "moved_view" (top 66)
 g47:Gx K "spot_of" (top 67)
 g48:Gx K "places_along" (top 69)
 g49:Gx K "joined_looks" (top 70)
 g50:Gx K "fetched_looks" (top 71)
 g51:Gx K "put_together_looks" (top 72)
 g52:Gx K "looks_in" (top 73)
 g53:Gx K "fold" (top 75)
 g54:Gx K "run" (top 76)
 g55:Gx K "lead" (top 78)
 g56:Gx K "each" (top 79)
 g57:Gx K "pair" (top 80)
 g58:Gx K "pick" (top 81)
 g59:Gx K "fetch" (top 82)
 g60:Gx K "counted" (top 83)
 g65:Gx K "lay" (top 89)
 g67:Gx K "moved_table" (top 92)
 g68:Gx K "step_table" (top 93)
 g69:Gx K "_law_size" (top 95)
 g70:Gx K "_law_wide" (top 96)
 g71:Gx K "_law_number" (top 97)
 g72:Gx K "_law_recent" (top 98)
 g73:Gx K "_law_begun" (top 99)
 g74:Gx K "_law_led" (top 100)
 g75:Gx K "_law_lifted" (top 101)
 g76:Gx K "_law_laid" (top 102)
 g77:Gx K "_law_moved" (top 103)
 g78:Gx K "_law_both" (top 104)
 g79:Gx K "_law_met" (top 105)
 g80:Gx K "_law_step" (top 106)
 g81:Gx K "_law_program" (top 107)
 g82:Gx K "_law_pairs" (top 108)
 g83:Gx K "_law_refused" (top 109)
 g84:Gx K "_law_taken" (top 110)
 g85:Gx K "_law_all" (top 111)
 g86:Gx K "law" (top 112)
 g61:∃f fd c,GlT' K "turn" (top 85) f fd c T61
 g62:∃f fd c,GlT' K "flip" (top 86) f fd c T62
 g63:∃f fd c,GlT' K "cut" (top 87) f fd c T63
 g64:∃f fd c,GlT' K "spread" (top 88) f fd c T64
 g66:∃f fd c,GlT' K "join" (top 90) f fd c T66
 nd:[T61,T62,T63,T64,T66].Nodup
 blen:nB K "len"
 btuple:nB K "tuple"
 blist:nB K "list"
 bsum:nB K "sum"
 bmax:nB K "max"
 bmin:nB K "min"
 babs:nB K "abs"
 bint:nB K "int"
 bstr:nB K "str"
 bsorted:nB K "sorted"
 bany:nB K "any"
 ball:nB K "all"
 bisinstance:nB K "isinstance"
 bbool:nB K "bool"
 brange:nB K "range"
 bzip:nB K "zip"
 benumerate:nB K "enumerate"
 breversed:nB K "reversed"
 bset:nB K "set"
 bdict:nB K "dict"
 qLOW:∃t,W.nsIn K mainGlobals "LOW"=some (some (.int (-9223372036854775808) t))
 qHIGH:∃t,W.nsIn K mainGlobals "HIGH"=some (some (.int 9223372036854775807 t))
 qMOST_SIDES:∃t,W.nsIn K mainGlobals "MOST_SIDES"=some (some (.int 6 t))
 qMOST_BREADTH:∃t,W.nsIn K mainGlobals "MOST_BREADTH"=some (some (.int 512 t))
 qPT:∃d,W.nsIn K mainGlobals "PARTS"=some (some (.ref d))/\yt P w K d
noncomputable def tL(T61 T62 T63 T64 T66:Addr):List (Addr×Pos×Str):=[(T61,(lmR (top 85)).p,"turn.<locals>.<lambda>"),(T62,(lmR (top 86)).p,"flip.<locals>.<lambda>"),(T63,(lmR (top 87)).p,"cut.<locals>.<lambda>"),(T64,(lmR (top 88)).p,"spread.<locals>.<lambda>"),(T66,inP (top 90),"join.<locals>.number_at")]
def Qc{K:FG}{L:List (Addr×Pos×Str)}{ts:List Addr}(e:L.map (·.1)=ts)(F:FnOk P w K mg base CX0 k f fd ps (pO K (TbJ L))):FnOk P w K mg base CX0 k f fd ps (qD K ts):=F.imp λ vs H Q E ⟨a,ns,e1,sq,l,hT,q⟩=>⟨a,ns,e1,sq,l,λ x hx=>⟨#[],hT _ (by rw[<- e];exact List.mem_map_of_mem hx),trivial,.inl rfl⟩,q⟩
def all_mk{l:W.OpenLaw}{K:FG}(X:K.In h)(G:h.Ns mainGlobals mg)(hfa:mg "law"=some (.ref fa))(S:Sv l.prog w K T61 T62 T63 T64 T66 C0 C1):∃(fd:FuncData) (tbs:List (Str×Addr×Addr)),(∀p∈tbs,W.tabIn K p.1=some p.2/\p.1∈(["turn","flip","cut","spread","join"]:List Str))/\(∀(s:Shared) (v:Value),BindsTo s fd ⟨[v],[]⟩ [("script",v)])/\∀base:Heap,K.In base->base.Ns mainGlobals mg->(∀p∈tbs,TabF base mg p.2.1 p.2.2)->FnOk l.prog w K mg base CX0 87 fa fd ["script"] (qD K (tbs.map λ p=>p.2.2)):=by
 have hm:∀ {x:Str}{v:Option Value},W.nsIn K mainGlobals x=some v->mg x=v:=λ {x v} z=>by cases v with|none=>exact W.mg_none_of X G z|some u=>exact W.mg_of X G z
 obtain⟨f,fd,gL⟩:=S.g86;have e:=hfa.symm.trans (hm gL.a);cases e;obtain⟨_,_,kVL,dcL,pmL,anL,cdL,ctL,_,eL,_,_⟩:=gL.F.ex;obtain⟨f61,d61,c61,t61⟩:=S.g61;obtain⟨f62,d62,c62,t62⟩:=S.g62;obtain⟨f63,d63,c63,t63⟩:=S.g63;obtain⟨f64,d64,c64,t64⟩:=S.g64;obtain⟨f66,d66,c66,t66⟩:=S.g66;refine⟨fd,[("turn",c61,T61),("flip",c62,T62),("cut",c63,T63),("spread",c64,T64),("join",c66,T66)],(fx ⟨t61.tb,pv⟩ (fx ⟨t62.tb,pv⟩ (fx ⟨t63.tb,pv⟩ (fx ⟨t64.tb,pv⟩ (fx ⟨t66.tb,pv⟩ fx0))))),λ s v=>by rw[eL];exact .of_eq rfl,λ base KB GB tf=>?_⟩;have M:MOk l.prog w K mg (TbJ (tL T61 T62 T63 T64 T66)) GT gs:=⟨TbJ.js,λ g x t h1 h2 nb=>?_,λ g x t h1 h2=>?_,λ x hx=>?_⟩
 ·have C:CM l.prog w K mg base (TbJ (tL T61 T62 T63 T64 T66)) GT gs DL 0:=⟨Cals.z,M,hm⟩
  have N:CN l.prog w K mg base (TbJ (tL T61 T62 T63 T64 T66)) GT gs DL X1L X2L CSL (λ k=>[C0,C1].getD k C0) C0 0:=⟨C,(λ i h=>nomatch h),(λ i h=>nomatch h),(λ k x e=>by
   match k,e with
   |0,e=>cases e;exact⟨S.n0,S.x0⟩
   |1,e=>cases e;exact⟨S.n1,S.x1⟩
   |n+2,e=>cases e),rfl,rfl⟩
  have EX:∀k c,c<=k->k<1->W.exmOne K (.ref ([C0,C1].getD k C0)) (.ref ([C0,C1].getD c C0))=some (isC k c):=λ k c h1 h2=>by
   match k,c,h1,h2 with
   |0,0,_,_=>exact S.e0_0
   |0,c+1,h1,_=>lia
   |k+1,_,_,h2=>lia
  replace N:=N.d S.g0 zw0;replace N:=N.d S.g1 zw1;replace N:=N.d S.g2 zw2;replace N:=N.d S.g3 zw3;replace N:=N.d S.g4 zw4;replace N:=N.d S.g5 zw5;replace N:=N.d S.g6 zw6;replace N:=N.d S.g7 zw7;replace N:=N.d S.g8 zw8;replace N:=N.d S.g9 zw9;replace N:=N.d S.g10 Ol;replace N:=N.d S.g11 Om;replace N:=N.d S.g12 On;replace N:=N.d S.g13 Oo;replace N:=N.r S.g14 Oq Op;replace N:=N.d S.g15 Os;replace N:=N.d S.g16 Ot;replace N:=N.d S.g17 Ou;replace N:=N.d S.g18 Ov;replace N:=N.d S.g19 Ow;replace N:=N.d S.g20 Ox;replace N:=N.d S.g21 Oy;replace N:=N.d S.g22 Oz;replace N:=N.d S.g23 OB;replace N:=N.d S.g24 OC;replace N:=N.d S.g25 OD;replace N:=N.d S.g26 OE;replace N:=N.d S.g27 OF;replace N:=N.d S.g28 OG;replace N:=N.d S.g29 OH;replace N:=N.d S.g30 OI;replace N:=N.d S.g31 OJ;replace N:=N.d S.g32 OL;replace N:=N.d S.g33 OM;replace N:=N.d S.g34 ON;replace N:=N.d S.g35 OO;replace N:=N.d S.g36 OP;replace N:=N.d S.g37 OQ;replace N:=N.d S.g38 OR
  have HO:Callee l.prog w K mg base CX0 40 "table_by" ["sides","number_at"] (jD l.prog w K mg base (tL T61 T62 T63 T64 T66) 39 ats):=by
   obtain⟨fh,dh,gh⟩:=S.g39;exact Callee.mk' gh.F (hm gh.a) ((show Bds "table_by" (top 56) ((["sides","number_at"]:List Str).take 2) 2 by repeat' (first|rfl|(refine λ _=>?_))).ok on fh dh gh.F) (Jv (fA:=15) (SA:=qB) (FT:=Ft 39) (fs:=dFs DL 39) gh.F (scq (ah (top 56)) ["sides","number_at"] []) M (gP 39) N.m.c.fns on rfl rfl Oh (by kernel_rfl) (by kernel_rfl) (by kernel_rfl) (by kernel_rfl) (by kernel_rfl) (by kernel_rfl) (by kernel_rfl))
  replace N:=N.d S.g39 OS;replace N:=N.d S.g40 OT;replace N:=N.d S.g41 OU;replace N:=N.d S.g42 OV;replace N:=N.d S.g43 OW;replace N:=N.d S.g44 OX;replace N:=N.d S.g45 OY;replace N:=N.d S.g46 OZ;replace N:=N.d S.g47 Pa;replace N:=N.d S.g48 Pb;replace N:=N.d S.g49 Pc;replace N:=N.d S.g50 Pd;replace N:=N.d S.g51 Pe;replace N:=N.r S.g52 Pg Pf;replace N:=N.d S.g53 Ph;replace N:=N.d S.g54 Pi;replace N:=N.d S.g55 Pj;replace N:=N.d S.g56 Pk;replace N:=N.d S.g57 Pl;replace N:=N.d S.g58 Pm;replace N:=N.d S.g59 Pn;replace N:=N.d S.g60 Po;have MX:=N.m.l t61 (tf ("turn",c61,T61) pv) bz S.nd HO Pp;replace N:=N.mu MX;clear MX;have MX:=N.m.l t62 (tf ("flip",c62,T62) pv) (aW _ bz) S.nd HO Pq;replace N:=N.mu MX;clear MX;have MX:=N.m.l t63 (tf ("cut",c63,T63) pv) (aW _ (aW _ bz)) S.nd HO Ps;replace N:=N.mu MX;clear MX;have MX:=N.m.l t64 (tf ("spread",c64,T64) pv) (aW _ (aW _ (aW _ bz))) S.nd HO Pt;replace N:=N.mu MX;clear MX;replace N:=N.d S.g65 Pu;have MX:=N.m.k t66 (tf ("join",c66,T66) pv) (aW _ (aW _ (aW _ (aW _ bz)))) S.nd HO "number_at" Pv;replace N:=N.mu MX;clear MX;replace N:=N.d S.g67 Pw;replace N:=N.d S.g68 Px;replace N:=N.d S.g69 Py;replace N:=N.d S.g70 Pz;replace N:=N.d S.g71 PB;replace N:=N.d S.g72 PD;replace N:=N.d S.g73 PF;replace N:=N.d S.g74 PH;replace N:=N.d S.g75 PJ;replace N:=N.d S.g76 PL;replace N:=N.d S.g77 PP;replace N:=N.d S.g78 PQ;replace N:=N.d S.g79 PR;replace N:=N.d S.g80 PU;replace N:=N.d S.g81 PV;replace N:=N.d S.g82 PX;replace N:=N.y EX S.g83 PY;replace N:=N.d S.g84 PZ;replace N:=N.d S.g85 Qa;exact Qc rfl (N.law gL Qb)
 ·match g,h1,h2 with
  |0,h1,h2=>cases h1;cases h2;obtain⟨t,q⟩:=S.qLOW;exact⟨.int (-9223372036854775808),_,hm q,⟨t,rfl⟩,λ F H=>rfl⟩
  |1,h1,h2=>cases h1;cases h2;obtain⟨t,q⟩:=S.qHIGH;exact⟨.int 9223372036854775807,_,hm q,⟨t,rfl⟩,λ F H=>rfl⟩
  |2,h1,h2=>cases h1;cases h2;obtain⟨t,q⟩:=S.qMOST_SIDES;exact⟨.int 6,_,hm q,⟨t,rfl⟩,λ F H=>rfl⟩
  |3,h1,h2=>cases h1;cases h2;obtain⟨t,q⟩:=S.qMOST_BREADTH;exact⟨.int 512,_,hm q,⟨t,rfl⟩,λ F H=>rfl⟩
  |4,h1,h2=>cases h1;cases h2;cases nb
  |n+5,h1,h2=>cases h1
 ·match g,h1,h2 with
  |0,h1,h2=>cases h2
  |1,h1,h2=>cases h2
  |2,h1,h2=>cases h2
  |3,h1,h2=>cases h2
  |4,h1,h2=>cases h1;cases h2;obtain⟨d,e,kvs,TK,PA⟩:=S.qPT;exact⟨d,kvs,hm e,TK,BA PA⟩
  |n+5,h1,h2=>cases h1
 ·simp only[BN,bf,fP,fQ] at hx
  rcases hx with rfl|rfl|rfl|rfl|rfl|rfl|rfl|rfl|rfl|rfl|rfl|rfl|rfl|rfl|rfl|rfl|rfl|rfl|rfl|rfl
  ·exact hm S.blen
  ·exact hm S.btuple
  ·exact hm S.blist
  ·exact hm S.bsum
  ·exact hm S.bmax
  ·exact hm S.bmin
  ·exact hm S.babs
  ·exact hm S.bint
  ·exact hm S.bstr
  ·exact hm S.bsorted
  ·exact hm S.bany
  ·exact hm S.ball
  ·exact hm S.bisinstance
  ·exact hm S.bbool
  ·exact hm S.brange
  ·exact hm S.bzip
  ·exact hm S.benumerate
  ·exact hm S.breversed
  ·exact hm S.bset
  ·exact hm S.bdict
open PySem.W in
theorem walk{l:W.OpenLaw}{YP:World->Heap->Prop}{d:DefRec}{K:Params->FG}(hn:l.most=some 63)(hdf:d.params.defaults=[])
  (hY:∀(w:World) (h:Heap),YP w h->(K w.params).In h) (hK0:∀w:World,noTabs (K w.params)=true) (hrec:∀x∈(["turn","flip","cut","spread","join"]:List Str),((recsOf q).find? λ e=>e.name == x).isSome=true)
  (F:∀(w:World) (mg:SV) (fa:Addr) (h:Heap),(K w.params).In h->h.Ns mainGlobals mg->mg d.name=some (.ref fa) ->
   ∃(fd:FuncData) (tbs:List (Str×Addr×Addr)),(∀p∈tbs,tabIn (K w.params) p.1=some p.2/\p.1∈(["turn","flip","cut","spread","join"]:List Str))/\(∀(s:Shared) (u:Value),BindsTo s fd ⟨[u],[]⟩ [("script",u)])/\∀base:Heap,(K w.params).In base->base.Ns mainGlobals mg->(∀p∈tbs,TabF base mg p.2.1 p.2.2)->FnOk l.prog w (K w.params) mg base CX0 87 fa fd ["script"] (qD (K w.params) (tbs.map λ p=>p.2.2))) :
  W.WalkO q loose XP YP l.row.toRowW d [] (λ f vs=>PySem.call f vs) :=
 _L.walk_ofT (n:=63) (k:=87) (x := "script") (CX:=λ _=>CX0) (sp:=λ w ts=>qD (K w.params) ts) hn on hdf ⟨rfl,on,on⟩ hY hK0 (λ w mg fa h a b c=>by
  obtain⟨fd,tbs,h1,h2⟩:=F w mg fa h a b c
  exact⟨fd,tbs,λ p hp=>⟨(h1 p hp).1,hrec _ (h1 p hp).2⟩,h2⟩) (λ _ _ a ns ts hl hT hS=>⟨a,ns,ca,hS,hl,hT,λ _=>rfl⟩) λ _ _ _ _ _ z=>z
end _M
end
end
open PySem PySem.W PyProof.Rows
set_option maxRecDepth 100000 in
set_option maxHeartbeats 0 in
theorem PySem.Challenge.cw_sideloom_k39_looks_of_what_is_moved_holds : PySem.Challenge.rw_sideloom_k39_looks_of_what_is_moved.Holds := by
 w_on;o_law;k_head;(case hw=>w_witness2)
 k_fill
 refine _M.walk (l:=PySem.Challenge.rw_sideloom_k39_looks_of_what_is_moved) rfl rfl (λ w h Y=>W.km_in_of Y) ?K0 ?rec ?F
 case K0=>intro w;kernel_rfl
 case rec=>exact(_M.fx (by kernel_rfl) (_M.fx (by kernel_rfl) (_M.fx (by kernel_rfl) (_M.fx (by kernel_rfl) (_M.fx (by kernel_rfl) _M.fx0)))))
 case F=>
  intro w mg fa h KX G hmg
  refine' _M.all_mk KX G hmg ?S
  case S=>
   constructor
   iterate 2 (k_is)
   iterate 2 (k_exc)
   ·kts_exm
   iterate 82 (refine' _L.gl_ex ?ya ?yb ?yc ?yd;(case ya=>k_is);(case yb=>k_is);(case yc=>k_is);(case yd=>k_is))
   iterate 5 (refine' _M.glt_ex ?ya ?yb ?yc ?yd ?ye ?yf;(case ya=>k_is);(case yb=>k_is);(case yc=>k_is);(case yd=>k_is);(case ye=>k_is);(case yf=>rfl))
   ·decide
   iterate 20 (unfold _M.nB;k_is)
   iterate 4 (refine' _L.gx_int ?ya;(case ya=>k_is))
   ·refine' _M.pt_mk ?gPT ?dPT0 ?lPT ?l0 ?l0_0 ?l1 ?l1_0 ?l2 ?l2_0 ?l2_1 ?l3 ?l3_0 ?l3_1 ?l4 ?l4_0 ?l4_1 ?l4_2 ?l5 ?l5_0 ?l5_1 ?l5_2 ?l6 ?l6_0 ?l6_1 ?l7 ?l7_0 ?l7_1 ?l8 ?l8_0 ?l8_1 ?l8_2 ?l8_3 ?l8_4 ?l9 ?l9_0 ?l9_1 ?l9_2 ?l10 ?l10_0 ?l10_1 ?l11 ?l11_0 ?l11_1 ?l11_2 ?l12 ?l12_0 ?l12_1 ?l13 ?l13_0 ?l13_1 ?l13_2 ?l14 ?l14_0 ?l14_1 ?l14_2
    (case gPT=>k_is)
    (case dPT0=>first|decide +kernel|rfl)
    (case lPT=>k_is)
    (case l0=>refine' _M.ktr1 ?ya;(case ya=>k_is))
    (case l1=>refine' _M.ktr1 ?ya;(case ya=>k_is))
    (case l2=>refine' _M.ktr2 ?ya;(case ya=>k_is))
    (case l3=>refine' _M.ktr2 ?ya;(case ya=>k_is))
    (case l4=>refine' _M.ktr3 ?ya;(case ya=>k_is))
    (case l5=>refine' _M.ktr3 ?ya;(case ya=>k_is))
    (case l6=>refine' _M.ktr2 ?ya;(case ya=>k_is))
    (case l7=>refine' _M.ktr2 ?ya;(case ya=>k_is))
    (case l8=>refine' _M.ktr5 ?ya;(case ya=>k_is))
    (case l9=>refine' _M.ktr3 ?ya;(case ya=>k_is))
    (case l10=>refine' _M.ktr2 ?ya;(case ya=>k_is))
    (case l11=>refine' _M.ktr3 ?ya;(case ya=>k_is))
    (case l12=>refine' _M.ktr2 ?ya;(case ya=>k_is))
    (case l13=>refine' _M.ktr3 ?ya;(case ya=>k_is))
    (case l14=>refine' _M.ktr3 ?ya;(case ya=>k_is))
    iterate 37 (refine' _M.kts ?ya;(case ya=>k_is))
