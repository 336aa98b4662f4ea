import PyProof.Rows.All
import Wide.All
import OpenK.AllK
import Wide.FinOn
import Lean
import PyProof.EqAt
import PyProof.EqKinds
import PyProof.TupleCall
import PySem.Challenge.RW_sideloom_k36_whole_each_cell
set_option Elab.async false
set_option linter.all false
set_option autoImplicit true
set_option maxRecDepth 100000
def O{a:α}:a=a:=rfl
def ca{p:Prop}(h:p:=by lia):p:=h
def fu{p:Prop}(h:p:=by decide):p:=h
def on{p:Prop}(h:p:=by simp):p:=h
def pv:True:=trivial
set_option tactic.hygienic false
abbrev VS:=PySem.Value->PySem.Shared->Prop
abbrev LL:=List (List Int)
abbrev LI:=List Int
abbrev LO:=List (PySem.Addr×PySem.Obj)
abbrev LA:=List (PySem.Str×PySem.Addr)
abbrev SV:=PySem.Str->Option PySem.Value
abbrev LV:=List PySem.Value
abbrev FG:=PySem.W.Frag
abbrev AV:=Array (Option PySem.Value)
abbrev OA:=Option PySem.Addr
open List renaming getElem?_eq_getElem->aB,mem_of_getElem?->aA,length_map->ao,mem_cons_of_mem->aE,getD_eq_getElem?_getD->aR,getElem?_eq_some_iff->bf,length_append->aN,getElem?_map->aQ,size_toArray->aV,mem_singleton->bh,mem_cons_self->bo,length_take->bd,mem_cons->aL,mem_append_right->cu,map_cons->aX,getElem?_append_right->dn,length_range->bQ,not_mem_nil->bX,map_append->bK,map_map->br,mem_append->cg,take_length->cy,getElem?_append_left->eR,length_singleton->dO,mem_map->bG,length_set->cW,getElem?_eq_none->gu,getElem?_set->eh,take_of_length_le->gP,length_drop->dX,append_assoc->eX,all_cons->cX,getElem?_set_self->hE,eraseIdx_eq_take_drop_succ->mC,take_add_one->fR,length_replicate->hZ,lookup_cons->fJ,append_nil->fG,getElem?_range->iH,length_reverse->iI,take_append_drop->jD,getElem?_set_ne->iY,mem_of_mem_take->jA,getElem?_eraseIdx->kG,mem_range->fq,drop_eq_getElem_cons->lU,mem_or_eq_of_mem_set->mE,map_congr_left->jy,reverse_append->jC,reverse_cons->iq,getElem?_reverse->jY,getElem?_replicate->lB,mem_of_mem_drop->kJ,all_eq_true->iB,zipWith_cons_cons->mG,replicate_succ->jV,length_zipWith->kh,getElem?_zip_eq_some->nR,nodup_cons->hW,getElem?_take_of_lt->ng,zip_cons_cons->kA,getElem_mem->jo,eq_nil_of_length_eq_zero->qv,take_append_of_le_length->qJ,mem_append_left->kX,mem_range'_1->kg,mem_filter->iX,length_pos_iff->lR,mem_iff_getElem?->nJ,getElem?_zipWith->nQ,set_eq_take_append_cons_drop->uH,length_filter_le->oN,length_eraseIdx->oA,flatten_cons->lD,ext_getElem?->lV,pairwise_cons->nL,of_mem_zip->lw,cons_append->nG,map_reverse->oq,flatMap_append->qH,idxOf_lt_length_iff->uQ,forIn_cons->nH,getElem?_take->qz,filter_cons_of_pos->uj,filter_cons_of_neg->uk,range_succ->oh,range_succ_eq_map->tF,length_pos_of_mem->vg,eraseIdxIfInBounds_toArray->wf,flatMap_cons->qI,getElem?_toArray->sW,getElem?_of_mem->ud,any_cons->nq,filterMap_cons->rD,perm_append_singleton->Ad,mem_of_mem_eraseIdx->Ae,length_eq_zero_iff->CN,drop_length->tY,mem_reverse->um,dropLast_eq_take->ym,filterMap_append->s0d,set_getElem_self->s0e,getElem_toArray->s0j,getElem?_mapIdx->s0l,mem_filterMap->s0z,getElem_idxOf->s1l,map_nil->s1p
open PySem renaming wpAny_bind->af,wpAny_pure->aq,mem_of_lookup->dW,wpAny_newObj_type->dC,builtinLookup_eq_fast->gO,wpAny_callSpecial?_slot->jc,wpAny_field->cU,wpAny_call_entry->gb,wpAny_mono->cP,wpAny_truthy_bool->gM,wpAny_holding->eQ,typeLookup_type->gN,plainId_quiet->gk,codeAny_builtin->iw,wpAny_of_eq->fI,wpAny_specialOf->jg,wpAny_Call_Name_kw->lu,wpAny_seqItems->jh,wpAny_isInstance->lF,isSubtype_type->jX,wpAny_pyIter_tuple->nD,wpAny_updateSeq->lK,wpAny_standAt->jQ,wpAny_tryCatch->lO,wpAny_typeOf->jR,call_meets->iu,wpAny_passesOwn->mS,wpAny_attempt->lG,wpAny_setField_rec->pQ,wpAny_setField->nC,codeAny_extend_loopS->sV,wpAny_execs_nil->oQ,codeAny_mono->mZ,wpAny_rule->lJ,arm_evalThenUse_ListComp->wN,wpAny_pyIter_list->tj,sizeLine_eq->mX,wpAny_letGo->nN,noFill_tuple_add->sh,wpAny_forIn_list->tu,wpAny_Call_method_late->wa,wpAny_storeName_local->vj,name_of_addr->oZ,codeAny_call_function->vN,concat_meets->pd,exec_Assign_Name_used->wM,wpAny_storeName_cell->s0f,fitsIndex_both->s0o,isSubtype_stop->s0p,wpAny_newTuple->s0r,seq_tuple_add->s1b,wpAny_load->s1m,seqIndex_neg->s1q,callType_new->s1r,seqIndex_of->s1y
open PySem.Heap renaming get?_push_of_some->aI,get?_push_size->be,lt_size->aJ,get?_update_other->fH,get?_update_self->im,size_push->gc
open Nat renaming le_refl->ay,lt_of_lt_of_le->bM,ne_of_lt->bn,le_of_ble_eq_true->dA,zero_le->bW,lt_succ_of_lt->eY,le_trans->dg,lt_irrefl->dM,le_of_lt->dN,min_eq_left->iC,lt_succ_self->jd,sub_self->iP,zero_lt_succ->lQ,not_lt_zero->lT,succ_le_succ->nr,ne_of_gt->mR,lt_of_le_of_lt->sK,lt_of_succ_lt_succ->xa,lt_trans->s1s,lt_or_ge->s1t,min_self->s1u
open Bool renaming and_eq_true->bF,false_ne_true->cj,and_eq_true_iff->gD,false_eq_true->nI,or_eq_true->mq,eq_iff_iff->oW,and_false->pU,false_and->s0n,false_or->s1i
open Option.some renaming inj->bJ,injEq->nY
open Int renaming mul_le_mul_of_nonneg_right->gW,mul_le_mul_of_nonneg_left->gS,emod_lt_of_pos->dH,emod_nonneg->du,toNat_of_nonneg->iJ,fdiv_eq_ediv_of_nonneg->mW,mul_comm->gH,mul_assoc->kE,le_refl->jm,le_trans->kM,mul_nonneg->oj,one_mul->mD,fmod_eq_emod_of_nonneg->vz,natCast_nonneg->rR,ediv_le_self->uJ,ediv_eq_zero_of_lt->zk,fmod_nonneg_of_pos->Ax,ediv_nonneg->s0b,add_mul_ediv_left->s0c,mul_ediv_self_le->s0m,mul_le_mul->s0s,mul_one->s0t,sub_eq_add_neg->s1j,fmod_lt_of_pos->s1k,ediv_one->s1o,emod_def->s1v,fmod_def->s1w
open PyProof.Rows renaming callWith_type1->hV,slot_tuple_getitem->pf,subscriptTail_builtinR->vY,entry_tuple_getitem->s0u,args_tuple_getitem->s1c,len_tuple->s1d,boot_reversed->s1f
open PySem.F renaming plainAttrs_list->jz,plain_max_loop->ka,slot_tuple_iterator_next->pJ,args_object_init_2->pr,args_tuple_add_2->su,entry_tuple_add->sj,slot_list_index->tZ,type_list_index->ua,slot_tuple_add->si,entry_max_loop->tD,plain_list_iadd->pG,plain_tuple_new->pH,args_tuple_iterator_next_1->wF,plain_extend_loop->sU,entry_tuple_iterator_next->wD,slot_tuple_index->xZ,type_tuple_index->yg,slot_list_append->yp,type_list_append->yq,entry_proto_collect->wA,plain_proto_collect->wB,slot_enumerate_next->wI,slot_list_pop->yn,type_list_pop->s0a,args_list_append_2->s0i,entry_list_append->s0v,entry_object_init->s0w,slot_list_append->s1e,typeCall_tuple_1->s1g
open PySem.Around renaming under_plainId->iy,frames_deeper->s0g
open Option renaming isSome_iff_exists->ly,map_eq_some_iff->mM
open PySem.Obj renaming data_mapFields->lH,isFreed_of_fields->sQ
open Array renaming getElem?_eq_getElem->pI,getElem?_toList->sH,getElem?_eq_some_iff->wy,toArray_toList->s0k
open Ne renaming symm->cK
open PySem.AutoSeq1 renaming wpAny_loadPart'->pL
open PySem.W renaming cellsFrom_some->lx,kia_one->mh
open PySem.Heap.SameBut renaming update->px
open PySem.Calls renaming callWith_builtin->sG,Name_function_global->vk,spliced_cons->rZ,spliced_nil->rY,evalArgs_plain->s0h
open And renaming intro->iD
open List.cons renaming inj->nK
open Prod.mk renaming injEq->nZ
open PySem.PassesOwn renaming never->qy
open PyProof renaming noPylong_of_log2->wp
open LawfulBEq renaming eq_of_beq->lC
open PySem.SeqAt.EqAt renaming same->sC,int_str->s0x,str_int->s0y,of_refs->s1h
open PySem.Moved renaming drop_new->s0q
open True renaming intro->s1n
open Sum.inr renaming inj->s1x
open PySem.ItemsOf renaming nil->s1z
open LawfulMonad renaming pure_bind->s2a
def aC:=@of_decide_eq_true
def bq:=@decide_eq_false
def cY:=@decide_eq_true
def gG:=@decide_eq_true_eq
def bE:=@congrArg
def bY:=@or_false
def jN:=@of_decide_eq_false
def lL:=@beq_self_eq_true
def eW:=@if_true
def ky:=@beq_iff_eq
def rq:=@beq_eq_false_iff_ne
def jb:=@if_false
def xO:=@decide_eq_false_iff_not
def rV:=@decide_eq_decide
section
set_option compiler.extract_closed false
set_option hygiene false

set_option hygiene true
noncomputable section
namespace _L
open PySem PySem.Spec PyProof.Rows
abbrev Key:=Sum Int Str
noncomputable def oO:Key->Value->Bool
 |.inl k,v=>Value.isInt k v
 |.inr x,v=>Value.isStrOf x v
noncomputable def CQ(w:World):Key->Int
 |.inl k=>hashInt k
 |.inr x=>hashStr w x
theorem gZ:∀ {k:Key}{v:Value},oO k v=true->(∃i t,k=Sum.inl i/\v=Value.int i t)\/(∃x t,k=Sum.inr x/\v=Value.str x t)
 |.inl i,v,h=>by
  obtain⟨t,e⟩:=Value.isInt_shape (k:=i) (v:=v) h;exact .inl ⟨i,t,O,e⟩
 |.inr x,v,h=>by
  obtain⟨t,e⟩:=Value.isStrOf_shape (x:=x) (v:=v) h;exact .inr ⟨x,t,O,e⟩
def rn(x:Str)(t:Tok):oO (.inr x) (.str x t)=true:=by simp[oO,Value.isStrOf]
def CS(a b:Int):decide ((Sum.inl a:Key)=Sum.inl b)=(a == b):=by
 by_cases e:a=b
 ·subst e;simp
 ·have h:¬(Sum.inl a:Key)=Sum.inl b:=λ q=>e (Sum.inl.inj q);rw[bq h];exact(rq.mpr e).symm
def CT(a b:Str):decide ((Sum.inr a:Key)=Sum.inr b)=decide (a=b):=by
 by_cases e:a=b
 ·subst e;simp
 ·have h:¬(Sum.inr a:Key)=Sum.inr b:=λ q=>e (s1x q);rw[bq h,bq e]
def CU(a:Int)(b:Str):decide ((Sum.inl a:Key)=Sum.inr b)=false:=bq (λ q=>nomatch q)
def CV(a:Str)(b:Int):decide ((Sum.inr a:Key)=Sum.inl b)=false:=bq (λ q=>nomatch q)
noncomputable def rB(prog:Program)(w:World):PySem.KeyKind prog w Key where
 is:=oO
 hash:=CQ w
 inj:=λ v a b ha hb=>by
  rcases gZ ha with ⟨i,t,rfl,rfl⟩|⟨x,t,rfl,rfl⟩
  ·rcases gZ hb with ⟨j,u,rfl,e⟩|⟨y,u,rfl,e⟩
   ·injection e with e1 _;rw[e1]
   ·exact nomatch e
  ·rcases gZ hb with ⟨j,u,rfl,e⟩|⟨y,u,rfl,e⟩
   ·exact nomatch e
   ·injection e with e1 _;rw[e1]
 byValue:=λ k v h=>by
  rcases gZ h with ⟨i,t,rfl,rfl⟩|⟨x,t,rfl,rfl⟩<;>rfl
 pyHash:=λ hv h=>by
  rcases gZ hv with ⟨i,t,rfl,rfl⟩|⟨x,t,rfl,rfl⟩
  ·exact wpAny_pyHash_int h
  ·exact wpAny_pyHash_str h
 eqBool:=λ hu hv h=>by
  rcases gZ hu with ⟨i,t,rfl,rfl⟩|⟨x,t,rfl,rfl⟩
  ·rcases gZ hv with ⟨j,u,rfl,rfl⟩|⟨y,u,rfl,rfl⟩
   ·rw[CS] at h;exact wpAny_eqBool_int h
   ·rw[CU] at h;exact s0x i t y u _ _ _ _ h
  ·rcases gZ hv with ⟨j,u,rfl,rfl⟩|⟨y,u,rfl,rfl⟩
   ·rw[CV] at h;exact s0y x t j u _ _ _ _ h
   ·rw[CT] at h;exact wpAny_eqBool_str h
 «strs»:=λ k x t v h=>by
  rcases gZ h with ⟨i,u,rfl,e⟩|⟨y,u,rfl,e⟩
  ·exact nomatch e
  ·injection e with e1 _
   subst e1;cases v<;>rfl
inductive V where
 |non|bl (b:Bool)|int (i:Int)|str (x:Str)|byt (b:Array UInt8)|flt (b:UInt64)|ref (a:Addr)|ty (n:String)
 deriving DecidableEq
noncomputable def RelV:V->Value->Prop
 |.non,u=>u=Value.none
 |.bl b,u=>u=Value.bool b
 |.int i,u=>∃t,u=Value.int i t
 |.str x,u=>∃t,u=Value.str x t
 |.byt b,u=>∃t,u=Value.bytes b t
 |.flt b,u=>∃t,u=Value.float b t
 |.ref a,u=>u=Value.ref a
 |.ty n,u=>u=Value.type n
abbrev Vals:List V->LV->Prop:=Paired RelV
def Vals.length(r:Vals xs us):xs.length=us.length:=Paired.length r
theorem Vals.get:∀ {xs:List V}{us:LV}{i:Nat}{x:V},Vals xs us->xs[i]?=some x->∃u,us[i]?=some u/\RelV x u
 |_,_,_,_,.nil,e=>by simp at e
 |_,_,0,_,.cons r _,e=>by simp at e;subst e;exact⟨_,rfl,r⟩
 |_,_,i+1,x,.cons _ t,e=>by
  obtain⟨u,h1,h2⟩:=Vals.get (i:=i) (x:=x) t (by simpa using e);exact⟨u,by simpa using h1,h2⟩
theorem Vals.set(r:RelV x u):∀ {xs:List V}{us:LV}(i:Nat),Vals xs us->Vals (xs.set i x) (us.set i u)
 |_,_,_,.nil=>.nil
 |_,_,0,.cons _ t=>.cons r t
 |_,_,i+1,.cons q t=>.cons q (Vals.set r i t)
theorem Vals.append:∀ {xs ys:List V}{us ws:LV},Vals xs us->Vals ys ws->Vals (xs++ys) (us++ws)
 |_,_,_,_,.nil,s=>s
 |_,_,_,_,.cons r t,s=>.cons r (Vals.append t s)
theorem Vals.take:∀ {xs:List V}{us:LV}(n:Nat),Vals xs us->Vals (xs.take n) (us.take n)
 |_,_,0,_=>.nil
 |_,_,_+1,.nil=>.nil
 |_,_,n+1,.cons r t=>.cons r (Vals.take n t)
theorem Vals.drop:∀ {xs:List V}{us:LV}(n:Nat),Vals xs us->Vals (xs.drop n) (us.drop n)
 |_,_,0,r=>r
 |_,_,_+1,.nil=>.nil
 |_,_,n+1,.cons _ t=>Vals.drop n t
noncomputable def rC:Option V->Option Value->Prop
 |some v,some u=>RelV v u
 |none,none=>True
 |_,_=>False
noncomputable def KV{κ:Type}:List (κ×V)->List (κ×Value)->Prop:=Paired λ(p:κ×V) (q:κ×Value)=>p.1=q.1/\RelV p.2 q.2
def kV:Key->V
 |.inl i=>.int i
 |.inr x=>.str x
inductive HO where
 |lst (xs:List V)
 |tup (xs:List V)
 |dK (kvs:List (Key×V))|dT (kvs:List (List Key×V))
 |set (S:Int->Bool) (n:Nat)
 |ins (C dx:Addr) (fs:List (Str×V))
 |own (x:Addr)
 |xd (fs:List (Str×V))
 |met (f x:Addr)
 |rng (lo hi:Int)
 |frz (o:Obj) (u:HO)
 |tbl (ps:Array Value)
 |ext (φ:Heap->Prop)
abbrev Hp:=Addr->Option HO
def upd(H:Hp)(a:Addr)(o:HO):Hp:=λ b=>if b=a then some o else H b
def cJ:upd H a o a=some o:=by unfold upd;rw[if_pos rfl]
def aG{a b:Addr}(h:b≠a):upd H a o b=H b:=by unfold upd;rw[if_neg h]
def jP{H:Hp}(h:H a=some o)(h':H b=none):a≠b:=by
 intro e;subst e;rw[h] at h';cases h'
noncomputable def TupO(h:Heap)(a:Addr)(its:Array Value):Prop:=∃o,h.get? a=some o/\(o.cls=.type "tuple" /\ ∃n,o.data=.seq its n)/\o.dict=none
def TupO.new(h:Heap)(its:Array Value):TupO (h.push { cls:=.type "tuple",data:=.seq its }) h.objs.size its:=⟨_,be _ rfl,⟨rfl,0,rfl⟩,rfl⟩
def TupO.tup(t:TupO h a its):IsTup h a its:=let ⟨o,e,⟨c,n,d⟩,_⟩:=t;⟨o,e,c,n,d⟩
def TupO.lt(t:TupO h a its):a<h.objs.size:=t.tup.lt
section
variable (P:Program)(w:World)
noncomputable def ObjOk(H:Hp)(h:Heap)(a:Addr):HO->Prop
 |.lst xs=>xs.length<=sizeLine/\∃(its:LV) (n:Nat),Vals xs its/\h.get? a=some { cls:=.type "list",data:=.seq its.toArray n }
 |.tup xs=>xs.length<=sizeLine/\∃its:LV,Vals xs its/\TupO h a its.toArray
 |.dK kvs=>kvs.length<=sizeLine/\(a == sysModules)=false/\∃vs,KV kvs vs/\h.DictOf (rB P w) a vs
 |.dT kvs=>kvs.length<=sizeLine/\(a == sysModules)=false/\∃xs:List (List Key×Addr×Value),
   Paired (λ(p:List Key×V) (q:List Key×Addr×Value)=>p.1=q.1/\H q.2.1=some (.tup (p.1.map kV))/\RelV p.2 q.2.2) kvs xs /\
   ∃o es ep,h.get? a=some o/\o.ExactDict/\o.data=.dict es ep/\es.toList=xs.map (entryOfKey (tupleKind (rB P w)))/\(xs.map (·.1)).Nodup
 |.set S n=>h.SetOf (intKind P w) a S n
 |.ins C dx fs=>H dx=some (.own a)/\fs.length<=1000/\dx≠a/\h.get? a=some (W.instObj C dx) /\
   ∃mA,h.Ns1 dx mA/\(∀f,rC (fs.lookup f) (mA f))/\PySem.Within mA (fs.map (·.1))
 |.own _=>∃o,h.get? a=some o
 |.xd fs=>∃mA,h.Ns1 a mA/\∀f,rC (fs.lookup f) (mA f)
 |.rng lo hi=>∃t u v,h.get? a=some { cls:=.type "range",data:=.fields #[.int lo t,.int hi u,.int 1 v] }
 |.frz o u=>h.get? a=some o/\ObjOk H h a u
 |.tbl ps=>h.get? a=some { cls:=.none,data:=.fields ps }
 |.met f x=>h.get? a=some (W.methodObj (.ref f) (.ref x))
 |.ext φ=>φ h/\(∃o,h.get? a=some o)/\∀h1 h2:Heap,φ h1->(∀o,h1.get? a=some o->h2.get? a=some o)->φ h2
def HOk(H:Hp)(h:Heap):Prop:=∀a o,H a=some o->ObjOk P w H h a o
end
section
variable {P:Program}{w:World}{H H':Hp}{h h':Heap}{a:Addr}{o:HO}
def ObjOk.lt(x:ObjOk P w H h a o):a<h.objs.size:=by
 cases o with
 |lst xs=>obtain⟨_,_,_,_,e⟩:=x;exact aJ e
 |tup xs=>obtain⟨_,_,_,p⟩:=x;exact p.lt
 |dK kvs=>obtain⟨_,_,_,_,o,_,_,e,_⟩:=x;exact aJ e
 |dT kvs=>obtain⟨_,_,_,_,o,_,_,e,_⟩:=x;exact aJ e
 |set S n=>obtain⟨o,_,_,_,e,_⟩:=x;exact aJ e
 |ins C dx fs=>obtain⟨_,_,_,e,_⟩:=x;exact aJ e
 |own y=>obtain⟨_,e⟩:=x;exact aJ e
 |xd fs=>obtain⟨_,⟨_,_,_,e,_⟩,_⟩:=x;exact aJ e
 |rng lo hi=>obtain⟨_,_,_,e⟩:=x;exact aJ e
 |frz ob u=>obtain⟨e,_⟩:=x;exact aJ e
 |tbl ps=>exact aJ (show h.get? a=some _ from x)
 |met f y=>exact aJ (show h.get? a=some _ from x)
 |ext φ=>obtain⟨_,⟨_,e⟩,_⟩:=x;exact aJ e
theorem Paired.mapP{α β:Type}{F G:α->β->Prop}:∀ {l₁:List α}{l₂:List β},Paired F l₁ l₂->(∀a b,F a b->G a b)->Paired G l₁ l₂
 |_,_,.nil,_=>.nil
 |_,_,.cons r t,f=>.cons (f _ _ r) (Paired.mapP t f)
theorem ObjOk.stay(x:ObjOk P w H h a o)(k:∀b u,(b=a\/H b=some (.own a))->h.get? b=some u->h'.get? b=some u)
  (ho:∀b,H b=some (.own a)->H' b=some (.own a)) (ht:∀b xs,H b=some (.tup xs)->H' b=some (.tup xs)):ObjOk P w H' h' a o:=by
 induction o with
 |lst xs=>obtain⟨z,its,n,r,e⟩:=x;exact⟨z,its,n,r,k _ _ (.inl rfl) e⟩
 |tup xs=>obtain⟨z,its,r,ob,e,c⟩:=x;exact⟨z,its,r,ob,k _ _ (.inl rfl) e,c⟩
 |dK kvs=>obtain⟨z,y,vs,r,ob,es,ep,e,c⟩:=x;exact⟨z,y,vs,r,ob,es,ep,k _ _ (.inl rfl) e,c⟩
 |dT kvs=>
  obtain⟨z,y,xs,r,ob,es,ep,e,c⟩:=x;exact⟨z,y,xs,Paired.mapP r λ p q z=>⟨z.1,ht _ _ z.2.1,z.2.2⟩,ob,es,ep,k _ _ (.inl rfl) e,c⟩
 |set S n=>obtain⟨ob,es,ep,t,e,c⟩:=x;exact⟨ob,es,ep,t,k _ _ (.inl rfl) e,c⟩
 |ins C dx fs=>
  obtain⟨d,z,ne,e,mA,⟨od,es,ep,e2,c⟩,r⟩:=x;exact⟨ho _ d,z,ne,k _ _ (.inl rfl) e,mA,⟨od,es,ep,k _ _ (.inr d) e2,c⟩,r⟩
 |own y=>obtain⟨ob,e⟩:=x;exact⟨ob,k _ _ (.inl rfl) e⟩
 |xd fs=>obtain⟨mA,⟨od,es,ep,e,c⟩,r⟩:=x;exact⟨mA,⟨od,es,ep,k _ _ (.inl rfl) e,c⟩,r⟩
 |rng lo hi=>obtain⟨t,u,v,e⟩:=x;exact⟨t,u,v,k _ _ (.inl rfl) e⟩
 |frz ob u ih=>obtain⟨e,q⟩:=x;exact⟨k _ _ (.inl rfl) e,ih q⟩
 |tbl ps=>
  have e:h.get? a=some { cls:=.none,data:=.fields ps }:=x;show h'.get? a=some { cls:=.none,data:=.fields ps };exact k a _ (.inl rfl) e
 |met f y=>
  have e:h.get? a=some (W.methodObj (.ref f) (.ref y)):=x;show h'.get? a=some (W.methodObj (.ref f) (.ref y));exact k a _ (.inl rfl) e
 |ext φ=>obtain⟨p,⟨o,e⟩,st⟩:=x;exact⟨st _ _ p λ o q=>k _ _ (.inl rfl) q,⟨o,k _ _ (.inl rfl) e⟩,st⟩
def HOk.lt(x:HOk P w H h)(e:H a=some o):a<h.objs.size:=(x a o e).lt
def HOk.fresh(x:HOk P w H h)(e:h.objs.size<=a):H a=none:=by
 cases q:H a with
 |none=>rfl
 |some u=>exact absurd (bM (x.lt q) e) (dM _)
def HOk.kept(x:HOk P w H h)(k:∀b u,h.get? b=some u->h'.get? b=some u):HOk P w H h':=λ a o e=>
 (x a o e).stay (λ b u _ q=>k b u q) (λ _ q=>q) λ _ _ q=>q
def HOk.laid(x:HOk P w H h)(k:∀b u,h.get? b=some u->h'.get? b=some u)(hp:h.objs.size<=a)(new:ObjOk P w (upd H a o) h' a o):HOk P w (upd H a o) h':=λ b u e=>by
 have hn:=x.fresh hp;by_cases hb:b=a
 ·subst hb;rw[cJ] at e;cases e;exact new
 ·rw[aG hb] at e;exact(x b u e).stay (λ c v _ q=>k c v q) (λ c q=>by rw[aG (jP q hn)];exact q) λ c xs q=>by rw[aG (jP q hn)];exact q
end
noncomputable def Rd(H:Hp)(a:Addr)(u:HO):Prop:=H a=some u\/∃o,H a=some (.frz o u)
def Rd.ok(r:Rd H a u)(x:HOk P w H h):ObjOk P w H h a u:=by
 rcases r with r|⟨o,r⟩
 ·exact x a u r
 ·obtain⟨_,q⟩:=x a _ r;exact q
noncomputable def Mut:Option HO->Prop
 |some (.lst _)=>True
 |some (.dK _)=>True
 |some (.dT _)=>True
 |some (.set _ _)=>True
 |some (.ins _ _ _)=>True
 |some (.ext _)=>True
 |_=>False
section
variable {P:Program}{w:World}{H:Hp}{h h':Heap}{x e:Addr}{o':HO}
theorem HOk.write(ok:HOk P w H h)(mu:Mut (H x))(he:e=x\/H e=some (.own x))(k:∀b u,b≠e->h.get? b=some u->h'.get? b=some u)(heo:∃u,h'.get? e=some u)
  (new:ObjOk P w (upd H x o') h' x o'):HOk P w (upd H x o') h':=λ b u q=>by
 have nown:∀c y,H c=some (.own y)->c≠x:=λ c y r z=>by subst z;rw[r] at mu;exact mu
 have ntup:∀c xs,H c=some (.tup xs)->c≠x:=λ c xs r z=>by subst z;rw[r] at mu;exact mu
 by_cases hb:b=x
 ·subst hb;rw[cJ] at q;cases q;exact new
 ·rw[aG hb] at q;by_cases hbe:b=e
  ·have q':H b=some (.own x):=by
    rcases he with z|z
    ·exact absurd (hbe.trans z) hb
    ·rw[hbe];exact z
   rw[q] at q';cases q';obtain⟨v,hv⟩:=heo;exact⟨v,by rw[hbe];exact hv⟩
  ·refine(ok b u q).stay (λ c v hc r=>k c v ?_ r) (λ c r=>by rw[aG (nown c b r)];exact r) λ c xs r=>by rw[aG (ntup c xs r)];exact r
   rcases hc with rfl|hc
   ·exact hbe
   ·rintro rfl
    rcases he with z|z
    ·exact nown c b hc z
    ·rw[hc] at z;cases z;exact hb rfl
end
structure Un (fs ex:List Addr)(H H':Hp)(h h':Heap):Prop where
 keep:∀b o,h.get? b=some o->H b=none->b ∉ fs->b ∉ ex->h'.get? b=some o
 slot:∀b o,h.get? b=some o->H b=none->b∈fs->b ∉ ex->∃sl,h'.get? b=some { o with slots:=sl }
 free:∀b o,h.get? b=some o->H b=none->b ∉ ex->H' b=none
 there:∀b o,h.get? b=some o->b ∉ ex->∃o',h'.get? b=some o'
 tups:∀b xs,H b=some (.tup xs)->H' b=some (.tup xs)
 frzs:∀b o u,H b=some (.frz o u)->H' b=some (.frz o u)
 tbls:∀b ps,H b=some (.tbl ps)->∃more,H' b=some (.tbl (ps++more))
section
variable {fs fs' ex ex':List Addr}{H H1 H2:Hp}{h h1 h2 h':Heap}{a x e:Addr}{o:HO}
def Un.any(u:Un fs ex H H1 h h1){b:Addr}(q:h.get? b=some ob)(n:H b=none)(hx:b ∉ ex):∃sl,h1.get? b=some { ob with slots:=sl }:=by
 by_cases hb:b∈fs
 ·exact u.slot b ob q n hb hx
 ·exact⟨ob.slots,u.keep b ob q n hb hx⟩
def Un.kept(k:∀b u,h.get? b=some u->h'.get? b=some u):Un fs ex H H h h' :=
 ⟨λ b ob q _ _ _=>k b ob q,λ b ob q _ _ _=>⟨ob.slots,k b ob q⟩,λ _ _ _ n _=>n,λ b ob q _=>⟨ob,k b ob q⟩,λ _ _ q=>q,λ _ _ _ q=>q,λ _ ps q=>⟨#[],by rw[q];simp⟩⟩
def Un.refl:Un fs ex H H h h:=Un.kept λ _ _ q=>q
theorem Un.laid(k:∀b u,h.get? b=some u->h'.get? b=some u)(hp:h.objs.size<=a)(hn:H a=none):Un fs ex H (upd H a o) h h' where
 keep:=λ b u q _ _ _=>k b u q
 slot:=λ b u q _ _ _=>⟨u.slots,k b u q⟩
 free:=λ b u q n _=>by rw[aG (bn (bM (aJ q) hp))];exact n
 there:=λ b u q _=>⟨u,k b u q⟩
 tups:=λ b xs q=>by rw[aG (jP q hn)];exact q
 frzs:=λ b u xs q=>by rw[aG (jP q hn)];exact q
 tbls:=λ b ps q=>⟨#[],by rw[aG (jP q hn),q];simp⟩
def Un.write(mu:Mut (H x))(he:e=x\/H e=some (.own x))(k:∀b u,b≠e->h.get? b=some u->h'.get? b=some u)(heo:∃u,h'.get? e=some u):Un fs ex H (upd H x o) h h':=by
 have hx:∀b,H b=none->b≠x:=λ b n z=>by subst z;rw[n] at mu;exact mu
 have hb:∀b,H b=none->b≠e:=λ b n z=>by
  subst z
  rcases he with r|r
  ·exact hx b n r
  ·rw[n] at r;cases r
 have hm:∀b u,H b=some u->¬Mut (some u)->b≠x:=λ b u q nm z=>by subst z;rw[q] at mu;exact nm mu
 refine⟨λ b u q n _ _=>k b u (hb b n) q,λ b u q n _ _=>⟨u.slots,k b u (hb b n) q⟩,λ b u q n _=>by rw[aG (hx b n)];exact n,λ b u q _=>?_,
  λ b xs q=>by rw[aG (hm b _ q λ z=>z)];exact q,λ b u xs q=>by rw[aG (hm b _ q λ z=>z)];exact q,λ b ps q=>⟨#[],by rw[aG (hm b _ q λ z=>z),q];simp⟩⟩
 by_cases hbe:b=e
 ·subst hbe;exact heo
 ·exact⟨u,k b u hbe q⟩
end
noncomputable def trk(h:Heap)(H:Hp):List Addr:=(List.range h.objs.size).filter λ a=>(H a).isSome
def fZ(h:Heap)(H:Hp):Heap:=W.hideAll h (trk h H)
def CW(h:Heap)(H:Hp):(fZ h H).objs.size=h.objs.size:=W.hideAll_size _ _
def CY{h:Heap}{H:Hp}{b:Addr}(e:h.get? b=some o)(n:H b=none):(fZ h H).get? b=some o :=
 W.hideAll_get _ e λ hm=>by
  have q:(H b).isSome=true:=(iX.mp hm).2;rw[n] at q;simp at q
def vh{b:Addr}(e:(fZ h H).get? b=some o):h.get? b=some o/\H b=none:=by
 have e':h.get? b=some o:=W.of_hideAll (trk h H) e;refine⟨e',?_⟩
 cases q:H b with
 |none=>rfl
 |some x=>
  have hm:b∈trk h H:=iX.mpr ⟨fq.mpr (aJ e'),by simp[q]⟩;have z:(fZ h H).get? b=none:=W.hideAll_none (trk h H) hm;rw[z] at e;cases e
noncomputable def CZ(g h:Heap)(L:Addr):LO:=(List.range h.objs.size).filterMap λ a=>if a=L\/(g.get? a).isSome=true then none else (h.get? a).map λ o=>(a,o)
noncomputable def rest(g h:Heap)(L d:Addr):LO:=(CZ g h L).filter λ p=>decide (p.1≠d)
structure Mod (K:FG)(mg:SV)(base:Heap):Prop where
 kin:K.In base
 glob:base.Ns mainGlobals mg
 blt:∃mb,base.Ns builtinsNs mb/\∀x:Str,x ≠ "__name__" -> mb x=bootBuiltins x
 nolimit:base.NoLimit
structure Cx where
 prog:Program
 w:World
 K:FG
 mg:SV
 base:Heap
 A:Around
 N:List Str
 s₀:Shared
 H₀:Hp
 env:Env
 outer:List Env
 stack:List Env
 ex:List Addr
 fn:Str->Bool
 calm:Bool
 pn:LO
 xe:VS
def frs(l:List Env):List Addr:=l.filterMap (·.frame)
abbrev Cx.fs(X:Cx):List Addr:=frs X.outer
noncomputable def Vis(sc:Scope)(x:Str):Prop:=sc.names.lookup x=some .local\/sc.names.lookup x=some .cell\/sc.names.lookup x=some .free
noncomputable def Loc(sc:Scope)(x:Str):Prop:=sc.names.lookup x=some .local\/sc.names.lookup x=some .cell
noncomputable def Da(env:Env)(h:Heap)(m:SV)(x:Str)(u:Value):Prop :=
 (env.kindOf x=some .local/\m x=some u)\/((env.kindOf x=some .cell\/env.kindOf x=some .free)/\∃c,env.cells.lookup x=some c/\h.IsCell c (some u))
structure Cx.Ok (X:Cx):Prop where
 mod:Mod X.K X.mg X.base
 kind:X.env.scope.kind=.function
 glob:X.env.globals=mainGlobals
 blt:X.env.builtins=builtinsNs
 above:X.s₀.heap.objs.size<=X.env.locals
 inj:∀x y c,X.env.cells.lookup x=some c->X.env.cells.lookup y=some c->x=y
 has:∀x,(X.env.kindOf x=some .cell\/X.env.kindOf x=some .free)->∃c,X.env.cells.lookup x=some c
 cab:∀x c,X.fn x=true->X.env.cells.lookup x=some c->X.s₀.heap.objs.size<=c
 hd:X.calm=true->X.A.handled=none
 frames:X.A.frames=some X.stack
 stk:X.stack=X.outer\/(X.stack=X.env::X.outer/\X.env.frame=some X.env.locals)
 exf:∀b∈X.ex,b≠X.env.locals/\∀x c,X.env.cells.lookup x=some c->c≠b
 bs:∀b o,X.base.get? b=some o->X.s₀.heap.get? b=some o/\X.H₀ b=none
 bsz:X.base.objs.size<=X.s₀.heap.objs.size
 noex:∀b o,X.base.get? b=some o->b ∉ X.ex
 exfs:∀b∈X.ex,b ∉ X.fs
 funs:X.s₀.heap.FunFrames X.base X.outer
 frf:∀b∈X.fs,X.H₀ b=none
structure Inv (X:Cx)(pins:LO)(σ:List (Option V))(H:Hp)(s:Shared):Prop where
 ok:X.Ok
 os:s.os=X.s₀.os
 bare:AllBare s.gens
 base:Un X.fs X.ex X.H₀ H X.s₀.heap s.heap
 loc:∃m,s.heap.Ns X.env.locals m/\∀(i:Nat) (x:Str) (v:V),X.N[i]?=some x->σ[i]?=some (some v)->Vis X.env.scope x->∃u,RelV v u/\Da X.env s.heap m x u
 cell:∀x c,X.env.cells.lookup x=some c->∃v,s.heap.IsCell c v
 free:H X.env.locals=none
 freeC:∀x c,X.env.cells.lookup x=some c->H c=none
 pin:∀p∈X.pn++pins,s.heap.get? p.1=some p.2/\H p.1=none/\p.1≠X.env.locals/\p.1 ∉ X.fs/\∀v,p.2.data≠.cell v
 hok:HOk X.prog X.w H s.heap
 len:σ.length=X.N.length
variable {X:Cx}
section
variable {pins:LO}{σ:List (Option V)}{H H':Hp}{s:Shared}{h':Heap}
def Cx.Ok.nofr(ok:X.Ok){b:Addr}(e:X.base.get? b=some o):b ∉ X.fs:=λ hb=>by
 have:=(ok.funs.mem hb).1;rw[e] at this;cases this
def Inv.bs(I:Inv X pins σ H s):∀b o,X.base.get? b=some o->s.heap.get? b=some o/\H b=none:=λ b o e=>
 ⟨I.base.keep b o (I.ok.bs b o e).1 (I.ok.bs b o e).2 (I.ok.nofr e) (I.ok.noex b o e),I.base.free b o (I.ok.bs b o e).1 (I.ok.bs b o e).2 (I.ok.noex b o e)⟩
def Inv.bk(I:Inv X pins σ H s):∀b o,X.base.get? b=some o->s.heap.get? b=some o:=λ b o e=>(I.bs b o e).1
def Inv.mod(I:Inv X pins σ H s):Mod X.K X.mg X.base:=I.ok.mod
def Inv.kIn(I:Inv X pins σ H s):X.K.In s.heap:=I.ok.mod.kin.keeps I.bk
def Inv.lt(I:Inv X pins σ H s):X.env.locals<s.heap.objs.size:=let ⟨_,hn,_⟩:=I.loc;hn.lt
def Inv.sz(I:Inv X pins σ H s):X.s₀.heap.objs.size<=s.heap.objs.size:=dg I.ok.above (dN I.lt)
def Inv.nofs(I:Inv X pins σ H s){a:Addr}(h:s.heap.objs.size<=a):a ∉ X.fs:=λ hb=>by
 obtain⟨_,o,ho,_⟩:=I.ok.funs.mem hb;exact absurd (bM (aJ ho) (dg I.sz h)) (dM _)
def Inv.cne(I:Inv X pins σ H s):∀x c,X.env.cells.lookup x=some c->c≠X.env.locals:=λ x c e z=>by
 obtain⟨v,o,ho,hd⟩:=I.cell x c e;obtain⟨m,⟨o',es,ep,ho',hd',_⟩,_⟩:=I.loc;rw[z,ho'] at ho;cases ho;rw[hd'] at hd;cases hd
def Inv.funs(I:Inv X pins σ H s):s.heap.FunFrames X.base X.outer:=by
 have all:∀(l:List Env),(∀b∈frs l,b∈X.fs)->X.s₀.heap.FunFrames X.base l->s.heap.FunFrames X.base l:=by
  intro l
  induction l with
  |nil=>intro _ _;trivial
  |cons env r ih=>
   intro hs hl;obtain⟨hk,⟨L,o,hf,hn,ho,hd⟩,hr⟩:=hl;have hL:L∈X.fs:=hs L (by unfold frs;rw[rD,hf];exact bo);obtain⟨sl,e⟩:=I.base.slot L o ho (I.ok.frf L hL) hL λ z=>I.ok.exfs L z hL;exact⟨hk,⟨L,_,hf,hn,e,hd⟩,ih (λ b hb=>hs b (by unfold frs;rw[rD,hf];exact aE _ hb)) hr⟩
 exact all X.outer (λ _ hb=>hb) I.ok.funs
def Inv.stack(I:Inv X pins σ H s):s.heap.FunFrames X.base X.stack:=by
 rcases I.ok.stk with e|⟨e,hf⟩
 ·rw[e];exact I.funs
 ·rw[e];obtain⟨m,hn,_⟩:=I.loc;refine .cons (by rw[I.ok.kind];decide) hf hn ?_ I.funs;exact Heap.get?_none_of_le (dg I.ok.bsz I.ok.above)
def Inv.stkSub(I:Inv X pins σ H s):∀b∈frs X.stack,b∈X.env.locals::X.fs:=λ b hb=>by
 rcases I.ok.stk with e|⟨e,hf⟩
 ·rw[e] at hb;exact aE _ hb
 ·rw[e] at hb;unfold frs at hb;rw[rD,hf] at hb;exact hb
def Inv.stkFree(I:Inv X pins σ H s):∀b∈frs X.stack,H b=none:=λ b hb=>by
 rcases aL.mp (I.stkSub b hb) with e|hb
 ·rw[e];exact I.free
 ·obtain⟨_,o,ho,_⟩:=I.ok.funs.mem hb;exact I.base.free b o ho (I.ok.frf b hb) λ z=>I.ok.exfs b z hb
theorem Inv.step{t':Nat}{d':Drawn}{ch:List Addr}(I:Inv X pins σ H s)
  (hch:∀b∈ch,(b∈X.ex\/X.s₀.heap.objs.size<=b)/\b≠X.env.locals/\(∀x c,X.env.cells.lookup x=some c->c≠b)/\∀p∈X.pn++pins,p.1≠b)
  (keep:∀b o,b≠X.env.locals->b ∉ X.fs->b ∉ ch->s.heap.get? b=some o->H b=none->h'.get? b=some o)
  (slot:∀b o,b≠X.env.locals->b∈X.fs->b ∉ ch->s.heap.get? b=some o->H b=none->∃sl,h'.get? b=some { o with slots:=sl }) (free:∀b o,b ∉ ch->s.heap.get? b=some o->H b=none->H' b=none)
  (there:∀b o,b ∉ ch->s.heap.get? b=some o->∃o',h'.get? b=some o')
  (tups:∀b xs,H b=some (.tup xs)->H' b=some (.tup xs)) (frzs:∀b o u,H b=some (.frz o u)->H' b=some (.frz o u)) (tbls:∀b ps,H b=some (.tbl ps)->∃more,H' b=some (.tbl (ps++more)))
  (ns:∀m,s.heap.Ns X.env.locals m->h'.Ns X.env.locals m) (hok:HOk X.prog X.w H' h') (hg:AllBare g') :
  Inv X pins σ H' { s with heap:=h',gens:=g',drawn:=d',toks:=t' }:=by
 have neL:∀b o,X.s₀.heap.get? b=some o->b≠X.env.locals:=λ b o e=>bn (bM (aJ e) I.ok.above)
 have neC:∀b o,X.s₀.heap.get? b=some o->b ∉ X.ex->b ∉ ch:=λ b o e hx hb=>by
  rcases(hch b hb).1 with z|z
  ·exact hx z
  ·exact absurd (bM (aJ e) z) (dM _)
 have cellK:∀x c,X.env.cells.lookup x=some c->∀v,s.heap.IsCell c v->h'.IsCell c v:=λ x c e v ⟨o,ho,hd⟩=>by
  have nch:c ∉ ch:=λ z=>(hch c z).2.2.1 x c e rfl;by_cases hc:c∈X.fs
  ·obtain⟨sl,q⟩:=slot c o (I.cne x c e) hc nch ho (I.freeC x c e);exact⟨_,q,hd⟩
  ·exact⟨o,keep c o (I.cne x c e) hc nch ho (I.freeC x c e),hd⟩
 refine⟨I.ok,I.os,hg,⟨λ b o e n hb hx=>?_,λ b o e n hb hx=>?_,λ b o e n hx=>?_,λ b o e hx=>?_,λ b xs e=>tups b xs (I.base.tups b xs e),λ b o xs e=>frzs b o xs (I.base.frzs b o xs e),λ b ps e=>?_⟩,?_,λ x c e=>?_,?_,λ x c e=>?_,λ p hp=>?_,hok,I.len⟩
 ·exact keep b o (neL b o e) hb (neC b o e hx) (I.base.keep b o e n hb hx) (I.base.free b o e n hx)
 ·obtain⟨sl,e1⟩:=I.base.slot b o e n hb hx;obtain⟨sl',e2⟩:=slot b _ (neL b o e) hb (neC b o e hx) e1 (I.base.free b o e n hx);exact⟨sl',e2⟩
 ·obtain⟨o',e1⟩:=I.base.there b o e hx;exact free b o' (neC b o e hx) e1 (I.base.free b o e n hx)
 ·obtain⟨o',e1⟩:=I.base.there b o e hx;exact there b o' (neC b o e hx) e1
 ·obtain⟨m1,e1⟩:=I.base.tbls b ps e;obtain⟨m2,e2⟩:=tbls b _ e1;exact⟨m1++m2,by rw[e2,Array.append_assoc]⟩
 ·obtain⟨m,hn,hl⟩:=I.loc;refine⟨m,ns m hn,λ i x v e1 e2 e3=>?_⟩;obtain⟨u,r,l⟩:=hl i x v e1 e2 e3;refine⟨u,r,?_⟩
  rcases l with l|⟨k,c,e,z⟩
  ·exact .inl l
  ·exact .inr ⟨k,c,e,cellK x c e _ z⟩
 ·obtain⟨v,z⟩:=I.cell x c e;exact⟨v,cellK x c e v z⟩
 ·obtain⟨m,⟨o,_,_,ho,_⟩,_⟩:=I.loc;exact free _ o (λ z=>(hch _ z).2.1 rfl) ho I.free
 ·obtain⟨v,o,ho,hd⟩:=I.cell x c e;exact free c o (λ z=>(hch c z).2.2.1 x c e rfl) ho (I.freeC x c e)
 ·obtain⟨e,n,ne,nf,d⟩:=I.pin p hp;have nch:p.1 ∉ ch:=λ z=>(hch p.1 z).2.2.2 p hp rfl;exact⟨keep p.1 p.2 ne nf nch e n,free p.1 p.2 nch e n,ne,nf,d⟩
def Inv.un{t':Nat}(I:Inv X pins σ H s)(u:Un X.fs [] H H' s.heap h')(hok:HOk X.prog X.w H' h'):Inv X pins σ H' { s with heap:=h',toks:=t' }:=by
 obtain⟨m,⟨o,es,ep,ho,r⟩,_⟩:=id I.loc;obtain⟨sl,hL⟩:=u.any ho I.free on
 exact I.step (g':=s.gens) (d':=s.drawn) (ch:=[]) (λ _ z=>nomatch z) (λ b o _ hb _ e n=>u.keep b o e n hb on) (λ b o _ hb _ e n=>u.slot b o e n hb on) (λ b o _ e n=>u.free b o e n on) (λ b o _ e=>u.there b o e on) u.tups u.frzs u.tbls (λ m' hm=>by
  obtain⟨o',es',ep',ho',r'⟩:=hm;rw[ho] at ho';cases ho'
  exact⟨_,es',ep',hL,r'⟩) hok I.bare
theorem Inv.call{t':Nat}{d':Drawn}(I:Inv X pins σ H s)(u:Un (frs X.stack) ch H H' s.heap h')(hok:HOk X.prog X.w H' h')(hg:AllBare g')
  (hch:∀b∈ch,(b∈X.ex\/X.s₀.heap.objs.size<=b)/\b≠X.env.locals/\(∀x c,X.env.cells.lookup x=some c->c≠b)/\∀p∈X.pn++pins,p.1≠b) :
  Inv X pins σ H' { s with heap:=h',gens:=g',drawn:=d',toks:=t' }:=by
 obtain⟨m,⟨o,es,ep,ho,r⟩,_⟩:=id I.loc;obtain⟨sl,hL⟩:=u.any ho I.free λ z=>(hch _ z).2.1 rfl
 exact I.step (ch:=ch) hch (λ b o hL hb hc e n=>u.keep b o e n (λ z=>(aL.mp (I.stkSub b z)).elim hL hb) hc) (λ b o _ _ hc e n=>u.any e n hc) (λ b o hc e n=>u.free b o e n hc) (λ b o hc e=>u.there b o e hc) u.tups u.frzs u.tbls (λ m' hm=>by
  obtain⟨o',es',ep',ho',r'⟩:=hm;rw[ho] at ho';cases ho'
  exact⟨_,es',ep',hL,r'⟩) hok hg
theorem Inv.turned{t':Nat}{it:Addr}(I:Inv X pins σ H s)(k:∀b o,b≠it->s.heap.get? b=some o->h'.get? b=some o)(hn:H it=none)(hL:it≠X.env.locals)
  (h1:it∈X.ex\/X.s₀.heap.objs.size<=it) (h2:∀x c,X.env.cells.lookup x=some c->c≠it) (h3:∀p∈X.pn++pins,p.1≠it):Inv X pins σ H { s with heap:=h',toks:=t' }:=by
 have nit:∀b u,H b=some u->b≠it:=λ b u e z=>by rw[z,hn] at e;cases e
 refine I.step (g':=s.gens) (d':=s.drawn) (ch:=[it]) (λ b hb=>?_) (λ b o _ _ hc e _=>k b o (λ z=>hc (by simp[z])) e) (λ b o _ _ hc e _=>⟨o.slots,k b o (λ z=>hc (by simp[z])) e⟩) (λ _ _ _ _ n=>n)
  (λ b o hc e=>⟨o,k b o (λ z=>hc (by simp[z])) e⟩) (λ _ _ e=>e) (λ _ _ _ e=>e) (λ b ps e=>⟨#[],by rw[e];simp⟩) (λ m hm=>?_) (λ b u e=>?_) I.bare
 ·have e:b=it:=by simpa using hb
  subst e;exact⟨h1,hL,h2,h3⟩
 ·obtain⟨o,es,ep,ho,r⟩:=hm;exact⟨o,es,ep,k _ o (cK hL) ho,r⟩
 ·refine(I.hok b u e).stay (λ c v hc q=>k c v ?_ q) (λ _ q=>q) λ _ _ q=>q
  rcases hc with z|z
  ·rw[z];exact nit b u e
  ·exact nit c _ z
def Inv.tok(I:Inv X pins σ H s)(t:Nat):Inv X pins σ H { s with toks:=t }:=I.un (h':=s.heap) (t':=t) Un.refl I.hok
def Inv.kept{t':Nat}(I:Inv X pins σ H s)(k:∀b u,s.heap.get? b=some u->h'.get? b=some u):Inv X pins σ H { s with heap:=h',toks:=t' }:=I.un (Un.kept k) (I.hok.kept k)
theorem Inv.laid{a:Addr}{t':Nat}(I:Inv X pins σ H s)(k:∀b u,s.heap.get? b=some u->h'.get? b=some u)(hp:s.heap.objs.size<=a)(new:ObjOk X.prog X.w (upd H a o) h' a o) :
  Inv X pins σ (upd H a o) { s with heap:=h',toks:=t' }:=I.un (Un.laid k hp (I.hok.fresh hp)) (I.hok.laid k hp new)
theorem Inv.write{x e:Addr}{t':Nat}(I:Inv X pins σ H s)(mu:Mut (H x))(he:e=x\/H e=some (.own x))(k:∀b u,b≠e->s.heap.get? b=some u->h'.get? b=some u)(heo:∃u,h'.get? e=some u)
  (new:ObjOk X.prog X.w (upd H x o) h' x o):Inv X pins σ (upd H x o) { s with heap:=h',toks:=t' }:=I.un (Un.write mu he k heo) (I.hok.write mu he k heo new)
def Inv.pins_of{pins':LO}(I:Inv X pins σ H s)(h:∀p∈pins',s.heap.get? p.1=some p.2/\H p.1=none/\p.1≠X.env.locals/\p.1 ∉ X.fs/\∀v,p.2.data≠.cell v):Inv X pins' σ H s :=
 ⟨I.ok,I.os,I.bare,I.base,I.loc,I.cell,I.free,I.freeC,λ p hp=>(cg.mp hp).elim (λ z=>I.pin p (kX _ z)) (h p),I.hok,I.len⟩
def vi{N:List Str}(hN:N.Nodup){i j:Nat}(a:N[i]?=some x)(b:N[j]?=some x):i=j:=by
 obtain⟨h1,e1⟩:=bf.mp a;obtain⟨h2,e2⟩:=bf.mp b;exact(List.getElem_inj hN).mp (e1.trans e2.symm)
theorem rF{i:Nat}{Q:Unit->Shared->Prop}(I:Inv X pins σ H s)(hN:X.N.Nodup)(hi:X.N[i]?=some x)(hx:Loc X.env.scope x)(r:RelV v u)
  (h:∀s',Inv X pins (σ.set i (some v)) H s'->(∃a,Heap.SameBut a s.heap s'.heap/\(a=X.env.locals\/X.env.cells.lookup x=some a))->Q () s') (hf:X.fn x=true\/X.env.scope.names.lookup x=some .local:=by first|exact .inl rfl|exact .inr rfl|assumption):wpAny M A (storeName X.env x u) Q E s:=by
 obtain⟨m,hn,hl⟩:=id I.loc;have hcls:(X.env.scope.kind == .class || (X.env.scope.kind == .module&&X.env.locals != X.env.globals))=false:=by rw[I.ok.kind];rfl
 have hiσ:i<σ.length:=by rw[I.len];exact(bf.mp hi).1
 have cne:=I.cne
 have tracked:∀ {a:Addr}{h':Heap},(∃o,s.heap.get? a=some o/\H a=none)->Heap.SameBut a s.heap h'->HOk X.prog X.w H h':=λ {a h'} ha hs b ob e=>by
  obtain⟨_,_,hfree⟩:=ha;refine(I.hok b ob e).stay (λ c w' hc q=>(hs.2 c ?_).trans q) (λ _ q=>q) λ _ _ q=>q;rintro rfl
  rcases hc with rfl|hc
  ·rw[hfree] at e;cases e
  ·rw[hfree] at hc;cases hc
 rcases hx with hk|hk
 ·refine vj hk hn (λ h' hn' hs=>?_) hcls;obtain⟨oL,_,_,hoL,_⟩:=id hn;refine h _ ⟨I.ok,I.os,I.bare,⟨λ b o e n hb hx=>?_,λ b o e n hb hx=>?_,I.base.free,λ b o e hx=>?_,I.base.tups,I.base.frzs,I.base.tbls⟩,⟨_,hn',λ j y v' e1 e2 e3=>?_⟩,λ y c e=>?_,I.free,I.freeC,λ p hp=>?_,tracked ⟨oL,hoL,I.free⟩ hs,by simpa using I.len⟩ ⟨_,hs,.inl rfl⟩
  ·exact(hs.2 b (bn (bM (aJ e) I.ok.above))).trans (I.base.keep b o e n hb hx)
  ·obtain⟨sl,e1⟩:=I.base.slot b o e n hb hx;exact⟨sl,(hs.2 b (bn (bM (aJ e) I.ok.above))).trans e1⟩
  ·obtain⟨o',e1⟩:=I.base.there b o e hx;exact⟨o',(hs.2 b (bn (bM (aJ e) I.ok.above))).trans e1⟩
  ·by_cases hj:j=i
   ·subst hj;rw[hi] at e1;cases e1;rw[hE hiσ] at e2;cases e2;exact⟨u,r,.inl ⟨hk,on⟩⟩
   ·rw[iY (cK hj)] at e2;obtain⟨u',r',q⟩:=hl j y v' e1 e2 e3;refine⟨u',r',?_⟩
    rcases q with ⟨k,e⟩|⟨k,c,e,z⟩
    ·refine .inl ⟨k,?_⟩;have:y≠x:=λ e=>hj (vi hN e1 (e ▸ hi));simp[this,e]
    ·exact .inr ⟨k,c,e,z.sameBut hs (cne y c e)⟩
  ·obtain⟨w',z⟩:=I.cell y c e;exact⟨w',z.sameBut hs (cne y c e)⟩
  ·obtain⟨e,n,ne,nf,d⟩:=I.pin p hp;exact⟨(hs.2 p.1 ne).trans e,n,ne,nf,d⟩
 ·have hfn:X.fn x=true:=by
   rcases hf with z|z
   ·exact z
   ·rw[z] at hk;cases hk
  obtain⟨c,hc⟩:=I.ok.has x (.inl hk);obtain⟨w',z⟩:=I.cell x c hc;refine s0f I.ok.kind hk hc z (λ h' hc' hs=>?_);obtain⟨oc,hoc,hocd⟩:=id z;refine h { s with heap:=h' } ⟨I.ok,I.os,I.bare,⟨λ b o e n hb hx=>?_,λ b o e n hb hx=>?_,I.base.free,λ b o e hx=>?_,I.base.tups,I.base.frzs,I.base.tbls⟩,⟨m,hn.sameBut hs (cK (cne x c hc)),λ j y v' e1 e2 e3=>?_⟩,λ y c' e=>?_,I.free,I.freeC,λ p hp=>?_,tracked ⟨oc,hoc,I.freeC x c hc⟩ hs,by simpa using I.len⟩ ⟨c,hs,.inr hc⟩
  ·exact(hs.2 b (bn (bM (aJ e) (I.ok.cab x c hfn hc)))).trans (I.base.keep b o e n hb hx)
  ·obtain⟨sl,e1⟩:=I.base.slot b o e n hb hx;exact⟨sl,(hs.2 b (bn (bM (aJ e) (I.ok.cab x c hfn hc)))).trans e1⟩
  ·obtain⟨o',e1⟩:=I.base.there b o e hx;exact⟨o',(hs.2 b (bn (bM (aJ e) (I.ok.cab x c hfn hc)))).trans e1⟩
  ·by_cases hj:j=i
   ·subst hj;rw[hi] at e1;cases e1;rw[hE hiσ] at e2;cases e2;exact⟨u,r,.inr ⟨.inl hk,c,hc,hc'⟩⟩
   ·rw[iY (cK hj)] at e2;obtain⟨u',r',q⟩:=hl j y v' e1 e2 e3;refine⟨u',r',?_⟩
    rcases q with q|⟨k,c',e,z'⟩
    ·exact .inl q
    ·refine .inr ⟨k,c',e,z'.sameBut hs ?_⟩;rintro rfl;exact hj (vi hN e1 (I.ok.inj _ _ _ e hc ▸ hi))
  ·by_cases hcc:c'=c
   ·subst hcc;exact⟨_,hc'⟩
   ·obtain⟨w2,z2⟩:=I.cell y c' e;exact⟨w2,z2.sameBut hs hcc⟩
  ·obtain⟨e,n,ne,nf,d⟩:=I.pin p hp;refine⟨(hs.2 p.1 ?_).trans e,n,ne,nf,d⟩;intro q;rw[q,hoc] at e;have q':oc=p.2:=bJ e;exact d w' (by rw[<- q'];exact hocd)
theorem rG{i:Nat}{Q:Unit->Shared->Prop}(I:Inv X pins σ H s)(hN:X.N.Nodup)(hi:X.N[i]?=some x)(hx:Loc X.env.scope x)(r:RelV v u)
  (h:∀s',Inv X pins (σ.set i (some v)) H s'->Q () s') (hf:X.fn x=true\/X.env.scope.names.lookup x=some .local:=by first|exact .inl rfl|exact .inr rfl|assumption):wpAny M A (storeName X.env x u) Q E s :=
 rF I hN hi hx r (λ s' I' _=>h s' I') hf
theorem Inv.call'{s':Shared}(I:Inv X pins σ H s)(ho:s'.os=s.os)(u:Un (frs X.stack) ch H H' s.heap s'.heap)(hok:HOk X.prog X.w H' s'.heap)(hg:AllBare s'.gens)
  (hch:∀b∈ch,(b∈X.ex\/X.s₀.heap.objs.size<=b)/\b≠X.env.locals/\(∀x c,X.env.cells.lookup x=some c->c≠b)/\∀p∈X.pn++pins,p.1≠b):Inv X pins σ H' s':=by
 obtain⟨h',g',d',t',o'⟩:=s';have e:o'=s.os:=ho;subst e;exact I.call (g':=g') (t':=t') (d':=d') u hok hg hch
end
abbrev XK:=Value->OA->Hp->Prop
abbrev St:=List (Option V)
abbrev VK:=V->Hp->Prop
abbrev TE:=St->Hp->VK->Prop
abbrev TT:=St->Hp->(Bool->Hp->Prop)->Prop
abbrev TA:=St->Hp->(List V->Hp->Prop)->Prop
structure Ends where
 nx:St->Hp->Prop
 rt:VK
 bk:St->Hp->Prop:=λ _ _=>False
 ct:St->Hp->Prop:=λ _ _=>False
abbrev TS:=Ends->St->Hp->Prop
noncomputable def EP(X:Cx)(pins:LO)(σ:St)(Q:VK)(u:Value)(s':Shared):Prop:=∃v H',Inv X pins σ H' s'/\RelV v u/\Q v H'
noncomputable def TP(X:Cx)(pins:LO)(σ:St)(Q:Bool->Hp->Prop)(b:Bool)(s':Shared):Prop:=∃H',Inv X pins σ H' s'/\Q b H'
noncomputable def AP(X:Cx)(pins:LO)(σ:St)(Q:List V->Hp->Prop)(us:LV)(s':Shared):Prop:=∃vs H',Inv X pins σ H' s'/\Vals vs us/\Q vs H'
noncomputable def SP(X:Cx)(pins:LO)(D:Ends)(f:Flow)(s':Shared):Prop :=
 match f with
 |.next=>∃σ' H',Inv X pins σ' H' s'/\D.nx σ' H'
 |.brk=>∃σ' H',Inv X pins σ' H' s'/\D.bk σ' H'
 |.cont=>∃σ' H',Inv X pins σ' H' s'/\D.ct σ' H'
 |.ret u=>∃v σ' H',Inv X pins σ' H' s'/\RelV v u/\D.rt v H'
noncomputable def PE(X:Cx)(e:Expr)(t:TE):Prop :=
 ∀(pins:LO) (s:Shared) (σ:St) (H:Hp) (Q:VK),Inv X pins σ H s->t σ H Q->wpAny (model X.prog X.w) X.A (eval e X.env) (EP X pins σ Q) X.xe s
noncomputable def PT(X:Cx)(e:Expr)(t:TT):Prop :=
 ∀(pins:LO) (s:Shared) (σ:St) (H:Hp) (Q:Bool->Hp->Prop),Inv X pins σ H s->t σ H Q->wpAny (model X.prog X.w) X.A (isTrue e X.env (eval e X.env)) (TP X pins σ Q) X.xe s
noncomputable def PW(X:Cx)(e:Expr)(t:TT):Prop :=
 ∀(whole:Sem Value) (pins:LO) (s:Shared) (σ:St) (H:Hp) (Q:Bool->Hp->Prop),Inv X pins σ H s->t σ H Q->wpAny (model X.prog X.w) X.A (isTrue e X.env whole) (TP X pins σ Q) X.xe s
def PW.pt(h:PW X e t):PT X e t:=h _
noncomputable def PA(X:Cx)(es:List Expr)(t:TA):Prop :=
 ∀(pos:Pos) (pins:LO) (s:Shared) (σ:St) (H:Hp) (Q:List V->Hp->Prop),Inv X pins σ H s->t σ H Q->wpAny (model X.prog X.w) X.A (spliced (backTo pos (starEach es X.env))) (AP X pins σ Q) X.xe s
noncomputable def PS(X:Cx)(st:Stmt)(t:TS):Prop :=
 ∀(pins:LO) (s:Shared) (σ:St) (H:Hp) (D:Ends),Inv X pins σ H s->t D σ H->wpAny (model X.prog X.w) X.A (exec st X.env) (SP X pins D) X.xe s
noncomputable def PSs(X:Cx)(st:List Stmt)(t:TS):Prop :=
 ∀(pins:LO) (s:Shared) (σ:St) (H:Hp) (D:Ends),Inv X pins σ H s->t D σ H->wpAny (model X.prog X.w) X.A (execs st X.env) (SP X pins D) X.xe s
def thn{α:Type}{t:Sem α}{Q Q':α->Shared->Prop}(h:wpAny M A t Q E s)(hQ:∀a s,Q a s->Q' a s):wpAny M A t Q' E s:=cP h hQ λ _ _ x=>x
section
theorem bin(ha:PE X a ta)(hb:PE X b tb){R:V->V->Hp->Prop}(I:Inv X pins σ H s)(h:ta σ H λ x H1=>tb σ H1 λ y H2=>R x y H2)
  {α:Type}{Q:α->Shared->Prop}{f:Value->Value->Sem α}
  (hf:∀v u s2 x y H2,Inv X pins σ H2 s2->RelV x v->RelV y u->R x y H2->wpAny (model X.prog X.w) X.A (f v u) Q X.xe s2) :
  wpAny (model X.prog X.w) X.A (eval a X.env) (λ v s₁=>wpAny (model X.prog X.w) X.A (eval b X.env) (λ u s₂=>wpAny (model X.prog X.w) X.A (f v u) Q X.xe s₂) X.xe s₁) X.xe s:=by
 refine thn (ha pins s σ H _ I h) λ v s1 ⟨x,H1,I1,r1,q1⟩=>?_;refine thn (hb pins s1 σ H1 _ I1 q1) λ u s2 ⟨y,H2,I2,r2,q2⟩=>?_;exact hf v u s2 x y H2 I2 r1 r2 q2
def isB(x:V)(P:Bool->Prop):Prop:=match x with|.bl k=>P k|_=>False
def isI(x:V)(P:Int->Prop):Prop:=match x with|.int k=>P k|_=>False
noncomputable def rH(x y:V)(P:Int->Int->Prop):Prop:=match x,y with|.int i,.int j=>P i j|_,_=>False
def kY(h:isB x P):∃k,x=.bl k/\P k:=by cases x<;>first|exact⟨_,rfl,h⟩|exact h.elim
def Db(h:isI x P):∃k,x=.int k/\P k:=by cases x<;>first|exact⟨_,rfl,h⟩|exact h.elim
def rJ(h:rH x y P):∃i j,x=.int i/\y=.int j/\P i j:=by cases x<;>cases y<;>first|exact⟨_,_,rfl,rfl,h⟩|exact h.elim
noncomputable def cV(i:Nat):TE:=λ σ H Q=>match σ[i]? with|some (some v)=>Q v H|_=>False
set_option tactic.hygienic true in
def Dc(h:cV i σ H Q):∃v,σ[i]?=some (some v)/\Q v H:=by
 unfold cV at h;split at h
 ·rename_i v e;exact⟨v,e,h⟩
 ·exact h.elim
def tC(v:V):TE:=λ _ H Q=>Q v H
def iZ{i:Nat}(hN:X.N[i]?=some x)(hv:Vis X.env.scope x)(hd:(x == ("__debug__" : Str))=false:=by decide)(hcd:(x == ("__classdict__" : Str))=false:=by decide):PE X (.Name x pos) (cV i):=by
 intro pins s σ H Q I h;obtain⟨v,e,h⟩:=Dc h;obtain⟨m,hn,hl⟩:=I.loc;obtain⟨u,r,l⟩:=hl i x v hN e hv;have fin:EP X pins σ Q u s:=⟨v,H,I,r,h⟩
 rcases l with ⟨hk,hm⟩|⟨hk,c,hc,hcell⟩
 ·exact wpAny_Name (wpAny_loadName_local I.ok.kind hk hn hm fin) hd
 ·rcases hk with hk|hk
  ·exact wpAny_Name (wpAny_loadName_cell I.ok.kind hk hc hcell fin) hd
  ·exact wpAny_Name (wpAny_loadName_free I.ok.kind hk hc hcell fin hcd) hd
def pe_int{i j pos}:PE X (.Constant (.int i) j pos) (tC (.int i)):=λ _ _ _ H _ I h=>wpAny_Constant_int ⟨.int i,H,I.tok _,⟨_,rfl⟩,h⟩
def pe_bl{b j pos}:PE X (.Constant (.bool b) j pos) (tC (.bl b)):=λ _ _ _ H _ I h=>Constant_bool ⟨.bl b,H,I,rfl,h⟩
def pe_non{j pos}:PE X (.Constant .none j pos) (tC .non):=λ _ _ _ H _ I h=>Constant_none ⟨.non,H,I,rfl,h⟩
def pe_str{x j pos}:PE X (.Constant (.str x) j pos) (tC (.str x)):=λ _ _ _ H _ I h=>Calls.Constant_str ⟨.str x,H,I.tok _,⟨_,rfl⟩,h⟩
def Gl(X:Cx)(x:Str):Prop:=X.env.kindOf x=some .globalImplicit
theorem oP{Q:VS}(I:Inv X pins σ H s)(hg:Gl X x)(hm:X.mg x=some u)(h:Q u s)
  (hd:(x == ("__debug__" : Str))=false:=by decide):wpAny (model X.prog X.w) X.A (eval (.Name x pos) X.env) Q E s :=
 vk I.ok.kind hg (Calls.loadGlobal_global (by rw[I.ok.glob];exact I.mod.glob.keeps I.bk) hm h) hd
theorem eN{Q:VS}(I:Inv X pins σ H s)(hg:Gl X x)(hm:X.mg x=none)(hv:bootBuiltins x=some u)(h:Q u s)
  (hn:x ≠ "__name__" := by decide) (hd:(x == ("__debug__" : Str))=false:=by decide):wpAny (model X.prog X.w) X.A (eval (.Name x pos) X.env) Q E s:=by
 obtain⟨mb,h1,h2⟩:=I.mod.blt;exact vk I.ok.kind hg (Calls.loadGlobal_builtin (by rw[I.ok.glob];exact I.mod.glob.keeps I.bk) hm (by rw[I.ok.blt];exact h1.keeps I.bk) ((h2 x hn).trans hv) h) hd
def Dd(hg:Gl X x)(hm:X.mg x=some u)(r:RelV v u)(hd:(x == ("__debug__" : Str))=false:=by decide):PE X (.Name x pos) (tC v) :=
 λ _ _ _ H _ I h=>oP I hg hm ⟨v,H,I,r,h⟩ hd
def De(hg:Gl X x)(hm:X.mg x=none)(hv:bootBuiltins x=some u)(r:RelV v u)(hn:x ≠ "__name__" := by decide)(hd:(x == ("__debug__" : Str))=false:=by decide):PE X (.Name x pos) (tC v) :=
 λ _ _ _ H _ I h=>eN I hg hm hv ⟨v,H,I,r,h⟩ hn hd
variable {a b:Expr}{ta tb:TE}{pos:Pos}
def tB(t:TE):TT:=λ σ H Q=>t σ H λ x H1=>isB x λ c=>Q c H1
def Df(h:PE X e t)(he:∀whole,isTrue e X.env whole=(do let v <- whole;standAt e.pos;holding [v] (truthy v)):=by intro _;rfl):PT X e (tB t):=by
 intro pins s σ H Q I hw;refine isTrue_plain (thn (h pins s σ H _ I hw) λ v s1 ⟨x,H1,I1,r1,q1⟩=>?_) (he _);obtain⟨d,rfl,q⟩:=kY q1;cases r1;exact gM ⟨H1,I1,q⟩
variable {tA tB':TT}{rest:List Expr}
noncomputable def Dg(t u:TT):TT:=λ σ H Q=>t σ H λ c H1=>if c=true then u σ H1 Q else Q false H1
noncomputable def tOr(t u:TT):TT:=λ σ H Q=>t σ H λ c H1=>if c=true then Q true H1 else u σ H1 Q
def Dh(t:TT):TT:=λ σ H Q=>t σ H λ c H1=>Q (!c) H1
def Di(ha:PT X a tA):PW X (.BoolOp .And [a] pos) tA:=by
 intro wh pins s σ H Q I h;refine isTrue_and (thn (ha pins s σ H Q I h) λ c s1 e=>?_)
 cases c with
 |true=>exact isTrue_and_nil e
 |false=>exact e
def Dj(ha:PT X a tA):PW X (.BoolOp .Or [a] pos) tA:=by
 intro wh pins s σ H Q I h;refine isTrue_or (thn (ha pins s σ H Q I h) λ c s1 e=>?_)
 cases c with
 |false=>exact isTrue_or_nil e
 |true=>exact e
def Dk(ha:PT X a tA)(hb:PW X (.BoolOp .And (b::rest) pos) tB'):PW X (.BoolOp .And (a::b::rest) pos) (Dg tA tB'):=by
 intro wh pins s σ H Q I h;refine isTrue_and (thn (ha pins s σ H _ I h) λ c s1 ⟨H1,I1,q1⟩=>?_)
 cases c with
 |true=>exact hb wh pins s1 σ H1 Q I1 q1
 |false=>exact⟨H1,I1,q1⟩
def Dl(ha:PT X a tA)(hb:PW X (.BoolOp .Or (b::rest) pos) tB'):PW X (.BoolOp .Or (a::b::rest) pos) (tOr tA tB'):=by
 intro wh pins s σ H Q I h;refine isTrue_or (thn (ha pins s σ H _ I h) λ c s1 ⟨H1,I1,q1⟩=>?_)
 cases c with
 |true=>exact⟨H1,I1,q1⟩
 |false=>exact hb wh pins s1 σ H1 Q I1 q1
def Dm(ha:PT X a tA):PT X (.UnaryOp .Not a pos) (Dh tA):=by
 intro pins s σ H Q I h;exact isTrue_not (ha pins s σ H (λ c H1=>Q (!c) H1) I h)
noncomputable def Dn(ta tb:TE):TE:=λ σ H Q=>ta σ H λ x H1=>isB x λ c=>if c=true then tb σ H1 Q else Q (.bl false) H1
noncomputable def Do(ta tb:TE):TE:=λ σ H Q=>ta σ H λ x H1=>isB x λ c=>if c=true then Q (.bl true) H1 else tb σ H1 Q
noncomputable def Dp(ta:TE):TE:=λ σ H Q=>ta σ H λ x H1=>∃c,x=.bl c/\Q (.bl (!c)) H1
def vm{op}(h:PE X a t):PE X (.BoolOp op [a] pos) t:=λ pins s σ H Q I hw=>BoolOp_one (h pins s σ H Q I hw)
def Dq(ha:PE X a ta)(hb:PE X (.BoolOp .And (b::rest) pos) tb):PE X (.BoolOp .And (a::b::rest) pos) (Dn ta tb):=by
 intro pins s σ H Q I h;refine BoolOp_and (thn (ha pins s σ H _ I h) λ v s1 ⟨x,H1,I1,r1,q1⟩=>?_);obtain⟨c,rfl,q1⟩:=kY q1;cases r1;refine gM ?_
 cases c with
 |true=>exact hb pins s1 σ H1 Q I1 q1
 |false=>exact⟨.bl false,H1,I1,rfl,q1⟩
def Dr(ha:PE X a ta)(hb:PE X (.BoolOp .Or (b::rest) pos) tb):PE X (.BoolOp .Or (a::b::rest) pos) (Do ta tb):=by
 intro pins s σ H Q I h;refine BoolOp_or (thn (ha pins s σ H _ I h) λ v s1 ⟨x,H1,I1,r1,q1⟩=>?_);obtain⟨c,rfl,q1⟩:=kY q1;cases r1;refine gM ?_
 cases c with
 |false=>exact hb pins s1 σ H1 Q I1 q1
 |true=>exact⟨.bl true,H1,I1,rfl,q1⟩
def Ds(ha:PE X a ta):PE X (.UnaryOp .Not a pos) (Dp ta):=by
 intro pins s σ H Q I h;refine UnaryOp_ (thn (ha pins s σ H _ I h) λ v s1 ⟨x,H1,I1,r1,q1⟩=>?_);obtain⟨c,rfl,q1⟩:=q1;cases r1;exact not_of (gM ⟨.bl (!c),H1,I1,O,q1⟩)
noncomputable def tIf(t:TT)(ta tb:TE):TE:=λ σ H Q=>t σ H λ c H1=>if c=true then ta σ H1 Q else tb σ H1 Q
def vn(hc:PT X c tA)(ha:PE X a ta)(hb:PE X b tb):PE X (.IfExp c a b pos) (tIf tA ta tb):=by
 intro pins s σ H Q I h;refine wpAny_IfExp (thn (hc pins s σ H _ I h) λ d s1 ⟨H1,I1,q1⟩=>?_)
 cases d with
 |true=>exact ha pins s1 σ H1 Q I1 q1
 |false=>exact hb pins s1 σ H1 Q I1 q1
end
noncomputable def SqL(K:FG)(H:Hp)(a:Addr)(xs:List V):Prop :=
 Rd H a (.lst xs) \/
  ∃(o:Obj) (its:Array Value) (n:Nat),K.lookup a=some o/\o.cls=.type "list" /\ o.dict=none/\o.data=.seq its n/\its.size<=sizeLine/\Vals xs its.toList
noncomputable def SqT(K:FG)(H:Hp)(a:Addr)(xs:List V):Prop :=
 Rd H a (.tup xs) \/
  ∃(o:Obj) (its:Array Value) (n:Nat),K.lookup a=some o/\o.cls=.type "tuple" /\ o.dict=none/\o.data=.seq its n/\its.size<=sizeLine/\Vals xs its.toList
noncomputable def Dt:Value->Option V
 |.none=>some .non
 |.bool b=>some (.bl b)
 |.int i _=>some (.int i)
 |.str x _=>some (.str x)
 |.bytes b _=>some (.byt b)
 |.float b _=>some (.flt b)
 |.ref a=>some (.ref a)
 |.type n=>some (.ty n)
 |_=>none
def RelV.abs(r:RelV x u):Dt u=some x:=by
 cases x with
 |non=>cases r;rfl
 |bl _=>cases r;rfl
 |int _=>obtain⟨t,rfl⟩:=r;rfl
 |str _=>obtain⟨t,rfl⟩:=r;rfl
 |byt _=>obtain⟨t,rfl⟩:=r;rfl
 |flt _=>obtain⟨t,rfl⟩:=r;rfl
 |ref _=>cases r;rfl
 |ty _=>cases r;rfl
def RelV.inj(r:RelV x u)(q:RelV y u):x=y:=bJ (r.abs.symm.trans q.abs)
theorem Vals.inj:∀ {xs ys:List V}{us:LV},Vals xs us->Vals ys us->xs=ys
 |_,_,_,.nil,.nil=>rfl
 |_,_,_,.cons r t,.cons r' t'=>by rw[r.inj r',Vals.inj t t']
section
variable {pins:LO}{σ:St}{H:Hp}{s:Shared}{a:Addr}{xs ys:List V}
def SqL.of{K:FG}(h:H a=some (.lst xs)):SqL K H a xs:=.inl (.inl h)
def SqT.of{K:FG}(h:H a=some (.tup xs)):SqT K H a xs:=.inl (.inl h)
def Inv.list(I:Inv X pins σ H s)(h:SqL X.K H a xs):∃its:LV,Vals xs its/\PlainL s.heap a its.toArray/\xs.length<=sizeLine:=by
 rcases h with h|⟨o,its,n,hk,hc,hd,hs,hz,r⟩
 ·obtain⟨z,its,n,r,e⟩:=h.ok I.hok;exact⟨its,r,⟨_,n,e,O,O,O⟩,z⟩
 ·refine⟨its.toList,r,⟨o,n,I.kIn a o hk,hc,hd,by simpa using hs⟩,?_⟩;have e:=r.length;simp only[Array.length_toList] at e;lia
def Inv.tuple(I:Inv X pins σ H s)(h:SqT X.K H a xs):∃its:LV,Vals xs its/\IsTup s.heap a its.toArray/\xs.length<=sizeLine:=by
 rcases h with h|⟨o,its,n,hk,hc,_,hs,hz,r⟩
 ·obtain⟨z,its,r,p⟩:=h.ok I.hok;exact⟨its,r,p.tup,z⟩
 ·refine⟨its.toList,r,⟨o,I.kIn a o hk,hc,n,by simpa using hs⟩,?_⟩;have e:=r.length;simp only[Array.length_toList] at e;lia
def Inv.list_inj(I:Inv X pins σ H s)(h:SqL X.K H a xs)(h':SqL X.K H a ys):xs=ys:=by
 obtain⟨its,r,⟨o,n,e,_,_,d⟩,_⟩:=I.list h;obtain⟨its',r',⟨o',n',e',_,_,d'⟩,_⟩:=I.list h';rw[e] at e';cases e';rw[d] at d'
 injection d' with d1 _
 have:its=its':=by simpa using bE Array.toList d1
 subst this;exact r.inj r'
def Inv.tuple_inj(I:Inv X pins σ H s)(h:SqT X.K H a xs)(h':SqT X.K H a ys):xs=ys:=by
 obtain⟨its,r,⟨o,e,_,n,d⟩,_⟩:=I.tuple h;obtain⟨its',r',⟨o',e',_,n',d'⟩,_⟩:=I.tuple h';rw[e] at e';cases e';rw[d] at d'
 injection d' with d1 _
 have:its=its':=by simpa using bE Array.toList d1
 subst this;exact r.inj r'
end
abbrev Cx.wish(X:Cx)(E:VS):Cx:={ X with xe:=E }
abbrev Cx.nox(X:Cx):Cx:=X.wish λ _ _=>False
def Cx.Ok.wish{X:Cx}(ok:X.Ok)(E:VS):(X.wish E).Ok :=
 ⟨ok.mod,ok.kind,ok.glob,ok.blt,ok.above,ok.inj,ok.has,ok.cab,ok.hd,ok.frames,ok.stk,ok.exf,ok.bs,ok.bsz,ok.noex,ok.exfs,ok.funs,ok.frf⟩
def Cx.Ok.unwish{X:Cx}(ok:(X.wish E).Ok):X.Ok :=
 ⟨ok.mod,ok.kind,ok.glob,ok.blt,ok.above,ok.inj,ok.has,ok.cab,ok.hd,ok.frames,ok.stk,ok.exf,ok.bs,ok.bsz,ok.noex,ok.exfs,ok.funs,ok.frf⟩
section
variable {pins:LO}{σ:St}{H:Hp}{s:Shared}{E:VS}
def Inv.wish(I:Inv X pins σ H s)(E:VS):Inv (X.wish E) pins σ H s:=⟨I.ok.wish E,I.os,I.bare,I.base,I.loc,I.cell,I.free,I.freeC,I.pin,I.hok,I.len⟩
def Inv.unwish(I:Inv (X.wish E) pins σ H s):Inv X pins σ H s:=⟨I.ok.unwish,I.os,I.bare,I.base,I.loc,I.cell,I.free,I.freeC,I.pin,I.hok,I.len⟩
def SP.unwish(h:SP (X.wish E) pins D f s'):SP X pins D f s':=by
 cases f with
 |next=>obtain⟨σ',H',I,q⟩:=h;exact⟨σ',H',I.unwish,q⟩
 |brk=>obtain⟨σ',H',I,q⟩:=h;exact⟨σ',H',I.unwish,q⟩
 |cont=>obtain⟨σ',H',I,q⟩:=h;exact⟨σ',H',I.unwish,q⟩
 |ret u=>obtain⟨v,σ',H',I,r,q⟩:=h;exact⟨v,σ',H',I.unwish,r,q⟩
def PSs.nox{st:List Stmt}(h:PSs X.nox st t):PSs X st t:=λ pins s σ H D I hw=>
 cP (h pins s σ H D (I.wish _) hw) (λ _ _ q=>q.unwish) λ _ _ z=>False.elim z
end
section
variable {st:Stmt}{rest:List Stmt}{t u:TS}{e:Expr}{te:TE}{pos:Pos}
def Du:TS:=λ D σ H=>D.nx σ H
def vo(t u:TS):TS:=λ D σ H=>t { D with nx:=u D } σ H
def pss_nil:PSs X [] Du:=λ _ _ σ H _ I h=>oQ ⟨σ,H,I,h⟩
def ga(h1:PS X st t)(h2:PSs X rest u):PSs X (st::rest) (vo t u):=by
 intro pins s σ H D I h;refine wpAny_execs_cons (thn (h1 pins s σ H { D with nx:=u D } I h) λ f s1 q=>?_)
 cases f with
 |next=>
  obtain⟨σ',H',I',q⟩:=q;exact h2 pins s1 σ' H' D I' q
 |ret v=>exact q
 |brk=>exact q
 |cont=>exact q
def rK(h1:PS X st t):PSs X [st] t:=by
 intro pins s σ H D I h;refine wpAny_execs_cons (thn (h1 pins s σ H D I h) λ f s1 q=>?_)
 cases f with
 |next=>exact oQ q
 |ret v=>exact q
 |brk=>exact q
 |cont=>exact q
def Inv.quiet(I:Inv X pins σ H s):interactive X.env=false:=by simp[interactive,I.ok.kind]
def Dv(te:TE):TS:=λ D σ H=>te σ H λ _ H1=>D.nx σ H1
def rN(he:PE X e te)(hs:swapsWith e none pos.line X.env=pure false:=by rfl):PS X (.Expr e pos) (Dv te):=by
 intro pins s σ H D I h;exact wpAny_Expr_any (thn (he pins s σ H _ I h) λ v s1 ⟨x,H1,I1,r1,q1⟩=>⟨σ,H1,I1,q1⟩) I.quiet hs
def Dw(te:TE):TS:=λ D σ H=>te σ H D.rt
def oR(he:PE X e te):PS X (.Return (some e) pos) (Dw te):=by
 intro pins s σ H D I h;exact wpAny_Return_some (thn (he pins s σ H _ I h) λ v s1 ⟨x,H1,I1,r1,q1⟩=>⟨x,σ,H1,I1,r1,q1⟩)
noncomputable def Dx(c:TT)(t u:TS):TS:=λ D σ H=>c σ H λ b H1=>if b=true then t D σ H1 else u D σ H1
def Dy(hc:PT X c tc)(ha:PSs X a t)(hb:PSs X b u):PS X (.If c a b pos) (Dx tc t u):=by
 intro pins s σ H D I h;refine wpAny_If (thn (hc pins s σ H _ I h) λ d s1 ⟨H1,I1,q1⟩=>?_)
 cases d with
 |true=>exact ha pins s1 σ H1 D I1 q1
 |false=>exact hb pins s1 σ H1 D I1 q1
def Dz:TS:=λ _ _ _=>False
def pss_never:PSs X sts Dz:=λ _ _ _ _ _ _ h=>h.elim
end
abbrev TG:=V->St->Hp->(St->Hp->Prop)->Prop
abbrev TGs:=List V->St->Hp->(St->Hp->Prop)->Prop
noncomputable def PG(X:Cx)(target:Expr)(t:TG):Prop :=
 ∀(pins:LO) (s:Shared) (σ:St) (H:Hp) (v:V) (u:Value) (Q:St->Hp->Prop),Inv X pins σ H s->RelV v u->t v σ H Q ->
  wpAny (model X.prog X.w) X.A (assign target X.env u) (λ _ s'=>∃σ' H',Inv X pins σ' H' s'/\Q σ' H') X.xe s
noncomputable def PGs(X:Cx)(ts:List Expr)(t:TGs):Prop :=
 ∀(pins:LO) (s:Shared) (σ:St) (H:Hp) (vs:List V) (us:LV) (Q:St->Hp->Prop),Inv X pins σ H s->Vals vs us->t vs σ H Q ->
  wpAny (model X.prog X.w) X.A (assignInOrder ((assignEach ts X.env).map (·.2)) us) (λ _ s'=>∃σ' H',Inv X pins σ' H' s'/\Q σ' H') X.xe s
abbrev vp:=V->V->V->Hp->(Hp->Prop)->Prop
noncomputable def vq(X:Cx)(t:vp):Prop :=
 ∀(pins:LO) (s:Shared) (σ:St) (H:Hp) (o i v:V) (ov iv u:Value) (Q:Hp->Prop),Inv X pins σ H s->RelV o ov->RelV i iv->RelV v u->t o i v H Q ->
  wpAny (model X.prog X.w) X.A (setItem ov iv u) (λ _ s'=>∃H',Inv X pins σ H' s'/\Q H') X.xe s
section
variable {pos:Pos}
def eO(i:Nat):TG:=λ v σ H Q=>Q (σ.set i (some v)) H
def vt{i:Nat}(hN:X.N.Nodup)(hi:X.N[i]?=some x)(hx:Loc X.env.scope x)(hf:X.fn x=true\/X.env.scope.names.lookup x=some .local:=by first|exact .inl rfl|exact .inr rfl|assumption):PG X (.Name x pos) (eO i):=by
 intro pins s σ H v u Q I r h;exact wpAny_assign_Name (rG I hN hi hx r (λ s' I'=>⟨_,H,I',h⟩) hf)
def rO:TGs:=λ vs σ H Q=>vs=[]/\Q σ H
noncomputable def kZ(t:TG)(u:TGs):TGs:=λ vs σ H Q=>∃v r,vs=v::r/\t v σ H λ σ' H'=>u r σ' H' Q
def vv:PGs X [] rO:=by
 intro pins s σ H vs us Q I r h;obtain⟨e,h⟩:=h;subst e;cases r;exact assignInOrder_nil ⟨σ,H,I,h⟩
theorem mQ(h1:PG X e t)(h2:PGs X es u)
  (hs:(assignEach (e::es) X.env).map (·.2)=assign e X.env::(assignEach es X.env).map (·.2):=by rfl):PGs X (e::es) (kZ t u):=by
 intro pins s σ H vs us Q I r h;obtain⟨v,vr,e1,h⟩:=h;subst e1
 cases r with
 |cons r rr=>
  rw[hs];refine assignInOrder_cons (thn (h1 pins s σ H _ _ _ I r h) λ _ s1 ⟨σ1,H1,I1,q1⟩=>?_);exact h2 pins s1 σ1 H1 _ _ Q I1 rr q1
noncomputable def rP(K:FG)(n:Nat)(t:TGs):TG:=λ v σ H Q=>∃a xs,v=.ref a/\SqT K H a xs/\xs.length=n/\t xs σ H Q
theorem vx{n:Nat}(hc:X.calm=true)(h:PGs X es t)
  (hn:(assignEach es X.env).length=n:=by rfl) (hst:(assignEach es X.env).findIdx? (·.1)=none:=by rfl):PG X (.Tuple es k pos) (rP X.K n t):=by
 intro pins s σ H v u Q I r hw;obtain⟨a,xs,e1,hq,hl,hw⟩:=hw;subst e1;cases r;obtain⟨its,rv,ht,hz⟩:=I.tuple hq;refine assign_Tuple_tuple (I.ok.hd hc) ht (by simp[hn,<- hl,rv.length]) hst λ h' hx=>?_;have I1:Inv X pins σ H { s with heap:=h' }:=I.kept (t':=s.toks) λ b o e=>hx b o (bn (aJ e)) e;exact h pins _ σ H xs _ Q I1 (by simpa using rv) hw
noncomputable def DA(to ti:TE)(t:vp):TG:=λ v σ H Q=>to σ H λ o H1=>ti σ H1 λ i H2=>t o i v H2 λ H3=>Q σ H3
theorem DB(ho:PE X o to)(hi:PE X i ti)(hs:vq X t)
  (ha:∀v,assign (.Subscript o i pos) X.env v=(do
   let ov <- holding [v] (eval o X.env)
   let iv <- holding [v,ov] (eval i X.env)
   standAt pos
   holding [v,ov,iv] (setItem ov iv v)
   release [v,ov,iv] []):=by intro _;rfl):PG X (.Subscript o i pos) (DA to ti t):=by
 intro pins s σ H v u Q I r h;rw[ha];refine af (eQ (thn (ho pins s σ H _ I h) λ ov s1 ⟨x,H1,I1,r1,q1⟩=>?_));refine af (eQ (thn (hi pins s1 σ H1 _ I1 q1) λ iv s2 ⟨y,H2,I2,r2,q2⟩=>?_));refine af (jQ (af (eQ (thn (hs pins s2 σ H2 x y v ov iv u _ I2 r1 r2 r q2) λ _ s3 ⟨H3,I3,q3⟩=>?_))));exact wpAny_release ⟨σ,H3,I3,q3⟩
def lg(te:TE)(g:TG):TS:=λ D σ H=>te σ H λ x H1=>g x σ H1 D.nx
theorem vy(he:PE X e te)(hg:PG X tg g)(hs:swapsWithSole [tg] e pos.line X.env=pure false:=by rfl)(hw:swappedStores [tg] e X.env=pure none:=by rfl)
  (h1:(assignEach [tg] X.env).map (·.2)=[assign tg X.env]:=by rfl):PS X (.Assign [tg] e pos) (lg te g):=by
 intro pins s σ H D I h;refine wpAny_Assign_stores (thn (he pins s σ H _ I h) λ v s1 ⟨x,H1,I1,r1,q1⟩=>?_) hs hw;rw[h1];exact thn (hg pins s1 σ H1 x v _ I1 r1 q1) λ _ s2 q=>q
theorem DC{i:Nat}(hN:X.N.Nodup)(hi:X.N[i]?=some x)(hx:Loc X.env.scope x)(he:PE X e te)(hs:swapsWith e (some (.Name x pos')) pos.line X.env=pure false:=by rfl)(hf:X.fn x=true\/X.env.scope.names.lookup x=some .local:=by first|exact .inl rfl|exact .inr rfl|assumption) :
  PS X (.Assign [.Name x pos'] e pos) (lg te (eO i)):=by
 intro pins s σ H D I h;refine wpAny_Assign_Name (thn (he pins s σ H _ I h) λ v s1 ⟨y,H1,I1,r1,q1⟩=>?_) hs;exact rG I1 hN hi hx r1 (λ s2 I2=>⟨_,H1,I2,q1⟩) hf
end
section
variable {pos:Pos}
end
structure It where
 go:Nat->Hp->Prop
 yld:Nat->Hp->V->Hp->Prop
 stop:Nat->Hp->Prop
noncomputable def ja(X:Cx)(pins:LO)(H:Hp)(b:Addr):Prop :=
 H b=none/\b≠X.env.locals/\b ∉ X.fs/\(b∈X.ex\/X.s₀.heap.objs.size<=b)/\(∀x c,X.env.cells.lookup x=some c->c≠b)/\∀p∈X.pn++pins,p.1≠b
def Inv.fpOk{H H':Hp}{b:Addr}(I:Inv X pins σ H s)(hb:s.heap.objs.size<=b)(hn:H' b=none):ja X pins H' b:=by
 refine⟨hn,mR (bM I.lt hb),I.nofs hb,.inr (dg I.sz hb),λ x c e z=>?_,λ p hp z=>?_⟩
 ·obtain⟨v,q⟩:=I.cell x c e;exact absurd (bM q.lt (by rw[z];exact hb)) (dM _)
 ·exact absurd (bM (aJ (I.pin p hp).1) (by rw[z];exact hb)) (dM _)
structure Turn (P:Program)(w:World)(K:FG)(tg:Expr)(J:It)(fp:List Addr)(it:Addr)(tn:Nat->Heap->Prop):Prop where
 mem:it∈fp
 obj:∀i h,tn i h->∀b∈fp,∃o,h.get? b=some o/\∀v,o.data≠.cell v
 keep:∀i h h',tn i h->(∀b∈fp,∀o,h.get? b=some o->h'.get? b=some o)->tn i h'
 item:∀(X:Cx),X.prog=P->X.w=w->X.K=K->X.calm=true->∀(i:Nat) (pins:LO) (s:Shared) (σ:St) (H:Hp) (E:VS),Inv X pins σ H s->(∀b∈fp,ja X pins H b)->tn i s.heap->J.go i H ->
  wpAny (model P w) X.A (pyNext (.ref it)) (λ r s1=>∃u,r=some u /\
   wpAny (model P w) X.A (letOwnedTupleGo tg (.ref it) u) (λ _ s2=>∃x H',Inv X pins σ H' s2/\RelV x u/\J.yld i H x H'/\tn (i+1) s2.heap/\∀b∈fp,H' b=none) E s1) E s
 done:∀(X:Cx),X.prog=P->X.w=w->X.K=K->X.calm=true->∀(i:Nat) (pins:LO) (s:Shared) (σ:St) (H:Hp) (E:VS),Inv X pins σ H s->(∀b∈fp,ja X pins H b)->tn i s.heap->J.stop i H ->
  wpAny (model P w) X.A (pyNext (.ref it)) (λ r s1=>r=none/\Inv X pins σ H s1) E s
 self:∀(A:Around) (i:Nat) (s:Shared) (Q:VS) (E:VS),tn i s.heap->Q (.ref it) s->wpAny (model P w) A (pyIter (.ref it)) Q E s
abbrev TI:=St->Hp->(It->Hp->Prop)->Prop
noncomputable def PIE(X:Cx)(pins:LO)(σ:St)(tg:Expr)(R:It->Hp->Prop)(itv:Value)(s2:Shared):Prop :=
 ∃(it:Addr) (fp:List Addr) (tn:Nat->Heap->Prop) (J:It) (H':Hp),itv=.ref it/\Inv X pins σ H' s2/\Turn X.prog X.w X.K tg J fp it tn/\tn 0 s2.heap/\(∀b∈fp,ja X pins H' b)/\R J H'
noncomputable def PI(X:Cx)(tg iter:Expr)(wi:TI):Prop :=
 ∀(pins:LO) (s:Shared) (σ:St) (H:Hp) (R:It->Hp->Prop),Inv X pins σ H s->wi σ H R ->
  wpAny (model X.prog X.w) X.A (eval iter X.env) (λ v s1=>wpAny (model X.prog X.w) X.A (pyIter v) (PIE X pins σ tg R) X.xe s1) X.xe s
theorem oS{s:Shared}{it:Addr}{vs:Array Value}{Q:Unit->Shared->Prop}(ho:s.heap.get? it=some o)(hc:o.cls=.type n)(hd:o.data=.fields vs)
    (hn:["enumerate","zip","dict_itemiterator","dict_reverseitemiterator","odict_iterator","itertools.zip_longest","itertools.pairwise"].contains n=false) (hQ:Q () s):wpAny M A (letOwnedTupleGo tg (.ref it) u) Q E s:=by
  unfold letOwnedTupleGo
  cases tg<;>first
    |exact aq hQ
    | (cases u<;>first
        |exact aq hQ
        | (refine af (s1m ho ?_)
           rw[hc,hd];show wpAny M A (if (["enumerate","zip","dict_itemiterator","dict_reverseitemiterator","odict_iterator","itertools.zip_longest","itertools.pairwise"].contains n&&vs[0]? == some (rawInt _))=true then _ else _) Q E s;rw[if_neg (by intro h;rw[hn,s0n] at h;cases h)]
           exact aq hQ))
noncomputable def Itl(K:FG)(a:Addr):It :=
 ⟨λ i H=>∃xs x,SqL K H a xs/\xs[i]?=some x,λ i H x H'=>H'=H/\∀xs,SqL K H a xs->xs[i]?=some x,λ i H=>∃xs,SqL K H a xs/\xs.length<=i⟩
noncomputable def Itt(K:FG)(a:Addr):It :=
 ⟨λ i H=>∃xs x,SqT K H a xs/\xs[i]?=some x,λ i H x H'=>H'=H/\∀xs,SqT K H a xs->xs[i]?=some x,λ i H=>∃xs,SqT K H a xs/\xs.length<=i⟩
noncomputable def Itr(lo:Int)(n:Nat):It:=⟨λ i _=>i<n,λ i H x H'=>H'=H/\x=.int (lo+i),λ i _=>n<=i⟩
theorem DD{K:FG}(a it:Addr):Turn P w K tg (Itl K a) [it] it (λ i h=>h.IsListIter it a i) where
 mem:=on
 obj:=λ i h st b hb=>by
  have e:b=it:=by simpa using hb
  subst e;obtain⟨o,e,c,d⟩:=st;exact⟨o,e,λ v z=>by rw[d] at z;cases z⟩
 keep:=λ i h h' st k=>st.at λ o e=>k it on o e
 item:=by
  intro X hP hw hK hc i pins s σ H E I hf st hg;subst hP hw hK;obtain⟨xs,x,hq,hx⟩:=hg;obtain⟨its,rv,p,hz⟩:=I.list hq;obtain⟨u,hu,ru⟩:=rv.get hx;obtain⟨f0,f1,f2,f3,f4,f5⟩:=hf it on;refine wpAny_pyNext_list_item st p.isList (x:=u) (by simpa using hu) λ h' st' sb=>?_;have I1:Inv X pins σ H { s with heap:=h' }:=I.turned (t':=s.toks) (λ b o hb e=>(sb.2 b hb).trans e) f0 f1 f3 f4 f5;obtain⟨o,e,c,d⟩:=id st';exact⟨u,O,oS (s:={ s with heap:=h' }) e c d fu ⟨x,H,I1,ru,⟨O,λ ys hy=>by rw[I.list_inj hy hq];exact hx⟩,st',λ b hb=>(hf b hb).1⟩⟩
 done:=by
  intro X hP hw hK hc i pins s σ H E I hf st hg;subst hP hw hK;obtain⟨xs,hq,hx⟩:=hg;obtain⟨its,rv,p,hz⟩:=I.list hq;obtain⟨f0,f1,f2,f3,f4,f5⟩:=hf it on;have hl:=rv.length;exact wpAny_pyNext_list_end (I.ok.hd hc) st p.isList (by simp;lia) λ h' eb=>⟨O,I.turned (t':=s.toks) (λ b o hb e=>eb b o hb e) f0 f1 f3 f4 f5⟩
 self:=λ _ _ _ _ _ st h=>wpAny_pyIter_listiter st h
theorem DE{K:FG}(a it:Addr):Turn P w K tg (Itt K a) [it] it (λ i h=>h.IsTupleIter it a i) where
 mem:=on
 obj:=λ i h st b hb=>by
  have e:b=it:=by simpa using hb
  subst e;obtain⟨o,e,c,d⟩:=st;exact⟨o,e,λ v z=>by rw[d] at z;cases z⟩
 keep:=λ i h h' st k=>st.at λ o e=>k it on o e
 item:=by
  intro X hP hw hK hc i pins s σ H E I hf st hg;subst hP hw hK;obtain⟨xs,x,hq,hx⟩:=hg;obtain⟨its,rv,p,hz⟩:=I.tuple hq;obtain⟨u,hu,ru⟩:=rv.get hx;obtain⟨f0,f1,f2,f3,f4,f5⟩:=hf it on;refine wpAny_pyNext_tuple_item st (show s.heap.IsTuple a its.toArray from p) (x:=u) (by simpa using hu) λ h' st' sb=>?_;have I1:Inv X pins σ H { s with heap:=h' }:=I.turned (t':=s.toks) (λ b o hb e=>(sb.2 b hb).trans e) f0 f1 f3 f4 f5;obtain⟨o,e,c,d⟩:=id st';exact⟨u,O,oS (s:={ s with heap:=h' }) e c d fu ⟨x,H,I1,ru,⟨O,λ ys hy=>by rw[I.tuple_inj hy hq];exact hx⟩,st',λ b hb=>(hf b hb).1⟩⟩
 done:=by
  intro X hP hw hK hc i pins s σ H E I hf st hg;subst hP hw hK;obtain⟨xs,hq,hx⟩:=hg;obtain⟨its,rv,p,hz⟩:=I.tuple hq;obtain⟨f0,f1,f2,f3,f4,f5⟩:=hf it on;have hl:=rv.length;exact wpAny_pyNext_tuple_end (I.ok.hd hc) st (show s.heap.IsTuple a its.toArray from p) (by simp;lia) λ h' eb=>⟨O,I.turned (t':=s.toks) (λ b o hb e=>eb b o hb e) f0 f1 f3 f4 f5⟩
 self:=λ _ _ _ _ _ st h=>wpAny_pyIter_tupleiter st h
theorem DF{K:PySem.W.Frag}(it:Addr)(lo:Int)(n:Nat):Turn P w K tg (Itr lo n) [it] it (λ i h=>IsRangeIter h it (lo+(i:Nat)*1) ((n:Int)-(i:Nat)) 1) where
 mem:=on
 obj:=λ i h st b hb=>by
  have e:b=it:=by simpa using hb
  subst e
  exact⟨_,st,λ v z=>by
   have z':Data.fields _=Data.cell v:=z
   cases z'⟩
 keep:=λ i h h' st k=>k it on _ st
 item:=by
  intro X hP hw hK hc i pins s σ H E I hf st hg;subst hP hw hK;obtain⟨f0,f1,f2,f3,f4,f5⟩:=hf it on;have W:=Walks.range (prog:=X.prog) (w:=X.w) (I.ok.hd hc) it lo 1 n;refine W.item i s _ _ hg st λ v h' tk hv st' kk=>?_;obtain⟨t,rfl⟩:=hv;have I1:Inv X pins σ H { s with heap:=h',toks:=tk }:=I.turned (λ b o hb e=>kk b o (by simpa using hb) e) f0 f1 f3 f4 f5;refine⟨_,O,oS (s:={ s with heap:=h',toks:=tk }) (n := "range_iterator") st' rfl rfl fu ⟨.int (lo+i),H,I1,⟨t,?_⟩,⟨O,O⟩,st',λ b hb=>(hf b hb).1⟩⟩;rw[s0t]
 done:=by
  intro X hP hw hK hc i pins s σ H E I hf st hg;subst hP hw hK;obtain⟨f0,f1,f2,f3,f4,f5⟩:=hf it on;exact wpAny_pyNext_range_end (I.ok.hd hc) st (by have:n<=i:=hg;lia) λ h' eb=>⟨O,I.turned (t':=s.toks) (λ b o hb e=>eb b o hb e) f0 f1 f3 f4 f5⟩
 self:=λ _ _ _ _ _ st h=>wpAny_pyIter_rangeiter st h
section
variable {tg:Expr}
theorem DG{R:It->Hp->Prop}{lo hi:Int}{tk:Nat}(I:Inv X pins σ H s)(h1:-(2 ^ 62)<=lo)(h2:lo<2 ^ 62)(h3:-(2 ^ 62)<=hi)(h4:hi<2 ^ 62)
  (q:R (Itr lo (hi-lo).toNat) H):wpAny (model X.prog X.w) X.A (pyIter (.ref s.heap.objs.size)) (PIE X pins σ tg R) E { s with heap:=s.heap.push { cls:=.type "range",data:=.fields #[.int lo t,.int hi u,.int 1 v] },toks:=tk }:=by
 refine wpAny_pyIter_range (IsRange.new ..) (small_one h1 h2 h3 h4) ?_;have I1:Inv X pins σ H { s with heap:=s.heap.push { cls:=.type "range",data:=.fields #[.int lo t,.int hi u,.int 1 v] },toks:=tk }:=I.kept λ b o e=>aI _ e
 refine⟨(s.heap.push { cls:=.type "range",data:=.fields #[.int lo t,.int hi u,.int 1 v] }).objs.size,[(s.heap.push { cls:=.type "range",data:=.fields #[.int lo t,.int hi u,.int 1 v] }).objs.size],_,_,H,O,
  I1.kept (t':=tk) λ b o e=>aI _ e,DF _ lo (hi-lo).toNat,?_,λ b hb=>?_,q⟩
 ·have e1:lo+((0:Nat):Int)*1=lo:=by simp
  have e2:(((hi-lo).toNat:Nat):Int)-((0:Nat):Int)=Builtin.Range.rangeSize lo hi 1:=by rw[rangeSize_one];split<;>lia
  show IsRangeIter _ _ (lo+((0:Nat):Int)*1) ((((hi-lo).toNat:Nat):Int)-((0:Nat):Int)) 1;rw[e1,e2];exact be _ rfl
 ·have e:b=(s.heap.push { cls:=.type "range",data:=.fields #[.int lo t,.int hi u,.int 1 v] }).objs.size:=by simpa using hb
  subst e;exact I1.fpOk (ay _) (I1.hok.fresh (ay _))
noncomputable def DH(ta:TA):TI:=λ σ H R=>ta σ H λ vs H1=>∃j:Int,vs=[.int j]/\-(2 ^ 62)<=j/\j<2 ^ 62/\R (Itr 0 j.toNat) H1
def DI{a:Expr}{p pos:Pos}(hg:Gl X "range")(hm:X.mg "range"=none)(ha:PA X [a] ta)(hs:starEach [a] X.env=[(false,eval a X.env)]:=by rfl):PI X tg (.Call (.Name "range" p) [a] [] pos) (DH ta):=by
 intro pins s σ H R I h;refine Call_ (eN I hg hm boot_range (hV (thn (ha pos pins s σ H _ I h) λ us s1 ⟨vs,H1,I1,r1,q1⟩=>?_) hs rfl));obtain⟨j,e,q1,q2,q⟩:=q1;subst e
 cases r1 with
 |cons r rr=>
  cases rr;obtain⟨t,rfl⟩:=r;exact call_range_1 (DG I1 ca ca q1 q2 (by simpa using q))
noncomputable def DJ(wi:TI)(g:TG)(tb:TS):TS:=λ D σ H=>wi σ H λ J H1=>∃W:Nat->Nat->St->Hp->Prop,(∃m,W 0 m σ H1)/\∀i m σ H,W i m σ H ->
 (J.stop i H/\D.nx σ H)\/(J.go i H/\∃N:St->Hp->Prop,(∀σ' H',N σ' H'->∃m',m'<m/\W (i+1) m' σ' H')/\∀x H',J.yld i H x H'->g x σ H' λ σ2 H2=>tb { D with nx:=N,ct:=N,bk:=D.nx } σ2 H2)
noncomputable def oT(fp:List Addr)(h:Heap):LO:=fp.filterMap λ b=>(h.get? b).map λ o=>(b,o)
def lh{fp:List Addr}{h:Heap}{b:Addr}(hb:b∈fp)(e:h.get? b=some o):(b,o)∈oT fp h:=s0z.mpr ⟨b,hb,by rw[e];rfl⟩
def DK{fp:List Addr}{h:Heap}{p:Addr×Obj}(hp:p∈oT fp h):p.1∈fp/\h.get? p.1=some p.2:=by
 obtain⟨b,hb,e⟩:=s0z.mp hp
 cases q:h.get? b with
 |none=>rw[q] at e;cases e
 |some o=>
  rw[q] at e;have e':(b,o)=p:=bJ e;subst e';exact⟨hb,q⟩
def Inv.pinned{fp:List Addr}(I:Inv X pins σ H s)(hf:∀b∈fp,ja X pins H b)(ho:∀b∈fp,∃o,s.heap.get? b=some o/\∀v,o.data≠.cell v):Inv X (pins++oT fp s.heap) σ H s :=
 I.pins_of λ p hp=>(cg.mp hp).elim (λ z=>I.pin p (cu _ z)) λ z=>by
  obtain⟨hb,e⟩:=DK z;obtain⟨f0,f1,f2,_⟩:=hf p.1 hb;obtain⟨o,e',d⟩:=ho p.1 hb;rw[e] at e';cases e';exact⟨e,f0,f1,f2,d⟩
def Inv.unpinned{pins pl:LO}(I:Inv X (pins++pl) σ H s):Inv X pins σ H s:=I.pins_of λ p hp=>I.pin p (cu _ (kX _ hp))
theorem DM{iter:Expr}(hp:PassesOwn (model X.prog X.w) X.A X.env X.xe)(hc:X.calm=true)(hi:PI X tg iter wi)(hg:PG X tg g)(hb:PSs X body tb)
  (hs:∀x,foldedSetIterable iter X.env x=pure x:=by intro _;rfl):PS X (.For tg iter body [] pos) (DJ wi g tb):=by
 intro pins s σ H D I h;refine wpAny_For (thn (hi pins s σ H _ I h) λ v s1 h1=>thn h1 λ itv s2 h2=>?_) hs;obtain⟨it,fp,tn,J,H2,e,I2,T,st2,f2,W,⟨m0,w0⟩,turn⟩:=h2;subst e;have stat:∀ {H':Hp},(∀b∈fp,H' b=none)->∀b∈fp,ja X pins H' b:=λ hn b hb=>⟨hn b hb,(f2 b hb).2⟩;refine codeAny_forLoop_any (λ n s'=>∃i σ' H',Inv X pins σ' H' s'/\tn i s'.heap/\(∀b∈fp,H' b=none)/\W i n σ' H') ?_ m0 ⟨0,σ,H2,I2,st2,λ b hb=>(f2 b hb).1,w0⟩;rintro n s3 ⟨i,σ3,H3,I3,st3,fr3,w3⟩
 rcases turn i n σ3 H3 w3 with ⟨stop,qn⟩|⟨go,N,hN,step⟩
 ·refine mS hp (thn (T.done X rfl rfl rfl hc i pins s3 σ3 H3 X.xe I3 (stat fr3) st3 stop) λ r s4 ⟨hr,I4⟩=>?_);subst hr;exact oQ ⟨σ3,H3,I4,qn⟩
 ·refine mS hp (thn (T.item X rfl rfl rfl hc i pins s3 σ3 H3 X.xe I3 (stat fr3) st3 go) λ r s4 ⟨u,hr,h4⟩=>?_);subst hr;refine mS hp (thn h4 λ _ s5 ⟨x,H5,I5,r5,y5,st5,fr5⟩=>?_);have I5':=I5.pinned (stat fr5) (T.obj _ _ st5);refine mS hp (thn (hg _ s5 σ3 H5 x u _ I5' r5 (step x H5 y5)) λ _ s6 ⟨σ6,H6,I6,q6⟩=>?_);refine mS hp (thn (hb _ s6 σ6 H6 _ I6 q6) λ f s7 q7=>?_)
  have again:∀ {σ7:St}{H7:Hp},Inv X (pins++oT fp s5.heap) σ7 H7 s7->N σ7 H7->∃m,m<n/\∃i σ' H',Inv X pins σ' H' s7/\tn i s7.heap/\(∀b∈fp,H' b=none)/\W i m σ' H':=λ {σ7 H7} I7 n7=>by
   obtain⟨m',hm,w7⟩:=hN σ7 H7 n7;refine⟨m',hm,i+1,σ7,H7,I7.unpinned,T.keep _ _ _ st5 λ b hb o e=>(I7.pin (b,o) (cu _ (cu _ (lh hb e)))).1,λ b hb=>?_,w7⟩;obtain⟨o,e,d⟩:=T.obj _ _ st5 b hb;exact(I7.pin (b,o) (cu _ (cu _ (lh hb e)))).2.1
  cases f with
  |next=>obtain⟨σ7,H7,I7,n7⟩:=q7;exact again I7 n7
  |cont=>obtain⟨σ7,H7,I7,n7⟩:=q7;exact again I7 n7
  |brk=>obtain⟨σ7,H7,I7,q7⟩:=q7;exact⟨σ7,H7,I7.unpinned,q7⟩
  |ret v=>obtain⟨x7,σ7,H7,I7,r7,q7⟩:=q7;exact⟨x7,σ7,H7,I7.unpinned,r7,q7⟩
end
abbrev R2:=V->V->Hp->VK->Prop
noncomputable def OpR(X:Cx)(f:Value->Value->Sem Value)(r:R2):Prop :=
 ∀(pins:LO) (s:Shared) (σ:St) (H:Hp) (x y:V) (v u:Value) (Q:VK),Inv X pins σ H s->RelV x v->RelV y u->r x y H Q ->
  wpAny (model X.prog X.w) X.A (f v u) (EP X pins σ Q) X.xe s
noncomputable def UnR(X:Cx)(f:Value->Sem Value)(r:V->Hp->VK->Prop):Prop :=
 ∀(pins:LO) (s:Shared) (σ:St) (H:Hp) (x:V) (v:Value) (Q:VK),Inv X pins σ H s->RelV x v->r x H Q ->
  wpAny (model X.prog X.w) X.A (f v) (EP X pins σ Q) X.xe s
noncomputable def cF(X:Cx)(f:Value)(r:List V->Hp->VK->Prop):Prop :=
 ∀(pins:LO) (s:Shared) (σ:St) (H:Hp) (xs:List V) (us:LV) (Q:VK),Inv X pins σ H s->Vals xs us->r xs H Q ->
  wpAny (model X.prog X.w) X.A (call f us) (EP X pins σ Q) X.xe s
noncomputable def tOp(r:R2)(ta tb:TE):TE:=λ σ H Q=>ta σ H λ x H1=>tb σ H1 λ y H2=>r x y H2 Q
noncomputable def tUn(r:V->Hp->VK->Prop)(ta:TE):TE:=λ σ H Q=>ta σ H λ x H1=>r x H1 Q
noncomputable def rI(C:Int->Int->Prop)(g:Int->Int->V):R2:=λ x y H Q=>rH x y λ i j=>C i j/\Q (g i j) H
def rI0(g:Int->Int->V):R2:=λ x y H Q=>rH x y λ i j=>Q (g i j) H
def rU(g:Int->V):V->Hp->VK->Prop:=λ x H Q=>isI x λ i=>Q (g i) H
section
variable {a b c:Expr}{ta tb tc:TE}{pos:Pos}
theorem rQ(ha:PE X a ta)(hb:PE X b tb){R:V->V->Hp->Prop}(I:Inv X pins σ H s)
  (h:ta σ H λ x H1=>tb σ H1 λ y H2=>R x y H2){f:Value->Value->Sem Value}
  (hf:∀v u s2 x y H2,Inv X pins σ H2 s2->RelV x v->RelV y u->R x y H2->wpAny (model X.prog X.w) X.A (f v u) Q X.xe s2) :
  wpAny (model X.prog X.w) X.A (eval a X.env) (λ v s₁=>wpAny (model X.prog X.w) X.A (eval b X.env) (λ u s₂=>wpAny (model X.prog X.w) X.A (f v u) Q X.xe s₂) X.xe s₁) X.xe s:=by
 refine thn (ha pins s σ H _ I h) λ v s1 ⟨x,H1,I1,r1,q1⟩=>?_;refine thn (hb pins s1 σ H1 _ I1 q1) λ u s2 ⟨y,H2,I2,r2,q2⟩=>?_;exact hf v u s2 x y H2 I2 r1 r2 q2
def DN(ho:OpR X (binaryOp op) r)(ha:PE X a ta)(hb:PE X b tb):PE X (.BinOp a op b pos) (tOp r ta tb):=by
 intro pins s σ H Q I h;exact wpAny_BinOp (rQ ha hb I h λ v u s2 x y H2 I2 rx ry q=>ho pins s2 σ H2 x y v u Q I2 rx ry q)
def DO(ho:UnR X (unaryOp op) r)(ha:PE X a ta):PE X (.UnaryOp op a pos) (tUn r ta):=by
 intro pins s σ H Q I h;exact UnaryOp_ (thn (ha pins s σ H _ I h) λ v s1 ⟨x,H1,I1,r1,q1⟩=>ho pins s1 σ H1 x v Q I1 r1 q1)
theorem opI{f:Value->Value->Sem Value}{C:Int->Int->Prop}{g:Int->Int->Int}
  (rule:∀(i j:Int) (t u:Tok) (s:Shared) (Q:VS) (E:VS),C i j->Q (.int (g i j) s.toks) { s with toks:=s.toks+1 }->wpAny (model X.prog X.w) X.A (f (.int i t) (.int j u)) Q E s) :
  OpR X f (rI C λ i j=>.int (g i j)):=by
 intro pins s σ H x y v u Q I rx ry h;obtain⟨i,j,rfl,rfl,hc,q⟩:=rJ h;obtain⟨t,rfl⟩:=rx;obtain⟨t',rfl⟩:=ry;exact rule i j t t' s _ _ hc ⟨.int (g i j),H,I.tok _,⟨_,O⟩,q⟩
theorem mU{f:Value->Value->Sem Value}{g:Int->Int->Int}
  (rule:∀(i j:Int) (t u:Tok) (s:Shared) (Q:VS) (E:VS),Q (.int (g i j) s.toks) { s with toks:=s.toks+1 }->wpAny (model X.prog X.w) X.A (f (.int i t) (.int j u)) Q E s) :
  OpR X f (rI0 λ i j=>.int (g i j)):=by
 intro pins s σ H x y v u Q I rx ry h;obtain⟨i,j,rfl,rfl,q⟩:=rJ h;obtain⟨t,rfl⟩:=rx;obtain⟨t',rfl⟩:=ry;exact rule i j t t' s _ _ ⟨.int (g i j),H,I.tok _,⟨_,O⟩,q⟩
theorem oU{f:Value->Value->Sem Value}{g:Int->Int->Bool}
  (rule:∀(i j:Int) (t u:Tok) (s:Shared) (Q:VS) (E:VS),Q (.bool (g i j)) s->wpAny (model X.prog X.w) X.A (f (.int i t) (.int j u)) Q E s) :
  OpR X f (rI0 λ i j=>.bl (g i j)):=by
 intro pins s σ H x y v u Q I rx ry h;obtain⟨i,j,rfl,rfl,q⟩:=rJ h;obtain⟨t,rfl⟩:=rx;obtain⟨t',rfl⟩:=ry;exact rule i j t t' s _ _ ⟨.bl (g i j),H,I,O,q⟩
def mV(i j:Int):Prop:=0<=j/\j<=1000000/\i.natAbs<2 ^ 64
noncomputable def CMul(i j:Int):Prop:=(-(2 ^ 64)<i/\i<2 ^ 64)\/(-(2 ^ 64)<j/\j<2 ^ 64)
def CMul.ok(h:CMul i j):IntMulOk i j:=by
 rcases h with ⟨h1,h2⟩|⟨h1,h2⟩
 ·exact .of_left (intBits_le_64 h1 h2)
 ·exact .of_right (intBits_le_64 h1 h2)
def DP(k:Nat):(0:Int)<=2 ^ k:=by
 rw[two_pow_cast];exact rR _
def DQ:OpR X (binaryOp .Add) (rI0 λ i j=>.int (i+j)):=mU λ _ _ _ _ _ _ _ q=>add_int q
def DS:OpR X (binaryOp .Sub) (rI0 λ i j=>.int (i-j)):=mU λ _ _ _ _ _ _ _ q=>sub_int q
def DT:OpR X (binaryOp .Mod) (rI (λ _ j=>0<j) λ i j=>.int (i%j)):=opI λ i j _ _ _ _ _ hc q=>by
 have h1:(0:Int)<j:=hc;exact mod_int' ca (by rw[vz i ca];exact q)
def DU:OpR X (binaryOp .Mod) (rI (λ _ j=>j≠0) λ i j=>.int (i.fmod j)):=opI λ _ _ _ _ _ _ _ hc q=>mod_int' hc q
def DV:OpR X (binaryOp .Pow) (rI mV λ i j=>.int (i ^ j.toNat)):=opI λ _ _ _ _ _ _ _ hc q=>pow_int_small hc.1 hc.2.1 hc.2.2 q
def DW:OpR X (binaryOp .RShift) (rI (λ _ j=>0<=j) λ i j=>.int (i/2 ^ j.toNat)):=opI λ i j _ _ _ _ _ hc q=>
 rshift_int hc (by rw[mW i (DP _)];exact q)
def DX:OpR X (binaryOp .BitAnd) (rI0 λ i j=>.int (Builtin.bitAnd i j)):=mU λ _ _ _ _ _ _ _ q=>and_int q
def DY:OpR X (binaryOp .BitOr) (rI0 λ i j=>.int (Builtin.bitOr i j)):=mU λ _ _ _ _ _ _ _ q=>or_int q
def DZ:OpR X (binaryOp .BitXor) (rI0 λ i j=>.int (Builtin.bitXor i j)):=mU λ _ _ _ _ _ _ _ q=>xor_int q
theorem unI{f:Value->Sem Value}{g:Int->Int}
  (rule:∀(i:Int) (t:Tok) (s:Shared) (Q:VS) (E:VS),Q (.int (g i) s.toks) { s with toks:=s.toks+1 }->wpAny (model X.prog X.w) X.A (f (.int i t)) Q E s) :
  UnR X f (rU λ i=>.int (g i)):=by
 intro pins s σ H x v Q I rx h;obtain⟨i,rfl,q⟩:=Db h;obtain⟨t,rfl⟩:=rx;exact rule i t s _ _ ⟨.int (g i),H,I.tok _,⟨_,O⟩,q⟩
def Ea:UnR X (unaryOp .USub) (rU λ i=>.int (-i)):=unI λ _ _ _ _ _ q=>neg_int q
end
noncomputable def bV:V->V->Bool
 |.non,.non=>true|.non,.int _=>true|.int _,.non=>true|.non,.bl _=>true|.bl _,.non=>true|.non,.str _=>true|.str _,.non=>true
 |.int _,.int _=>true|.bl _,.bl _=>true|.str _,.str _=>true|.byt _,.byt _=>true
 |.int _,.str _=>true|.str _,.int _=>true|.bl _,.str _=>true|.str _,.bl _=>true
 |_,_=>false
noncomputable def rEq:R2:=λ x y H Q=>match x,y with
 |.int i,.int j=>Q (.bl (decide (i=j))) H
 |.str i,.str j=>Q (.bl (decide (i=j))) H
 |x,y=>bV x y=true/\Q (.bl (decide (x=y))) H
def dcI(i j:Int):decide (V.int i=V.int j)=decide (i=j):=rV.mpr ⟨λ h=>V.int.inj h,λ h=>h ▸ rfl⟩
def dcS(i j:Str):decide (V.str i=V.str j)=decide (i=j):=rV.mpr ⟨λ h=>V.str.inj h,λ h=>h ▸ rfl⟩
def oV(p:Prop):p=(true=true/\p):=propext ⟨λ h=>⟨rfl,h⟩,λ h=>h.2⟩
def rEq_ex:rEq x y H Q=(bV x y=true/\Q (.bl (decide (x=y))) H):=by
 cases x<;>cases y<;>first|rfl|(rw[dcI];exact oV _)|(rw[dcS];exact oV _)
def Eb(h:rEq x y H Q):bV x y=true/\Q (.bl (decide (x=y))) H:=rEq_ex.mp h
noncomputable def rNe:R2:=λ x y H Q=>match x,y with
 |.int i,.int j=>Q (.bl (!decide (i=j))) H
 |.str i,.str j=>Q (.bl (!decide (i=j))) H
 |x,y=>bV x y=true/\Q (.bl (!decide (x=y))) H
def rNe_ex:rNe x y H Q=(bV x y=true/\Q (.bl (!decide (x=y))) H):=by
 cases x<;>cases y<;>first|rfl|(rw[dcI];exact oV _)|(rw[dcS];exact oV _)
def Ec(h:rNe x y H Q):bV x y=true/\Q (.bl (!decide (x=y))) H:=rNe_ex.mp h
def vA:decide (V.int i=V.int j)=(i == j):=by
 rw[oW];simp
def vB:decide (V.bl i=V.bl j)=(i == j):=by
 rw[oW];simp
def vC:decide (V.str i=V.str j)=(i == j):=by
 rw[oW];simp
def vD:decide (V.byt i=V.byt j)=(i.toList == j.toList):=by
 rw[oW];cases i;cases j;simp
section
variable {a b c:Expr}{ta tb tc:TE}{pos:Pos}
def bA{Q:VK}{k k':Bool}(I:Inv X pins σ H s)(q:Q (.bl k) H)(e:k=k'):EP X pins σ Q (.bool k') s:=by
 subst e;exact⟨.bl k,H,I,O,q⟩
def fD:OpR X (compareOp .Eq) rEq:=by
 intro pins s σ H x y v u Q I rx ry h;obtain⟨hs,q⟩:=Eb h
 cases x with
 |non=>
  cases rx
  cases y with
  |non=>cases ry;exact PySem.EqNone.eq_none_none (bA I q on)
  |bl j=>cases ry;exact PySem.EqNone.eq_none_bool (bA I q on)
  |int j=>obtain⟨t',rfl⟩:=ry;exact PySem.EqNone.eq_none_int (bA I q on)
  |str j=>obtain⟨t',rfl⟩:=ry;exact PySem.EqNone.eq_none_str (bA I q on)
  |_=>exact absurd (show false=true from hs) cj
 |bl i=>
  cases rx
  cases y with
  |non=>cases ry;exact PySem.EqNone.eq_bool_none (bA I q on)
  |bl j=>cases ry;exact eq_bool (bA I q vB)
  |str j=>obtain⟨t',rfl⟩:=ry;exact PySem.EqMixed.eq_bool_str (bA I q on)
  |_=>exact absurd (show false=true from hs) cj
 |int i=>
  obtain⟨t,rfl⟩:=rx
  cases y with
  |non=>cases ry;exact PySem.EqNone.eq_int_none (bA I q on)
  |int j=>obtain⟨t',rfl⟩:=ry;exact eq_int (bA I q vA)
  |str j=>obtain⟨t',rfl⟩:=ry;exact PySem.EqMixed.eq_int_str (bA I q on)
  |_=>exact absurd (show false=true from hs) cj
 |str i=>
  obtain⟨t,rfl⟩:=rx
  cases y with
  |non=>cases ry;exact PySem.EqNone.eq_str_none (bA I q on)
  |bl j=>cases ry;exact PySem.EqMixed.eq_str_bool (bA I q on)
  |int j=>obtain⟨t',rfl⟩:=ry;exact PySem.EqMixed.eq_str_int (bA I q on)
  |str j=>obtain⟨t',rfl⟩:=ry;exact eq_str (bA I q vC)
  |_=>exact absurd (show false=true from hs) cj
 |byt i=>
  obtain⟨t,rfl⟩:=rx
  cases y with
  |byt j=>obtain⟨t',rfl⟩:=ry;exact W.eq_bytes (bA I q vD)
  |_=>exact absurd (show false=true from hs) cj
 |_=>cases y<;>exact absurd (show false=true from hs) cj
def fF:OpR X (compareOp .NotEq) rNe:=by
 intro pins s σ H x y v u Q I rx ry h;obtain⟨hs,q⟩:=Ec h
 cases x with
 |non=>
  cases rx
  cases y with
  |non=>cases ry;exact PySem.EqNone.ne_none_none (bA I q on)
  |bl j=>cases ry;exact PySem.EqNone.ne_none_bool (bA I q on)
  |int j=>obtain⟨t',rfl⟩:=ry;exact PySem.EqNone.ne_none_int (bA I q on)
  |str j=>obtain⟨t',rfl⟩:=ry;exact PySem.EqNone.ne_none_str (bA I q on)
  |_=>exact absurd (show false=true from hs) cj
 |bl i=>
  cases rx
  cases y with
  |non=>cases ry;exact PySem.EqNone.ne_bool_none (bA I q on)
  |bl j=>cases ry;exact ne_bool (bA I q (bE not vB))
  |str j=>obtain⟨t',rfl⟩:=ry;exact PySem.EqMixed.ne_bool_str (bA I q on)
  |_=>exact absurd (show false=true from hs) cj
 |int i=>
  obtain⟨t,rfl⟩:=rx
  cases y with
  |non=>cases ry;exact PySem.EqNone.ne_int_none (bA I q on)
  |int j=>obtain⟨t',rfl⟩:=ry;exact ne_int (bA I q (bE not vA))
  |str j=>obtain⟨t',rfl⟩:=ry;exact PySem.EqMixed.ne_int_str (bA I q on)
  |_=>exact absurd (show false=true from hs) cj
 |str i=>
  obtain⟨t,rfl⟩:=rx
  cases y with
  |non=>cases ry;exact PySem.EqNone.ne_str_none (bA I q on)
  |bl j=>cases ry;exact PySem.EqMixed.ne_str_bool (bA I q on)
  |int j=>obtain⟨t',rfl⟩:=ry;exact PySem.EqMixed.ne_str_int (bA I q on)
  |str j=>obtain⟨t',rfl⟩:=ry;exact ne_str (bA I q (bE not vC))
  |_=>exact absurd (show false=true from hs) cj
 |byt i=>
  obtain⟨t,rfl⟩:=rx
  cases y with
  |byt j=>obtain⟨t',rfl⟩:=ry;exact W.ne_bytes (bA I q (bE not vD))
  |_=>exact absurd (show false=true from hs) cj
 |_=>cases y<;>exact absurd (show false=true from hs) cj
def Ed:OpR X (compareOp .Lt) (rI0 λ i j=>.bl (decide (i<j))):=oU λ _ _ _ _ _ _ _ q=>lt_int q
def Ee:OpR X (compareOp .LtE) (rI0 λ i j=>.bl (decide (i<=j))):=oU λ _ _ _ _ _ _ _ q=>le_int q
def Ef:OpR X (compareOp .Gt) (rI0 λ i j=>.bl (decide (j<i))):=oU λ _ _ _ _ _ _ _ q=>gt_int q
def Eg:OpR X (compareOp .GtE) (rI0 λ i j=>.bl (decide (j<=i))):=oU λ _ _ _ _ _ _ _ q=>ge_int q
def Eh:OpR X (compareOp .Is) (λ x y H Q=>y=.non/\Q (.bl (decide (x=.non))) H):=by
 intro pins s σ H x y v u Q I rx ry h;obtain⟨rfl,q⟩:=h;cases ry;refine is_none_gen (bA I q ?_)
 cases x<;>first
  |(cases rx;rfl)
  |(obtain⟨t,rfl⟩:=rx;rfl)
def Ei:OpR X (compareOp .IsNot) (λ x y H Q=>y=.non/\Q (.bl (!decide (x=.non))) H):=by
 intro pins s σ H x y v u Q I rx ry h;obtain⟨rfl,q⟩:=h;cases ry;refine isnot_none_gen (bA I q ?_)
 cases x<;>first
  |(cases rx;rfl)
  |(obtain⟨t,rfl⟩:=rx;rfl)
def Ej(ho:OpR X (compareOp op) r)(ha:PE X a ta)(hb:PE X b tb)(hm:behindInMarks op b=false):PE X (.Compare a [op] [b] pos) (tOp r ta tb):=by
 intro pins s σ H Q I h;exact wpAny_Compare1 (rQ ha hb I h λ v u s2 x y H2 I2 rx ry q=>ho pins s2 σ H2 x y v u Q I2 rx ry q) hm
def vE(t:TE):TT:=λ σ H Q=>t σ H λ x H'=>isB x λ k=>Q k H'
def Ek(ho:OpR X (compareOp op) r)(ha:PE X a ta)(hb:PE X b tb)(hm:behindInMarks op b=false):PT X (.Compare a [op] [b] pos) (vE (tOp r ta tb)):=by
 intro pins s σ H Q I h
 refine wpAny_isTrue_Compare1 (thn (ha pins s σ H _ I h) λ v s1 ⟨x,H1,I1,r1,q1⟩=>thn (hb pins s1 σ H1 _ I1 q1) λ u s2 ⟨y,H2,I2,r2,q2⟩ =>
  thn (ho pins s2 σ H2 x y v u _ I2 r1 r2 q2) λ c s3 ⟨z,H3,I3,r3,q3⟩=>?_) hm
 obtain⟨k,e,q3⟩:=kY q3;subst e;cases r3;exact gM ⟨H3,I3,q3⟩
noncomputable def vF(r r':R2)(ta tb tc:TE):TE:=λ σ H Q=>ta σ H λ x H1=>tb σ H1 λ y H2=>r x y H2 λ z H3=>∃k,z=.bl k /\
 (if k=true then tc σ H3 λ w' H4=>r' y w' H4 Q else Q (.bl false) H3)
theorem El(ho:OpR X (compareOp op) r)(ho':OpR X (compareOp op') r')(ha:PE X a ta)(hb:PE X b tb)(hc:PE X c tc)
  (hm:lastMarks [op,op'] [b,c]=false:=by with_unfolding_all rfl):PE X (.Compare a [op,op'] [b,c] pos) (vF r r' ta tb tc):=by
 intro pins s σ H Q I h
 refine Compare_chain (thn (ha pins s σ H _ I h) λ v s1 ⟨x,H1,I1,r1,q1⟩=>chain_link (thn (hb pins s1 σ H1 _ I1 q1) λ u s2 ⟨y,H2,I2,r2,q2⟩ =>
  thn (ho pins s2 σ H2 x y v u _ I2 r1 r2 q2) λ d s3 ⟨z,H3,I3,r3,k,e,q3⟩=>?_)) hm
 subst e;cases r3;refine gM ?_
 cases k with
 |false=>exact ite_ff ⟨.bl false,H3,I3,rfl,q3⟩
 |true=>exact ite_tt (chain_last (thn (hc pins s3 σ H3 _ I3 q3) λ w' s4 ⟨z',H4,I4,r4,q4⟩=>ho' pins s4 σ H4 y z' u w' Q I4 r2 r4 q4))
theorem Em(ho:OpR X (compareOp op) r)(ho':OpR X (compareOp op') r')(ha:PE X a ta)(hb:PE X b tb)(hc:PE X c tc)
  (hm:lastMarks [op,op'] [b,c]=false:=by with_unfolding_all rfl):PT X (.Compare a [op,op'] [b,c] pos) (vE (vF r r' ta tb tc)):=by
 intro pins s σ H Q I h
 refine isTrue_chain (thn (ha pins s σ H _ I h) λ v s1 ⟨x,H1,I1,r1,q1⟩=>test_link (thn (hb pins s1 σ H1 _ I1 q1) λ u s2 ⟨y,H2,I2,r2,q2⟩ =>
  thn (ho pins s2 σ H2 x y v u _ I2 r1 r2 q2) λ d s3 ⟨z,H3,I3,r3,k,e,q3⟩=>?_)) hm
 subst e;cases r3;refine gM ?_
 cases k with
 |false=>
  obtain⟨k',e',q'⟩:=kY (show isB (V.bl false) (λ k=>Q k H3) from q3);cases e';exact ite_ff ⟨H3,I3,q'⟩
 |true=>
  refine ite_tt (test_last (thn (hc pins s3 σ H3 _ I3 q3) λ w' s4 ⟨z',H4,I4,r4,q4⟩=>thn (ho' pins s4 σ H4 y z' u w' _ I4 r2 r4 q4) λ d' s5 ⟨z2,H5,I5,r5,q5⟩=>?_));obtain⟨k2,e2,q5⟩:=kY q5;subst e2;cases r5;exact gM ⟨H5,I5,q5⟩
def lj:(sizeLine:Nat)<2 ^ 63:=by rw[mX];decide
def cS{x:V}(r:Vals [x] us):∃u,us=[u]/\RelV x u:=by
 cases r with
 |cons r1 r2=>cases r2;exact⟨_,rfl,r1⟩
def mY{x y:V}(r:Vals [x,y] us):∃u w',us=[u,w']/\RelV x u/\RelV y w':=by
 cases r with
 |cons r1 r2=>
  cases r2 with
  |cons r3 r4=>cases r4;exact⟨_,_,rfl,r1,r3⟩
def Eo:cF X (.builtin "abs") (λ xs H Q=>∃i,xs=[.int i]/\Q (.int (if i<0 then -i else i)) H):=by
 intro pins s σ H xs us Q I r h;obtain⟨i,rfl,q⟩:=h;obtain⟨u,rfl,t,rfl⟩:=cS r;exact call_abs_int λ u tk=>⟨.int (if i<0 then -i else i),H,I.tok _,⟨_,O⟩,q⟩
def Ep(hc:X.calm=true):cF X (.builtin "max") (λ xs H Q=>∃i j,xs=[.int i,.int j]/\Q (.int (if j > i then j else i)) H):=by
 intro pins s σ H xs us Q I r h;obtain⟨i,j,rfl,q⟩:=h;obtain⟨u,w',rfl,⟨t,rfl⟩,⟨t',rfl⟩⟩:=mY r;refine max_two_ints (I.ok.hd hc) λ h' tk k=>⟨_,H,I.kept k,?_,q⟩;by_cases hj:j > i
 ·rw[if_pos hj,if_pos hj];exact⟨_,rfl⟩
 ·rw[if_neg hj,if_neg hj];exact⟨_,rfl⟩
def Er(hc:X.calm=true):cF X (.builtin "min") (λ xs H Q=>∃i j,xs=[.int i,.int j]/\Q (.int (if j<i then j else i)) H):=by
 intro pins s σ H xs us Q I r h;obtain⟨i,j,rfl,q⟩:=h;obtain⟨u,w',rfl,⟨t,rfl⟩,⟨t',rfl⟩⟩:=mY r;refine min_two_ints (I.ok.hd hc) λ h' tk k=>⟨_,H,I.kept k,?_,q⟩;by_cases hj:j<i
 ·rw[if_pos hj,if_pos hj];exact⟨_,rfl⟩
 ·rw[if_neg hj,if_neg hj];exact⟨_,rfl⟩
def vG:cF X (.type "int") (λ xs H Q=>(∃i,xs=[.int i]/\Q (.int i) H)\/∃k,xs=[.bl k]/\Q (.int (if k then 1 else 0)) H):=by
 intro pins s σ H xs us Q I r h
 rcases h with ⟨i,rfl,q⟩|⟨k,rfl,q⟩
 ·obtain⟨u,rfl,t,rfl⟩:=cS r;exact call_int_int ⟨.int i,H,I,⟨_,O⟩,q⟩
 ·obtain⟨u,rfl,r1⟩:=cS r;cases r1;exact call_int_bool ⟨.int (if k then 1 else 0),H,I.tok _,⟨_,O⟩,q⟩
end
structure ObjM (h:Heap)(x dx C:Addr)(mA:SV):Prop where
 obj:h.get? x=some (W.instObj C dx)
 ns:h.Ns1 dx mA
 ne:dx≠x
section
variable {prog:Program}{w:World}{A:Around}{E:VS}{s:Shared}{K:FG}{x dx C f:Addr}{mA:SV}{name:Str}{v:Value}
end
section
variable {P:Program}{w:World}{H H':Hp}{h h':Heap}{a C dx:Addr}{fs fs':List (Str×V)}
def vH(hok:HOk P w H h)(e:H a=some (.ins C dx fs)):∃mA,ObjM h a dx C mA/\(∀f,rC (fs.lookup f) (mA f))/\PySem.Within mA (fs.map (·.1))/\fs.length<=1000/\H dx=some (.own a):=by
 obtain⟨d,z,ne,ob,mA,n,r,q⟩:=(show ObjOk P w H h a (.ins C dx fs) from hok a _ e);exact⟨mA,⟨ob,n,ne⟩,r,q,z,d⟩
end
section
variable {pins:LO}{σ:St}{H:Hp}{s:Shared}{a C dx:Addr}{fs:List (Str×V)}{f:Str}{v:V}{A:Around}{E:VS}
end
section
variable {o e value:Expr}{f:Str}{pos pos' tpos:Pos}{ta tv:TE}
end
section
variable {pins:LO}{σ:St}{H:Hp}{s:Shared}{A:Around}{E:VS}{Q:VS}{c:Value}{b:Bool}
end
structure Room (k:Nat)(A:Around):Prop where
 hd:A.handled=none
 dp:A.depth+3*k+5<recursionLimit
 un:A.units+16*k+200<cLine
def Room.mono{j k:Nat}(r:Room k A)(h:j<=k):Room j A:=⟨r.hd,by have:=r.dp;lia,by have:=r.un;lia⟩
def Room.deeper{k:Nat}(r:Room (k+1) A)(env:Env):Room k (A.deeper env) :=
 ⟨r.hd,by have:=r.dp;show A.depth+1+3*k+5<_;lia,by have:=r.un;show A.units+3+16*k+200<_;lia⟩
def Room.depth(r:Room k A):A.depth<recursionLimit:=by have:=r.dp;lia
def rX:TA:=λ _ H Q=>Q [] H
noncomputable def oX(ta:TE)(tr:TA):TA:=λ σ H Q=>ta σ H λ x H1=>tr σ H1 λ xs H2=>Q (x::xs) H2
section
variable {e:Expr}{es:List Expr}{te:TE}{t:TA}{pos:Pos}
def pa_nil:PA X [] rX:=λ _ _ _ _ H Q I h=>rY ⟨[],H,I,.nil,h⟩
def cL(ha:PE X e te)(hr:PA X es t)(hs:starEach (e::es) X.env=(false,eval e X.env)::starEach es X.env:=by rfl):PA X (e::es) (oX te t):=by
 intro pos pins s σ H Q I h;rw[hs];show wpAny _ _ (spliced ((false,eval e X.env)::backTo pos (starEach es X.env))) _ _ s;refine rZ (thn (ha pins s σ H _ I h) λ u s1 ⟨x,H1,I1,r1,q1⟩=>?_);exact thn (hr pos pins s1 σ H1 _ I1 q1) λ us s2 ⟨xs,H2,I2,r2,q2⟩=>⟨x::xs,H2,I2,.cons r1 r2,q2⟩
noncomputable def Es(t:TA):TE:=λ σ H Q=>t σ H λ xs H1=>xs.length<=sizeLine/\∀p,H1 p=none->Q (.ref p) (upd H1 p (.tup xs))
noncomputable def Et(t:TA):TE:=λ σ H Q=>t σ H λ xs H1=>xs.length<=sizeLine/\∀p,H1 p=none->Q (.ref p) (upd H1 p (.lst xs))
def vI{x1}(h:PA X es t):PE X (.Tuple es x1 pos) (Es t):=by
 intro pins s σ H Q I hq;refine wpAny_Tuple_spliced (thn (h pos pins s σ H _ I hq) λ us s1 ⟨xs,H1,I1,r,z,q⟩=>⟨by rw[<- r.length];exact z,?_⟩);have hf:H1 s1.heap.objs.size=none:=I1.hok.fresh (ay _);refine⟨.ref s1.heap.objs.size,upd H1 s1.heap.objs.size (.tup xs),I1.laid (t':=s1.toks) (λ b u e=>aI _ e) (ay _) ?_,O,q _ hf⟩;exact⟨z,us,r,⟨_,be _ rfl,⟨O,_,O⟩,O⟩⟩
def Eu(h:PA X es t):PE X (.List es pos) (Et t):=by
 intro pins s σ H Q I hq;refine wpAny_List_spliced (thn (h pos pins s σ H _ I hq) λ us s1 ⟨xs,H1,I1,r,z,q⟩=>⟨by rw[<- r.length];exact z,?_⟩);have hf:H1 s1.heap.objs.size=none:=I1.hok.fresh (ay _);refine⟨.ref s1.heap.objs.size,upd H1 s1.heap.objs.size (.lst xs),I1.laid (t':=s1.toks) (λ b u e=>aI _ e) (ay _) ?_,O,q _ hf⟩;exact⟨z,us,0,r,be _ rfl⟩
end
abbrev Sp:=List V->Hp->VK->XK->Prop
abbrev CXT:=List Env->Hp->Shared->XK->VS
structure Env0 (P:Program)(w:World)(K:FG)(mg:SV)(base:Heap)(A:Around)(outer:List Env)(s:Shared)(H:Hp):Prop where
 frames:A.frames=some outer
 mod:Mod K mg base
 bs:∀b o,base.get? b=some o->s.heap.get? b=some o/\H b=none
 bsz:base.objs.size<=s.heap.objs.size
 funs:s.heap.FunFrames base outer
 frf:∀b∈frs outer,H b=none
 hok:HOk P w H s.heap
 bare:AllBare s.gens
noncomputable def CE(outer:List Env)(P:Program)(w:World)(H:Hp)(s:Shared)(Q:VK)(u:Value)(s':Shared):Prop :=
 ∃v H',s'.os=s.os/\AllBare s'.gens/\Un (frs outer) [] H H' s.heap s'.heap/\HOk P w H' s'.heap/\RelV v u/\Q v H'
noncomputable def CR(CX:CXT)(outer:List Env)(P:Program)(w:World)(H:Hp)(s:Shared)(Q:VK)(E:XK)(r:Result)(s':Shared):Prop :=
 match r with
 |.ok (.ret u)=>CE outer P w H s Q u s'
 |.ok _=>False
 |.error e=>CX outer H s E e s'
structure FnOk (P:Program)(w:World)(K:FG)(mg:SV)(base:Heap)(CX:CXT)(k:Nat)(f:Addr)(fd:FuncData)(ps:List Str)(sp:Sp):Prop where
 len:∀vs H Q E,sp vs H Q E->vs.length=ps.length
 run:∀(A:Around) (outer:List Env) (s:Shared) (H:Hp) (args:Args) (us:LV) (vs:List V) (Q:VK) (E:XK),Room k A->Env0 P w K mg base A outer s H->BindsTo s fd args (ps.zip us)->Vals vs us->sp vs H Q E ->
  codeAny (model P w) A (.call (.ref f) args) (CR CX outer P w H s Q E) s
theorem FnOk.mono{K:FG}{j k:Nat}(F:FnOk P w K mg base CX j f fd ps sp)(h:j<=k) :
  FnOk P w K mg base CX k f fd ps sp:=⟨F.len,λ A outer s H args us vs Q E hr=>F.run A outer s H args us vs Q E (hr.mono h)⟩
theorem FnOk.imp{K:FG}{sp sp':Sp}(F:FnOk P w K mg base CX k f fd ps sp)
  (h:∀vs H Q E,sp' vs H Q E->sp vs H Q E):FnOk P w K mg base CX k f fd ps sp' :=
 ⟨λ vs H Q E q=>F.len vs H Q E (h _ _ _ _ q),λ A outer s H args us vs Q E hr he hb hv hs=>F.run A outer s H args us vs Q E hr he hb hv (h _ _ _ _ hs)⟩
section
variable {pins:LO}{σ:St}{H:Hp}{s s':Shared}
def Inv.env0(I:Inv X pins σ H s):Env0 X.prog X.w X.K X.mg X.base X.A X.stack s H :=
 ⟨I.ok.frames,I.ok.mod,I.bs,dg I.ok.bsz I.sz,I.stack,I.stkFree,I.hok,I.bare⟩
def Inv.after(I:Inv X pins σ H s)(h:CE X.stack X.prog X.w H s Q u s'):EP X pins σ Q u s':=by
 obtain⟨v,H',os,bare,un,hok,r,q⟩:=h;obtain⟨hh,g,d,t,os'⟩:=s';obtain rfl:os'=s.os:=os;exact⟨v,H',I.call (h':=hh) (g':=g) (d':=d) (t':=t) (ch:=[]) un hok bare (λ b z=>absurd z on),r,q⟩
end
noncomputable def vJ(sp:Sp)(dvs:List V)(E:XK)(t:TA):TE:=λ σ H Q=>t σ H λ vs H1=>sp (vs++dvs) H1 Q E
noncomputable def Binds(K:FG)(fd:FuncData)(ps:List Str)(ds:LV):Prop :=
 ∀(s:Shared) (us:LV),K.In s.heap->(us++ds).length=ps.length->BindsTo s fd ⟨us,[]⟩ (ps.zip (us++ds))
def Binds.all{K:FG}{ps:List Str}(h:∀us:LV,us.length=ps.length->bindArgs fd ⟨us,[]⟩=pure (ps.zip us)):Binds K fd ps []:=λ s us _ hl=>by
 rw[fG] at hl ⊢;exact .of_eq (h us hl)
noncomputable def oY(CX:CXT)(X:Cx)(E:XK):Prop:=∀(pins:LO) (σ:St) (H:Hp) (s:Shared) (e:Value) (s':Shared),Inv X pins σ H s->CX X.stack H s E e s'->X.xe e s'
section
variable {CX:CXT}{k:Nat}{f C:Addr}{fd:FuncData}{ps:List Str}{sp:Sp}{dvs:List V}{ds:LV}{E:XK}{x m:Str}{p pos apos:Pos}{e o:Expr}{es:List Expr}{ta:TE}{t:TA}
theorem Ev{vs:List V}(F:FnOk X.prog X.w X.K X.mg X.base CX k f fd ps sp)(hr:Room k X.A)(hb:Binds X.K fd ps ds)(hd:Vals dvs ds)(hx:oY CX X E)
  (I:Inv X pins σ H s) (r:Vals vs us) (h:sp (vs++dvs) H Q E):wpAny (model X.prog X.w) X.A (call (.ref f) us) (EP X pins σ Q) X.xe s:=by
 have r2:Vals (vs++dvs) (us++ds):=r.append hd;have hl:(us++ds).length=ps.length:=by rw[<- r2.length];exact F.len _ _ _ _ h
 refine wpAny_call (mZ (F.run X.A X.stack s H ⟨us,[]⟩ (us++ds) (vs++dvs) Q E hr I.env0 (hb s us I.kIn hl) r2 h) λ r s' hq=>?_)
 cases r with
 |error e=>exact hx pins σ H s e s' I hq
 |ok fl=>
  cases fl with
  |ret u=>exact I.after hq
  |next=>exact False.elim hq
  |brk=>exact False.elim hq
  |cont=>exact False.elim hq
theorem Ew(F:FnOk X.prog X.w X.K X.mg X.base CX k f fd ps sp)(hr:Room k X.A)(hg:Gl X x)(hm:X.mg x=some (.ref f))(hk:W.keepIn X.K (.ref f)=true)(hb:Binds X.K fd ps ds)(hd:Vals dvs ds)(hx:oY CX X E)
  (ha:PA X (e::es) t) (hdb:(x == ("__debug__" : Str))=false:=by decide) (he:starEach (e::es) X.env=(false,eval e X.env)::starEach es X.env:=by rfl) (hpl:(backTo pos (starEach es X.env)).any (·.1)=false:=by rfl) :
  PE X (.Call (.Name x p) (e::es) [] pos) (vJ sp dvs E t):=by
 intro pins s σ H Q I h;refine lu (oP I hg hm ?_ hdb);refine W.callWith_K (h₀:=X.base) I.ok.mod.kin hk (thn (ha pos pins s σ H _ I h) λ us s1 ⟨vs,H1,I1,r,q⟩=>⟨I1.kIn,?_⟩) he hpl;exact Ev F hr hb hd hx I1 r q
end
section
variable {CX:CXT}{k:Nat}{f C:Addr}{fd:FuncData}{ps ks:List Str}{sp:Sp}{E:XK}{x m:Str}{p pos apos kpos:Pos}{e o:Expr}{es:List Expr}{kws:List Keyword}{te ta:TE}{t tk:TA}{nm:Option Str}
variable {g:LV->LV->LV}{gV:List V->List V->List V}
end
structure FnScope (N P:List Str)(sc:Scope):Prop where
 kind:sc.kind=.function
 co:sc.isCoroutine=false
 gen:sc.isGenerator=false
 nd:N.Nodup
 pre:N.take P.length=P
 par:∀x∈P,sc.names.lookup x=some .local\/sc.names.lookup x=some .cell
 nofree:∀y∈sc.names,y.2≠.free
theorem vK{kindOf:Str->Option NameKind}{x:Str}:∀ {binds:List (Str×Value)}{m:SV},(∀v,(x,v) ∉ binds)->bindL kindOf binds m x=m x
 |[],_,_=>rfl
 |(n,v)::r,m,h=>by
  unfold bindL;rw[vK λ w hw=>h w (aE _ hw)];split
  ·have:x≠n:=by rintro rfl;exact h v bo
   simp[this]
  ·rfl
theorem vL{kindOf:Str->Option NameKind}{x:Str}:∀ {binds:List (Str×Value)}{m:SV},(∀v,(x,v) ∉ binds)->bindC kindOf binds m x=m x
 |[],_,_=>rfl
 |(n,v)::r,m,h=>by
  unfold bindC;rw[vL λ w hw=>h w (aE _ hw)];split
  ·rfl
  ·have:x≠n:=by rintro rfl;exact h v bo
   simp[this]
theorem se{kindOf:Str->Option NameKind}:∀ {P:List Str}{vs:LV}{i:Nat}{m:SV},P.Nodup->P[i]?=some x->vs[i]?=some v->kindOf x=some .local ->
  bindL kindOf (P.zip vs) m x=some v
 |[],_,_,_,_,h,_,_=>by simp at h
 |_::_,[],_,_,_,_,h,_=>by simp at h
 |p::P,w::vs,0,m,nd,h1,h2,hk=>by
  simp at h1 h2;subst h1;subst h2;show bindL kindOf ((p,w)::P.zip vs) m p=_;unfold bindL;rw[vK λ v hv=>(hW.mp nd).1 (lw hv).1,if_pos hk];simp
 |p::P,w::vs,i+1,m,nd,h1,h2,hk=>by
  show bindL kindOf ((p,w)::P.zip vs) m x=_;unfold bindL;exact se (i:=i) (hW.mp nd).2 (by simpa using h1) (by simpa using h2) hk
theorem sg{kindOf:Str->Option NameKind}:∀ {P:List Str}{vs:LV}{i:Nat}{m:SV},P.Nodup->P[i]?=some x->vs[i]?=some v->kindOf x≠some .local ->
  bindC kindOf (P.zip vs) m x=some v
 |[],_,_,_,_,h,_,_=>by simp at h
 |_::_,[],_,_,_,_,h,_=>by simp at h
 |p::P,w::vs,0,m,nd,h1,h2,hk=>by
  simp at h1 h2;subst h1;subst h2;show bindC kindOf ((p,w)::P.zip vs) m p=_;unfold bindC;rw[vL λ v hv=>(hW.mp nd).1 (lw hv).1,if_neg hk];simp
 |p::P,w::vs,i+1,m,nd,h1,h2,hk=>by
  show bindC kindOf ((p,w)::P.zip vs) m x=_;unfold bindC;exact sg (i:=i) (hW.mp nd).2 (by simpa using h1) (by simpa using h2) hk
noncomputable def start(N:List Str)(vs:List V):St:=vs.map some++List.replicate (N.length-vs.length) none
noncomputable def dB(CX:CXT)(P:Program)(w:World)(K:FG)(mg:SV)(base:Heap)(N:List Str)(qual:Str)(scope:Scope)(f:Addr)(cd:Value)(A:Around)(outer:List Env)(s:Shared)(H:Hp)(E:XK):Cx where
 prog:=P
 w:=w
 K:=K
 mg:=mg
 base:=base
 A:=A.deeper (envOfC qual scope s.heap.objs.size f cd)
 N:=N
 s₀:=s
 H₀:=H
 env:=envOfC qual scope s.heap.objs.size f cd
 outer:=outer
 stack:=envOfC qual scope s.heap.objs.size f cd::outer
 ex:=[]
 calm:=true
 fn:=λ _=>true
 pn:=[]
 xe:=λ e s'=>wpAny (model P w) (A.deeper (envOfC qual scope s.heap.objs.size f cd)) (leaving (envOfC qual scope s.heap.objs.size f cd) e) (λ _ s''=>CX outer H s E e s'') (λ e' s''=>CX outer H s E e' s'') s'
def nc{sc:Scope}(h:sc.names.lookup x=some .cell):∃c,(cellsFrom n sc.names []).lookup x=some c:=by
 have q:=lx sc.names n [] (.inl h);exact ly.mp q
theorem Ex{K:FG}{A:Around}{s s1:Shared}{vs:List V}
  (S:FnScope N ps scope) (hd:A.handled=none) (e0:Env0 P w K mg base A outer s H) (hl:vs.length=ps.length) (r:Vals vs us)
  (x:InCallC s s.heap.objs.size (bindL (envOfC qual scope s.heap.objs.size f cd).kindOf (ps.zip us) λ _=>none) (cellsFrom (s.heap.objs.size+1) scope.names []) (bindC (envOfC qual scope s.heap.objs.size f cd).kindOf (ps.zip us) λ _=>none) s1) :
  Inv (dB CX P w K mg base N qual scope f cd A outer s H E) [] (start N vs) H s1:=by
 have hpl:ps.length<=N.length:=by have:=bE List.length S.pre;rw[bd] at this;lia
 obtain⟨h1,tk,rfl,hk⟩:=x.done;have noA:∀b:Addr,b ∉ (dB CX P w K mg base N qual scope f cd A outer s H E).ex:=λ b z=>absurd (show b∈([]:List Addr) from z) on
 refine⟨⟨e0.mod,S.kind,O,O,ay _,λ y z c h1 h2=>?_,λ y hy=>?_,λ y c _ h=>?_,λ _=>hd,s0g e0.frames,.inr ⟨O,O⟩,λ b z=>absurd z (noA b),e0.bs,e0.bsz,λ b _ _=>noA b,λ b z=>absurd z (noA b),e0.funs,e0.frf⟩,
  rfl,e0.bare,Un.kept hk,⟨_,x.toInCall.ns,λ i y v h1 h2 h3=>?_⟩,λ y c h=>⟨_,x.cell y c h⟩,e0.hok.fresh (ay _),λ y c h=>?_,λ p hp=>absurd (show p∈([]:LO) from hp) on,e0.hok.kept hk,?_⟩
 ·exact oZ x.apart (dW h1) (dW h2)
 ·have hy:scope.names.lookup y=some .cell\/scope.names.lookup y=some .free:=hy
  rcases hy with hy|hy
  ·exact nc hy
  ·exact absurd rfl (S.nofree _ (dW hy))
 ·exact dN (x.above y c (dW h))
 ·have hi:i<vs.length:=by
   unfold start at h2;by_cases hi:i<vs.length
   ·exact hi
   ·rw[dn (by simpa using hi)] at h2;rw[lB] at h2;split at h2<;>cases h2
  have ha:vs[i]?=some v:=by
   unfold start at h2;rw[eR (by simpa using hi),aQ] at h2
   cases e:vs[i]? with
   |none=>rw[e] at h2;cases h2
   |some a=>rw[e] at h2;cases h2;rfl
  obtain⟨u,hu,rv⟩:=r.get ha
  have hp:ps[i]?=some y:=by
   rw[<- S.pre,ng ca];exact h1
  have ndP:ps.Nodup:=by rw[<- S.pre];exact S.nd.sublist (List.take_sublist _ _)
  refine⟨u,rv,?_⟩
  rcases S.par y (aA hp) with k|k
  ·exact .inl ⟨k,se ndP hp hu k⟩
  ·obtain⟨c,e⟩:=nc (n:=s.heap.objs.size+1) k;refine .inr ⟨.inl k,c,e,?_⟩;have q:=x.cell y c e;rw[sg ndP hp hu (by show scope.names.lookup y≠_;rw[k];decide)] at q;exact q
 ·exact e0.hok.fresh (dN (x.above y c (dW h)))
 ·unfold start;show _=N.length;rw[aN,ao,hZ];lia
theorem vM{K:FG}{dV kV doc pm cdv ct oc:Value}{an od:OA}
  {osl:AV}{sp:Sp}(lk:K.lookup f=some ⟨oc,od,.func (W.fnOf name qual params body scope dV kV doc pm an cdv ct),osl⟩) (hcd:W.codeIn K cdv qual=true) (S:FnScope N ps scope)
  (len:∀vs H Q E,sp vs H Q E->vs.length=ps.length)
  (hbody:∀(A:Around) (outer:List Env) (s:Shared) (H:Hp) (vs:List V) (Q:VK) (E:XK),Room k (A.deeper (envOfC qual scope s.heap.objs.size f cdv))->sp vs H Q E ->
   ∃t,PSs (dB CX P w K mg base N qual scope f cdv A outer s H E) body t/\t { nx:=λ _ H'=>Q .non H',rt:=Q } (start N vs) H) :
  FnOk P w K mg base CX (k+1) f (W.fnOf name qual params body scope dV kV doc pm an cdv ct) ps sp:=by
 refine⟨len,λ A outer s H args us vs Q E hr e0 hb r hsp=>?_⟩;have hl:=len _ _ _ _ hsp;have KX:K.In s.heap:=e0.mod.kin.keeps λ b o e=>(e0.bs b o e).1;have lim:s.heap.NoLimit:=e0.mod.nolimit.keeps λ b o e=>(e0.bs b o e).1
 have hkind:∀y∈ps.zip us,scope.names.lookup y.1=some .local\/(scope.names.lookup y.1=some .cell/\((cellsFrom (s.heap.objs.size+1) scope.names []).lookup y.1).isSome=true):=λ⟨n,v⟩ hy=>by
  rcases S.par n (lw hy).1 with q|q
  ·exact .inl q
  ·exact .inr ⟨q,lx _ _ _ (.inl q)⟩
 refine vN hr.depth (KX _ _ lk) rfl S.co S.gen rfl (W.codeRec_of KX hcd) (hb _ _ _ _ ?_);refine wpAny_newFunctionEnv_cells S.kind hkind λ env he s1 x=>?_;subst he;refine⟨lim.keeps x.toInCall.keep,codeAny_func ?_⟩;obtain⟨t,ht,hq⟩:=hbody A outer s H vs Q E (hr.deeper _) hsp;have I:Inv (dB CX P w K mg base N qual scope f cdv A outer s H E) [] (start N vs) H s1:=Ex S hr.hd e0 hl r x;refine cP (ht [] s1 (start N vs) H _ I hq) (λ fl s' hs=>?_) λ e s' hs=>hs
 have fin:∀ {σ':St}{H':Hp}{v:V}{u:Value},Inv (dB CX P w K mg base N qual scope f cdv A outer s H E) [] σ' H' s'->RelV v u->Q v H'->CE outer P w H s Q u s' :=
  λ {σ' H' v u} J rv q=>⟨v,H',J.os,J.bare,J.base,J.hok,rv,q⟩
 cases fl with
 |ret u=>
  obtain⟨v,σ',H',J,rv,q⟩:=hs;exact fin J rv q
 |next=>
  obtain⟨σ',H',J,q⟩:=hs;exact fin (v:=V.non) (u:=Value.none) J rfl q
 |brk=>
  obtain⟨_,_,_,q⟩:=hs;exact False.elim q
 |cont=>
  obtain⟨_,_,_,q⟩:=hs;exact False.elim q
section
variable {x:Str}{p pos:Pos}{e:Expr}{es:List Expr}{t:TA}{id T:String}{r:List V->Hp->VK->Prop}
noncomputable def tCB(r:List V->Hp->VK->Prop)(t:TA):TE:=λ σ H Q=>t σ H λ vs H1=>r vs H1 Q
theorem vO(hc:cF X (.builtin id) r)(hg:Gl X x)(hm:X.mg x=none)(hv:bootBuiltins x=some (.builtin id))(ha:PA X (e::es) t)(hn:x ≠ "__name__" := by decide)(hdb:(x == ("__debug__" : Str))=false:=by decide)
  (he:starEach (e::es) X.env=(false,eval e X.env)::starEach es X.env:=by rfl) (hpl:(backTo pos (starEach es X.env)).any (·.1)=false:=by rfl):PE X (.Call (.Name x p) (e::es) [] pos) (tCB r t):=by
 intro pins s σ H Q I h;refine lu (eN I hg hm hv ?_ hn hdb);exact PyProof.Rows.callWith_builtin1 (thn (ha pos pins s σ H _ I h) λ us s1 ⟨vs,H1,I1,r1,q1⟩=>hc pins s1 σ H1 vs us Q I1 r1 q1) he hpl
theorem pc(hc:cF X (.type T) r)(hg:Gl X x)(hm:X.mg x=none)(hv:bootBuiltins x=some (.type T))(ha:PA X (e::es) t)(hn:x ≠ "__name__" := by decide)(hdb:(x == ("__debug__" : Str))=false:=by decide)
  (he:starEach (e::es) X.env=(false,eval e X.env)::starEach es X.env:=by rfl) (hpl:(backTo pos (starEach es X.env)).any (·.1)=false:=by rfl):PE X (.Call (.Name x p) (e::es) [] pos) (tCB r t):=by
 intro pins s σ H Q I h;refine lu (eN I hg hm hv ?_ hn hdb);exact hV (thn (ha pos pins s σ H _ I h) λ us s1 ⟨vs,H1,I1,r1,q1⟩=>hc pins s1 σ H1 vs us Q I1 r1 q1) he hpl
end
end _L
namespace _H
open PySem PyProof.Rows
section
open PySem.SeqAt
open PySem.AutoSeq1 (wpAny_loadPart')
open PySem.MeetsSeq PySem.MeetsSeq2 PySem.MeetsSeq3
end
section
variable {prog:Program}{w:World}{A:Around}{E:VS}{s:Shared}
theorem cat_tup{vs ws:LV}{Q:VS}(ht:IsTup s.heap t vs.toArray)(hb:IsTup s.heap b ws.toArray)(hv:vs≠[])
  (h1:ws=[]->Q (.ref t) s) (h2:ws≠[]->Q (.ref s.heap.objs.size) { s with heap:=s.heap.push { cls:=.type "tuple",data:=.seq (vs++ws).toArray } })
  (hsz:vs.length+ws.length<=sizeLine):wpAny (model prog w) A (binaryOp .Add (.ref t) (.ref b)) Q E s:=by
 obtain⟨⟨cls,dd,data,sl⟩,ho,hc,n,hd⟩:=id ht;obtain⟨⟨cls2,dd2,data2,sl2⟩,ho2,hc2,n2,hd2⟩:=id hb;simp only at hc hd hc2 hd2;subst hc hd hc2 hd2;have e:vs.toArray++ws.toArray=(vs++ws).toArray:=on;by_cases hw:ws=[]
 ·exact pd ⟨_,ho,O⟩ ⟨_,ho2,O⟩ sh s1b si sj (su _ _)
   (tuple_addW1 t b vs.toArray ws.toArray n n2 dd dd2 sl sl2 (by simpa using hv) (by simp[hw])) ⟨ho,ho2,h1 hw⟩
 ·refine pd ⟨_,ho,O⟩ ⟨_,ho2,O⟩ sh s1b si sj (su _ _)
   (tuple_addW2 t b vs.toArray ws.toArray n n2 dd dd2 sl sl2 (by simpa using hv) (by simpa using hw) (by rw[aV,aV];exact hsz)) ⟨ho,ho2,?_⟩
  rw[e];exact h2 hw
noncomputable def sIx(n d:Nat):Option Int->Nat
 |none=>d
 |some v=>if v<0 then (v+(n:Int)).toNat else min v.toNat n
def Ey(n d:Nat)(hd:d<=n)(o:Option Int):sIx n d o<=n:=by
 cases o with
 |none=>exact hd
 |some v=>
  show(if v<0 then (v+(n:Int)).toNat else min v.toNat n)<=n;by_cases hv:v<0
  ·rw[if_pos hv];lia
  ·rw[if_neg hv];exact Nat.min_le_right _ _
def vP(v:Int)(n d:Nat):(if v<0 then max (v+(n:Int)) 0 else min v (n:Int))=((sIx n d (some v):Nat):Int):=by
 show(if v<0 then max (v+(n:Int)) 0 else min v (n:Int))=(((if v<0 then (v+(n:Int)).toNat else min v.toNat n):Nat):Int);by_cases hv:v<0
 ·simp only[if_pos hv];lia
 ·simp only[if_neg hv];lia
def Ez(lo hi:Option Int)(n:Nat):Builtin.Slice.sliceAdjust lo hi 1 (n:Int)=(((sIx n 0 lo:Nat):Int),((sIx n n hi:Nat):Int)):=by
 have h1:¬((1:Int)<0):=ca;unfold Builtin.Slice.sliceAdjust;simp only[h1,jb];refine Prod.ext ?_ ?_
 ·cases lo with
  |none=>rfl
  |some v=>exact vP v n 0
 ·cases hi with
  |none=>rfl
  |some v=>exact vP v n n
def EA(i j:Nat):Builtin.Slice.slicePlaces (i:Int) (j:Int) 1=j-i:=by
 unfold Builtin.Slice.slicePlaces;have h1:(1:Int) > 0:=ca;simp only[h1,eW,s1o];split<;>lia
def vQ{Q:Option Int->Shared->Prop}(p:IsPart v o)(h:Q o s):wpAny (model prog w) A (Builtin.Slice.slicePartIndex v) Q E s:=by
 cases p with
 |none=>exact slicePart_none h
 |int i t=>exact slicePart_int h
theorem vR{lo hi:Option Int}{Q:Int×Int×Nat->Shared->Prop}(hs:s.heap.IsSliceOf sl vl vu .none)(pl:IsPart vl lo)(pu:IsPart vu hi)
  (h:Q (((sIx n 0 lo:Nat):Int),1,sIx n n hi-sIx n 0 lo) s):wpAny (model prog w) A (Builtin.Slice.sliceApplied (.ref sl) (pure (n:Int))) Q E s:=by
 obtain⟨os,hos,hcs,hds⟩:=id hs;unfold Builtin.Slice.sliceApplied Builtin.Slice.sliceFields;refine af (af (cU hos hds (x:=vl) rfl (af (cU hos hds (x:=vu) rfl (af (cU hos hds (x:=.none) rfl (aq ?_)))))));refine af (slicePart_none ?_);show wpAny _ _ (if ((1:Int) == 0)=true then _ else _) _ _ s;rw[if_neg fu];refine af (vQ pl (af (vQ pu (af (aq ?_)))));show wpAny _ _ (match Builtin.Slice.sliceAdjust lo hi 1 (n:Int) with|(lo,hi)=>pure (lo,(1:Int),Builtin.Slice.slicePlaces lo hi 1)) _ _ s;rw[Ez lo hi n];show wpAny _ _ (pure (((sIx n 0 lo:Nat):Int),(1:Int),Builtin.Slice.slicePlaces ((sIx n 0 lo:Nat):Int) ((sIx n n hi:Nat):Int) 1)) _ _ s;rw[EA];exact aq h
def EB(xs:Array Value)(i k:Nat):((List.range k).filterMap λ(m:Nat)=>xs[((i:Int)+(m:Int)*1).toNat]?).toArray=((xs.toList.drop i).take k).toArray:=by
 have e:(λ(m:Nat)=>xs[((i:Int)+(m:Int)*1).toNat]?)=λ m=>xs[i+m]?:=by
  funext m;have:((i:Int)+(m:Int)*1).toNat=i+m:=ca;rw[this]
 rw[e];have:=pick_run xs i k;rw[List.filterMap_map] at this;have e2:((λ x=>xs[x]?) ∘ λ x=>i+x)=λ m=>xs[i+m]?:=rfl;rw[e2] at this;rw[this]
theorem getItem_tuple_cut{lo hi:Option Int}{Q:VS}(ht:IsTup s.heap t items)(hs:s.heap.IsSliceOf sl vl vu .none)(pl:IsPart vl lo)(pu:IsPart vu hi)
  (hw:¬(sIx items.size 0 lo=0/\sIx items.size items.size hi=items.size))
  (h:Q (.ref s.heap.objs.size) { s with heap:=s.heap.push { cls:=.type "tuple",data:=.seq ((items.toList.drop (sIx items.size 0 lo)).take (sIx items.size items.size hi-sIx items.size 0 lo)).toArray } })
  (hsz:items.size<=sizeLine):wpAny (model prog w) A (getItem (.ref t) (.ref sl)) Q E s:=by
 have htake:sizeOk (.seq ((items.toList.drop (sIx items.size 0 lo)).take (sIx items.size items.size hi-sIx items.size 0 lo)).toArray):=by
  show((items.toList.drop (sIx items.size 0 lo)).take (sIx items.size items.size hi-sIx items.size 0 lo)).toArray.size<=sizeLine;rw[aV,bd,dX,Array.length_toList];omega
 have hj:sIx items.size items.size hi<=items.size:=Ey _ _ (ay _) hi;obtain⟨os,hos,hcs,hds⟩:=id hs;have hTs:s.TypeIs (.ref sl) "slice" := ⟨os,hos,hcs⟩;unfold getItem;try with_reducible refine eQ ?_
 first|refine af (aq ?_)|skip
 refine af (wpAny_sequenceKey ht.typeIs fu ?_)
 refine af (jc (name:=Str.ofString "__getitem__") ht.typeIs pf
  (gb pf ht.typeIs s0u ?_ (s1c _ _)))
 show wpAny _ _ (Builtin.Tuple.tupleItemsOf (.ref t) >>= _) _ _ s;refine af (tupleItemsOf_ ht ?_);refine af (jR hTs ?_);rw[if_pos fu];refine af (vR hs pl pu ?_)
 have hno:¬((((sIx items.size 0 lo:Nat):Int) == 0&&(1:Int) == 1&&(sIx items.size items.size hi-sIx items.size 0 lo) == items.size)=true):=by
  intro q;rw[bF,bF] at q;have q1:((sIx items.size 0 lo:Nat):Int)=0:=lC q.1.1;have q2:sIx items.size items.size hi-sIx items.size 0 lo=items.size:=lC q.2;exact hw ⟨by omega,by omega⟩
 show wpAny _ _ (if (((sIx items.size 0 lo:Nat):Int) == 0&&(1:Int) == 1&&(sIx items.size items.size hi-sIx items.size 0 lo) == items.size)=true then _ else _) _ _ s;rw[if_neg hno,EB]
 first
  |exact af (m:=Builtin.Tuple.tupleExact _) (dC (aq ⟨_,rfl,aq h⟩) htake)
  |exact af (m:=Builtin.Tuple.tupleExact _) (dC (af (aq (aq ⟨_,rfl,aq h⟩))) htake)
  |exact af (af (m:=Builtin.Tuple.tupleExact _) (dC (aq (aq ⟨_,rfl,aq h⟩)) htake))
  |exact af (af (m:=Builtin.Tuple.tupleExact _) (dC (aq ⟨_,rfl,aq h⟩) htake))
end
end _H
namespace _L
open PySem PySem.Spec PyProof.Rows
abbrev TO:=St->Hp->(Option Int->Hp->Prop)->Prop
noncomputable def PO(X:Cx)(e:Option Expr)(t:TO):Prop :=
 ∀(pins:LO) (s:Shared) (σ:St) (H:Hp) (Q:Option Int->Hp->Prop),Inv X pins σ H s->t σ H Q ->
  wpAny (model X.prog X.w) X.A (evalPart e X.env) (λ u s'=>∃o H',Inv X pins σ H' s'/\IsPart u o/\Q o H') X.xe s
def EC:TO:=λ _ H Q=>Q none H
def ph{ns:LI}:∀ {us:LV},Vals (ns.map V.int) us->IntsAre us ns:=by
 induction ns with
 |nil=>intro us r;rw[s1p] at r;cases r;exact .nil
 |cons n ns ih=>
  intro us r;rw[aX] at r
  cases r with
  |cons r1 r2=>
   obtain⟨t,e⟩:=r1;subst e;exact .cons n t (ih r2)
variable {X:Cx}
section
variable {e:Expr}{te:TE}{lo hi:Option Expr}{tl th:TO}{pos p2:Pos}
def ED:PO X none EC:=by
 intro pins s σ H Q I h;rw[evalPart_none];exact aq ⟨none,H,I,.none,h⟩
noncomputable def SlR(X:Cx)(r:V->Option Int->Option Int->Hp->VK->Prop):Prop :=
 ∀(pins:LO) (s:Shared) (σ:St) (H:Hp) (x:V) (v vl vu:Value) (lo hi:Option Int) (sl:Addr) (Q:VK),Inv X pins σ H s->RelV x v->s.heap.IsSliceOf sl vl vu .none->IsPart vl lo->IsPart vu hi->r x lo hi H Q ->
  ∃T id,typeLookup (.type T) "__getitem__"=pure (some (.builtin id))/\s.TypeIs v T/\wpAny (model X.prog X.w) X.A (getItem v (.ref sl)) (EP X pins σ Q) X.xe s
noncomputable def tSl(r:V->Option Int->Option Int->Hp->VK->Prop)(te:TE)(tl th:TO):TE:=λ σ H Q=>te σ H λ x H1=>tl σ H1 λ l H2=>th σ H2 λ u H3=>r x l u H3 Q
def EG(hr:SlR X r)(he:PE X e te)(hl:PO X lo tl)(hu:PO X hi th):PE X (.Subscript e (.Slice lo hi none p2) pos) (tSl r te tl th):=by
 intro pins s σ H Q I h;refine Subscript_ (thn (he pins s σ H _ I h) λ v s1 ⟨x,H1,I1,r1,q1⟩=>?_);refine wpAny_Slice (thn (hl pins s1 σ H1 _ I1 q1) λ vl s2 ⟨l,H2,I2,pl,q2⟩=>thn (hu pins s2 σ H2 _ I2 q2) λ vu s3 ⟨u,H3,I3,pu,q3⟩=>?_);rw[evalPart_none];refine aq ?_;have I4:Inv X pins σ H3 { s3 with heap:=s3.heap.push { cls:=.type "slice",data:=.fields #[vl,vu,.none] } }:=I3.kept (t':=s3.toks) λ b ob q=>aI _ q;obtain⟨T,id,hT,ht,hg⟩:=hr pins { s3 with heap:=s3.heap.push { cls:=.type "slice",data:=.fields #[vl,vu,.none] } } σ H3 x v vl vu l u s3.heap.objs.size Q I4 r1 (Heap.IsSliceOf.new ..) pl pu q3;show wpAny (model X.prog X.w) X.A (subscriptTail e (.Slice lo hi none p2) v (.ref s3.heap.objs.size)) (EP X pins σ Q) X.xe { s3 with heap:=s3.heap.push { cls:=.type "slice",data:=.fields #[vl,vu,.none] } };exact tail_any (ops:=[.ref s3.heap.objs.size,v]) ht hT hg (by with_unfolding_all rfl)
noncomputable def ig(xs:List V)(lo hi:Option Int):List V:=(xs.drop (_H.sIx xs.length 0 lo)).take (_H.sIx xs.length xs.length hi-_H.sIx xs.length 0 lo)
def vS(xs:List V)(lo hi:Option Int):(ig xs lo hi).length<=xs.length:=by
 unfold ig;rw[bd,dX];lia
noncomputable def EH(K:FG):V->Option Int->Option Int->Hp->VK->Prop:=λ x lo hi H Q=>∃a xs,x=.ref a/\SqT K H a xs /\
 ¬(_H.sIx xs.length 0 lo=0/\_H.sIx xs.length xs.length hi=xs.length)/\∀p,H p=none->Q (.ref p) (upd H p (.tup (ig xs lo hi)))
def EI:SlR X (EH X.K):=by
 intro pins s σ H x v vl vu lo hi sl Q I rx hs pl pu h;obtain⟨a,xs,rfl,hx,hw,q⟩:=h;cases rx;obtain⟨its,r,ht,hz⟩:=I.tuple hx;have hlen:its.toArray.size=xs.length:=by rw[aV];exact r.length.symm
 refine⟨"tuple",_,PyProof.Rows.slot_tuple_getitem.lookup,ht.typeIs,?_⟩;refine _H.getItem_tuple_cut ht hs pl pu (by rw[hlen];exact hw) ?_ (by rw[hlen];exact hz);rw[hlen];refine⟨.ref s.heap.objs.size,_,I.laid (t':=s.toks) (o:=.tup (ig xs lo hi)) (λ b ob q=>aI _ q) (ay _) ?_,O,q _ (I.hok.fresh (ay _))⟩;exact⟨dg (vS xs lo hi) hz,_,(r.drop (_H.sIx xs.length 0 lo)).take (_H.sIx xs.length xs.length hi-_H.sIx xs.length 0 lo),TupO.new _ _⟩
noncomputable def EJ(K:FG):R2:=λ x y H Q=>∃a b xs ys,x=.ref a/\y=.ref b/\SqT K H a xs/\SqT K H b ys/\xs≠[]/\xs.length+ys.length<=sizeLine /\
 (ys=[]->Q (.ref a) H)/\(ys≠[]->∀p,H p=none->Q (.ref p) (upd H p (.tup (xs++ys))))
def Vals.nil_iff(r:Vals xs us):us=[] ↔ xs=[]:=by
 cases r with
 |nil=>simp
 |cons _ _=>simp
def EK:OpR X (binaryOp .Add) (EJ X.K):=by
 intro pins s σ H x y v u Q I rx ry h;obtain⟨a,b,xs,ys,rfl,rfl,ha,hb,hx,hz,q1,q2⟩:=h;cases rx;cases ry;obtain⟨its,r1,p1,_⟩:=I.tuple ha;obtain⟨its2,r2,p2,_⟩:=I.tuple hb;refine _H.cat_tup p1 p2 (λ z=>hx (r1.nil_iff.mp z)) (λ z=>⟨.ref a,H,I,O,q1 (r2.nil_iff.mp z)⟩) (λ z=>?_) (by rw[<- r1.length,<- r2.length];exact hz);refine⟨.ref s.heap.objs.size,_,I.laid (t':=s.toks) (o:=.tup (xs++ys)) (λ b ob q=>aI _ q) (ay _) ?_,O,q2 (λ w=>z (r2.nil_iff.mpr w)) _ (I.hok.fresh (ay _))⟩;exact⟨by rw[aN];exact hz,_,r1.append r2,TupO.new _ _⟩
end
noncomputable def ixN(n:Nat)(i:Int):Option Nat:=if 0<=i then (if i<n then some i.toNat else none) else if -(n:Int)<=i then some (i+n).toNat else none
noncomputable def atI{α:Type}(xs:List α)(i:Int):Option α:=(ixN xs.length i).bind λ j=>xs[j]?
def vT(h:ixN n i=some j):seqIndex? i n=some j/\j<n/\-(n:Int)<=i/\i<n:=by
 unfold ixN at h;by_cases h0:0<=i
 ·rw[if_pos h0] at h;by_cases h1:i<n
  ·rw[if_pos h1] at h;have e:i.toNat=j:=bJ h;exact⟨by rw[s1y h0 h1,e],ca,ca,h1⟩
  ·rw[if_neg h1] at h;cases h
 ·rw[if_neg h0] at h;by_cases h1:-(n:Int)<=i
  ·rw[if_pos h1] at h;have e:(i+n).toNat=j:=bJ h;exact⟨by rw[s1q ca h1,e],ca,h1,ca⟩
  ·rw[if_neg h1] at h;cases h
def sw{α:Type}{xs:List α}{v:α}(h:atI xs i=some v):∃j,seqIndex? i xs.length=some j/\xs[j]?=some v/\j<xs.length/\-(xs.length:Int)<=i/\i<xs.length:=by
 unfold atI at h
 cases e:ixN xs.length i with
 |none=>rw[e] at h;cases h
 |some j=>
  rw[e] at h;obtain⟨h1,h2,h3,h4⟩:=vT e;exact⟨j,h1,h,h2,h3,h4⟩
def ik{α:Type}{xs:List α}{j:Nat}{v:α}(h:xs[j]?=some v):atI xs (j:Int)=some v:=by
 have hj:j<xs.length:=(bf.mp h).1
 have e:ixN xs.length (j:Int)=some j:=by
  unfold ixN;rw[if_pos ca,if_pos ca];simp
 unfold atI;rw[e];exact h
noncomputable def vU(b:Expr):Prop:=∀o i,subscripted b false o i=operate [o,i] (getItem o i)
noncomputable def IxR(X:Cx)(r:R2):Prop :=
 ∀(value slice:Expr) (pins:LO) (s:Shared) (σ:St) (H:Hp) (x y:V) (v u:Value) (Q:VK),Inv X pins σ H s->RelV x v->RelV y u->r x y H Q ->
  subscripted slice false v u=operate [v,u] (getItem v u)->wpAny (model X.prog X.w) X.A (subscriptTail value slice v u) (EP X pins σ Q) X.xe s
noncomputable def MtR(X:Cx)(id:String)(r:V->List V->Hp->VK->Prop):Prop :=
 ∀(pins:LO) (s:Shared) (σ:St) (H:Hp) (x:V) (xs:List V) (v:Value) (us:LV) (Q:VK),Inv X pins σ H s->RelV x v->Vals xs us->r x xs H Q ->
  wpAny (model X.prog X.w) X.A (call (.builtin id) (v::us)) (EP X pins σ Q) X.xe s
section
variable {a b:Expr}{ta tb:TE}{pos:Pos}
def IxR.or(h:IxR X r)(h':IxR X r'):IxR X (λ x y H Q=>r x y H Q\/r' x y H Q):=by
 intro value slice pins s σ H x y v u Q I rx ry q hs
 rcases q with q|q
 ·exact h value slice pins s σ H x y v u Q I rx ry q hs
 ·exact h' value slice pins s σ H x y v u Q I rx ry q hs
def EL(hr:IxR X r)(ha:PE X a ta)(hb:PE X b tb)(hs:vU b):PE X (.Subscript a b pos) (tOp r ta tb):=by
 intro pins s σ H Q I h;exact Subscript_ (rQ ha hb I h λ v u s2 x y H2 I2 rx ry q=>hr a b pins s2 σ H2 x y v u Q I2 rx ry q (hs _ _))
noncomputable def vV(K:FG):R2:=λ x y H Q=>∃p xs i v,x=.ref p/\y=.int i/\SqL K H p xs/\atI xs i=some v/\Q v H
noncomputable def vW(K:FG):R2:=λ x y H Q=>∃p xs i v,x=.ref p/\y=.int i/\SqT K H p xs/\atI xs i=some v/\Q v H
noncomputable def vX:R2:=λ x y H Q=>∃z i c,x=.str z/\y=.int i/\z.length<=sizeLine/\atI z.cps.toList i=some c/\Q (.str ⟨#[c]⟩) H
def ix_list:IxR X (vV X.K):=by
 intro value slice pins s σ H x y v u Q I rx ry h hs;obtain⟨p,xs,i,z,rfl,rfl,hq,he,q⟩:=h;cases rx;obtain⟨t,rfl⟩:=ry;obtain⟨its,r,pl,hz⟩:=I.list hq;obtain⟨j,h1,h2,h3,h4,h5⟩:=sw he;obtain⟨w,ew,rw'⟩:=r.get h2;have hl:=r.length;have hn:=lj;have fin:EP X pins σ Q w s:=⟨z,H,I,rw',q⟩;by_cases h0:0<=i
 ·have hj:i.toNat=j:=by
   rw[s1y h0 h5] at h1;exact bJ h1
  exact item_listR pl.isList h0 ca (by rw[hj];simpa using ew) fin hs
 ·have hj:(i+(its.toArray.size:Int)).toNat=j:=by
   rw[s1q ca h4] at h1;rw[aV,<- hl];exact bJ h1
  exact vY (x:=w) pl.isList.typeIs slot_list_getitem.lookup
   (wpAny_getItem_list_neg (Q:=λ r s'=>r=w/\EP X pins σ Q r s') pl.isList ca (by rw[aV]<;>lia) ca (by rw[hj];simpa using ew) ⟨rfl,fin⟩) hs
def ix_tup:IxR X (vW X.K):=by
 intro value slice pins s σ H x y v u Q I rx ry h hs;obtain⟨p,xs,i,z,rfl,rfl,hq,he,q⟩:=h;cases rx;obtain⟨t,rfl⟩:=ry;obtain⟨its,r,pl,hz⟩:=I.tuple hq;obtain⟨j,h1,h2,h3,h4,h5⟩:=sw he;obtain⟨w,ew,rw'⟩:=r.get h2;have hl:=r.length;have hn:=lj;have fin:EP X pins σ Q w s:=⟨z,H,I,rw',q⟩
 exact vY (x:=w) pl.typeIs slot_tuple_getitem.lookup
  (getItem_tuple (j:=j) (Q:=λ r s'=>r=w/\EP X pins σ Q r s') pl ca ca (by rw[aV,<- hl];exact h1) (by simpa using ew) ⟨rfl,fin⟩) hs
def EM:IxR X vX:=by
 intro value slice pins s σ H x y v u Q I rx ry h hs;obtain⟨z,i,c,rfl,rfl,hz,he,q⟩:=h;obtain⟨t,rfl⟩:=rx;obtain⟨t',rfl⟩:=ry;obtain⟨j,h1,h2,h3,h4,h5⟩:=sw he;have hl:z.cps.toList.length=z.length:=by simp[Str.length]
 rw[hl] at h1 h4 h5;have hn:=lj
 exact tail_any (typeIs_str s z t) slot_str_getitem.lookup (getItem_str (c:=c) (by
  have e1:decide (i < -(2 ^ 63:Int))=false:=bq ca;have e2:decide (i ≥ 2 ^ 63)=false:=bq ca
  rw[e1,e2,Bool.or_false]) (by rw[h1];simpa using h2) ⟨.str ⟨#[c]⟩,H,I.tok _,⟨_,rfl⟩,q⟩) hs
noncomputable def rIx(K:FG):R2:=λ x y H Q=>vV K x y H Q\/vW K x y H Q\/vX x y H Q
def sx:IxR X (rIx X.K):=ix_list.or (ix_tup.or EM)
def EN(its:LV)(n j:Nat)(u:Value):Obj.mapSeq (·.setIfInBounds j u) { cls:=.type "list",data:=.seq its.toArray n }={ cls:=.type "list",data:=.seq (its.set j u).toArray n }:=by
 simp[Obj.mapSeq]
theorem Inv.lst(I:Inv X pins σ H s)(h:H p=some (.lst xs)) :
  ∃(its:LV) (n:Nat),Vals xs its/\s.heap.get? p=some { cls:=.type "list",data:=.seq its.toArray n }/\xs.length<=sizeLine:=by
 obtain⟨z,its,n,r,e⟩:=I.hok p _ h;exact⟨its,n,r,e,z⟩
theorem Inv.lstUpd{its its':LV}{f:Obj->Obj}(I:Inv X pins σ H s)(h:H p=some (.lst xs))
  (ho:s.heap.get? p=some { cls:=.type "list",data:=.seq its.toArray n }) (hf:f { cls:=.type "list",data:=.seq its.toArray n }={ cls:=.type "list",data:=.seq its'.toArray n' }) (r:Vals ys its') (hz:ys.length<=sizeLine) (t:Nat) :
  Inv X pins σ (upd H p (.lst ys)) { s with heap:=s.heap.update p f,toks:=t }:=by
 have e:(s.heap.update p f).get? p=some { cls:=.type "list",data:=.seq its'.toArray n' }:=by
  rw[im f ho (by rw[hf]<;>rfl),hf]
 refine I.write (x:=p) (e:=p) (by rw[h];trivial) (.inl rfl) (λ b u hb q=>(fH _ _ (cK hb)).trans q) ⟨_,e⟩ ?_;exact⟨hz,its',n',r,e⟩
noncomputable def EO:V->V->V->Hp->(Hp->Prop)->Prop:=λ o i v H Q=>∃p xs k j,o=.ref p/\i=.int k/\H p=some (.lst xs)/\ixN xs.length k=some j/\Q (upd H p (.lst (xs.set j v)))
def EQ:vq X EO:=by
 intro pins s σ H o i v ov iv u Q I ro ri rv h;obtain⟨p,xs,k,j,rfl,rfl,hp,hj,q⟩:=h;cases ro;obtain⟨t,rfl⟩:=ri;obtain⟨its,n,r,ho,hz⟩:=I.lst hp;obtain⟨h1,h2,h3,h4⟩:=vT hj;have hl:=r.length;have hn:=lj
 have I':Inv X pins σ (upd H p (.lst (xs.set j v))) { s with heap:=s.heap.update p (Obj.mapSeq (·.setIfInBounds j u)) } :=
  I.lstUpd hp ho (EN its n j u) (r.set rv j) (by rw[cW];exact hz) s.toks
 by_cases h0:0<=k
 ·have hk:k.toNat=j:=by
   rw[s1y h0 h4] at h1;exact bJ h1
  exact W.ki_setAt ho h0 ca (by rw[aV,<- hl];exact h4) (by rw[hk];exact⟨_,I',q⟩)
 ·have hk:(k+(its.toArray.size:Int)).toNat=j:=by
   rw[s1q ca h3] at h1;rw[aV,<- hl];exact bJ h1
  exact W.ki_setBack ho ca (by rw[aV,<- hl];exact h3) ca (by rw[hk];exact⟨_,I',q⟩)
def ES(lo hi:Option Int)(n:Nat):(sliceBounds lo hi none n).1=((_H.sIx n 0 lo:Nat):Int)/\(sliceBounds lo hi none n).2.1=((_H.sIx n n hi:Nat):Int)/\(sliceBounds lo hi none n).2.2=1:=by
 refine⟨?_,?_,O⟩
 ·cases lo with
  |none=>simp[sliceBounds,_H.sIx]
  |some i=>
   simp only[sliceBounds,_H.sIx,Option.getD_none,show(1:Int) > 0 by decide,eW];by_cases h:i<0
   ·simp only[h,eW]<;>lia
   ·simp only[h,jb]<;>lia
 ·cases hi with
  |none=>simp[sliceBounds,_H.sIx]
  |some i=>
   simp only[sliceBounds,_H.sIx,Option.getD_none,show(1:Int) > 0 by decide,eW];by_cases h:i<0
   ·simp only[h,eW]<;>lia
   ·simp only[h,jb]<;>lia
def ET(its:LV)(lo hi:Option Int):slicePick its.toArray lo hi none=((its.drop (_H.sIx its.length 0 lo)).take (_H.sIx its.length its.length hi-_H.sIx its.length 0 lo)).toArray:=by
 obtain⟨h1,h2,h3⟩:=ES lo hi its.toArray.size;unfold slicePick;rw[h1,h2,h3];simp only[sliceRange_one,pick_run,aV]<;>rfl
noncomputable def EU(K:FG):V->Option Int->Option Int->Hp->VK->Prop:=λ x lo hi H Q=>∃a xs,x=.ref a/\SqL K H a xs/\∀p,H p=none->Q (.ref p) (upd H p (.lst (ig xs lo hi)))
def EW:SlR X (EU X.K):=by
 intro pins s σ H x v vl vu lo hi sl Q I rx hs pl pu h;obtain⟨a,xs,rfl,hx,q⟩:=h;cases rx;obtain⟨its,r,ht,hz⟩:=I.list hx;have hlen:=r.length;refine⟨"list",_,slot_list_getitem.lookup,ht.isList.typeIs,?_⟩;refine wpAny_getItem_list_slice ht.isList hs pl pu .none on ?_ (by rw[aV]<;>lia);rw[ET,<- hlen];refine⟨.ref s.heap.objs.size,_,I.laid (t':=s.toks) (o:=.lst (ig xs lo hi)) (λ b ob q=>aI _ q) (ay _) ?_,O,q _ (I.hok.fresh (ay _))⟩;exact⟨dg (vS xs lo hi) hz,_,0,(r.drop (_H.sIx xs.length 0 lo)).take (_H.sIx xs.length xs.length hi-_H.sIx xs.length 0 lo),be _ rfl⟩
noncomputable def cM:V->Bool
 |.non=>true
 |.bl _=>true
 |.int _=>true
 |.str _=>true
 |_=>false
noncomputable def eqV:V->V->Bool
 |.non,.non=>true
 |.bl a,.bl b=>a == b
 |.bl a,.int b=>(if a then 1 else 0) == b
 |.int a,.bl b=>a == (if b then 1 else 0)
 |.int a,.int b=>a == b
 |.str a,.str b=>a == b
 |_,_=>false
def nh(ry:RelV y u)(rx:RelV x v)(fy:cM y=true)(fx:cM x=true):SeqAt.EqAt A s u v (eqV y x):=by
 cases y with
 |non=>
  cases ry
  cases x with
  |non=>cases rx;exact sC _
  |bl b=>cases rx;exact SeqAt.EqAt.none_bool b
  |int b=>obtain⟨t,rfl⟩:=rx;exact SeqAt.EqAt.none_int b t
  |str b=>obtain⟨t,rfl⟩:=rx;exact SeqAt.EqAt.none_str b t
  |_=>exact absurd (show false=true from fx) cj
 |bl a=>
  cases ry
  cases x with
  |non=>cases rx;exact SeqAt.EqAt.bool_none a
  |bl b=>cases rx;exact SeqAt.EqAt.bool_bool a b
  |int b=>obtain⟨t,rfl⟩:=rx;exact SeqAt.EqAt.bool_int a b t
  |str b=>obtain⟨t,rfl⟩:=rx;exact SeqAt.EqAt.bool_str a b t
  |_=>exact absurd (show false=true from fx) cj
 |int a=>
  obtain⟨t',rfl⟩:=ry
  cases x with
  |non=>cases rx;exact SeqAt.EqAt.int_none a t'
  |bl b=>cases rx;exact SeqAt.EqAt.int_bool a t' b
  |int b=>obtain⟨t,rfl⟩:=rx;exact SeqAt.EqAt.int_int a t' b t
  |str b=>obtain⟨t,rfl⟩:=rx;exact s0x a t' b t
  |_=>exact absurd (show false=true from fx) cj
 |str a=>
  obtain⟨t',rfl⟩:=ry
  cases x with
  |non=>cases rx;exact SeqAt.EqAt.str_none a t'
  |bl b=>cases rx;exact SeqAt.EqAt.str_bool a t' b
  |int b=>obtain⟨t,rfl⟩:=rx;exact s0y a t' b t
  |str b=>obtain⟨t,rfl⟩:=rx;exact SeqAt.EqAt.str_str a t' b t
  |_=>exact absurd (show false=true from fx) cj
 |_=>exact absurd (show false=true from fy) cj
noncomputable def eqU(x:V)(u:Value):Bool:=match u with
 |.none=>eqV .non x
 |.bool b=>eqV (.bl b) x
 |.int i _=>eqV (.int i) x
 |.str z _=>eqV (.str z) x
 |_=>false
def sD(r:RelV y u)(f:cM y=true):eqU x u=eqV y x:=by
 cases y with
 |non=>cases r;rfl
 |bl b=>cases r;rfl
 |int i=>obtain⟨t,rfl⟩:=r;rfl
 |str z=>obtain⟨t,rfl⟩:=r;rfl
 |_=>exact absurd (show false=true from f) cj
theorem nj:∀ {xs:List V}{us:LV},Vals xs us->xs.all cM=true->us.any (eqU x)=xs.any λ y=>eqV y x
 |_,_,.nil,_=>rfl
 |y::xs,u::us,.cons r t,f=>by
  rw[cX,bF] at f;rw[nq,nq,sD r f.1,nj t f.2]
theorem jT(rx:RelV x v)(fx:cM x=true):∀ {xs:List V}{us:LV},Vals xs us->xs.all cM=true->∀u∈us,SeqAt.EqAt A s u v (eqU x u)
 |_,_,.nil,_=>λ u hu=>by cases hu
 |y::xs,u::us,.cons r t,f=>λ u' hu=>by
  rw[cX,bF] at f
  rcases aL.mp hu with rfl|hu
  ·rw[sD r f.1];exact nh r rx f.1 fx
  ·exact jT rx fx t f.2 u' hu
def inV(x:V)(xs:List V):Bool:=xs.any λ y=>eqV y x
noncomputable def rIn(K:FG)(neg:Bool):R2:=λ x y H Q=>∃p xs,y=.ref p/\(SqL K H p xs\/SqT K H p xs)/\cM x=true/\xs.all cM=true/\Q (.bl (if neg then !inV x xs else inV x xs)) H
def EX:OpR X (compareOp .In) (rIn X.K false):=by
 intro pins s σ H x y v u Q I rx ry h;obtain⟨p,xs,rfl,hq,fx,fs,q⟩:=h;cases ry
 rcases hq with hq|hq
 ·obtain⟨its,r,pl,hz⟩:=I.list hq;refine SeqAt.in_listAt (eqU x) pl.isList (λ w hw=>jT rx fx r fs w (by simpa using hw)) ⟨.bl _,H,I,O,?_⟩;rw[show its.toArray.any (eqU x)=its.any (eqU x) by simp,nj r fs];exact q
 ·obtain⟨its,r,pl,hz⟩:=I.tuple hq;refine SeqAt.in_tupleAt (eqU x) pl (λ w hw=>jT rx fx r fs w (by simpa using hw)) ⟨.bl _,H,I,O,?_⟩;rw[show its.toArray.any (eqU x)=its.any (eqU x) by simp,nj r fs];exact q
def EY:OpR X (compareOp .NotIn) (rIn X.K true):=by
 intro pins s σ H x y v u Q I rx ry h;obtain⟨p,xs,rfl,hq,fx,fs,q⟩:=h;cases ry
 rcases hq with hq|hq
 ·obtain⟨its,r,pl,hz⟩:=I.list hq;refine SeqAt.notIn_listAt (eqU x) pl.isList (λ w hw=>jT rx fx r fs w (by simpa using hw)) ⟨.bl _,H,I,O,?_⟩;rw[show its.toArray.any (eqU x)=its.any (eqU x) by simp,nj r fs];exact q
 ·obtain⟨its,r,pl,hz⟩:=I.tuple hq;refine SeqAt.notIn_tupleAt (eqU x) pl (λ w hw=>jT rx fx r fs w (by simpa using hw)) ⟨.bl _,H,I,O,?_⟩;rw[show its.toArray.any (eqU x)=its.any (eqU x) by simp,nj r fs];exact q
def EZ:cF X (.builtin "len") (λ xs H Q=>∃p ys,xs=[.ref p]/\(SqL X.K H p ys\/SqT X.K H p ys)/\Q (.int ys.length) H):=by
 intro pins s σ H xs us Q I r h;obtain⟨p,ys,rfl,hq,q⟩:=h;obtain⟨u,rfl,rx⟩:=cS r;cases rx;have hn:=lj
 rcases hq with hq|hq
 ·obtain⟨its,r',pl,hz⟩:=I.list hq;have hlen:=r'.length;exact Calls.call_len_list pl.isList (by simp only[aV]<;>lia) ⟨.int ys.length,H,I.tok _,⟨s.toks+1,by rw[aV,hlen]⟩,q⟩
 ·obtain⟨its,r',pl,hz⟩:=I.tuple hq;have hlen:=r'.length;exact s1d pl (by simp only[aV]<;>lia) ⟨.int ys.length,H,I.tok _,⟨s.toks+1,by rw[aV,hlen]⟩,q⟩
def Fa:cF X (.builtin "len") (λ xs H Q=>∃z,xs=[.str z]/\z.length<=sizeLine/\Q (.int z.length) H):=by
 intro pins s σ H xs us Q I r h;obtain⟨z,rfl,hz,q⟩:=h;obtain⟨u,rfl,t,rfl⟩:=cS r;have hn:=lj;exact len_str ca ⟨.int z.length,H,I.tok _,⟨_,O⟩,q⟩
def Fb:cF X (.type "list") (λ xs H Q=>∃p ys,xs=[.ref p]/\(SqL X.K H p ys\/SqT X.K H p ys)/\∀l,H l=none->Q (.ref l) (upd H l (.lst ys))):=by
 intro pins s σ H xs us Q I r h;obtain⟨p,ys,rfl,hq,q⟩:=h;obtain⟨u,rfl,rx⟩:=cS r;cases rx
 have fin:∀(its:LV),Vals ys its->ys.length<=sizeLine->∀(h':Heap) (c':Nat),(∀b o',s.heap.get? b=some o'->h'.get? b=some o') ->
   h'.get? s.heap.objs.size=some { cls:=.type "list",dict:=none,data:=.seq its.toArray c',slots:=#[] }->EP X pins σ Q (.ref s.heap.objs.size) { s with heap:=h' }:=λ its r' hz h' c' kp e=>
  ⟨.ref s.heap.objs.size,_,I.laid (t':=s.toks) kp (ay _) (show ObjOk X.prog X.w _ h' _ (.lst ys) from ⟨hz,its,c',r',e⟩),rfl,q _ (I.hok.fresh (ay _))⟩
 rcases hq with hq|hq
 ·obtain⟨its,r',pl,hz⟩:=I.list hq;have hlen:=r'.length;obtain⟨o,ho,hc,n,hd⟩:=pl.isList;exact call_list_seq p (.inl rfl) ho hc hd (λ h' c' kp e=>fin its r' hz h' c' kp e) (by simp only[aV]<;>lia)
 ·obtain⟨its,r',pl,hz⟩:=I.tuple hq;have hlen:=r'.length;obtain⟨o,ho,hc,n,hd⟩:=pl;exact call_list_seq p (.inr rfl) ho hc hd (λ h' c' kp e=>fin its r' hz h' c' kp e) (by simp only[aV]<;>lia)
def Fc:cF X (.type "tuple") (λ xs H Q=>∃p ys,xs=[.ref p]/\((SqL X.K H p ys/\∀l,H l=none->Q (.ref l) (upd H l (.tup ys)))\/(SqT X.K H p ys/\Q (.ref p) H))):=by
 intro pins s σ H xs us Q I r h;obtain⟨p,ys,rfl,h⟩:=h;obtain⟨u,rfl,rx⟩:=cS r;cases rx
 rcases h with ⟨hq,q⟩|⟨hq,q⟩
 ·obtain⟨its,r',pl,hz⟩:=I.list hq;have hlen:=r'.length;refine call_tuple_list pl.isList (λ h' kp=>?_) (by simp only[aV]<;>lia);have I1:Inv X pins σ H { s with heap:=h' }:=I.kept (t':=s.toks) kp
  have I2:Inv X pins σ (upd H h'.objs.size (.tup ys)) { s with heap:=h'.push { cls:=.type "tuple",data:=.seq its.toArray } } :=
   I1.laid (t':=s.toks) (λ b o e=>aI _ e) (ay _) (show ObjOk X.prog X.w _ _ _ (.tup ys) from ⟨hz,its,r',TupO.new _ _⟩)
  exact⟨.ref h'.objs.size,_,I2,O,q _ (I1.hok.fresh (ay _))⟩
 ·obtain⟨its,r',pl,hz⟩:=I.tuple hq;exact call_tuple_same pl ⟨.ref p,H,I,O,q⟩
noncomputable def tyV(K:FG)(T:String)(x:V)(H:Hp):Prop:=match x with
 |.str _=>T="str"
 |.int _=>T="int"
 |.ref p=>(T="list" /\ ∃xs,SqL K H p xs)\/(T="tuple" /\ ∃o,K.lookup p=some o/\o.cls=.type "tuple" /\ o.dict=none) \/
   (T="dict" /\ ((∃kvs,H p=some (.dK kvs))\/∃kvs,H p=some (.dT kvs)))\/(T="set" /\ ∃S n,H p=some (.set S n))
 |_=>False
theorem vZ(I:Inv X pins σ H s)(r:RelV x v)(ty:tyV X.K T x H) :
  s.TypeIs v T/\∀a,v=.ref a->∃ob,s.heap.get? a=some ob/\ob.dict=none:=by
 cases x with
 |str z=>
  obtain⟨t,rfl⟩:=r;cases (show T="str" from ty);exact⟨typeIs_str s z t,λ _ e=>nomatch e⟩
 |int i=>
  obtain⟨t,rfl⟩:=r;cases (show T="int" from ty);exact⟨typeIs_int s i t,λ _ e=>nomatch e⟩
 |ref p=>
  cases r
  rcases ty with ⟨rfl,xs,hq⟩|⟨rfl,o,hk,hc,hd⟩|⟨rfl,hk⟩|⟨rfl,S,n,hk⟩
  ·obtain⟨its,_,pl,_⟩:=I.list hq;refine⟨pl.isList.typeIs,λ a e=>?_⟩;cases e;obtain⟨o,n,e,c,hd,_⟩:=pl;exact⟨o,e,hd⟩
  ·refine⟨⟨o,I.kIn p o hk,hc⟩,λ a e=>?_⟩;cases e;exact⟨o,I.kIn _ o hk,hd⟩
  ·have z:∃o,s.heap.get? p=some o/\o.ExactDict:=by
    rcases hk with ⟨kvs,hk⟩|⟨kvs,hk⟩
    ·obtain⟨_,_,_,_,o,_,_,e,ex,_⟩:=I.hok p _ hk;exact⟨o,e,ex⟩
    ·obtain⟨_,_,_,_,o,_,_,e,ex,_⟩:=I.hok p _ hk;exact⟨o,e,ex⟩
   obtain⟨o,e,ex⟩:=z;refine⟨⟨o,e,ex.1⟩,λ a e2=>?_⟩;cases e2;exact⟨o,e,ex.2.1⟩
  ·obtain⟨o,_,_,_,e,ex,_⟩:=I.hok p _ hk;refine⟨⟨o,e,ex.1⟩,λ a e2=>?_⟩;cases e2;exact⟨o,e,ex.2.1⟩
 |_=>exact False.elim ty
noncomputable def Fd(K:FG)(T:String)(r:V->List V->Hp->VK->Prop)(to:TE):TE:=λ σ H Q=>to σ H λ x H1=>tyV K T x H1/\r x [] H1 Q
noncomputable def tBM(K:FG)(T:String)(r:V->List V->Hp->VK->Prop)(to:TE)(t:TA):TE:=λ σ H Q=>to σ H λ x H1=>tyV K T x H1/\t σ H1 λ xs H2=>r x xs H2 Q
variable {o e:Expr}{es:List Expr}{to:TE}{t:TA}{name:Str}{apos cpos:Pos}{T id:String}{r:V->List V->Hp->VK->Prop}
theorem Fe(pa:PlainAttrs T)(slot:Slot T name id)(hty:typeOf (.builtin id)=pure (.type "method_descriptor"))(hm:MtR X id r)(ho:PE X o to)
  (hbase:attributeBase o name X.env (eval o X.env)=eval o X.env:=by rfl) (hline:(apos.endLine == cpos.line)=true:=by rfl):PE X (.Call (.Attribute o name apos) [] [] cpos) (Fd X.K T r to):=by
 intro pins s σ H Q I h;refine wpAny_Call_method0_late hbase hline (thn (ho pins s σ H _ I h) λ v s1 ⟨x,H1,I1,r1,ty,q1⟩=>?_);obtain⟨h1,h2⟩:=vZ I1 r1 ty;exact⟨T,id,pa,slot,hty,h1,h2,sG rfl (PySem.evalArgs_none (hm pins s1 σ H1 x [] v [] Q I1 r1 .nil q1))⟩
theorem jU(pa:PlainAttrs T)(slot:Slot T name id)(hty:typeOf (.builtin id)=pure (.type "method_descriptor"))(hm:MtR X id r)(ho:PE X o to)(ha:PA X (e::es) t)
  (hbase:attributeBase o name X.env (eval o X.env)=eval o X.env:=by rfl)
  (hfew:((backTo cpos (starEach (e::es) X.env)).all (λ x=>!x.1) && (backToKw cpos (keywordEach [] X.env)).all (λ x=>x.1.isSome)
   && decide ((e::es).length+([]:List Keyword).length+(if ([]:List Keyword).isEmpty then 0 else 1)<30))=true:=by rfl)
  (hline:(apos.endLine == cpos.line)=true:=by rfl) (hs:starEach (e::es) X.env=(false,eval e X.env)::starEach es X.env:=by rfl) (hplain:(backTo cpos (starEach es X.env)).any (·.1)=false:=by rfl) :
  PE X (.Call (.Attribute o name apos) (e::es) [] cpos) (tBM X.K T r to t):=by
 intro pins s σ H Q I h;refine wa hbase hfew hline rfl (thn (ho pins s σ H _ I h) λ v s1 ⟨x,H1,I1,r1,ty,q1⟩=>?_);obtain⟨h1,h2⟩:=vZ I1 r1 ty;refine⟨T,id,pa,slot,hty,h1,h2,?_⟩;have hA:=ha cpos pins s1 σ H1 _ I1 q1;rw[hs] at hA ⊢;refine sG (by show(false || (backTo cpos (starEach es X.env)).any (·.1))=false;rw[hplain]<;>rfl) (s0h ?_);exact thn hA λ us s2 ⟨vs,H2,I2,r2,q2⟩=>hm pins s2 σ H2 x vs v us Q I2 r1 r2 q2
end
noncomputable def MtM(X:Cx)(id:String)(r:V->List V->Hp->VK->Prop):Prop :=
 ∀(pins:LO) (s:Shared) (σ:St) (H:Hp) (x:V) (xs:List V) (v:Value) (us:LV) (Q:VK),Inv X pins σ H s->RelV x v->Vals xs us->r x xs H Q ->
  wpAny (model X.prog X.w) X.A (call (.builtin id) (v::us)) (EP X pins σ Q) X.xe s
theorem Vals.one:∀ {x:V}{us:LV},Vals [x] us->∃u,us=[u]/\RelV x u
 |_,_,.cons r .nil=>⟨_,rfl,r⟩
theorem Vals.zero:∀ {us:LV},Vals [] us->us=[]
 |_,.nil=>rfl
def Vals.dropLast(h:Vals xs us):Vals xs.dropLast us.dropLast:=by
 induction h with
 |nil=>exact .nil
 |cons r t ih=>
  cases t with
  |nil=>exact .nil
  |cons q t'=>exact .cons r ih
theorem Vals.eraseIdx:∀ {xs:List V}{us:LV}(i:Nat),Vals xs us->Vals (xs.eraseIdx i) (us.eraseIdx i)
 |_,_,_,.nil=>.nil
 |_,_,0,.cons _ t=>t
 |_,_,i+1,.cons r t=>.cons r (Vals.eraseIdx i t)
def Vals.reverse(h:Vals xs us):Vals xs.reverse us.reverse:=by
 induction h with
 |nil=>exact .nil
 |cons r t ih=>rw[iq,iq];exact Vals.append ih (.cons r .nil)
theorem Vals.rep(h:Vals xs us):∀k:Nat,Vals (List.replicate k xs).flatten (List.replicate k us).flatten
 |0=>.nil
 |k+1=>by
  rw[jV,jV,lD,lD];exact Vals.append h (Vals.rep h k)
def Ff{α:Type}(l:List α):l.eraseIdx (l.length-1)=l.dropLast:=by
 induction l with
 |nil=>rfl
 |cons a r ih=>
  cases r with
  |nil=>rfl
  |cons b r=>
   have e:(a::b::r).length-1=((b::r).length-1)+1:=by
    have h1:(a::b::r).length=r.length+2:=rfl;have h2:(b::r).length=r.length+1:=rfl;lia
   rw[e,List.eraseIdx_cons_succ,ih];all_goals rfl
theorem wb{α:Type}:∀(l:List α) (i:Nat),(l.eraseIdx i).length<=l.length
 |[],_=>ay _
 |_::_,0=>Nat.le_succ _
 |_::r,i+1=>nr (wb r i)
theorem wc(its:LV):∀(k:Nat) (acc:LV),
  List.foldl (λ x1 x2=>x1++x2) acc.toArray (List.replicate k its.toArray)=(acc++(List.replicate k its).flatten).toArray
 |0,acc=>by simp
 |k+1,acc=>by
  have e:acc.toArray++its.toArray=(acc++its).toArray:=on
  have e2:(acc++its)++(List.replicate k its).flatten=acc++(List.replicate (k+1) its).flatten:=by
   rw[jV,lD,eX]
  rw[<- e2,<- wc its k (acc++its),<- e,jV,List.foldl_cons]
section
variable {pins:LO}{σ:St}{H:Hp}{s:Shared}{l b:Addr}{xs ys zs:List V}
theorem Inv.lset{its its':LV}{f:Array Value->Array Value}{t':Nat}(I:Inv X pins σ H s)(hH:H l=some (.lst xs))
  (e:s.heap.get? l=some { cls:=.type "list",data:=.seq its.toArray n }) (hf:f its.toArray=its'.toArray) (hv:Vals ys its') (hz:ys.length<=sizeLine) :
  Inv X pins σ (upd H l (.lst ys)) { s with heap:=s.heap.update l (Obj.mapSeq f),toks:=t' }:=by
 have q:=PySem.IsL.update e f;rw[hf] at q;refine I.write (x:=l) (e:=l) (by rw[hH];exact trivial) (.inl rfl) (λ b' u hb hu=>(fH s.heap (Obj.mapSeq f) (cK hb)).trans hu) ⟨_,q⟩ ?_;exact⟨hz,its',_,hv,q⟩
theorem Inv.lnew{t':Nat}(I:Inv X pins σ H s)(hv:Vals ys its)(hz:ys.length<=sizeLine) :
  Inv X pins σ (upd H s.heap.objs.size (.lst ys)) { s with heap:=s.heap.push { cls:=.type "list",data:=.seq its.toArray },toks:=t' } :=
 I.laid (λ _ _ q=>aI _ q) (ay _) ⟨hz,its,0,hv,be _ rfl⟩
def Inv.fresh(I:Inv X pins σ H s):H s.heap.objs.size=none:=I.hok.fresh (ay _)
def Inv.lstM(I:Inv X pins σ H s)(hH:H l=some (.lst xs)):xs.length<=sizeLine/\∃(its:LV) (n:Nat),Vals xs its/\xs.length=its.length/\s.heap.get? l=some { cls:=.type "list",data:=.seq its.toArray n }:=by
 obtain⟨z,its,n,r,e⟩:=I.hok l _ hH;exact⟨z,its,n,r,r.length,e⟩
def Fg{n:Nat}(h:n<=sizeLine):Builtin.List.listTooLong n=false:=by
 unfold Builtin.List.listTooLong;exact bq ca
end
noncomputable def ny:V->List V->Hp->VK->Prop:=λ x vs H Q=>∃l xs y,x=.ref l/\vs=[y]/\H l=some (.lst xs)/\xs.length<sizeLine/\Q .non (upd H l (.lst (xs++[y])))
def we:MtM X "list.append" ny:=by
 intro pins s σ H x vs v us Q I rx rv h;obtain⟨l,xs,y,rfl,rfl,hH,hz,q⟩:=h;cases rx;obtain⟨u,rfl,ru⟩:=rv.one;obtain⟨z,its,n,r,hl,e⟩:=I.lstM hH;refine iu s1e ⟨_,e,O⟩ s0v (s0i _ _) (PySem.list_append l its.toArray n u (by rw[aV];lia)) ⟨e,?_⟩;refine⟨.non,_,I.lset (its':=its++[u]) hH e on (r.append (.cons ru .nil)) ?_,O,q⟩;rw[aN,dO];lia
noncomputable def pj:V->List V->Hp->VK->Prop:=λ x vs H Q=>∃l xs y,x=.ref l/\vs=[]/\H l=some (.lst xs)/\xs[xs.length-1]?=some y/\Q y (upd H l (.lst xs.dropLast))
def Fh:MtM X "list.pop" pj:=by
 intro pins s σ H x vs v us Q I rx rv h;obtain⟨l,xs,y,rfl,rfl,hH,hy,q⟩:=h;cases rx;have hus:=rv.zero;subst hus;obtain⟨z,its,n,r,hl,e⟩:=I.lstM hH;obtain⟨u,hu,ru⟩:=r.get hy
 have hy':its.toArray[its.toArray.size-1]?=some u:=by
  show its.toArray[its.length-1]?=some u;rw[<- sH,<- hl];exact hu
 refine iu F.slot_list_pop ⟨_,e,O⟩ F.entry_list_pop (F.args_list_pop_1 _) (MeetsSeq.list_pop_last l its.toArray n u hy' (by rw[aV];lia)) ⟨e,?_⟩;refine⟨y,_,I.lset (its':=its.dropLast) hH e ?_ r.dropLast ?_,ru,q⟩
 ·show its.toArray.eraseIdxIfInBounds (its.toArray.size-1)=its.dropLast.toArray;rw[aV,wf,Ff]
 ·rw[List.length_dropLast];lia
noncomputable def nA:V->List V->Hp->VK->Prop:=λ x vs H Q=>∃l xs i k y,x=.ref l/\vs=[.int i]/\H l=some (.lst xs)/\-(2 ^ 63)<=i/\i<2 ^ 63/\seqIndex? i xs.length=some k/\xs[k]?=some y/\Q y (upd H l (.lst (xs.eraseIdx k)))
def Fi:MtM X "list.pop" nA:=by
 intro pins s σ H x vs v us Q I rx rv h;obtain⟨l,xs,i,k,y,rfl,rfl,hH,h1,h2,hk,hy,q⟩:=h;cases rx;obtain⟨u,rfl,ru⟩:=rv.one;obtain⟨t,rfl⟩:=ru;obtain⟨z,its,n,r,hl,e⟩:=I.lstM hH;obtain⟨w,hw,rw'⟩:=r.get hy
 refine iu F.slot_list_pop ⟨_,e,O⟩ F.entry_list_pop (F.args_list_pop_2 _ _)
  (MeetsSeq.list_pop_at l its.toArray n i t k w (s0o h1 h2) (by rw[aV,<- hl];exact hk) (by rw[<- sH];exact hw) (by rw[aV];lia)) ⟨e,?_⟩
 refine⟨y,_,I.lset (its':=its.eraseIdx k) hH e ?_ (r.eraseIdx k) ?_,rw',q⟩
 ·show its.toArray.eraseIdxIfInBounds k=(its.eraseIdx k).toArray;rw[wf]
 ·have:=wb xs k;lia
noncomputable def Fj:R2:=λ x y H Q=>∃l k xs,x=.ref l/\y=.int k/\H l=some (.lst xs)/\-(2 ^ 63)<=k/\k<2 ^ 63/\xs.length*k.toNat<=sizeLine /\
 ∀p,H p=none->Q (.ref p) (upd H p (.lst (List.replicate k.toNat xs).flatten))
def Fk{α:Type}(xs:List α)(k:Nat):(List.replicate k xs).flatten.length=k*xs.length:=by
 induction k with
 |zero=>simp
 |succ k ih=>rw[jV,lD,aN,ih,Nat.succ_mul,Nat.add_comm]
def Fl:OpR X (binaryOp .Mult) Fj:=by
 intro pins s σ H x y v u Q I rx ry h;obtain⟨l,k,xs,rfl,rfl,hH,h1,h2,hz,q⟩:=h;cases rx;obtain⟨t,rfl⟩:=ry;obtain⟨z,its,n,r,hl,e⟩:=I.lstM hH;have hlen:its.toArray.size*k.toNat<=sizeLine:=by rw[aV,<- hl];exact hz
 have hcap:¬its.toArray.size*k.toNat > (2 ^ 63-1)/8:=by
  have:(sizeLine:Nat)<=(2 ^ 63-1)/8:=fu;lia
 have hfit:¬(!Builtin.List.listFitsIndex k)=true:=by
  rw[s0o h1 h2];exact cj
 have hlong:¬Builtin.List.listTooLong (its.toArray.size*k.toNat)=true:=by
  rw[Fg hlen];exact cj
 have hnew:List.foldl (λ x1 x2=>x1++x2) #[] (List.replicate (if its.toArray.isEmpty=true then 0 else k.toNat) its.toArray)=(List.replicate k.toNat its).flatten.toArray:=by
  have f0:∀m:Nat,List.foldl (λ x1 x2=>x1++x2) #[] (List.replicate m its.toArray)=(List.replicate m its).flatten.toArray:=λ m=>by
   have:=wc its m [];rw[List.nil_append] at this;exact this
  rw[f0]
  cases its with
  |nil=>simp
  |cons a r'=>rw[if_neg on]
 refine wpAny_binaryOp_repeat_ref (T := "list") (U := "int") fu ⟨_,e,O⟩ (λ s'=>typeIs_int s' k t) noFill_list_mul F.fills_int_mul F.slot_int_rmul repeat_list F.slot_int_index.lookup
  (iu F.slot_int_rmul (typeIs_int s k t) F.entry_int_rmul (F.args_int_rmul_2 _ _) (int___rmul___int_list k t l its.toArray n)
   ⟨e,rfl,⟨_,e,rfl⟩,iu F.slot_list_mul ⟨_,e,rfl⟩ F.entry_list_mul (F.args_list_mul_2 _ _) (AutoListH.list___mul___list_int_3 l its.toArray n k t hfit hcap hlong) ⟨e,?_⟩⟩)
 rw[hnew];exact⟨.ref _,_,I.lnew (t':=s.toks) (r.rep k.toNat) (by rw[Fk,Nat.mul_comm];exact hz),O,q _ I.fresh⟩
section
variable {prog:Program}{w:World}{A:Around}{E:VS}{s:Shared}
end
end _L
namespace Att
open PySem PySem.W PySem.Calls PyProof.Rows
def Fm:∀(ns:LI) (vs:LV),WellAll P h vs (ns.map WData.int)->IntsAre vs ns:=by
 intro ns
 induction ns with
 |nil=>
  intro vs w;rw[s1p] at w;cases w;exact .nil
 |cons n ns ih=>
  intro vs w;rw[aX] at w
  cases w with
  |cons a b=>
   cases a;exact .cons _ _ (ih _ b)
theorem Fn{l:OpenLaw}(hn:l.most=some n)
  (hpre:l.row.toRowW.claim.pre args=true) (hwl:WellAll P h vals args) :
  ∃a vs ns,vals=[Value.ref a]/\args=[WData.list (ns.map WData.int)]/\h.get? a=some { cls:=.type "list",data:=.seq vs.toArray }/\IntsAre vs ns/\ns.length<=n:=by
 have hsh:WShape.hasAll [] args [.list .int]=true:=(pre_splitW hpre).1;have hc:l.pre.holds [] { args:=args }=true:=(pre_splitW hpre).2;obtain⟨d,r,rfl,h1,h2⟩:=hasAllW_cons hsh;obtain rfl:=hasAllW_nil h2;obtain⟨xs,rfl,h3⟩:=hasW_list h1;obtain⟨ns,rfl⟩:=items_int h3
 have hlen:ns.length<=n:=by
  unfold OpenLaw.pre at hc
  have h4:(WTm.not (.lt (.lit (.int (n:Int))) (.len (.arg 0)))).holds [] { args:=[.list (ns.map .int)] }=true:=by
   have h4:=(holds_andW hc).1;rw[hn] at h4;exact h4
  have h5:=condW_of h4 (w_not (w_lt w_lit (w_len_list (w_arg rfl))));rw[ao] at h5;refine Nat.le_of_not_lt λ q=>?_;have q':(n:Int)<((ns.length:Nat):Int):=ca
  first
   |(rw[cY q'] at h5;exact absurd h5 fu)
   |(simp at h5;lia)
 cases hwl with
 |cons w1 w2=>
  cases w2
  cases w1 with
  |list ho hall=>exact⟨_,_,ns,rfl,rfl,ho,Fm ns _ hall,hlen⟩
def Fo(l:OpenLaw)(args:List WData):l.row.toRowW.claim.post args (.bool true) args=true :=
 postW_of (r:=l.row.toRowW) (X:=(true == true))
  (show WShape.has [] (.bool true) .bool=true by first|rfl|decide|simp[WShape.has,WShape.arms,WShape.armsAll])
  (show(WTm.eq .res (.lit (.bool true))).value [] { args:=args,res:=some (.bool true),after:=args }=some (.bool (true == true)) from w_eq_bool (w_res rfl) w_lit) rfl
theorem attach_call{l:OpenLaw}{YP:World->Heap->Prop}{d:DefRec}
  (hn:l.most=some n) (hdf:d.params.defaults=[])
  (call:∀(w:World) (s₀ s₁:Shared) (mg mb:SV) (fa:Addr) (o:Obj) (pm cd doc:Value) (a:Addr) (vs:LV) (ns:LI),
   Ground q loose [] XP w s₀ mg mb s₁.heap->YP w s₁.heap ->
   s₁.heap.get? fa=some o->o.data=.func (docDef d.name d.params d.body d.scope pm cd doc)->s₁.heap.CodeRec cd d.name->mg d.name=some (.ref fa) ->
   s₁.heap.get? a=some { cls:=.type "list",data:=.seq vs.toArray }->IntsAre vs ns->ns.length<=n->s₁.gens=#[] ->
   codeAny (model l.prog w) callerA (.call (.ref fa) ⟨[.ref a],[]⟩) (λ r s'=>r=.ok (.ret (.bool true))/\OldK s₁.heap s'.heap/\s'.os=s₁.os/\AllBare s'.gens) s₁) :
  WalkO q loose XP YP l.row.toRowW d [] (λ f vs=>PySem.call f vs):=by
 intro w s₀ s₁ mg mb G Y fa o pm cd doc dV kV ho hd hcd hD hmg hg args vals as hpre hlay hrd hwl hlo;obtain rfl:dV=.none:=Dflts.none hD hdf;obtain rfl:kV=.none:=Dflts.noKw hD;obtain⟨a,vs,ns,rfl,rfl,hobj,hints,hlen⟩:=Fn hn hpre hwl;refine enter_call (mZ (call w s₀ s₁ mg mb fa o pm cd doc a vs ns G Y ho (fd_plain hd) hcd hmg hobj hints hlen hg) λ r s' hq=>?_);obtain⟨rfl,h2,h3,h4⟩:=hq;exact⟨.inl ⟨.bool true,.bool true,[],O,λ _=>rfl,.bool true,Fo l _,λ _=>⟨List.Pairwise.nil,λ _ hm=>(nomatch hm)⟩⟩,h2,h3,h4⟩
section
variable {prog:Program}{w:World}{A:Around}{E:VS}{s:Shared}{K:Frag}
end
end Att
namespace _L
open PySem PySem.Spec PyProof.Rows
theorem sJ:∀ {vs:LV}{ns:LI},IntsAre vs ns->Vals (ns.map V.int) vs
 |_,_,.nil=>.nil
 |_,_,.cons n t h=>.cons ⟨t,rfl⟩ (sJ h)
noncomputable def cQ(s:Stmt):Arguments:=match s with
 |.FunctionDef _ a _ _ _ _ _ _ _ _=>a
 |_=>{ posonlyargs:=[],args:=[],vararg:=none,kwonlyargs:=[],kw_defaults:=[],kwarg:=none,defaults:=[] }
noncomputable def bv(s:Stmt):List Stmt:=match s with
 |.FunctionDef _ _ b _ _ _ _ _ _ _=>b
 |_=>[]
noncomputable def ax(s:Stmt):Scope:=match s with
 |.FunctionDef _ _ _ _ _ _ sc _ _ _=>sc
 |_=>{ kind:=.function,names:=[],isGenerator:=false,isCoroutine:=false }
abbrev CX0:CXT:=λ _ _ _ _ _ _=>False
abbrev E0:XK:=λ _ _ _=>False
def Fp:oY CX0 X E0:=λ _ _ _ _ _ _ _ h=>h.elim
structure Fun (K:FG)(x qual:Str)(st:Stmt)(f:Addr)(fd:FuncData):Prop where
 ex:∃(oc:Value) (od:OA) (kV doc pm:Value) (an:OA) (cdv ct:Value) (osl:AV),
  fd=W.fnOf x qual (cQ st) (bv st) (ax st) .none kV doc pm an cdv ct/\K.lookup f=some ⟨oc,od,.func fd,osl⟩/\W.codeIn K cdv qual=true
 kp:W.keepIn K (.ref f)=true
section
variable {P:Program}{w:World}{K:FG}{mg:SV}{base:Heap}
theorem Fun.ok{st:Stmt}{sp:Sp}(F:Fun K x qual st f fd)(S:FnScope N ps (ax st))(len:∀vs H Q E,sp vs H Q E->vs.length=ps.length)
  (hbody:∀(cdv:Value) (A:Around) (outer:List Env) (s:Shared) (H:Hp) (vs:List V) (Q:VK) (E:XK),Room k (A.deeper (envOfC qual (ax st) s.heap.objs.size f cdv))->sp vs H Q E ->
   ∃t,PSs (dB CX0 P w K mg base N qual (ax st) f cdv A outer s H E).nox (bv st) t/\t { nx:=λ _ H'=>Q .non H',rt:=Q } (start N vs) H):FnOk P w K mg base CX0 (k+1) f fd ps sp:=by
 obtain⟨oc,od,kV,doc,pm,an,cdv,ct,osl,rfl,lk,hcd⟩:=F.ex;refine vM lk hcd S len λ A outer s H vs Q E hr hsp=>?_;obtain⟨t,h,q⟩:=hbody cdv A outer s H vs Q E hr hsp;exact⟨t,h.nox,q⟩
theorem Fun.binds{st:Stmt}{ps:List Str}(F:Fun K x qual st f fd)
  (h:∀(kV doc pm:Value) (an:OA) (cdv ct:Value) (us:LV),us.length=ps.length->bindArgs (W.fnOf x qual (cQ st) (bv st) (ax st) .none kV doc pm an cdv ct) ⟨us,[]⟩=pure (ps.zip us)):Binds K fd ps []:=by
 obtain⟨oc,od,kV,doc,pm,an,cdv,ct,osl,rfl,lk,hcd⟩:=F.ex;exact .all (h kV doc pm an cdv ct)
theorem wg{st:Stmt}{oc:Value}{od an:OA}{osl:AV}{kV doc pm cdv ct:Value}(l:K.lookup f=some ⟨oc,od,.func (W.fnOf x qual (cQ st) (bv st) (ax st) .none kV doc pm an cdv ct),osl⟩)
  (c:W.codeIn K cdv qual=true) (k:W.keepIn K (.ref f)=true):Fun K x qual st f (W.fnOf x qual (cQ st) (bv st) (ax st) .none kV doc pm an cdv ct):=⟨⟨oc,od,kV,doc,pm,an,cdv,ct,osl,rfl,l,c⟩,k⟩
end
def aP{n:Nat}(h:n<=1000):n<sizeLine:=sK h fu
variable {X:Cx}
end _L
set_option maxHeartbeats 4000000
namespace _L
open PySem PySem.Spec PyProof.Rows
section
variable {prog:Program}{w:World}{A:Around}{R:Result->Shared->Prop}{s:Shared}
theorem Fq{elt target iter:Expr}{it acc:Value}(I:Nat->Shared->Prop)
  (turn:∀n s,I n s->wpAny (model prog w) A (pyNext it) (λ r s₁=>match r with
   |none=>R (.ok .next) s₁
   | some v=>wpAny (model prog w) A (letOwnedTupleGo target it v) (λ _ s₀=>wpAny (model prog w) A (assign target env v) (λ _ s₂=>wpAny (model prog w) A (eval elt env) (λ x s₃ =>
     wpAny (model prog w) A (call (.builtin "list.append") [acc,x]) (λ _ s₄=>∃m,m<n/\I m s₄) (λ _ _=>False) s₃)
     (λ _ _=>False) s₂) (λ _ _=>False) s₀) (λ _ _=>False) s₁) (λ _ _=>False) s)
  (n:Nat) (h:I n s) :
  codeAny (model prog w) A (.compLoop (.ListComp elt [⟨target,iter,[],0⟩] scope pos) 0 it acc env) R s:=by
 refine codeAny_loop rfl I (λ n s hI=>?_) n h;show wpAny _ _ ((compTurn (.ListComp elt [⟨target,iter,[],0⟩] scope pos) 0 it acc env).onRaise (λ x=>do noteFrame x env;theTreesLotGoes x)) _ _ s;refine wpAny_noted ?_;rw[compTurn_list1];refine af (jQ (af (cP (turn n s hI) (λ r s₁ h₁=>?_) λ _ _ h'=>h'.elim)))
 cases r with
 |none=>exact aq h₁
 |some v=>
  refine af (cP h₁ (λ _ s₀ h₀=>?_) λ _ _ h'=>h'.elim)
  exact af (cP h₀ (λ _ s₂ h₂=>af (af (cP h₂ (λ x s₃ h₃=>af (cP h₃
   (λ _ s₄ h₄=>aq (aq ⟨rfl,h₄⟩)) λ _ _ h'=>h'.elim)) λ _ _ h'=>h'.elim))) λ _ _ h'=>h'.elim)
end
noncomputable def bC(X:Cx)(N:List Str)(scope:Scope)(cl:LA)(C:Addr)(ex:List Addr)(s:Shared)(H:Hp):Cx where
 prog:=X.prog
 w:=X.w
 K:=X.K
 mg:=X.mg
 base:=X.base
 A:=X.A
 N:=N
 s₀:=s
 H₀:=H
 env:=compEnvC scope cl C X.env
 outer:=X.stack
 stack:=X.stack
 ex:=ex
 fn:=λ _=>false
 calm:=X.calm
 pn:=X.pn
 xe:=λ _ _=>False
noncomputable def dD(k:Nat)(js:List Nat)(σ:St):St:=List.replicate k none++js.map λ j=>(σ[j]?).join
noncomputable def lE(wi:TI)(k:Nat)(js:List Nat)(g:TG)(te:TE):TE:=λ σ H Q=>wi σ H λ J H1=>
 ∃W:Nat->Nat->List V->St->Hp->Prop,(∃m,W 0 m [] (dD k js σ) H1)/\∀i m ys σ' H',W i m ys σ' H' ->
  (J.stop i H'/\∀p,H' p=none->Q (.ref p) (upd H' p (.lst ys))) \/
  (J.go i H'/\ys.length < sizeLine/\∃N:List V->St->Hp->Prop,(∀zs σ2 H2,N zs σ2 H2->∃m',m' < m/\W (i+1) m' zs σ2 H2) /\
   ∀x H2,J.yld i H' x H2->g x σ' H2 λ σ3 H3=>te σ3 H3 λ v H4=>N (ys++[v]) σ3 H4)
structure Cap (X:Cx)(scope:Scope)(cl:LA)(x:Str)(j:Nat):Prop where
 at_:X.N[j]?=some x
 out:X.env.scope.names.lookup x=some .cell\/X.env.scope.names.lookup x=some .free
 inn:(relabel scope X.env).names.lookup x=some .cell\/(relabel scope X.env).names.lookup x=some .free
def Fs{σ:St}{j:Nat}(h:(σ[j]?).join=some v):σ[j]?=some (some v):=by
 cases e:σ[j]? with
 |none=>rw[e] at h;cases h
 |some o=>
  rw[e] at h
  cases o with
  |none=>cases h
  |some u=>cases h;rfl
noncomputable def jW(wi:TI)(k:Nat)(js:List Nat)(g:TG)(tc:TT)(te:TE):TE:=λ σ H Q=>wi σ H λ J H1=>
 ∃W:Nat->Nat->List V->St->Hp->Prop,(∃m,W 0 m [] (dD k js σ) H1)/\∀i m ys σ' H',W i m ys σ' H' ->
  (J.stop i H'/\∀p,H' p=none->Q (.ref p) (upd H' p (.lst ys))) \/
  (J.go i H'/\ys.length < sizeLine/\∃N:List V->St->Hp->Prop,(∀zs σ2 H2,N zs σ2 H2->∃m',m' < m/\W (i+1) m' zs σ2 H2) /\
   ∀x H2,J.yld i H' x H2->g x σ' H2 λ σ3 H3=>tc σ3 H3 λ b H4=>if b=true then te σ3 H4 λ v H5=>N (ys++[v]) σ3 H5 else N ys σ3 H4)
noncomputable abbrev pq:=Program->World->Around->Env->(Bool->Shared->Prop)->Shared->Prop
noncomputable def sM(ifs:List Expr)(T:pq):Prop:=(∀ {prog:Program}{w:World}{A:Around}{R:Result->Shared->Prop}{s:Shared}{elt target iter:Expr}{scope:Scope}{pos:Pos}{it acc:Value}{env:Env}(I:Nat->Shared->Prop),
  (∀n s,I n s->wpAny (model prog w) A (pyNext it) (λ r s₁=>match r with
   |none=>R (.ok .next) s₁
   | some v=>wpAny (model prog w) A (letOwnedTupleGo target it v) (λ _ s₀=>wpAny (model prog w) A (assign target env v) (λ _ s₂=>T prog w A env (λ b s₃ =>
     if b=true then wpAny (model prog w) A (eval elt env) (λ x s₄ =>
      wpAny (model prog w) A (call (.builtin "list.append") [acc,x]) (λ _ s₅=>∃m,m<n/\I m s₅) (λ _ _=>False) s₄) (λ _ _=>False) s₃
     else ∃m,m<n/\I m s₃) s₂) (λ _ _=>False) s₀) (λ _ _=>False) s₁) (λ _ _=>False) s)->∀n,I n s ->
  codeAny (model prog w) A (.compLoop (.ListComp elt [⟨target,iter,ifs,0⟩] scope pos) 0 it acc env) R s) /\
 ∀ {p w A e k k' s},T p w A e k s->(∀b s,k b s->k' b s)->T p w A e k' s
def wj:pq:=λ _ _ _ _ k s=>k true s
def Fu:sM [] wj:=⟨λ I t n h=>Fq I t n h,λ h m=>m _ _ h⟩
noncomputable def PM(X:Cx)(T:pq)(tc:TT):Prop:=∀(pins:LO) (s:Shared) (σ:St) (H:Hp) (K:Bool->Hp->Prop),Inv X pins σ H s->tc σ H K->T X.prog X.w X.A X.env (λ b s'=>∃H',Inv X pins σ H' s'/\K b H') s
theorem wl{X:Cx}{elt tg iter:Expr}{cl:LA}{own fv:List Str}{js:List Nat}
    (hc:X.calm=true) (hi:PI X tg iter wi) (hclos:closureFor scope X.env=pure cl) (hcell:∀y∈scope.names,y.2≠.cell) (hkind:scope.kind=.function)
    (hnames:∀y∈scope.names,y.2=.local->scope.names.lookup y.1=some .local)
    (hcl:∀x c,cl.lookup x=some c->X.env.cells.lookup x=some c)
    (hhas:∀x,((relabel scope X.env).names.lookup x=some .cell\/(relabel scope X.env).names.lookup x=some .free)->∃c,cl.lookup x=some c)
    (hlen:js.length=fv.length) (hcap:∀(i:Nat) x j,fv[i]?=some x->js[i]?=some j->Cap X scope cl x j)
    (hg:∀(C:Addr) (ex:List Addr) (s:Shared) (H:Hp),PG (bC X (own++fv) scope cl C ex s H) tg g)
    (he:∀(C:Addr) (ex:List Addr) (s:Shared) (H:Hp),PE (bC X (own++fv) scope cl C ex s H) elt te)
    (ht:∀(C:Addr) (ex:List Addr) (s:Shared) (H:Hp),PM (bC X (own++fv) scope cl C ex s H) T0 tc) (lp:sM ifs T0)
    (hs:∀x,foldedSetIterable iter X.env x=pure x)(I:Inv X pins σ H s) (h:jW wi own.length js g tc te σ H Q)
    (fin:∀(a C:Addr) (s5:Shared) (H5:Hp) (fl:Flow),Inv X pins σ H5 s5->H5 C=none->C≠X.env.locals->X.s₀.heap.objs.size<=C->(∀x c,X.env.cells.lookup x=some c->c≠C)->(∀p∈X.pn++pins,p.1≠C)->(∃m,s5.heap.Ns C m)->Q (.ref a) H5->compPost (model X.prog X.w) X.A X.xe use QQ (.ref a) C (.ok fl) s5) :
    wpAny (model X.prog X.w) X.A (comprehension (.ListComp elt [⟨tg,iter,ifs,0⟩] scope pos) scope X.env fpos (newList []) false (firstIter [⟨tg,iter,ifs,0⟩] X.env) use) QQ X.xe s:=by
  refine wpAny_comprehension_free (use:=use) rfl hs hclos hkind hnames (thn (hi pins s σ H _ I h) λ v s1 h1=>thn h1 λ itv s2 h2=>?_);obtain⟨it,fp,tn,J,H2,e,I2,T,st2,f2,W,⟨m0,w0⟩,turn⟩:=h2;subst e;refine dC (wpAny_newFunctionEnv hcell (by intro y hy;simp at hy) (λ h₁ hns₁ hsb₁=>?_) hkind);dsimp only at hns₁ hsb₁ ⊢;generalize hHp:s2.heap.push { cls:=.type "list",dict:=none,data:=.seq ([]:LV).toArray }=hL at hns₁ hsb₁ ⊢;have hC:hL.objs.size=s2.heap.objs.size+1:=by rw[<- hHp,gc]
  have hDC:s2.heap.objs.size≠hL.objs.size:=by rw[hC];exact bn (jd _)
  have ltC:∀b,b<s2.heap.objs.size->b≠hL.objs.size:=λ b hb=>by rw[hC];exact bn (eY hb)
  have old:∀b o,s2.heap.get? b=some o->h₁.get? b=some o:=λ b o e=>hsb₁.extBut b o (ltC b (aJ e)) (aI _ (hHp ▸ aI _ e));have hacc:h₁.get? s2.heap.objs.size=some { cls:=.type "list",data:=.seq ([]:LV).toArray 0 }:=hsb₁.extBut _ _ hDC (aI _ (hHp ▸ be _ rfl));have hfresh:∀a,s2.heap.objs.size<=a->H2 a=none:=λ a ha=>I2.hok.fresh ha
  have fpL:∀b∈fp,b<s2.heap.objs.size:=λ b hb=>by
    obtain⟨o,e,_⟩:=T.obj _ _ st2 b hb;exact aJ e
  have cellL:∀x c,cl.lookup x=some c->c<s2.heap.objs.size:=λ x c e=>by
    obtain⟨v,q⟩:=I2.cell x c (hcl x c e);exact q.lt
  have pinL:∀p∈X.pn++pins,p.1<s2.heap.objs.size:=λ p hp=>aJ (I2.pin p hp).1;generalize hX:bC X (own++fv) scope cl hL.objs.size fp s2 H2=Y
  have ok:Y.Ok:=by
    subst hX
    refine⟨I2.ok.mod,hkind,I2.ok.glob,I2.ok.blt,by show s2.heap.objs.size≤hL.objs.size;lia,λ x y c h1 h2=>I2.ok.inj x y c (hcl x c h1) (hcl y c h2),λ x hx=>hhas x hx,
      λ x c hf=>absurd hf (by show ¬(false=true);decide),I2.ok.hd,I2.ok.frames,.inl rfl,λ b hb=>⟨ltC b (fpL b hb),λ x c e=>(f2 b hb).2.2.2.2.1 x c (hcl x c e)⟩,I2.bs,dg I2.ok.bsz I2.sz,λ b o e hb=>?_,λ b hb hz=>?_,I2.stack,I2.stkFree⟩
    · rcases(f2 b hb).2.2.2.1 with z|z
      · exact I2.ok.noex b o e z
      · exact absurd (bM (aJ e) (dg I2.ok.bsz z)) (dM _)
    · rcases aL.mp (I2.stkSub b hz) with z|z
      · exact(f2 b hb).2.1 z
      · exact(f2 b hb).2.2.1 z
  have hYl:Y.env.locals=hL.objs.size:=by subst hX;rfl
  have hYs:Y.s₀=s2:=by subst hX;rfl
  have hYH:Y.H₀=H2:=by subst hX;rfl
  have hYx:Y.ex=fp:=by subst hX;rfl
  have hYf:Y.fs=frs X.stack:=by subst hX;rfl
  have hYc:Y.env.cells=cl:=by subst hX;rfl
  have hYp:Y.pn=X.pn:=by subst hX;rfl
  have pinOk:∀p∈X.pn++pins,s2.heap.get? p.1=some p.2/\H2 p.1=none/\p.1≠hL.objs.size/\p.1 ∉ frs X.stack/\∀v,p.2.data≠.cell v:=λ p hp=>by
    obtain⟨e,n,ne,nf,d⟩:=I2.pin p hp;refine⟨e,n,ltC _ (aJ e),λ z=>?_,d⟩
    rcases aL.mp (I2.stkSub _ z) with q|q
    · exact ne q
    · exact nf q
  have stkL:∀b∈frs X.stack,b<s2.heap.objs.size:=λ b hb=>by
    obtain⟨_,o,ho,_⟩:=I2.stack.mem hb;exact aJ ho
  have I3:Inv Y (pins++[(s2.heap.objs.size,{ cls:=.type "list",data:=.seq ([]:LV).toArray 0 })]) (dD own.length js σ) H2 { s2 with heap:=h₁,toks:=s2.toks+([]:List (Str×Value)).length }:=by
    refine⟨ok,by subst hX;rfl,I2.bare,by rw[hYH,hYs];exact Un.kept old,⟨_,by rw[hYl];exact hns₁,λ i x v e1 e2 e3=>?_⟩,λ x c e=>?_,by rw[hYl];exact hfresh _ ca,λ x c e=>?_,λ p hp=>?_,by subst hX;exact I2.hok.kept old,?_⟩
    · subst hX;have e1:(own++fv)[i]?=some x:=e1;unfold dD at e2;by_cases hi:i<own.length
      · rw[eR (by simpa using hi),lB] at e2;split at e2<;>cases e2
      · rw[dn (by simpa using hi),hZ,aQ] at e2;rw[dn ca] at e1
        cases ej:js[i-own.length]? with
        |none=>rw[ej] at e2;cases e2
        |some j=>
          rw[ej] at e2;have cp:=hcap _ x j e1 ej;have e2':σ[j]?=some (some v):=Fs (bJ e2);obtain⟨m,hn,hl⟩:=I2.loc;obtain⟨u,r,l⟩:=hl j x v cp.at_ e2' (cp.out.elim (λ z=>.inr (.inl z)) λ z=>.inr (.inr z));refine⟨u,r,.inr ⟨cp.inn,?_⟩⟩;obtain⟨c,ec⟩:=hhas x cp.inn
          rcases l with ⟨k,_⟩|⟨_,c',ec',z⟩
          · have k:X.env.scope.names.lookup x=some .local:=k
            rcases cp.out with q|q<;>rw[q] at k<;>cases k
          · rw[hcl x c ec] at ec';cases ec';obtain⟨o,ho,hd⟩:=z;exact⟨c,ec,o,old _ _ ho,hd⟩
    · rw[hYc] at e;obtain⟨v,o,ho,hd⟩:=I2.cell x c (hcl x c e);exact⟨v,o,old _ _ ho,hd⟩
    · rw[hYc] at e;exact I2.freeC x c (hcl x c e)
    · rw[hYp] at hp;rw[hYl,hYf]
      rcases cg.mp hp with z|z
      · obtain⟨a,b,c,d,f⟩:=pinOk p (kX _ z);exact⟨old _ _ a,b,c,d,f⟩
      · rcases cg.mp z with z|z
        · obtain⟨a,b,c,d,f⟩:=pinOk p (cu _ z);exact⟨old _ _ a,b,c,d,f⟩
        · have e:p=_:=bh.mp z;subst e;exact⟨hacc,hfresh _ (ay _),hDC,λ z=>absurd (stkL _ z) (dM _),λ v z=>by cases z⟩
    · subst hX;unfold dD;show _=(own++fv).length;simp[hlen]
  have hYprog:Y.prog=X.prog:=by subst hX;rfl
  have hYw:Y.w=X.w:=by subst hX;rfl
  have hYK:Y.K=X.K:=by subst hX;rfl
  have hYA:Y.A=X.A:=by subst hX;rfl
  have hYcalm:Y.calm=true:=by subst hX;exact hc
  have hYxe:Y.xe=λ _ _=>False:=by subst hX;rfl
  have hYenv:Y.env=compEnvC scope cl hL.objs.size X.env:=by subst hX;rfl
  have hg':=hg hL.objs.size fp s2 H2;have he':=he hL.objs.size fp s2 H2;have ht':=ht hL.objs.size fp s2 H2;rw[hX] at hg' he' ht'
  have fpOk:∀ {H':Hp}{pn:LO},(∀b∈fp,H' b=none)->(∀p∈pn,p.1=s2.heap.objs.size\/p∈pins)->∀b∈fp,ja Y pn H' b:=λ hn hp b hb=>by
    refine⟨hn b hb,by rw[hYl];exact ltC b (fpL b hb),?_,.inl (by rw[hYx];exact hb),λ x c e=>?_,λ p hq=>?_⟩
    · rw[hYf];intro hz
      rcases aL.mp (I2.stkSub b hz) with z|z
      · exact(f2 b hb).2.1 z
      · exact(f2 b hb).2.2.1 z
    · rw[hYc] at e;exact(f2 b hb).2.2.2.2.1 x c (hcl x c e)
    · rw[hYp] at hq
      rcases cg.mp hq with z|z
      · exact(f2 b hb).2.2.2.2.2 p (kX _ z)
      · rcases hp p z with q|q
        · rw[q];exact cK (bn (fpL b hb))
        · exact(f2 b hb).2.2.2.2.2 p (cu _ q)
  have loop:∀s₃:Shared,s₃={ s2 with heap:=h₁,toks:=s2.toks+([]:List (Str×Value)).length } ->
      codeAny (model X.prog X.w) X.A (.compLoop (.ListComp elt [⟨tg,iter,ifs,0⟩] scope pos) 0 (.ref it) (.ref s2.heap.objs.size) (compEnvC scope cl hL.objs.size X.env))
        (compPost (model X.prog X.w) X.A X.xe use QQ (.ref s2.heap.objs.size) hL.objs.size) s₃:=by
    rintro s₃ rfl
    refine lp.1 (λ n s'=>∃i ys its k σ' H',Inv Y (pins++[(s2.heap.objs.size,{ cls:=.type "list",data:=.seq (its:LV).toArray k })]) σ' H' s'/\tn i s'.heap/\(∀b∈fp,H' b=none)/\Vals ys its/\ys.length<=sizeLine/\W i n ys σ' H') ?_ m0
      ⟨0,[],[],0,_,H2,I3,T.keep _ _ _ st2 λ b _ o e=>old b o e,λ b hb=>(f2 b hb).1,.nil,bW _,w0⟩
    rintro n s4 ⟨i,ys,its,k,σ4,H4,I4,st4,fr4,rv,hz,w4⟩
    have pinD:∀p∈(pins++[(s2.heap.objs.size,({ cls:=.type "list",data:=.seq (its:LV).toArray k }:Obj))]),p.1=s2.heap.objs.size\/p∈pins:=λ p hp=>by
      rcases cg.mp hp with z|z
      · exact .inr z
      · rw[bh.mp z];exact .inl rfl
    have F4:=fpOk (pn:=pins++[(s2.heap.objs.size,{ cls:=.type "list",data:=.seq (its:LV).toArray k })]) fr4 pinD
    rcases turn i n ys σ4 H4 w4 with ⟨stop,qn⟩|⟨go,hlt,N,hN,step⟩
    · have d:=T.done Y hYprog hYw hYK hYcalm i _ s4 σ4 H4 (λ _ _=>False) I4 F4 st4 stop;rw[hYA] at d;refine thn d λ r s5 ⟨hr,I5⟩=>?_;subst hr;obtain⟨m,hn,_⟩:=id I5.loc;rw[hYl] at hn;have hD:=I5.pin (s2.heap.objs.size,{ cls:=.type "list",data:=.seq (its:LV).toArray k }) (cu _ (cu _ (bh.mpr rfl)));have hDn:H4 s2.heap.objs.size=none:=hD.2.1;have kp:∀b o,b≠hL.objs.size->s5.heap.get? b=some o->s5.heap.get? b=some o:=λ b o _ e=>e;have B:=I5.base;rw[hYH,hYs,hYx,hYf] at B;have s2C:∀b o,s2.heap.get? b=some o->b≠hL.objs.size:=λ b o e=>ltC b (aJ e);have trk:∀b u,H4 b=some u->b≠s2.heap.objs.size:=λ b u e z=>by rw[z,hDn] at e;cases e
      have trC:∀b u,H4 b=some u->b≠hL.objs.size:=λ b u e z=>by
        have:=I5.free;rw[hYl,<- z,e] at this;cases this
      have hH2:∀b u,H2 b=some u->b≠s2.heap.objs.size:=λ b u e z=>by rw[z,hfresh _ (ay _)] at e;cases e
      have IX:Inv X pins σ (upd H4 s2.heap.objs.size (.lst ys)) s5:=by
       refine I2.call' (ch:=fp) (by show s5.os=s2.os;rw[I5.os,hYs]) ⟨λ b o e n hb hx=>kp b o (s2C b o e) (B.keep b o e n hb hx),λ b o e n hb hx=>?_,λ b o e n hx=>?_,λ b o e hx=>?_,λ b xs e=>?_,λ b o u e=>?_,λ b ps e=>?_⟩ ?_ I5.bare (λ b hb=>⟨(f2 b hb).2.2.2.1,(f2 b hb).2.1,(f2 b hb).2.2.2.2.1,(f2 b hb).2.2.2.2.2⟩)
       · obtain⟨sl,q⟩:=B.slot b o e n hb hx;exact⟨sl,kp b _ (s2C b o e) q⟩
       · rw[aG (bn (aJ e))];exact B.free b o e n hx
       · obtain⟨o',q⟩:=B.there b o e hx;exact⟨o',kp b o' (s2C b o e) q⟩
       · rw[aG (hH2 b _ e)];exact B.tups b xs e
       · rw[aG (hH2 b _ e)];exact B.frzs b o u e
       · obtain⟨more,q⟩:=B.tbls b ps e;exact⟨more,by rw[aG (hH2 b _ e)];exact q⟩
       · intro b u e;by_cases hb:b=s2.heap.objs.size
         · subst hb;rw[cJ] at e;cases e;exact⟨hz,its,k,rv,kp _ _ hDC hD.1⟩
         · rw[aG hb] at e;have okb:=I5.hok b u e;rw[hYprog,hYw] at okb;refine okb.stay (λ c v hc q=>kp c v ?_ q) (λ c q=>by rw[aG (trk c _ q)];exact q) λ c xs q=>by rw[aG (trk c _ q)];exact q
           rcases hc with z|z
           · rw[z];exact trC b u e
           · exact trC c _ z
      have zC:upd H4 s2.heap.objs.size (.lst ys) hL.objs.size=none:=by
        rw[aG (cK hDC)];have:=I5.free
        rwa [hYl] at this
      exact fin s2.heap.objs.size hL.objs.size s5 _ _ IX zC (cK (ltC _ I2.lt)) (by have:=I2.sz;lia) (λ x c e=>ltC c (by obtain⟨v,q⟩:=I2.cell x c e;exact q.lt)) (λ p hp=>ltC _ (pinL p hp)) ⟨m,hn⟩ (qn _ hDn)
    · have d:=T.item Y hYprog hYw hYK hYcalm i _ s4 σ4 H4 (λ _ _=>False) I4 F4 st4 go;rw[hYA] at d;refine thn d λ r s5 ⟨u,hr,h5⟩=>?_;subst hr;refine thn h5 λ _ s6 ⟨x,H6,I6,r6,y6,st6,fr6⟩=>?_;have I6':=I6.pinned (fpOk (pn:=pins++[(s2.heap.objs.size,{ cls:=.type "list",data:=.seq (its:LV).toArray k })]) fr6 pinD) (T.obj _ _ st6);have d7:=hg' _ s6 σ4 H6 x u _ I6' r6 (step x H6 y6);rw[hYprog,hYw,hYA,hYxe,hYenv] at d7;refine thn d7 λ _ s7 ⟨σ7,H7,I7,q7⟩=>?_;have dt:=ht' _ s7 σ7 H7 _ I7 q7;rw[hYprog,hYw,hYA,hYenv] at dt;refine lp.2 dt λ bb s7 ⟨H7,I7,q7⟩=>?_
      cases bb with
      |false=>
        obtain⟨m',hm,w8⟩:=hN _ _ _ q7;have tn8:tn (i+1) s7.heap:=T.keep _ _ _ st6 λ b hb o e=>(I7.pin (b,o) (cu _ (cu _ (lh hb e)))).1
        have fr8:∀b∈fp,H7 b=none:=λ b hb=>by
          obtain⟨o,e,d⟩:=T.obj _ _ st6 b hb;exact(I7.pin (b,o) (cu _ (cu _ (lh hb e)))).2.1
        exact⟨m',hm,i+1,ys,its,k,σ7,H7,I7.unpinned,tn8,fr8,rv,hz,w8⟩
      |true=>
        have q7:te σ7 H7 _:=q7;show wpAny _ _ (eval elt _) _ _ s7;have d8:=he' _ s7 σ7 H7 _ I7 q7;rw[hYprog,hYw,hYA,hYxe,hYenv] at d8;refine thn d8 λ u8 s8 ⟨v8,H8,I8,r8,n8⟩=>?_;obtain⟨m',hm,w8⟩:=hN _ _ _ n8;have pD:=I8.pin (s2.heap.objs.size,{ cls:=.type "list",data:=.seq (its:LV).toArray k }) (cu _ (kX _ (cu _ (bh.mpr rfl))));have tn8:tn (i+1) s8.heap:=T.keep _ _ _ st6 λ b hb o e=>(I8.pin (b,o) (cu _ (cu _ (lh hb e)))).1
        have fr8:∀b∈fp,H8 b=none:=λ b hb=>by
          obtain⟨o,e,d⟩:=T.obj _ _ st6 b hb;exact(I8.pin (b,o) (cu _ (cu _ (lh hb e)))).2.1
        have J8:Inv Y pins σ7 H8 s8:=I8.unpinned.unpinned;have eD:s8.heap.get? s2.heap.objs.size=some { cls:=.type "list",data:=.seq its.toArray k }:=pD.1;refine iu s1e ⟨_,eD,O⟩ s0v (s0i _ _) (PySem.list_append _ its.toArray k u8 (by rw[aV,<- rv.length];lia)) ⟨eD,?_⟩;have other:∀b o,b≠s2.heap.objs.size->s8.heap.get? b=some o->(s8.heap.update s2.heap.objs.size (Obj.mapSeq λ xs=>xs.push u8)).get? b=some o:=λ b o nb e=>(fH s8.heap _ (cK nb)).trans e
        have J9:=J8.turned (t':=s8.toks) (it:=s2.heap.objs.size) (h':=s8.heap.update s2.heap.objs.size (Obj.mapSeq λ xs=>xs.push u8)) other pD.2.1 (by rw[hYl];exact hDC) (.inr (by rw[hYs];exact ay _))
          (λ x c e=>by rw[hYc] at e;exact bn (cellL x c e)) (λ p hp=>by rw[hYp] at hp;exact bn (pinL p hp))
        have ep:(its.toArray.push u8)=(its++[u8]).toArray:=on
        obtain⟨kk,upD⟩:∃kk,(s8.heap.update s2.heap.objs.size (Obj.mapSeq λ xs=>xs.push u8)).get? s2.heap.objs.size=some { cls:=.type "list",data:=.seq (its++[u8]).toArray kk }:=by
          have z:=PySem.IsL.update eD (λ xs=>xs.push u8);rw[ep] at z;exact⟨_,z⟩
        refine⟨m',hm,i+1,ys++[v8],its++[u8],kk,σ7,H8,J9.pins_of λ p hp=>?_,T.keep _ _ _ tn8 λ b hb o e=>other b o (bn (fpL b hb)) e,fr8,rv.append (.cons r8 .nil),?_,w8⟩
        · rcases cg.mp hp with z|z
          · exact J9.pin p (cu _ z)
          · rw[bh.mp z];exact⟨upD,pD.2.1,by rw[hYl];exact hDC,by rw[hYf];exact λ z=>absurd (stkL _ z) (dM _),λ v z=>by cases z⟩
        · rw[aN,dO];lia
  exact codeAny_compStart_list (loop _ rfl) (T.self _ 0 _ _ _ (T.keep _ _ _ st2 λ b _ o e=>old b o e) (loop _ rfl))
def Fv:jW wi k js g (λ σ H K=>K true H) te=lE wi k js g te:=by
 unfold jW lE;simp only[eW]
def pm0:PM X wj (λ σ H K=>K true H):=λ _ _ _ H _ I k=>⟨H,I,k⟩
theorem wn{X:Cx}{elt tg iter:Expr}{cl:LA}{own fv:List Str}{js:List Nat}
  (hc:X.calm=true) (hi:PI X tg iter wi) (hclos:closureFor scope X.env=pure cl) (hcell:∀y∈scope.names,y.2≠.cell) (hkind:scope.kind=.function)
  (hnames:∀y∈scope.names,y.2=.local->scope.names.lookup y.1=some .local)
  (hcl:∀x c,cl.lookup x=some c->X.env.cells.lookup x=some c)
  (hhas:∀x,((relabel scope X.env).names.lookup x=some .cell\/(relabel scope X.env).names.lookup x=some .free)->∃c,cl.lookup x=some c)
  (hlen:js.length=fv.length) (hcap:∀(i:Nat) x j,fv[i]?=some x->js[i]?=some j->Cap X scope cl x j)
  (hg:∀(C:Addr) (ex:List Addr) (s:Shared) (H:Hp),PG (bC X (own++fv) scope cl C ex s H) tg g)
  (he:∀(C:Addr) (ex:List Addr) (s:Shared) (H:Hp),PE (bC X (own++fv) scope cl C ex s H) elt te)
  (hs:∀x,foldedSetIterable iter X.env x=pure x)(I:Inv X pins σ H s) (h:lE wi own.length js g te σ H Q)
  (fin:∀(a C:Addr) (s5:Shared) (H5:Hp) (fl:Flow),Inv X pins σ H5 s5->H5 C=none->C≠X.env.locals->X.s₀.heap.objs.size<=C->(∀x c,X.env.cells.lookup x=some c->c≠C)->(∀p∈X.pn++pins,p.1≠C)->(∃m,s5.heap.Ns C m)->Q (.ref a) H5->compPost (model X.prog X.w) X.A X.xe use QQ (.ref a) C (.ok fl) s5) :
  wpAny (model X.prog X.w) X.A (comprehension (.ListComp elt [⟨tg,iter,[],0⟩] scope pos) scope X.env fpos (newList []) false (firstIter [⟨tg,iter,[],0⟩] X.env) use) QQ X.xe s :=
 wl hc hi hclos hcell hkind hnames hcl hhas hlen hcap hg he (λ _ _ _ _=>pm0) Fu hs I (by rw[Fv];exact h) fin
theorem wo{X:Cx}{elt tg iter:Expr}{cl:LA}{own fv:List Str}{js:List Nat}
  (hc:X.calm=true) (hi:PI X tg iter wi) (hclos:closureFor scope X.env=pure cl) (hcell:∀y∈scope.names,y.2≠.cell) (hkind:scope.kind=.function)
  (hnames:∀y∈scope.names,y.2=.local->scope.names.lookup y.1=some .local)
  (hcl:∀x c,cl.lookup x=some c->X.env.cells.lookup x=some c)
  (hhas:∀x,((relabel scope X.env).names.lookup x=some .cell\/(relabel scope X.env).names.lookup x=some .free)->∃c,cl.lookup x=some c)
  (hlen:js.length=fv.length) (hcap:∀(i:Nat) x j,fv[i]?=some x->js[i]?=some j->Cap X scope cl x j)
  (hg:∀(C:Addr) (ex:List Addr) (s:Shared) (H:Hp),PG (bC X (own++fv) scope cl C ex s H) tg g)
  (he:∀(C:Addr) (ex:List Addr) (s:Shared) (H:Hp),PE (bC X (own++fv) scope cl C ex s H) elt te)
  (hs:∀x,foldedSetIterable iter X.env x=pure x:=by intro _;rfl) :
  PE X (.ListComp elt [⟨tg,iter,[],0⟩] scope pos) (lE wi own.length js g te):=by
 intro pins s σ H Q I h;rw[eval_ListComp];refine wn (use:=none) (QQ:=EP X pins σ Q) hc hi hclos hcell hkind hnames hcl hhas hlen hcap hg he hs I h λ a C s5 H5 fl I5 zC zL zS zc zp ⟨m,hn⟩ q=>⟨m,hn,λ h' sc=>?_⟩;exact⟨.ref a,H5,I5.turned (t':=s5.toks) (it:=C) (λ d o nd e=>sc.extBut d o nd e) zC zL (.inr zS) zc zp,O,q⟩
section
variable {P:Program}{w:World}{K:FG}{mg:SV}{base:Heap}{N:List Str}{qual:Str}{scope:Scope}{f:Addr}{cd:Value}{A:Around}{outer:List Env}{s:Shared}{H:Hp}{E:XK}
end
section
variable {P:Program}{w:World}{K:FG}{mg:SV}{base:Heap}
end
variable {X:Cx}
section
variable {pins:LO}{σ:St}{H:Hp}{s:Shared}
theorem Inv.track(I:Inv X pins σ H s)(hn:H a=none)(new:ObjOk X.prog X.w (upd H a o) s.heap a o)(h1:a≠X.env.locals)(h2:∀x c,X.env.cells.lookup x=some c->c≠a)(h3:∀p∈X.pn++pins,p.1≠a)
  (h4:X.s₀.heap.get? a=none):Inv X pins σ (upd H a o) s:=by
 have ne:∀b u,H b=some u->b≠a:=λ b u e z=>by rw[z,hn] at e;cases e
 have n0:∀b u,X.s₀.heap.get? b=some u->b≠a:=λ b u e z=>by rw[z,h4] at e;cases e
 refine⟨I.ok,I.os,I.bare,⟨I.base.keep,I.base.slot,λ b u e n hx=>?_,I.base.there,λ b xs e=>?_,λ b u v e=>?_,λ b ps e=>?_⟩,I.loc,I.cell,?_,λ x c e=>?_,λ p hp=>?_,λ b u e=>?_,I.len⟩
 ·rw[aG (n0 b u e)];exact I.base.free b u e n hx
 ·have q:=I.base.tups b xs e;rw[aG (ne b _ q)];exact q
 ·have q:=I.base.frzs b u v e;rw[aG (ne b _ q)];exact q
 ·obtain⟨more,q⟩:=I.base.tbls b ps e;exact⟨more,by rw[aG (ne b _ q)];exact q⟩
 ·rw[aG (cK h1)];exact I.free
 ·rw[aG (h2 x c e)];exact I.freeC x c e
 ·obtain⟨e,n,ne,nf,d⟩:=I.pin p hp;exact⟨e,by rw[aG (h3 p hp)];exact n,ne,nf,d⟩
 ·by_cases hb:b=a
  ·subst hb;rw[cJ] at e;cases e;exact new
  ·rw[aG hb] at e;exact(I.hok b u e).stay (λ c v _ q=>q) (λ c q=>by rw[aG (ne c _ q)];exact q) λ c xs q=>by rw[aG (ne c _ q)];exact q
end
abbrev Cx.more(X:Cx)(xe:VS)(pn:LO):Cx:={ X with xe:=xe,pn:=pn }
def Cx.Ok.more{X:Cx}(ok:X.Ok)(xe:VS)(pn:LO):(X.more xe pn).Ok :=
 ⟨ok.mod,ok.kind,ok.glob,ok.blt,ok.above,ok.inj,ok.has,ok.cab,ok.hd,ok.frames,ok.stk,ok.exf,ok.bs,ok.bsz,ok.noex,ok.exfs,ok.funs,ok.frf⟩
section
variable {CX:CXT}{k:Nat}{f:Addr}{fd:FuncData}{ps:List Str}{sp:Sp}{dvs:List V}{ds:LV}{EE:St->XK}{x:Str}{p pos:Pos}{e:Expr}{es:List Expr}{t:TA}
end
structure Callee (P:Program)(w:World)(K:FG)(mg:SV)(base:Heap)(CX:CXT)(k:Nat)(x:Str)(ps:List Str)(sp:Sp):Prop where
 has:∃(f:Addr) (fd:FuncData),FnOk P w K mg base CX k f fd ps sp/\mg x=some (.ref f)/\W.keepIn K (.ref f)=true/\Binds K fd ps []
theorem Callee.mk'{K:FG}{mg:SV}{st:Stmt}(F:Fun K x qual st f fd)(m:mg x=some (.ref f))(b:Binds K fd ps [])
  (ok:FnOk P w K mg base CX k f fd ps sp):Callee P w K mg base CX k x ps sp:=⟨⟨f,fd,ok,m,F.kp,b⟩⟩
def Callee.mono{K:FG}{j k:Nat}(c:Callee P w K mg base CX j x ps sp)(h:j<=k):Callee P w K mg base CX k x ps sp :=
 let ⟨f,fd,ok,m,kp,b⟩:=c.has;⟨⟨f,fd,ok.mono h,m,kp,b⟩⟩
section
variable {CX:CXT}{k:Nat}{ps:List Str}{sp:Sp}{E:XK}{x:Str}{p pos:Pos}{e:Expr}{es:List Expr}{t:TA}
theorem Fw(c:Callee X.prog X.w X.K X.mg X.base CX k x ps sp)(hr:Room k X.A)(hg:Gl X x)(hx:oY CX X E)(ha:PA X (e::es) t)(hdb:(x == ("__debug__" : Str))=false:=by decide)
  (he:starEach (e::es) X.env=(false,eval e X.env)::starEach es X.env:=by rfl) (hpl:(backTo pos (starEach es X.env)).any (·.1)=false:=by rfl):PE X (.Call (.Name x p) (e::es) [] pos) (vJ sp [] E t):=by
 obtain⟨f,fd,ok,m,kp,b⟩:=c.has;exact Ew ok hr hg m kp b .nil hx ha hdb he hpl
end
noncomputable def Fx(i j:Int):Prop:=j≠0/\-18446744073709551616<j/\j<18446744073709551616
def Fy{y:Int}(h0:-18446744073709551616<y)(h1:y<18446744073709551616):y.natAbs.log2<9000:=by
 by_cases z:y.natAbs=0
 ·rw[z];decide
 ·exact bM ((Nat.log2_lt z).mpr (show y.natAbs<2 ^ 64 by lia)) fu
def FB:OpR X (binaryOp .FloorDiv) (rI Fx λ i j=>.int (i.fdiv j)):=opI λ _ _ _ _ _ _ _ hc q=>floordiv_int hc.1 q (.inl (wp (Fy hc.2.1 hc.2.2)))
section
variable {K:FG}
end
def sO(t n:String):Bool:=t == n || (t == "bool" && n == "int")
def FC{K:FG}(e:(if (Value.type t == Value.type n)=true then some true else if W.kitMeta n=true then (fastBuiltinMro t).map (·.contains (.type n)) else none)=some b):W.kitOne K (.type t) (.type n)=some b:=by
 unfold W.kitOne;split at e
 ·rename_i h;rw[if_pos h];exact e
 ·rename_i h;rw[if_neg h];exact e
def small{n:Nat}(h:n<=1000):n<=sizeLine:=dN (aP h)
end _L
namespace _L
open PySem PySem.Spec PyProof.Rows PySem.W PySem.Calls
section
variable {prog:Program}{w:World}{A:Around}{E:VS}{K:FG}{h:Heap}{g:Array GenState}{d:Drawn}{t:Nat}{os:OsState}{a C:Addr}{ox:Obj}
end
variable {X:Cx}
noncomputable def jf(t:Addr)(i:Int):Obj:={ cls:=.type "reversed",data:=.fields #[.ref t,rawInt i] }
noncomputable def IsRv(h:Heap)(a t:Addr)(i:Int):Prop:=∃o,h.get? a=some o/\o.cls=.type "reversed" /\ o.data=.fields #[.ref t,rawInt i]
def IsRv.typeIs{s:Shared}(x:IsRv s.heap a t i):s.TypeIs (.ref a) "reversed" := let ⟨o,ho,hc,_⟩:=x;⟨o,ho,hc⟩
def FD:typeLookup (.type "tuple") "__reversed__"=pure none:=by rw[gN,gO];kernel_rfl
def wq:typeLookup (.type "tuple") "__getitem__"=pure (some (.builtin "tuple.__getitem__")):=by rw[gN,gO];kernel_rfl
def FE:isSubtype (.type "tuple") (.type "dict")=pure false:=by rw[jX];kernel_rfl
def FF:Slot "reversed" "__init__" "object.__init__" :=
 .of (owner := "object") (n := "__init__") (by rw[gN,gO];kernel_rfl) (by decide +kernel) (by decide +kernel) (by decide +kernel) (.inl (by decide +kernel)) (by rw[jX];kernel_rfl)
def rv_next:Slot "reversed" "__next__" "reversed.__next__" :=
 .of (owner := "reversed") (n := "__next__") (by rw[gN,gO];kernel_rfl) (by decide +kernel) (by decide +kernel) (by decide +kernel) (.inl (by decide +kernel)) (by rw[jX];kernel_rfl)
def wt:Slot "reversed" "__iter__" "reversed.__iter__" :=
 .of (owner := "reversed") (n := "__iter__") (by rw[gN,gO];kernel_rfl) (by decide +kernel) (by decide +kernel) (by decide +kernel) (.inl (by decide +kernel)) (by rw[jX];kernel_rfl)
def wu:entryFor table "reversed.__next__"=some Builtin.«reversed.__next__»:=entryFor_of_tree (by kernel_rfl)
def FH:entryFor table "reversed.__iter__"=some Builtin.«dict_keyiterator.__iter__» :=
 entryFor_alias (id' := "dict_keyiterator.__iter__") (by kernel_rfl) (by first|rfl|decide +kernel) (by decide +kernel) (by kernel_rfl)
def wv(a:Value):argsOk "reversed.__next__" ⟨[a],[]⟩:=by unfold argsOk;kernel_rfl
def FJ(a:Value):argsOk "reversed.__iter__" ⟨[a],[]⟩:=by unfold argsOk;kernel_rfl
def FK:TypeCalled "reversed" "reversed.__new__" "object.__init__" :=
 ⟨by decide +kernel,PySem.F.create_reversed,⟨_,_,PySem.F.mro_reversed⟩,PySem.F.made_reversed,PySem.F.plain_reversed_new,PySem.F.sub_reversed_self,FF⟩
theorem FL(t:Addr)(items:Array Value)(hz:(items.size:Int)<2 ^ 63):Meets (Builtin.«reversed.__new__» ⟨[.type "reversed",.ref t],[]⟩)
  (λ _ R s=>IsTup s.heap t items/\∀tk,R (.ok (.ret (.ref s.heap.objs.size))) { s with heap:=s.heap.push (jf t ((items.size:Int)-1)),toks:=tk }) :=
 .of_wp λ prog w A R s h=>by
  obtain⟨ht,h⟩:=h;have hT:s.TypeIs (.ref t) "tuple" := ht.typeIs;unfold Builtin.«reversed.__new__»;refine af (fI (PySem.newClass_reversed _) ?_);try dsimp only
  refine af (fI (a:=()) (by first|rfl|kernel_rfl) ?_);refine af (fI (a:=()) (by first|rfl|kernel_rfl) ?_);try dsimp only
  refine af (jg hT FD ?_);try dsimp only
  refine af ?_
  k_delta "hasItemSlot"
  refine af (lF (T := "tuple") (b:=false) hT FE ?_);rw[if_neg cj];refine af (jg hT wq ?_);dsimp only;rw[if_pos (by decide +kernel)];refine aq ?_;rw[if_neg fu];refine af (s1d ht hz ?_);refine af (fI (a:=some (items.size:Int)) rfl ?_);dsimp only;refine af ?_;unfold Builtin.SmallTypes.newRecord;refine dC (aq ⟨_,O,h _⟩)
section
variable {prog:Program}{w:World}{A:Around}{E:VS}{s:Shared}
theorem ww{Q:VS}(ht:IsTup s.heap t items)(hz:(items.size:Int)<2 ^ 63)
  (h:∀tk,Q (.ref s.heap.objs.size) { s with heap:=s.heap.push (jf t ((items.size:Int)-1)),toks:=tk }):wpAny (model prog w) A (call (.type "reversed") [.ref t]) Q E s :=
 s1r FK fu (PySem.F.typeCall_reversed_1 _) (PySem.F.newCall_reversed_1 _) (λ obj=>pr obj _) PySem.F.entry_reversed_new (FL t items hz)
  ⟨ht,λ tk=>⟨⟨_,be _ rfl,rfl⟩,h tk⟩⟩
theorem wx{i:Nat}{Q:Option Value->Shared->Prop}(hit:IsRv s.heap it t (i:Int))(ht:IsTup s.heap t items)(hx:items[i]?=some x)(hz:(items.size:Int)<2 ^ 63)
  (hQ:∀h' tk,IsRv h' it t ((i:Int)-1)->Heap.SameBut it s.heap h'->Q (some x) { s with heap:=h',toks:=tk }):wpAny (model prog w) A (pyNext (.ref it)) Q E s:=by
 obtain⟨o,ho,hc,hd⟩:=id hit;have hT:s.TypeIs (.ref t) "tuple" := ht.typeIs;have hi:i<items.size:=(wy.mp hx).1;unfold pyNext;refine af (lG (jc (name:=Str.ofString "__next__") hit.typeIs rv_next (gb rv_next hit.typeIs wu ?_ (wv _))));unfold Builtin.«reversed.__next__»;refine af (fI (a:=(Value.ref it,[])) rfl ?_);try dsimp only
 refine af (cU ho hd (x:=.ref t) rfl ?_);refine af (cU ho hd (x:=rawInt (i:Int)) rfl ?_);show wpAny _ _ (if (i:Int)<0 then _ else _) _ _ s;rw[if_neg ca];refine af (jg hT wq ?_);rw[if_neg fu];refine af (wpAny_mkInt ?_);refine af (lG (getItem_tuple (k:=(i:Int)) (j:=i) ht ca ca (by simp[seqIndex?];lia) hx ?_));dsimp only;refine af (cU ho hd (x:=rawInt (i:Int)) rfl ?_);show wpAny _ _ (setField (.ref it) 1 (rawInt ((i:Int)-1)) >>= _) _ _ _;refine af (nC ho hd on ?_);refine aq ⟨x,O,aq (hQ _ _ ?_ (px ..))⟩;exact⟨_,im _ ho (sQ (lH hd _)),(Obj.cls_mapFields ..).trans hc,by rw[lH hd];simp⟩
def wz{Q:Option Value->Shared->Prop}(hh:A.handled=none)(hit:IsRv s.heap it t (-1))(hQ:∀h' tk,Heap.ExtBut it s.heap h'->Q none { s with heap:=h',toks:=tk }):wpAny (model prog w) A (pyNext (.ref it)) Q E s:=by
 obtain⟨o,ho,hc,hd⟩:=id hit;unfold pyNext;refine af (lG (jc (name:=Str.ofString "__next__") hit.typeIs rv_next (gb rv_next hit.typeIs wu ?_ (wv _))));unfold Builtin.«reversed.__next__»;refine af (fI (a:=(Value.ref it,[])) rfl ?_);try dsimp only
 refine af (cU ho hd (x:=.ref t) rfl ?_);refine af (cU ho hd (x:=rawInt (-1)) rfl ?_);show wpAny _ _ (if (-1:Int)<0 then _ else _) _ _ s;rw[if_pos fu];refine af (lJ ?_);refine af ?_
 k_delta "reversedEnd"
 refine af (nC ho hd on ?_);refine nC (im _ ho (sQ (lH hd _))) (lH hd _) on ?_;refine af ?_
 have other:∀b u,b≠it->s.heap.get? b=some u->((s.heap.update it (Obj.mapFields λ x=>x.setIfInBounds 1 (rawInt (-1)))).update it (Obj.mapFields λ x=>x.setIfInBounds 0 Value.none)).get? b=some u:=λ b u nb e=>by
  rw[fH _ _ (cK nb),fH _ _ (cK nb)];exact e
 generalize ((s.heap.update it (Obj.mapFields λ x=>x.setIfInBounds 1 (rawInt (-1)))).update it (Obj.mapFields λ x=>x.setIfInBounds 0 Value.none))=hU at *;show wpAny _ _ (newExc (.type "StopIteration") [] >>= _) _ _ _;refine af ?_;simp only[newExc,newTuple];refine af (dC ?_ (by size_fits));refine af (m:=firstArgMember _ _) (fI (a:=Value.none) (by first|rfl|(simp only[firstArgMember];rfl)) ?_);refine dC ?_ (by size_fits);simp only[raiseNew];refine af (wpAny_handled ?_);rw[show A.in1.handled=none from hh];refine af (aq (wpAny_throw ?_));refine af (lF (T := "StopIteration") (b:=true) ⟨_,be _ rfl,O⟩ s0p ?_);exact aq (hQ _ _ λ b u nb e=>aI _ (aI _ (other b u nb e)))
def sR{Q:VS}(hit:IsRv s.heap it t i)(h:Q (.ref it) s):wpAny (model prog w) A (pyIter (.ref it)) Q E s:=by
 refine wpAny_pyIter_slot hit.typeIs wt (gb wt hit.typeIs FH ?_ (FJ _));show wpAny _ _ (ret (.ref it)) _ _ s;exact aq ⟨_,O,"reversed",_,hit.typeIs,rv_next.lookup,h⟩
end
noncomputable def py(K:FG)(a:Addr)(n:Nat):It:=⟨λ i H=>∃xs,SqT K H a xs/\xs.length=n/\i<n,λ i H x H'=>H'=H/\∀xs,SqT K H a xs->xs[n-1-i]?=some x,λ i H=>∃xs,SqT K H a xs/\xs.length=n/\i=n⟩
def pF:(sizeLine:Int)<2 ^ 63:=by rw[mX];decide
theorem FM{K:FG}(a it:Addr)(n:Nat):Turn P w K tg (py K a n) [it] it (λ i h=>IsRv h it a ((n:Int)-1-(i:Int))) where
 mem:=on
 obj:=λ i h x b hb=>by
  have e:b=it:=by simpa using hb
  subst e;obtain⟨o,ho,_,hd⟩:=x;exact⟨o,ho,λ v q=>by rw[hd] at q;cases q⟩
 keep:=λ i h h' x k=>let ⟨o,ho,r⟩:=x;⟨o,k it on o ho,r⟩
 item:=by
  intro X hP hw hK hc i pins s σ H E I hf st hg;subst hP hw hK;obtain⟨xs,hq,hn,hi⟩:=hg;obtain⟨its,rv,p,hz⟩:=I.tuple hq;have hx:xs[n-1-i]?=some (xs[n-1-i]' ca):=aB ca;obtain⟨u,hu,ru⟩:=rv.get hx;obtain⟨f0,f1,f2,f3,f4,f5⟩:=hf it on;have e:(n:Int)-1-(i:Int)=((n-1-i:Nat):Int):=ca;rw[e] at st;have hl:=rv.length;have z63:=pF;refine wx st p (x:=u) (by simpa using hu) (by simp;lia) λ h' tk st' sb=>?_;have I1:Inv X pins σ H { s with heap:=h',toks:=tk }:=I.turned (t':=tk) (λ b o hb e=>(sb.2 b hb).trans e) f0 f1 f3 f4 f5;obtain⟨o,e,c,d⟩:=id st';have e2:((n-1-i:Nat):Int)-1=(n:Int)-1-((i+1:Nat):Int):=ca;rw[e2] at st';exact⟨u,O,oS (s:={ s with heap:=h',toks:=tk }) e c d fu ⟨_,H,I1,ru,⟨O,λ ys hy=>by rw[I.tuple_inj hy hq];exact hx⟩,st',λ b hb=>(hf b hb).1⟩⟩
 done:=by
  intro X hP hw hK hc i pins s σ H E I hf st hg;subst hP hw hK;obtain⟨xs,hq,hn,hi⟩:=hg;obtain⟨f0,f1,f2,f3,f4,f5⟩:=hf it on;have e:(n:Int)-1-(i:Int)=-1:=ca;rw[e] at st;exact wz (I.ok.hd hc) st λ h' tk eb=>⟨O,I.turned (t':=tk) (λ b o hb e=>eb b o hb e) f0 f1 f3 f4 f5⟩
 self:=λ _ _ _ _ _ st h=>sR st h
section
variable {tg:Expr}
noncomputable def FN(K:FG)(te:TE):TI:=λ σ H R=>te σ H λ x H1=>∃a xs,x=.ref a/\SqT K H1 a xs/\R (py K a xs.length) H1
theorem FO{p pos:Pos}(hg:Gl X "reversed")(hm:X.mg "reversed"=none)(he:PE X e te)(hs:starEach [e] X.env=[(false,eval e X.env)]:=by rfl) :
  PI X tg (.Call (.Name "reversed" p) [e] [] pos) (FN X.K te):=by
 intro pins s σ H R I h;have hA:=(cL he (pa_nil (X:=X)) hs) pos pins s σ H (λ vs H1=>match vs with|[x]=>∃a xs,x=.ref a/\SqT X.K H1 a xs/\R (py X.K a xs.length) H1|_=>False) I h;refine Call_ (eN I hg hm s1f (hV (thn hA λ us s1 ⟨vs,H1,I1,r1,q1⟩=>?_) hs rfl))
 match vs,q1 with
 |[x],⟨a,xs,e,hq,q⟩=>
  subst e;obtain⟨u,rfl,ru⟩:=cS r1;cases (show u=Value.ref a from ru);obtain⟨its,rv,p,hz⟩:=I1.tuple hq;have hl:=rv.length;have z63:=pF;refine ww p (by simp;omega) λ tk=>?_;have I2:Inv X pins σ H1 { s1 with heap:=s1.heap.push (jf a ((its.toArray.size:Int)-1)),toks:=tk }:=I1.kept (t':=tk) λ b o e=>aI _ e
  have ir:IsRv (s1.heap.push (jf a ((its.toArray.size:Int)-1))) s1.heap.objs.size a ((xs.length:Int)-1-((0:Nat):Int)):=by
   refine⟨_,be _ rfl,O,?_⟩;show Data.fields #[.ref a,rawInt ((its.toArray.size:Int)-1)]=_;have e:((its.toArray.size:Nat):Int)-1=(xs.length:Int)-1-((0:Nat):Int):=by simp;omega
   rw[e]
  refine sR ir ⟨s1.heap.objs.size,[s1.heap.objs.size],_,_,H1,O,I2,FM a _ xs.length,ir,λ b hb=>?_,q⟩;have e:b=s1.heap.objs.size:=by simpa using hb
  subst e;exact I1.fpOk (ay _) (I1.hok.fresh (ay _))
end
def FP:typeLookup (.type "list_reverseiterator") "__len__"=pure none:=by rw[gN,gO];kernel_rfl
def FQ:typeLookup (.type "list_reverseiterator") "__length_hint__"=pure (some (.builtin "list_reverseiterator.__length_hint__")):=by rw[gN,gO];kernel_rfl
section
variable {pg:Program}{wd:World}{B:Around}{X0:VS}{s0:Shared}{J:Addr}{fs ws:List Addr}{Gg:Array GenState->Array GenState->Prop}{m:Nat}{Pr:Nat->Value->Prop}{Sx:Nat->Shared->Prop}
theorem FR{R:LV->Shared->Prop}(wk:WalksS pg wd B.in1 J fs ws Gg m Pr Sx)(ty:∀j z,Sx j z->z.TypeIs (.ref J) "list_reverseiterator")(z0:Sx 0 s0)(lt:∀b∈fs,b<s0.heap.objs.size)(mJ:J∈fs)(sm:m<=sizeLine)
  (fin:∀z' ac,Moved ws Gg s0 z'->ItemsOf Pr ac m->R ac.toList z'):wpAny (model pg wd) B (collect (.ref J)) R X0 s0:=by
 have out:s0.heap.objs.size ∉ fs:=λ q=>absurd (lt _ q) (dM _);have neJ:s0.heap.objs.size≠J:=by rintro rfl;exact out mJ
 let nu:Obj:={ cls:=.type "list",data:=.seq ([]:LV).toArray }
 unfold collect;refine af (wpAny_runValue (iw wA ?_));rw[iy wB _];show wpAny _ B.in1 (newList [] >>= λ q=>again (.builtin "list.__iadd__" ⟨[q,.ref J],[]⟩)) _ _ s0;refine af (dC ?_);refine aq ⟨gk pG _,iw F.entry_list_iadd ?_⟩;rw[iy pG _];have z1:=wk.frame 0 s0 (s0.heap.push nu) s0.toks z0 (ay _) λ b _ o e=>aI _ e;have at1:(s0.heap.push nu).get? s0.heap.objs.size=some nu:=be _ rfl;have dif:Builtin.List.listSameRef (.ref s0.heap.objs.size) (.ref J)=false:=by simp[Builtin.List.listSameRef,neJ]
 show wpAny _ B.in1 (Builtin.List.listExtendWith (.ref s0.heap.objs.size) (.ref J) (.ref s0.heap.objs.size)) _ _ _;unfold Builtin.List.listExtendWith;refine af (jR (ty 0 _ z1) ?_);rw[if_neg (by rw[dif];decide)];refine af (wk.self 0 _ _ _ z1 ?_);refine af (eQ ?_);unfold Builtin.List.listLengthHint;refine af (jg (ty 0 _ z1) FP ?_);show wpAny _ B.in1 (specialOf (Value.ref J) (Str.ofString "__length_hint__") >>= _) _ _ _;refine af (jg (ty 0 _ z1) FQ ?_)
 (generalize hid:("list_reverseiterator.__length_hint__" : String)=id0;wp_delta;rw[show splitId id0=some ("list_reverseiterator","__length_hint__") from by subst hid;decide +kernel];subst hid)
 refine af (lF (b:=true) (ty 0 _ z1) (by rw[jX];kernel_rfl) ?_);refine aq ?_;rw[if_neg fu];refine aq ⟨gk sU _,sV wk sm _ out _ m 0 _ _ _ rfl (bW _) z1 at1 (s1z Pr) λ z' ac cc mv at2 its=>?_⟩;show wpAny _ B (load s0.heap.objs.size >>= _) _ _ z';exact af (s1m at2 (aq (fin z' ac (s0q (o:=nu) (tk:=s0.toks) mv (ay _)) its)))
theorem FS{R:VS}(wk:WalksS pg wd B.in1.in1 J fs ws Gg m Pr Sx)(ty:∀j z,Sx j z->z.TypeIs (.ref J) "list_reverseiterator")(z0:Sx 0 s0)(lt:∀b∈fs,b<s0.heap.objs.size)(mJ:J∈fs)(sm:m<=sizeLine)
  (fin:∀z' ac,Moved ws Gg s0 z'->ItemsOf Pr ac m->R (.ref z'.heap.objs.size) { z' with heap:=z'.heap.push { cls:=.type "tuple",data:=.seq ac } }) :
  codeAny (model pg wd) B (.call (.builtin "tuple.__new__") ⟨[.type "tuple",.ref J],[]⟩) (wants R X0) s0:=by
 refine codeAny_of_tree ?_;show wpAny _ B.in1 (do checkBuiltinCall "tuple.__new__" ⟨[.type "tuple",.ref J],[]⟩;again (.builtin "tuple.__new__" ⟨[.type "tuple",.ref J],[]⟩)) _ _ s0;refine af (fI (F.newCall_tuple_1 _) (aq ⟨gk pH _,iw F.entry_tuple_new ?_⟩));rw[iy pH _];have q1:=sub_tuple_self;have q2:=init_tuple_lookup;have q3:=madeHere_tuple;have q4:=ty 0 s0 z0;wp_walk using jR q4,FR (sm:=sm) wk ty z0 lt mJ;intro z' ac mv its;show wpAny _ _ (Builtin.Tuple.tupleExact ac.toList.toArray >>= λ q=>ret q) _ _ _;have e:ac.toList.toArray=ac:=on;rw[e];unfold Builtin.Tuple.tupleExact;exact af (dC (aq (fin z' ac mv its)) (by show ac.size<=sizeLine;rw[its.1];exact sm))
theorem FU{R:VS}(wk:WalksS pg wd B.in1.in1.in1 J fs ws Gg m Pr Sx)(ty:∀j z,Sx j z->z.TypeIs (.ref J) "list_reverseiterator")(z0:Sx 0 s0)(lt:∀b∈fs,b<s0.heap.objs.size)(mJ:J∈fs)(sm:m<=sizeLine)
  (fin:∀z' ac,Moved ws Gg s0 z'->ItemsOf Pr ac m->R (.ref z'.heap.objs.size) { z' with heap:=z'.heap.push { cls:=.type "tuple",data:=.seq ac } }) :
  wpAny (model pg wd) B (call (.type "tuple") [.ref J]) R X0 s0 :=
 callType_codes (Q₁:=λ ob z=>z.TypeIs ob "tuple" /\ R ob z) F.called_tuple (s1g _) s0w
  (FS (sm:=sm) wk ty z0 lt mJ λ z' ac mv its=>⟨⟨_,be _ rfl,rfl⟩,fin z' ac mv its⟩)
  λ ob z q=>⟨q.1,pr ob _,object_init_meets F.called_tuple.init.lookup F.called_tuple.made fu pg wd B.in1 _ z ⟨q.1,rfl,q.2⟩⟩
end
noncomputable def FV(K:FG)(te:TE):TE:=λ σ H Q=>te σ H λ x H1=>∃a xs,x=.ref a/\SqL K H1 a xs/\∀p,H1 p=none->Q (.ref p) (upd H1 p (.tup xs.reverse))
theorem FW{p1 p2 pos pos':Pos}(hc:X.calm=true)(ht:Gl X "tuple")(hr:Gl X "reversed")(mt:X.mg "tuple"=none)(mr:X.mg "reversed"=none)(he:PE X e te)(hs:starEach [e] X.env=[(false,eval e X.env)]:=by rfl) :
  PE X (.Call (.Name "tuple" p1) [.Call (.Name "reversed" p2) [e] [] pos'] [] pos) (FV X.K te):=by
 intro pins s σ H Q I h;refine Call_ (eN I ht mt boot_tuple (hV ?_ rfl rfl));refine rZ ?_;have hA:=(cL he (pa_nil (X:=X)) hs) pos' pins s σ H (λ vs H1=>match vs with|[x]=>∃a xs,x=.ref a/\SqL X.K H1 a xs/\∀p,H1 p=none->Q (.ref p) (upd H1 p (.tup xs.reverse))|_=>False) I h;refine Call_ (eN I hr mr s1f (hV (thn hA λ us s1 ⟨vs,H1,I1,r1,q1⟩=>?_) hs rfl))
 match vs,q1 with
 |[x],⟨a,xs,e,hq,q⟩=>
  subst e;obtain⟨u,rfl,ru⟩:=cS r1;cases (show u=Value.ref a from ru);obtain⟨its,rv,pl,hz⟩:=I1.list hq;have hl:=rv.length;refine call_reversed_list pl.isList ?_;refine rY ?_;have I2:Inv X pins σ H1 { s1 with heap:=s1.heap.push (revObj a ((its.toArray.size:Int)-1)) }:=I1.kept (t':=s1.toks) λ b o e=>aI _ e;have al:a<s1.heap.objs.size:=by obtain⟨o,ho,_⟩:=pl.isList;exact aJ ho
  have hne:a≠s1.heap.objs.size:=bn al
  have ir:(s1.heap.push (revObj a ((its.toArray.size:Int)-1))).IsRevIter s1.heap.objs.size a ((its.toArray.size:Int)-1-((0:Nat):Int)):=by
   refine⟨_,be _ rfl,O,?_⟩;have e:(its.toArray.size:Int)-1-((0:Nat):Int)=(its.toArray.size:Int)-1:=ca;rw[e];rfl
  have sz:(s1.heap.push (revObj a ((its.toArray.size:Int)-1))).objs.size=s1.heap.objs.size+1:=by simp[Heap.push]
  have ff:=I1.fpOk (ay s1.heap.objs.size) (I1.hok.fresh (ay _))
  refine FU (Walks.listRev (A:=X.A.in1.in1.in1) (I.ok.hd hc) s1.heap.objs.size a hne its.toArray).toS (λ j z q=>let ⟨o,ho,hk,_⟩:=q.2.1;⟨o,ho,hk⟩)
   ⟨bW _,ir,pl.isList.at λ o e=>aI _ e⟩ (λ b hb=>?_) (bo ..) (by simp only[aV];lia) λ z' ac mv io=>?_
  ·show b<(s1.heap.push (revObj a ((its.toArray.size:Int)-1))).objs.size;rw[sz];simp only[aL,bX,bY] at hb
   rcases hb with rfl|rfl
   ·exact jd _
   ·exact eY al
  have I3:Inv X pins σ H1 z':=by
   obtain⟨zh,zg,zd,zt,zo⟩:=z';have e1:zg=s1.gens:=mv.gens;have e2:zd=s1.drawn:=mv.drawn;have e3:zo=s1.os:=mv.os;subst e1 e2 e3;obtain⟨f0,f1,f2,f3,f4,f5⟩:=ff;exact I1.turned (t':=zt) (λ b o hb e=>mv.heap b o (by simpa using hb) (aI _ e)) f0 f1 f3 f4 f5
  have er:ac=its.reverse.toArray:=by
   have sz2:ac.size=its.length:=by simpa using io.1
   apply Array.ext
   ·simp[sz2]
   ·intro j h1 h2;have q:=io.2 j _ (pI h1);simp only[aV,sW] at q;have q2:its.reverse[j]?=some ac[j]:=by rw[jY ca];exact q
    rw[s0j];exact(bJ ((aB (by simpa using h2)).symm.trans q2)).symm
  subst er
  have I4:Inv X pins σ (upd H1 z'.heap.objs.size (.tup xs.reverse)) { z' with heap:=z'.heap.push { cls:=.type "tuple",data:=.seq its.reverse.toArray } } :=
   I3.laid (t':=z'.toks) (λ b o e=>aI _ e) (ay _) (show ObjOk X.prog X.w _ _ _ (.tup xs.reverse) from ⟨by simpa using hz,its.reverse,rv.reverse,TupO.new _ _⟩)
  exact⟨.ref z'.heap.objs.size,_,I4,O,q _ (I3.hok.fresh (ay _))⟩
noncomputable def FX(K:FG):R2:=λ x y H Q=>∃a b xs ys,x=.ref a/\y=.ref b/\SqT K H a xs/\SqT K H b ys/\xs.length+ys.length<=sizeLine /\
 (xs=[]->Q (.ref b) H)/\(xs≠[]->ys=[]->Q (.ref a) H)/\(xs≠[]->ys≠[]->∀p,H p=none->Q (.ref p) (upd H p (.tup (xs++ys))))
def FY:OpR X (binaryOp .Add) (FX X.K):=by
 intro pins s σ H x y v u Q I rx ry h;obtain⟨a,b,xs,ys,rfl,rfl,ha,hb,hz,q0,q1,q2⟩:=h;by_cases hx:xs=[]
 ·cases rx;cases ry;obtain⟨its,r1,p1,_⟩:=I.tuple ha;obtain⟨its2,r2,p2,_⟩:=I.tuple hb;have e1:its=[]:=r1.nil_iff.mpr hx;obtain⟨⟨c1,d1,z1,l1⟩,g1,hc1,n1,hd1⟩:=id p1;obtain⟨⟨c2,d2,z2,l2⟩,g2,hc2,n2,hd2⟩:=id p2;simp only at hc1 hd1 hc2 hd2;subst hc1 hd1 hc2 hd2
  exact pd ⟨_,g1,O⟩ ⟨_,g2,O⟩ sh s1b si sj (su _ _)
   (tuple_addW0 a b its.toArray its2.toArray n1 n2 d1 d2 l1 l2 (by simp[e1])) ⟨g1,g2,.ref b,H,I,rfl,q0 hx⟩
 ·exact EK pins s σ H _ _ v u Q I rx ry ⟨a,b,xs,ys,O,O,ha,hb,hx,hz,q1 hx,q2 hx⟩
section
variable {pg:Program}{wd:World}{B:Around}{X0:VS}{s0:Shared}
theorem wC{R:VS}(p:s0.heap.IsTupleIter j t k)(q:s0.heap.IsTuple t its)(e:its[k]?=some x)
  (f:∀h',h'.IsTupleIter j t (k+1)->Heap.SameBut j s0.heap h'->R x { s0 with heap:=h' }):wpAny (model pg wd) B (Builtin.SmallTypes.nextOf (.ref j)) R X0 s0:=by
 obtain⟨o,g,c,d⟩:=id p;obtain⟨ot,gt,_,nt,dt⟩:=q;unfold Builtin.SmallTypes.nextOf;refine af (jc (name:=Str.ofString "__next__") p.typeIs pJ (gb pJ p.typeIs wD ?_ (wF _)));show wpAny _ _ (field (.ref j) 0 >>= _) _ _ s0;refine af (cU g d (x:=.ref t) rfl ?_);show wpAny _ _ (if (Value.ref t == Value.none)=true then _ else _) _ _ s0;rw[if_neg (show ¬((Value.ref t == Value.none)=true) from cj)];show wpAny _ _ (field (.ref j) 1 >>= _) _ _ s0;refine af (cU g d (x:=.int k 0) rfl ?_);show wpAny _ _ (seqItems? (.ref t) >>= _) _ _ s0;refine af (jh gt dt ?_);simp only[Int.toNat_natCast,e];refine af (nC g d on (aq ⟨x,O,aq (f _ ?_ (px ..))⟩));exact⟨_,im _ g (sQ (lH d _)),(Obj.cls_mapFields ..).trans c,by rw[lH d];simp[rawInt]⟩
theorem sX(hh:B.handled=none)(p:s0.heap.IsTupleIter j t k)(q:s0.heap.IsTuple t its)(e:its[k]?=none)
  (f:∀h' z,Heap.ExtBut j s0.heap h'->(∃o,h'.get? z=some o/\o.cls=.type "StopIteration")->X0 (.ref z) { s0 with heap:=h' }):wpAny (model pg wd) B (Builtin.SmallTypes.nextOf (.ref j)) R X0 s0:=by
 obtain⟨o,g,c,d⟩:=id p;obtain⟨ot,gt,_,nt,dt⟩:=q;unfold Builtin.SmallTypes.nextOf;refine af (jc (name:=Str.ofString "__next__") p.typeIs pJ (gb pJ p.typeIs wD ?_ (wF _)));show wpAny _ _ (field (.ref j) 0 >>= _) _ _ s0;refine af (cU g d (x:=.ref t) rfl ?_);show wpAny _ _ (if (Value.ref t == Value.none)=true then _ else _) _ _ s0;rw[if_neg (show ¬((Value.ref t == Value.none)=true) from cj)];show wpAny _ _ (field (.ref j) 1 >>= _) _ _ s0;refine af (cU g d (x:=.int k 0) rfl ?_);show wpAny _ _ (seqItems? (.ref t) >>= _) _ _ s0;refine af (jh gt dt ?_);simp only[Int.toNat_natCast,e];refine af (lJ (af (nC g d on ?_)));show wpAny _ _ (newExc (.type "StopIteration") [] >>= _) _ _ _;refine af ?_;simp only[newExc,newTuple];refine af (dC ?_ (by size_fits));refine af (m:=firstArgMember _ _) (fI (a:=Value.none) (by first|rfl|(simp only[firstArgMember];rfl)) ?_);refine dC ?_ (by size_fits);simp only[raiseNew];refine af (wpAny_handled ?_);first|rw[show B.in1.handled=none from hh]|rw[hh]
 refine af (aq (wpAny_throw ?_));exact f _ _ (((px ..).extBut.push _).push _) ⟨_,be _ rfl,O⟩
def sY{h h':Heap}(p:h.IsTupleIter j t k)(f:∀o,h.get? j=some o->h'.get? j=some o):h'.IsTupleIter j t k:=let ⟨o,g,r⟩:=p;⟨o,f o g,r⟩
def pK{h h':Heap}(p:h.IsTuple t its)(f:∀o,h.get? t=some o->h'.get? t=some o):h'.IsTuple t its:=let ⟨o,g,r⟩:=p;⟨o,f o g,r⟩
end
def Inv.turnedL{h':Heap}{t':Nat}{fl:List Addr}(I:Inv X pins σ H s)(kk:∀b o,b ∉ fl->s.heap.get? b=some o->h'.get? b=some o)(fo:∀b∈fl,ja X pins H b):Inv X pins σ H { s with heap:=h',toks:=t' }:=by
 have out:∀b u,H b=some u->b ∉ fl:=λ b u e z=>by rw[(fo b z).1] at e;cases e
 refine I.step (g':=s.gens) (d':=s.drawn) (ch:=fl) (λ b hb=>?_) (λ b o _ _ hc e _=>kk b o hc e) (λ b o _ _ hc e _=>⟨o.slots,kk b o hc e⟩) (λ _ _ _ _ q=>q)
  (λ b o hc e=>⟨o,kk b o hc e⟩) (λ _ _ e=>e) (λ _ _ _ e=>e) (λ b ps e=>⟨#[],by rw[e];simp⟩) (λ m hm=>?_) (λ b u e=>?_) I.bare
 ·obtain⟨_,f1,_,f3,f4,f5⟩:=fo b hb;exact⟨f3,f1,f4,f5⟩
 ·obtain⟨o,es,ep,ho,r⟩:=hm;exact⟨o,es,ep,kk _ o (λ z=>(fo _ z).2.1 rfl) ho,r⟩
 ·refine(I.hok b u e).stay (λ c v hc q=>kk c v ?_ q) (λ _ q=>q) λ _ _ q=>q
  rcases hc with z|z
  ·rw[z];exact out b u e
  ·exact out c _ z
section
variable {es:List Expr}{x1:Nat}{pp:Pos}
end
def FZ(hc:X.calm=true):cF X (.builtin "sum") (λ xs H Q=>∃(a:Addr) (ns:LI),xs=[.ref a]/\SqL X.K H a (ns.map V.int)/\Q (.int ns.sum) H):=by
 intro pins s σ H xs us Q I r h;obtain⟨a,ns,rfl,hq,q⟩:=h;obtain⟨u,rfl,ru⟩:=cS r;cases (show u=Value.ref a from ru);obtain⟨its,rv,pl,hz⟩:=I.list hq;have hi:=ph rv;have hn:=hi.numsOf;obtain⟨ps,e⟩:=hi.allInts.items;have hl:s.heap.IsList a (intItems ps):=e ▸ pl.isList;refine sum_intListG (I.ok.hd hc) hl λ h' tk t' kk=>?_
 have e2:preSum (numAt ps) ps.size=ns.sum:=by
  rw[preSum_eq,gP on,<- nums_intItems,<- e];exact bE List.sum hn
 rw[e2];exact⟨.int ns.sum,H,I.kept kk,⟨t',O⟩,q⟩
open AutoSeq1 (wpAny_loadPart')
section
variable {prog:Program}{w:World}{A:Around}{R:Result->Shared->Prop}{s:Shared}
theorem Ga{elt target iter cnd:Expr}{it acc:Value}(I:Nat->Shared->Prop)
  (turn:∀n s,I n s->wpAny (model prog w) A (pyNext it) (λ r s₁=>match r with
   |none=>R (.ok .next) s₁
   | some v=>wpAny (model prog w) A (letOwnedTupleGo target it v) (λ _ s₀=>wpAny (model prog w) A (assign target env v) (λ _ s₂=>wpAny (model prog w) A (isTrue cnd env (eval cnd env)) (λ b s₃ =>
     if b=true then wpAny (model prog w) A (eval elt env) (λ x s₄ =>
      wpAny (model prog w) A (call (.builtin "list.append") [acc,x]) (λ _ s₅=>∃m,m<n/\I m s₅) (λ _ _=>False) s₄) (λ _ _=>False) s₃
     else ∃m,m<n/\I m s₃)
     (λ _ _=>False) s₂) (λ _ _=>False) s₀) (λ _ _=>False) s₁) (λ _ _=>False) s)
  (n:Nat) (h:I n s) :
  codeAny (model prog w) A (.compLoop (.ListComp elt [⟨target,iter,[cnd],0⟩] scope pos) 0 it acc env) R s:=by
 refine codeAny_loop rfl I (λ n s hI=>?_) n h;show wpAny _ _ ((compTurn (.ListComp elt [⟨target,iter,[cnd],0⟩] scope pos) 0 it acc env).onRaise (λ x=>do noteFrame x env;theTreesLotGoes x)) _ _ s;refine wpAny_noted ?_;rw[compTurn_list];refine af (jQ (af (cP (turn n s hI) (λ r s₁ h₁=>?_) λ _ _ h'=>h'.elim)))
 cases r with
 |none=>exact aq h₁
 |some v=>
  refine af (cP h₁ (λ _ s₀ h₀=>?_) λ _ _ h'=>h'.elim);refine af (cP h₀ (λ _ s₂ h₂=>?_) λ _ _ h'=>h'.elim);refine af (cP (wpAny_tests_one h₂) (λ ok s₃ h₃=>?_) λ _ _ h'=>h'.elim)
  cases ok with
  |false=>exact aq ⟨rfl,h₃⟩
  |true=>exact af (af (cP h₃ (λ x s₄ h₄=>af (cP h₄ (λ _ s₅ h₅=>aq (aq ⟨rfl,h₅⟩)) λ _ _ z=>z.elim)) λ _ _ z=>z.elim))
end
noncomputable def wG(cnd:Expr):pq:=λ p w A env k s=>wpAny (model p w) A (isTrue cnd env (eval cnd env)) k (λ _ _=>False) s
def Gb{cnd:Expr}:sM [cnd] (wG cnd):=⟨λ I t n h=>Ga I t n h,λ h m=>cP h m λ _ _ z=>z⟩
def pmI{X:Cx}(hx:X.xe=λ _ _=>False)(h:PT X cnd tc):PM X (wG cnd) tc:=λ pins s σ H K I k=>by
 have z:=h pins s σ H K I k;rw[hx] at z;exact z
theorem wH{X:Cx}{elt tg iter cnd:Expr}{cl:LA}{own fv:List Str}{js:List Nat}
  (hc:X.calm=true) (hi:PI X tg iter wi) (hclos:closureFor scope X.env=pure cl) (hcell:∀y∈scope.names,y.2≠.cell) (hkind:scope.kind=.function)
  (hnames:∀y∈scope.names,y.2=.local->scope.names.lookup y.1=some .local)
  (hcl:∀x c,cl.lookup x=some c->X.env.cells.lookup x=some c)
  (hhas:∀x,((relabel scope X.env).names.lookup x=some .cell\/(relabel scope X.env).names.lookup x=some .free)->∃c,cl.lookup x=some c)
  (hlen:js.length=fv.length) (hcap:∀(i:Nat) x j,fv[i]?=some x->js[i]?=some j->Cap X scope cl x j)
  (hg:∀(C:Addr) (ex:List Addr) (s:Shared) (H:Hp),PG (bC X (own++fv) scope cl C ex s H) tg g)
  (he:∀(C:Addr) (ex:List Addr) (s:Shared) (H:Hp),PE (bC X (own++fv) scope cl C ex s H) elt te)
  (ht:∀(C:Addr) (ex:List Addr) (s:Shared) (H:Hp),PT (bC X (own++fv) scope cl C ex s H) cnd tc)
  (hs:∀x,foldedSetIterable iter X.env x=pure x)(I:Inv X pins σ H s) (h:jW wi own.length js g tc te σ H Q)
  (fin:∀(a C:Addr) (s5:Shared) (H5:Hp) (fl:Flow),Inv X pins σ H5 s5->H5 C=none->C≠X.env.locals->X.s₀.heap.objs.size<=C->(∀x c,X.env.cells.lookup x=some c->c≠C)->(∀p∈X.pn++pins,p.1≠C)->(∃m,s5.heap.Ns C m)->Q (.ref a) H5->compPost (model X.prog X.w) X.A X.xe use QQ (.ref a) C (.ok fl) s5) :
  wpAny (model X.prog X.w) X.A (comprehension (.ListComp elt [⟨tg,iter,[cnd],0⟩] scope pos) scope X.env fpos (newList []) false (firstIter [⟨tg,iter,[cnd],0⟩] X.env) use) QQ X.xe s :=
 wl hc hi hclos hcell hkind hnames hcl hhas hlen hcap hg he (λ C ex s H=>pmI rfl (ht C ex s H)) Gb hs I h fin
theorem Gc{X:Cx}{elt tg iter cnd:Expr}{cl:LA}{own fv:List Str}{js:List Nat}
  (hc:X.calm=true) (hi:PI X tg iter wi) (hclos:closureFor scope X.env=pure cl) (hcell:∀y∈scope.names,y.2≠.cell) (hkind:scope.kind=.function)
  (hnames:∀y∈scope.names,y.2=.local->scope.names.lookup y.1=some .local)
  (hcl:∀x c,cl.lookup x=some c->X.env.cells.lookup x=some c)
  (hhas:∀x,((relabel scope X.env).names.lookup x=some .cell\/(relabel scope X.env).names.lookup x=some .free)->∃c,cl.lookup x=some c)
  (hlen:js.length=fv.length) (hcap:∀(i:Nat) x j,fv[i]?=some x->js[i]?=some j->Cap X scope cl x j)
  (hg:∀(C:Addr) (ex:List Addr) (s:Shared) (H:Hp),PG (bC X (own++fv) scope cl C ex s H) tg g)
  (he:∀(C:Addr) (ex:List Addr) (s:Shared) (H:Hp),PE (bC X (own++fv) scope cl C ex s H) elt te)
  (ht:∀(C:Addr) (ex:List Addr) (s:Shared) (H:Hp),PT (bC X (own++fv) scope cl C ex s H) cnd tc)
  (hs:∀x,foldedSetIterable iter X.env x=pure x:=by intro _;rfl) :
  PE X (.ListComp elt [⟨tg,iter,[cnd],0⟩] scope pos) (jW wi own.length js g tc te):=by
 intro pins s σ H Q I h;rw[eval_ListComp];refine wH (use:=none) (QQ:=EP X pins σ Q) hc hi hclos hcell hkind hnames hcl hhas hlen hcap hg he ht hs I h λ a C s5 H5 fl I5 zC zL zS zc zp ⟨m,hn⟩ q=>⟨m,hn,λ h' sc=>?_⟩;exact⟨.ref a,H5,I5.turned (t':=s5.toks) (it:=C) (λ d o nd e=>sc.extBut d o nd e) zC zL (.inr zS) zc zp,O,q⟩
theorem Gd{B:Around}(hh:B.handled=none)(j t:Addr)(ne:t≠j)(as:Array Value):Draws pg wd B j [j,t] as.size (λ i v=>as[i]?=some v) (λ i h=>h.IsTupleIter j t i/\h.IsTuple t as) where
 live:=λ _ _ q=>let ⟨o,g,_⟩:=q.1;⟨o,g⟩
 frame:=λ _ _ _ q k=>⟨sY q.1 λ o g=>k j on o g,pK q.2 λ o g=>k t on o g⟩
 item:=λ i s R X0 hi q f=>wC q.1 q.2 (x:=as[i]) (by simp[hi]) λ m p sb=>f _ m s.toks (by simp[hi]) ⟨p,pK q.2 λ o g=>sb.extBut _ _ ne g⟩ sb
 done:=λ s R X0 q f=>sX hh q.1 q.2 on f
section
variable {pg:Program}{wd:World}{B:Around}{X0:VS}{s0:Shared}
theorem Ge{R:Option Value->Shared->Prop}(hh:B.handled=none)(hz:IsEnum s0.heap z j n u)(p:s0.heap.IsTupleIter j t i)(q:s0.heap.IsTuple t as)(ex:as[i]?=none)
  (f:∀m,Heap.ExtBut j s0.heap m->R none { s0 with heap:=m }):wpAny (model pg wd) B (pyNext (.ref z)) R X0 s0:=by
 have ty:s0.TypeIs (.ref z) "enumerate" := ⟨_,hz,rfl⟩;unfold pyNext;refine af (lG (jc (name:=Str.ofString "__next__") ty wI (gb wI ty F.entry_enumerate_next ?_ (F.args_enumerate_next_1 _))));show wpAny _ _ (field (.ref z) 2 >>= _) _ _ _;refine af (cU hz rfl (x:=.ref j) rfl ?_);refine af (sX hh p q ex λ m w xb hw=>?_);obtain⟨ow,gw,cw⟩:=hw;exact af (lF (T := "StopIteration") (b:=true) ⟨ow,gw,cw⟩ s0p (aq (f _ xb)))
set_option tactic.hygienic true in
theorem Gf(t:Addr)(as:Array Value)(n:Nat)(dc:OA)(sl:AV) :
  Meets (Builtin.«enumerate.__new__» ⟨[.type "enumerate",.ref t],[]⟩) (λ _ R s=>s.heap.get? t=some { cls:=.type "tuple",dict:=dc,data:=.seq as n,slots:=sl } /\
   R (.ok (.ret (.ref (s.heap.push { cls:=.type "tuple_iterator",data:=.fields #[.ref t,.int 0 0] }).objs.size))) { s with heap:=(s.heap.push { cls:=.type "tuple_iterator",data:=.fields #[.ref t,.int 0 0] }).push { cls:=.type "enumerate",data:=.fields #[.none,.bool false,.ref s.heap.objs.size,rawInt 0,.none,.none] } }) :=
 .of_wp λ pg wd A R s h=>by
  obtain⟨hp,g,d,tk,os⟩:=s;obtain⟨ht,h⟩:=h;have q0:=sub_enumerate;have q1:Heap.IsTuple (Shared.heap ⟨hp,g,d,tk,os⟩) t as:=⟨_,ht,rfl,n,rfl⟩;wp_walk using pL ht;refine wpAny_stack_any λ stk=>aq ?_;split
  ·rename_i c _ _ _ _ _;cases (c == Value.type "enumerate")<;>(wp_walk using pL ht,nD q1)<;>exact⟨_,rfl,h⟩
  ·wp_walk using pL ht,nD q1;exact⟨_,O,h⟩
theorem Gh{R:VS}(q:s0.heap.IsTuple t as)
  (f:∀m,IsEnum m (s0.heap.objs.size+1) s0.heap.objs.size 0 .none->m.IsTupleIter s0.heap.objs.size t 0->(∀c o,s0.heap.get? c=some o->m.get? c=some o)->R (.ref (s0.heap.objs.size+1)) { s0 with heap:=m }) :
  wpAny (model pg wd) B (call (.type "enumerate") [.ref t]) R X0 s0:=by
 obtain⟨⟨c,dc,dt,sl⟩,ht,hc,n,hd⟩:=q;cases (show c=.type "tuple" from hc);cases (show dt=.seq as n from hd);refine s1r F.called_enumerate fu (F.typeCall_enumerate_1 _) (F.newCall_enumerate_1 _) (λ ob=>pr ob _) F.entry_enumerate_new (Gf t as n dc sl) ⟨ht,?_⟩;have n1:(s0.heap.push { cls:=.type "tuple_iterator",data:=.fields #[.ref t,.int 0 0] }).objs.size=s0.heap.objs.size+1:=gc ..;show _/\_;have g2:=be (s0.heap.push { cls:=.type "tuple_iterator",data:=.fields #[.ref t,.int 0 0] }) (o:={ cls:=.type "enumerate",data:=.fields #[.none,.bool false,.ref s0.heap.objs.size,rawInt 0,.none,.none] }) rfl;rw[n1] at g2 ⊢;exact⟨⟨_,g2,O⟩,f _ g2 ⟨_,aI _ (be _ rfl),O,O⟩ λ c o z=>aI _ (aI _ z)⟩
end
noncomputable def Ite(K:FG)(a:Addr):It:=⟨λ i H=>∃xs x,SqT K H a xs/\xs[i]?=some x,
 λ i H v H'=>∃T x,v=.ref T/\H T=none/\H'=upd H T (.tup [.int i,x])/\∀xs,SqT K H a xs->xs[i]?=some x,λ i H=>∃xs,SqT K H a xs/\xs.length<=i⟩
theorem Gi{K:FG}{a z j:Addr}(zj:z≠j) :
  Turn P w K (.Tuple es x1 pp) (Ite K a) [z,j] z (λ i h=>(∃u,IsEnum h z j i u)/\h.IsTupleIter j a i) where
 mem:=on
 obj:=λ i h q c hc=>by
  obtain⟨⟨u,q1⟩,⟨o4,g4,_,d4⟩⟩:=q;simp only[aL,bX,bY] at hc
  rcases hc with rfl|rfl
  ·exact⟨_,q1,λ v y=>nomatch y⟩
  ·exact⟨_,g4,λ v y=>by rw[d4] at y;cases y⟩
 keep:=λ i h h' q k=>by
  obtain⟨⟨u,q1⟩,q4⟩:=q;exact⟨⟨u,k _ on _ q1⟩,sY q4 λ o g=>k _ on o g⟩
 item:=by
  intro X hP hw hK hc i pins s σ H E I hf st hg;subst hP hw hK;obtain⟨xs,x,hq,hx⟩:=hg;obtain⟨⟨u,q1⟩,q4⟩:=st;obtain⟨as,ra,pa,za⟩:=I.tuple hq;obtain⟨ux,hux,rux⟩:=ra.get hx;have ta:s.heap.IsTuple a as.toArray:=pa;have az:a≠z:=by rintro rfl;obtain⟨o,g,c,_⟩:=ta;rw[q1] at g;cases g;simp at c
  have aj:a≠j:=by rintro rfl;obtain⟨o,g,c,_⟩:=ta;obtain⟨o4,g4,c4,_⟩:=q4;rw[g4] at g;cases g;rw[c4] at c;simp at c
  have il:i<as.toArray.size:=by simpa using (bf.mp hux).1
  refine wpAny_pyNext_enum_itemD (Gd (B:=X.A.in1) (I.ok.hd hc) j a aj as.toArray) q1 ⟨q4,ta⟩ il zj (by simp only[aL,bX,bY,not_or];exact⟨zj,az.symm⟩) λ y m tk hy zo st' np sz bt=>?_;have yu:y=ux:=by simp only[sW] at hy;rw[hux] at hy;exact(bJ hy).symm
  subst yu
  have I1:Inv X pins σ H { s with heap:=m,toks:=tk+1 }:=I.turnedL (t':=tk+1) (fl:=[z,j]) (λ c o hc e=>by
   simp only[aL,bX,bY,not_or] at hc
   exact bt c o hc.1 hc.2 e) hf
  obtain⟨f0,f1,f2,f3,f4,f5⟩:=I.fpOk (ay s.heap.objs.size) (I.hok.fresh (ay _))
  have n0:X.s₀.heap.get? s.heap.objs.size=none:=by
   cases q:X.s₀.heap.get? s.heap.objs.size with
   |none=>rfl
   |some o=>exact absurd (bM (aJ q) I.sz) (dM _)
  have I2:Inv X pins σ (upd H s.heap.objs.size (.tup [.int i,x])) { s with heap:=m,toks:=tk+1 }:=I1.track f0 ⟨small on,[.int i tk,y],.cons (show RelV (V.int i) (Value.int i tk) from ⟨_,rfl⟩) (.cons rux .nil),⟨_,np,⟨rfl,_,rfl⟩,rfl⟩⟩ f1 f4 f5 n0;have lt:∀ {c o},s.heap.get? c=some o->c≠s.heap.objs.size:=λ e=>bn (aJ e);have zT:z≠s.heap.objs.size:=lt q1;obtain⟨e0,e1,e2,e3,e4,e5⟩:=hf z on;refine⟨_,O,wpAny_letOwnedTupleGo_enum zo λ h2 z2 sb=>?_⟩;have I3:Inv X pins σ (upd H s.heap.objs.size (.tup [.int i,x])) { s with heap:=h2,toks:=tk+1 }:=Inv.turned (s:={ s with heap:=m,toks:=tk+1 }) (h':=h2) (t':=tk+1) (it:=z) I2 (λ c o hc e=>sb.extBut _ _ hc e) (by rw[aG zT];exact e0) e1 e3 e4 e5;refine⟨.ref s.heap.objs.size,_,I3,O,⟨_,x,O,f0,O,λ xs' k1=>?_⟩,⟨⟨_,by simpa using z2⟩,sY st'.1 λ o g=>sb.extBut _ _ zj.symm g⟩,λ c hc=>?_⟩
  ·rw[I.tuple_inj k1 hq];exact hx
  ·have cT:c≠s.heap.objs.size:=by
    obtain⟨o4,g4,_⟩:=q4;simp only[aL,bX,bY] at hc
    rcases hc with rfl|rfl
    ·exact zT
    ·exact lt g4
   rw[aG cT];exact(hf c hc).1
 done:=by
  intro X hP hw hK hc i pins s σ H E I hf st hg;subst hP hw hK;obtain⟨xs,hq,hx⟩:=hg;obtain⟨⟨u,q1⟩,q4⟩:=st;obtain⟨as,ra,pa,za⟩:=I.tuple hq;have la:=ra.length;refine Ge (I.ok.hd hc) q1 q4 (show s.heap.IsTuple a as.toArray from pa) (by simp;lia) λ m bt=>⟨O,?_⟩
  exact I.turnedL (t':=s.toks) (fl:=[z,j]) (λ c o hc e=>by
   simp only[aL,bX,bY,not_or] at hc
   exact bt c o hc.2 e) hf
 self:=λ _ _ _ _ _ st h=>let ⟨⟨_,q1⟩,_⟩:=st;wpAny_pyIter_enum q1 h
section
variable {es:List Expr}{x1:Nat}{pp:Pos}
noncomputable def Gj(K:FG)(te:TE):TI:=λ σ H R=>te σ H λ v H1=>∃a xs,v=.ref a/\SqT K H1 a xs/\R (Ite K a) H1
theorem Gk{p pos:Pos}(hg:Gl X "enumerate")(hm:X.mg "enumerate"=none)(he:PE X e te)(hs:starEach [e] X.env=[(false,eval e X.env)]:=by rfl) :
  PI X (.Tuple es x1 pp) (.Call (.Name "enumerate" p) [e] [] pos) (Gj X.K te):=by
 intro pins s σ H R I h;have hA:=(cL he (pa_nil (X:=X)) hs) pos pins s σ H (λ vs H1=>match vs with|[x]=>∃a xs,x=.ref a/\SqT X.K H1 a xs/\R (Ite X.K a) H1|_=>False) I h;refine Call_ (eN I hg hm boot_enumerate (hV (thn hA λ us s1 ⟨vs,H1,I1,r1,q1⟩=>?_) hs rfl))
 match vs,q1 with
 |[x],⟨a,xs,e,hq,q⟩=>
  subst e;obtain⟨u,rfl,ru⟩:=cS r1;cases (show u=Value.ref a from ru);obtain⟨as,va,pa,za⟩:=I1.tuple hq;refine Gh (show s1.heap.IsTuple a as.toArray from pa) λ m w1 w2 kk=>?_;have I2:Inv X pins σ H1 { s1 with heap:=m }:=I1.kept (t':=s1.toks) kk;refine wpAny_pyIter_enum w1 ⟨s1.heap.objs.size+1,[s1.heap.objs.size+1,s1.heap.objs.size],_,_,H1,O,I2,Gi (Nat.succ_ne_self _),⟨⟨_,w1⟩,w2⟩,λ c hc=>?_,q⟩
  have ge:s1.heap.objs.size<=c:=by
   simp only[aL,bX,bY] at hc
   rcases hc with rfl|rfl<;>lia
  exact I1.fpOk ge (I1.hok.fresh ge)
end
noncomputable def Gm(i j:Int):Prop:=0<j/\j<1606938044258990275541962092341162602522202993782792835301376
def Gn{y:Int}(h0:0<y)(h1:y<1606938044258990275541962092341162602522202993782792835301376):y.natAbs.log2<9000:=by
 have z:y.natAbs≠0:=by omega
 exact bM ((Nat.log2_lt z).mpr (show y.natAbs<2 ^ 200 by omega)) fu
def Go:OpR X (binaryOp .FloorDiv) (rI Gm λ i j=>.int (i/j)):=opI λ i j _ _ _ _ _ hc q=>floordiv_int (by have:=hc.1;lia) (by rw[mW i (by have:=hc.1;lia)];exact q) (.inl (wp (Gn hc.1 hc.2)))
end _L
namespace _H
open PySem PySem.Spec PyProof.Rows _L
theorem whole_tup{s:Shared}{lo hi:Option Int}{R:VS}(ht:IsTup s.heap t its)(hs:s.heap.IsSliceOf sl vl vu .none)(pl:IsPart vl lo)(pu:IsPart vu hi)
  (h0:sIx its.size 0 lo=0) (h1:sIx its.size its.size hi=its.size) (h:R (.ref t) s):wpAny (model prog w) A (getItem (.ref t) (.ref sl)) R E s:=by
 obtain⟨os,hos,hcs,hds⟩:=id hs;have hTs:s.TypeIs (.ref sl) "slice" := ⟨os,hos,hcs⟩;unfold getItem;try with_reducible refine eQ ?_
 first|refine af (aq ?_)|skip
 refine af (wpAny_sequenceKey ht.typeIs fu ?_);refine af (jc (name:=Str.ofString "__getitem__") ht.typeIs pf (gb pf ht.typeIs s0u ?_ (s1c _ _)));show wpAny _ _ (Builtin.Tuple.tupleItemsOf (.ref t) >>= _) _ _ s;refine af (tupleItemsOf_ ht ?_);refine af (jR hTs ?_);rw[if_pos fu];refine af (vR hs pl pu ?_);show wpAny _ _ (if (((sIx its.size 0 lo:Nat):Int) == 0&&(1:Int) == 1&&(sIx its.size its.size hi-sIx its.size 0 lo) == its.size)=true then _ else _) _ _ s;rw[if_pos (by rw[h0,h1];simp)];unfold Builtin.Tuple.tupleIsExact;exact af (af (jR ht.typeIs (aq (af (lJ (aq ⟨_,O,aq h⟩))))))
end _H
namespace _L
open PySem PySem.Spec PyProof.Rows
variable {X:Cx}
def Gp:typeLookup (.type "reversed") "__len__"=pure none:=by rw[gN,gO];kernel_rfl
def Gq:typeLookup (.type "reversed") "__length_hint__"=pure (some (.builtin "reversed.__length_hint__")):=by rw[gN,gO];kernel_rfl
theorem Gr{B:Around}(hh:B.handled=none)(I t:Addr)(hne:t≠I)(its:Array Value)(hz:(its.size:Int)<2 ^ 63) :
  Walks pg wd B I [I,t] [I] its.size (λ i v=>its[its.size-1-i]?=some v) (λ i h=>i<=its.size/\IsRv h I t ((its.size:Int)-1-(i:Int))/\IsTup h t its) where
 sub:=λ b hb=>by simp at hb;simp[hb]
 frame:=λ _ _ _ st k=>⟨st.1,let ⟨o,g,r⟩:=st.2.1;⟨o,k I on o g,r⟩,let ⟨o,g,r⟩:=st.2.2;⟨o,k t on o g,r⟩⟩
 item:=λ i s R X0 hi st f=>by
  obtain⟨_,q1,q2⟩:=st;have e:(its.size:Int)-1-(i:Int)=((its.size-1-i:Nat):Int):=ca;rw[e] at q1;have hx:its[its.size-1-i]?=some (its[its.size-1-i]' ca):=pI ca;refine wx q1 q2 hx hz λ m tk q sb=>f _ m tk hx ⟨hi,?_,?_⟩ λ b o nb g=>sb.extBut b o (by simpa using nb) g
  ·have e2:((its.size-1-i:Nat):Int)-1=(its.size:Int)-1-((i+1:Nat):Int):=by lia
   rw[e2] at q;exact q
  ·obtain⟨o,g,r⟩:=q2;exact⟨o,sb.extBut _ _ hne g,r⟩
 done:=λ s R X0 st f=>by
  obtain⟨_,q1,q2⟩:=st;have e:(its.size:Int)-1-(its.size:Int)=-1:=ca;rw[e] at q1;exact wz hh q1 λ m tk eb=>f m tk λ b o nb g=>eb b o (by simpa using nb) g
 self:=λ _ _ _ _ st h=>sR st.2.1 h
def Gs(v:Value):bindSpecial (.builtin "reversed.__length_hint__") v=pure (.builtin "reversed.__length_hint__",[v]):=by
 unfold bindSpecial;rw[show typeOf (.builtin "reversed.__length_hint__")=pure (.type "method_descriptor") by show builtinType _=_;rw[builtinType_eq_fast];kernel_rfl];rfl
def Gu:Slot "reversed" "__length_hint__" "reversed.__length_hint__" := .of (owner := "reversed") (n := "__length_hint__") (by rw[gN,gO];kernel_rfl) (by decide +kernel) (by decide +kernel) (by decide +kernel) (.inr (by decide +kernel)) (by rw[jX];kernel_rfl)
def Gv:entryFor table "reversed.__length_hint__"=some Builtin.«reversed.__length_hint__»:=entryFor_of_tree (by kernel_rfl)
def Gw(a:Value):argsOk "reversed.__length_hint__" ⟨[a],[]⟩:=by unfold argsOk;kernel_rfl
theorem Gy{R:VS}{z:Shared}{its:Array Value}(q1:IsRv z.heap J t ((its.size:Int)-1))(q2:IsTup z.heap t its)(hz:(its.size:Int)<2 ^ 63)
  (f:∀u tk,z.toks<=tk->R (.int its.size u) { z with toks:=tk }):wpAny (model pg wd) B (call (.builtin "reversed.__length_hint__") [.ref J]) R X0 z:=by
 obtain⟨o,ho,hc,hd⟩:=id q1;refine gb Gu q1.typeIs Gv ?_ (Gw _);show wpAny _ _ (field (.ref J) 0 >>= _) _ _ z;refine af (cU ho hd (x:=.ref t) rfl ?_);show wpAny _ _ (if (Value.ref t == Value.none)=true then _ else _) _ _ z;rw[if_neg (show ¬((Value.ref t == Value.none)=true) from cj)];show wpAny _ _ (call (.builtin "len") [.ref t] >>= _) _ _ z;refine af (s1d q2 hz ?_);refine af (m:=asInt? _) (aq ?_);show wpAny _ _ (field (.ref J) 1 >>= _) _ _ _;refine af (cU ho hd (x:=rawInt ((its.size:Int)-1)) rfl ?_);show wpAny _ _ (if (its.size:Int)<(its.size:Int)-1+1 then _ else retInt ((its.size:Int)-1+1)) _ _ _;rw[if_neg ca,show(its.size:Int)-1+1=its.size by lia];exact af (wpAny_mkInt (aq ⟨_,O,f _ _ (by show z.toks<=z.toks+1+1+1;lia)⟩))
section
variable {pg:Program}{wd:World}{B:Around}{X0:VS}{s0:Shared}{J:Addr}{fs ws:List Addr}{Gg:Array GenState->Array GenState->Prop}{m:Nat}{Pr:Nat->Value->Prop}{Sx:Nat->Shared->Prop}
theorem Gz{R:LV->Shared->Prop}(hint:∀(z:Shared) (R':VS) (E':VS),Sx 0 z->(∀u tk,z.toks<=tk->R' (.int m u) { z with toks:=tk })->wpAny (model pg wd) B.in1 (call (.builtin "reversed.__length_hint__") [.ref J]) R' E' z)(wk:WalksS pg wd B.in1 J fs ws Gg m Pr Sx)(ty:∀j z,Sx j z->z.TypeIs (.ref J) "reversed")(z0:Sx 0 s0)(lt:∀b∈fs,b<s0.heap.objs.size)(mJ:J∈fs)(sm:m<=sizeLine)
  (fin:∀z' ac,Moved ws Gg s0 z'->ItemsOf Pr ac m->R ac.toList z'):wpAny (model pg wd) B (collect (.ref J)) R X0 s0:=by
 have out:s0.heap.objs.size ∉ fs:=λ q=>absurd (lt _ q) (dM _);have neJ:s0.heap.objs.size≠J:=by rintro rfl;exact out mJ
 let nu:Obj:={ cls:=.type "list",data:=.seq ([]:LV).toArray }
 unfold collect;refine af (wpAny_runValue (iw wA ?_));rw[iy wB _];show wpAny _ B.in1 (newList [] >>= λ q=>again (.builtin "list.__iadd__" ⟨[q,.ref J],[]⟩)) _ _ s0;refine af (dC ?_);refine aq ⟨gk pG _,iw F.entry_list_iadd ?_⟩;rw[iy pG _];have z1:=wk.frame 0 s0 (s0.heap.push nu) s0.toks z0 (ay _) λ b _ o e=>aI _ e;have at1:(s0.heap.push nu).get? s0.heap.objs.size=some nu:=be _ rfl;have dif:Builtin.List.listSameRef (.ref s0.heap.objs.size) (.ref J)=false:=by simp[Builtin.List.listSameRef,neJ]
 show wpAny _ B.in1 (Builtin.List.listExtendWith (.ref s0.heap.objs.size) (.ref J) (.ref s0.heap.objs.size)) _ _ _;unfold Builtin.List.listExtendWith;refine af (jR (ty 0 _ z1) ?_);rw[if_neg (by rw[dif];decide)];refine af (wk.self 0 _ _ _ z1 ?_);refine af (eQ ?_);unfold Builtin.List.listLengthHint;refine af (jg (ty 0 _ z1) Gp ?_);show wpAny _ B.in1 (specialOf (Value.ref J) (Str.ofString "__length_hint__") >>= _) _ _ _;refine af (jg (ty 0 _ z1) Gq ?_)
 (generalize hid:("reversed.__length_hint__" : String)=id0;wp_delta;rw[show splitId id0=some ("reversed","__length_hint__") from by subst hid;decide +kernel];subst hid)
 refine af (lF (b:=true) (ty 0 _ z1) (by rw[jX];kernel_rfl) ?_);rw[if_neg fu];dsimp only;rw[if_neg (by decide +kernel)];refine af (lJ ?_);refine af (fI (Gs _) ?_);dsimp only;refine af (lG (hint _ _ _ z1 λ u tk htk=>?_));have z2:=wk.frame 0 _ _ tk z1 htk λ b _ o e=>e;have l63:=pF;have fi:Builtin.List.listFitsIndex (m:Int)=true:=by simp[Builtin.List.listFitsIndex];lia
 have tl:Builtin.List.listTooLong (m:Int).toNat=false:=by simp[Builtin.List.listTooLong];lia
 generalize hk:(m:Int)=kk at fi tl ⊢;show wpAny _ B.in1 (asInt? (.int kk u) >>= _) _ _ _;refine af (m:=asInt? (.int kk u)) (aq ?_);dsimp only;rw[if_neg (by rw[fi];decide)];try dsimp only
 rw[if_neg ca];try dsimp only
 rw[if_neg (by rw[tl];decide)];refine aq ?_;by_cases m0:m=0
 ·rw[if_neg (by subst m0;subst hk;decide +kernel)];refine aq ⟨gk sU _,sV wk sm _ out _ m 0 _ _ _ rfl (bW _) z2 at1 (s1z Pr) λ z' ac cc mv at2 its=>?_⟩;show wpAny _ B (load s0.heap.objs.size >>= _) _ _ z';exact af (s1m at2 (aq (fin z' ac (s0q (o:=nu) (tk:=tk) mv htk) its)))
 ·rw[if_pos (by simp;left;lia)];refine af (lJ ?_);refine af ?_;show wpAny _ B.in1 (updateSeq s0.heap.objs.size (·.push .none) >>= λ _=>updateSeq s0.heap.objs.size (·.pop)) _ _ _;refine af (lK at1 rfl ?_);have a2:=im (Obj.mapSeq (·.push Value.none)) at1 rfl;refine lK a2 rfl ?_;have a3:=im (Obj.mapSeq (·.pop)) a2 rfl
  have oth:∀b o,b≠s0.heap.objs.size->(s0.heap.push nu).get? b=some o->(((s0.heap.push nu).update s0.heap.objs.size (Obj.mapSeq (·.push Value.none))).update s0.heap.objs.size (Obj.mapSeq (·.pop))).get? b=some o :=
   λ b o hb e=>(fH _ _ (cK hb)).trans ((fH _ _ (cK hb)).trans e)
  refine aq ⟨gk sU _,sV wk sm _ out _ m 0 _ _ _ rfl (bW _)
   (wk.frame 0 ({ s0 with heap:=s0.heap.push nu,toks:=tk }:Shared) _ tk z2 (ay _) λ b hb o e=>oth b o (λ q=>out (q ▸ hb)) e) a3 (s1z Pr) λ z' ac cc mv at2 its=>?_⟩
  show wpAny _ B (load s0.heap.objs.size >>= _) _ _ z';refine af (s1m at2 ?_);refine aq (fin z' ac (s0q (o:=nu) (tk:=tk) (Moved.trans wk.gtrans ((Moved.refl wk.grefl).then_heap (ay _) λ b o hb e=>?_) mv) htk) its);exact oth b o (λ q=>hb (q ▸ bo)) e
theorem GA{R:VS}(hint:∀(z:Shared) (R':VS) (E':VS),Sx 0 z->(∀u tk,z.toks<=tk->R' (.int m u) { z with toks:=tk })->wpAny (model pg wd) B.in1.in1 (call (.builtin "reversed.__length_hint__") [.ref J]) R' E' z)(wk:WalksS pg wd B.in1.in1 J fs ws Gg m Pr Sx)(ty:∀j z,Sx j z->z.TypeIs (.ref J) "reversed")(z0:Sx 0 s0)(lt:∀b∈fs,b<s0.heap.objs.size)(mJ:J∈fs)(sm:m<=sizeLine)
  (fin:∀z' ac,Moved ws Gg s0 z'->ItemsOf Pr ac m->R (.ref z'.heap.objs.size) { z' with heap:=z'.heap.push { cls:=.type "tuple",data:=.seq ac } }) :
  codeAny (model pg wd) B (.call (.builtin "tuple.__new__") ⟨[.type "tuple",.ref J],[]⟩) (wants R X0) s0:=by
 refine codeAny_of_tree ?_;show wpAny _ B.in1 (do checkBuiltinCall "tuple.__new__" ⟨[.type "tuple",.ref J],[]⟩;again (.builtin "tuple.__new__" ⟨[.type "tuple",.ref J],[]⟩)) _ _ s0;refine af (fI (F.newCall_tuple_1 _) (aq ⟨gk pH _,iw F.entry_tuple_new ?_⟩));rw[iy pH _];have q1:=sub_tuple_self;have q2:=init_tuple_lookup;have q3:=madeHere_tuple;have q4:=ty 0 s0 z0;wp_walk using jR q4,Gz (sm:=sm) hint wk ty z0 lt mJ;intro z' ac mv its;show wpAny _ _ (Builtin.Tuple.tupleExact ac.toList.toArray >>= λ q=>ret q) _ _ _;have e:ac.toList.toArray=ac:=on;rw[e];unfold Builtin.Tuple.tupleExact;exact af (dC (aq (fin z' ac mv its)) (by show ac.size<=sizeLine;rw[its.1];exact sm))
theorem GC{R:VS}(hint:∀(z:Shared) (R':VS) (E':VS),Sx 0 z->(∀u tk,z.toks<=tk->R' (.int m u) { z with toks:=tk })->wpAny (model pg wd) B.in1.in1.in1 (call (.builtin "reversed.__length_hint__") [.ref J]) R' E' z)(wk:WalksS pg wd B.in1.in1.in1 J fs ws Gg m Pr Sx)(ty:∀j z,Sx j z->z.TypeIs (.ref J) "reversed")(z0:Sx 0 s0)(lt:∀b∈fs,b<s0.heap.objs.size)(mJ:J∈fs)(sm:m<=sizeLine)
  (fin:∀z' ac,Moved ws Gg s0 z'->ItemsOf Pr ac m->R (.ref z'.heap.objs.size) { z' with heap:=z'.heap.push { cls:=.type "tuple",data:=.seq ac } }) :
  wpAny (model pg wd) B (call (.type "tuple") [.ref J]) R X0 s0 :=
 callType_codes (Q₁:=λ ob z=>z.TypeIs ob "tuple" /\ R ob z) F.called_tuple (s1g _) s0w
  (GA (sm:=sm) hint wk ty z0 lt mJ λ z' ac mv its=>⟨⟨_,be _ rfl,rfl⟩,fin z' ac mv its⟩)
  λ ob z q=>⟨q.1,pr ob _,object_init_meets F.called_tuple.init.lookup F.called_tuple.made fu pg wd B.in1 _ z ⟨q.1,rfl,q.2⟩⟩
end
noncomputable def GD(K:FG)(te:TE):TE:=λ σ H Q=>te σ H λ x H1=>∃a xs,x=.ref a/\SqT K H1 a xs/\∀p,H1 p=none->Q (.ref p) (upd H1 p (.tup xs.reverse))
theorem GE{p1 p2 pos pos':Pos}(hc:X.calm=true)(ht:Gl X "tuple")(hr:Gl X "reversed")(mt:X.mg "tuple"=none)(mr:X.mg "reversed"=none)(he:PE X e te)(hs:starEach [e] X.env=[(false,eval e X.env)]:=by rfl) :
  PE X (.Call (.Name "tuple" p1) [.Call (.Name "reversed" p2) [e] [] pos'] [] pos) (GD X.K te):=by
 intro pins s σ H Q I h;refine Call_ (eN I ht mt boot_tuple (hV ?_ rfl rfl));refine rZ ?_;have hA:=(cL he (pa_nil (X:=X)) hs) pos' pins s σ H (λ vs H1=>match vs with|[x]=>∃a xs,x=.ref a/\SqT X.K H1 a xs/\∀p,H1 p=none->Q (.ref p) (upd H1 p (.tup xs.reverse))|_=>False) I h;refine Call_ (eN I hr mr s1f (hV (thn hA λ us s1 ⟨vs,H1,I1,r1,q1⟩=>?_) hs rfl))
 match vs,q1 with
 |[x],⟨a,xs,e,hq,q⟩=>
  subst e;obtain⟨u,rfl,ru⟩:=cS r1;cases (show u=Value.ref a from ru);obtain⟨its,rv,pl,hz⟩:=I1.tuple hq;have hl:=rv.length;have z63:=pF;refine ww pl (by simp;lia) λ tk=>?_;refine rY ?_;have I2:Inv X pins σ H1 { s1 with heap:=s1.heap.push (jf a ((its.toArray.size:Int)-1)),toks:=tk }:=I1.kept (t':=tk) λ b o e=>aI _ e;have al:a<s1.heap.objs.size:=by obtain⟨o,ho,_⟩:=pl;exact aJ ho
  have hne:a≠s1.heap.objs.size:=bn al
  have ir:IsRv (s1.heap.push (jf a ((its.toArray.size:Int)-1))) s1.heap.objs.size a ((its.toArray.size:Int)-1-((0:Nat):Int)):=by
   refine⟨_,be _ rfl,O,?_⟩;have e:(its.toArray.size:Int)-1-((0:Nat):Int)=(its.toArray.size:Int)-1:=ca;rw[e];rfl
  have sz:(s1.heap.push (jf a ((its.toArray.size:Int)-1))).objs.size=s1.heap.objs.size+1:=by simp[Heap.push]
  have ff:=I1.fpOk (ay s1.heap.objs.size) (I1.hok.fresh (ay _))
  refine GC (m:=its.toArray.size) (Sx:=_) (λ z R' E' q f=>Gy (its:=its.toArray) (by have:=q.2.1;rw[show(its.toArray.size:Int)-1-((0:Nat):Int)=(its.toArray.size:Int)-1 by lia] at this;exact this) q.2.2 (by simp;lia) f) (Gr (B:=X.A.in1.in1.in1) (I.ok.hd hc) s1.heap.objs.size a hne its.toArray (by simp;lia)).toS (λ j z q=>let ⟨o,ho,hk,_⟩:=q.2.1;⟨o,ho,hk⟩)
   ⟨bW _,ir,let ⟨o,g,r⟩:=pl;⟨o,aI _ g,r⟩⟩ (λ b hb=>?_) (bo ..) (by simp only[aV];lia) λ z' ac mv io=>?_
  ·show b<(s1.heap.push (jf a ((its.toArray.size:Int)-1))).objs.size;rw[sz];simp only[aL,bX,bY] at hb
   rcases hb with rfl|rfl
   ·exact jd _
   ·exact eY al
  have I3:Inv X pins σ H1 z':=by
   obtain⟨zh,zg,zd,zt,zo⟩:=z';have e1:zg=s1.gens:=mv.gens;have e2:zd=s1.drawn:=mv.drawn;have e3:zo=s1.os:=mv.os;subst e1 e2 e3;obtain⟨f0,f1,f2,f3,f4,f5⟩:=ff;exact I1.turned (t':=zt) (λ b o hb e=>mv.heap b o (by simpa using hb) (aI _ e)) f0 f1 f3 f4 f5
  have er:ac=its.reverse.toArray:=by
   have sz2:ac.size=its.length:=by simpa using io.1
   apply Array.ext
   ·simp[sz2]
   ·intro j h1 h2;have q:=io.2 j _ (pI h1);simp only[aV,sW] at q;have q2:its.reverse[j]?=some ac[j]:=by rw[jY ca];exact q
    rw[s0j];exact(bJ ((aB (by simpa using h2)).symm.trans q2)).symm
  subst er
  have I4:Inv X pins σ (upd H1 z'.heap.objs.size (.tup xs.reverse)) { z' with heap:=z'.heap.push { cls:=.type "tuple",data:=.seq its.reverse.toArray } } :=
   I3.laid (t':=z'.toks) (λ b o e=>aI _ e) (ay _) (show ObjOk X.prog X.w _ _ _ (.tup xs.reverse) from ⟨by simpa using hz,its.reverse,rv.reverse,TupO.new _ _⟩)
  exact⟨.ref z'.heap.objs.size,_,I4,O,q _ (I3.hok.fresh (ay _))⟩
def okS(k:Nat)(x:Str):Prop:=x.length<=k/\∀c∈x.cps.toList,c<1000
section
variable {es:List Expr}{x1:Nat}{pp:Pos}
end
instance (k:Nat)(x:Str):Decidable (okS k x):=by unfold okS;infer_instance
section
variable {tg:Expr}
end
noncomputable def GF(K:FG):R2:=λ x y H Q=>∃l b xs zs,x=.ref l/\y=.ref b/\SqL K H l xs/\SqL K H b zs/\xs.length+zs.length<=sizeLine/\∀p,H p=none->Q (.ref p) (upd H p (.lst (xs++zs)))
def sZ:OpR X (binaryOp .Add) (GF X.K):=by
 intro pins s σ H x y v u Q I rx ry h;obtain⟨l,b,xs,zs,rfl,rfl,hH,hB,hz,q⟩:=h;cases rx;cases ry;obtain⟨its,r,⟨⟨c1,d1,z1,l1⟩,n,e,hc,hd,hs⟩,_⟩:=I.list hH;obtain⟨its2,r2,⟨⟨c2,d2,z2,l2⟩,n2,e2,hc2,hd2,hs2⟩,_⟩:=I.list hB;simp only at hc hd hs hc2 hd2 hs2;subst hc hd hs hc2 hd2 hs2;have a1:=r.length;have a2:=r2.length;have ea:its.toArray++its2.toArray=(its++its2).toArray:=on;refine pd ⟨_,e,O⟩ ⟨_,e2,O⟩ noFill_list_add seq_list_add F.slot_list_add F.entry_list_add (F.args_list_add_2 _ _) (list_addW l b its.toArray its2.toArray n n2 _ _ _ _ (by rw[aV,aV];lia)) ⟨e,e2,?_⟩;rw[ea];exact⟨.ref _,_,I.lnew (t':=s.toks) (r.append r2) (by rw[aN];lia),O,q _ I.fresh⟩
section
variable {pg:Program}{wd:World}{B:Around}{X0:VS}{s0:Shared}
end
section
variable {es:List Expr}{x1:Nat}{pp:Pos}
end
end _L
namespace _L
open PySem PySem.Spec PyProof.Rows PySem.W PySem.Calls
def GG(i j:Int):Prop:=IntMulOk i j
def GH:OpR X (binaryOp .Mult) (rI GG λ i j=>.int (i*j)):=opI λ _ _ _ _ _ _ _ hc q=>mul_int q hc
section
variable {prog:Program}{w:World}{A:Around}{E:VS}{s:Shared}
theorem wJ{l:Addr}{T:String}{vs:LV}{Q:VS}(hT:T="list" \/ T="tuple")(ho:s.heap.get? l=some o)(hc:o.cls=.type T)(hd:o.data=.seq vs.toArray n)(hI:IntsAre vs ns)(h64:vs.length<64)
  (h:∀(h1 h2:Heap) (vs':LV) (ns':LI) (e:Nat),(∀b u,s.heap.get? b=some u->h1.get? b=some u)->(∀b u,h1.get? b=some u->h2.get? b=some u)->h2.get? h1.objs.size=some (seqObj "list" vs'.toArray e)->IntsAre vs' ns'->ns'.Perm ns->ns'.Pairwise (·<=·)->Q (.ref h1.objs.size) { s with heap:=h2 }) :
  wpAny (model prog w) A (call (.builtin "sorted") [.ref l]) Q E s:=by
 refine Calls.call_function_entry kind_sorted plain_sorted entry_sorted (args_sorted1 _) ?_;unfold Builtin.«sorted»;refine af (m:=checkCount "sorted" 1 1 _) (aq ?_);refine af (wpAny_collect_seq l hT ho hc hd (λ h1 k1=>?_) (by simp only[aV];exact dN (aP ca)));rw[show vs.toArray.toList=vs by simp];refine af (wpAny_newList ?_);have hoL:(h1.push (seqObj "list" vs.toArray 0)).get? h1.objs.size=some (seqObj "list" vs.toArray 0):=be _ rfl;refine af (eQ (gb slot_list_sort ⟨_,hoL,O⟩ entry_list_sort (list_sort_tree hoL hI h64 λ out ns' a1 a2 a3=>⟨_,O,?_⟩) (args_list_sort _)));refine aq ⟨_,O,?_⟩;obtain⟨e,he⟩:=sortedHeap_at (vs:=vs) (out:=out) hoL;refine h h1 _ out.toList ns' e k1 (λ b u q=>?_) (by rw[s0k];exact he) a1 a2 a3;have hlt:=aJ q;rw[sortedHeap_old (bn hlt) (by rw[size_push'];exact eY hlt)];exact aI _ q
end
theorem wK:∀ {xs:List V}{us:LV},xs.length=us.length->(∀(i:Nat) u,us[i]?=some u->∃x,xs[i]?=some x/\RelV x u)->Vals xs us
 |[],[],_,_=>.nil
 |[],_::_,h,_=>by simp at h
 |_::_,[],h,_=>by simp at h
 |x::xs,u::us,h,f=>by
  obtain⟨y,e,r⟩:=f 0 u rfl;cases (bJ e);exact .cons r (wK (by simpa using h) λ i v e=>f (i+1) v e)
variable {X:Cx}
def GI:cF X (.builtin "sorted") (λ xs H Q=>∃p ns,xs=[.ref p]/\(SqL X.K H p (List.map V.int ns)\/SqT X.K H p (List.map V.int ns))/\ns.length<64/\∀ns':LI,ns'.Perm ns->ns'.Pairwise (·<=·)->∀l,H l=none->Q (.ref l) (upd H l (.lst (ns'.map V.int)))):=by
 intro pins s σ H xs us Q I r h;obtain⟨p,ns,rfl,hq,h64,q⟩:=h;obtain⟨u,rfl,rx⟩:=cS r;cases rx
 have fin:∀(h1 h2:Heap) (vs':LV) (ns':LI) (e:Nat),(∀b u,s.heap.get? b=some u->h1.get? b=some u)->(∀b u,h1.get? b=some u->h2.get? b=some u)->h2.get? h1.objs.size=some (seqObj "list" vs'.toArray e)->IntsAre vs' ns'->ns'.Perm ns->ns'.Pairwise (·<=·)->EP X pins σ Q (.ref h1.objs.size) { s with heap:=h2 }:=by
  intro h1 h2 vs' ns' e k1 k2 g a1 a2 a3;have I1:Inv X pins σ H { s with heap:=h1 }:=I.kept (t':=s.toks) k1;have hz:(ns'.map V.int).length<=sizeLine:=by rw[ao,a2.length_eq];exact dN (aP ca)
  have I2:Inv X pins σ (upd H h1.objs.size (.lst (ns'.map V.int))) { s with heap:=h2 }:=I1.laid (t':=s.toks) k2 (ay _) (show ObjOk X.prog X.w _ _ _ (.lst (ns'.map V.int)) from ⟨hz,vs',e,sJ a1,g⟩);exact⟨.ref h1.objs.size,_,I2,O,q ns' a2 a3 _ (I1.hok.fresh (ay _))⟩
 rcases hq with hq|hq
 ·obtain⟨its,r',pl,hz⟩:=I.list hq;have hi:=ph r';obtain⟨o,ho,hc,n,hd⟩:=pl.isList;exact wJ (.inl rfl) ho hc hd hi (by rw[hi.length];exact h64) fin
 ·obtain⟨its,r',pl,hz⟩:=I.tuple hq;have hi:=ph r';obtain⟨o,ho,hc,n,hd⟩:=pl;exact wJ (.inr rfl) ho hc hd hi (by rw[hi.length];exact h64) fin
def GJ:cF X (.type "range") (λ xs H Q=>∃j:Int,xs=[.int j]/\∀r,H r=none->Q (.ref r) (upd H r (.rng 0 j))):=by
 intro pins s σ H xs us Q I r h;obtain⟨j,rfl,q⟩:=h;obtain⟨u,rfl,t,rfl⟩:=cS r;refine call_range_1 ⟨.ref s.heap.objs.size,_,I.laid (λ b o e=>aI _ e) (ay _) ?_,O,q _ (I.hok.fresh (ay _))⟩;exact⟨_,_,_,be _ rfl⟩
def upL(n:Nat):LI:=(List.range n).map λ(i:Nat)=>(i:Int)
def GK(hc:X.calm=true):cF X (.type "list") (λ xs H Q=>∃p n,xs=[.ref p]/\H p=some (.rng 0 (Int.ofNat n))/\n<=1000/\∀l,H l=none->Q (.ref l) (upd H l (.lst ((upL n).map V.int)))):=by
 intro pins s σ H xs us Q I r h;obtain⟨p,n,rfl,hp,hn,q⟩:=h;obtain⟨u,rfl,rx⟩:=cS r;cases rx;obtain⟨t,u,v,e⟩:=I.hok p _ hp
 have hs:Builtin.Range.small 0 (Int.ofNat n) 1=true:=by
  have z:∀m:Fin 1001,Builtin.Range.small 0 (Int.ofNat m.val) 1=true:=by decide +kernel
  exact z ⟨n,ca⟩
 have hsz:Builtin.Range.rangeSize 0 (Int.ofNat n) 1=n:=by
  unfold Builtin.Range.rangeSize;rw[if_pos fu];split
  ·show(Int.ofNat n-0-1)/1+1=_;simp; 
  ·simp at *;lia
 refine call_list_range (I.ok.hd hc) e hs hsz ca λ h' tk acc' c' k g it=>?_
 have rv:Vals ((upL n).map V.int) acc'.toList:=by
  refine wK (by simp[upL,it.1]) λ i v e=>?_;rw[sH] at e;obtain⟨tt,rfl⟩:=it.2 i v e;have hi:i<n:=by rw[<- it.1];exact(wy.mp e).1
  exact⟨.int i,by simp[upL,hi],tt,on⟩
 exact⟨.ref s.heap.objs.size,_,I.laid k (ay _) (show ObjOk X.prog X.w _ _ _ (.lst _) from ⟨by simp[upL];exact dN (aP hn),acc'.toList,c',rv,by rw[s0k];exact g⟩),O,q _ (I.hok.fresh (ay _))⟩
def GL:MtR X "list.pop" nA:=Fi
theorem GM{X:Cx}{i:Nat}{elt tg iter:Expr}{cl:LA}{pos pos' lpos:Pos}{own fv:List Str}{js:List Nat}
  (hN:X.N.Nodup) (hx1:X.N[i]?=some x) (hx:Loc X.env.scope x) (hf:X.fn x=true\/X.env.scope.names.lookup x=some .local)
  (hc:X.calm=true) (hi:PI X tg iter wi) (hclos:closureFor scope X.env=pure cl) (hcell:∀y∈scope.names,y.2≠.cell) (hkind:scope.kind=.function)
  (hnames:∀y∈scope.names,y.2=.local->scope.names.lookup y.1=some .local)
  (hcl:∀x c,cl.lookup x=some c->X.env.cells.lookup x=some c)
  (hhas:∀x,((relabel scope X.env).names.lookup x=some .cell\/(relabel scope X.env).names.lookup x=some .free)->∃c,cl.lookup x=some c)
  (hlen:js.length=fv.length) (hcap:∀(i:Nat) x j,fv[i]?=some x->js[i]?=some j->Cap X scope cl x j)
  (hg:∀(C:Addr) (ex:List Addr) (s:Shared) (H:Hp),PG (bC X (own++fv) scope cl C ex s H) tg g)
  (he:∀(C:Addr) (ex:List Addr) (s:Shared) (H:Hp),PE (bC X (own++fv) scope cl C ex s H) elt te)
  (hsw:swapsWith (.ListComp elt [⟨tg,iter,[],0⟩] scope lpos) (some (.Name x pos')) pos.line X.env=pure true:=by rfl)
  (hs:∀x,foldedSetIterable iter X.env x=pure x:=by intro _;rfl) :
  PS X (.Assign [.Name x pos'] (.ListComp elt [⟨tg,iter,[],0⟩] scope lpos) pos) (lg (lE wi own.length js g te) (eO i)):=by
 intro pins s σ H D I h;rw[wM _ _ _ _ hsw];refine af (jQ ?_);rw[wN];have core:=wn (use:=some (assign (.Name x pos') X.env)) (QQ:=λ _ s'=>SP X pins D .next s') (fpos:=firstIterPos [⟨tg,iter,[],0⟩] lpos) (pos:=lpos) hc hi hclos hcell hkind hnames hcl hhas hlen hcap hg he hs I h (λ a C s5 H5 fl I5 zC zL zS zc zp ⟨m,hn⟩ q=>?_)
 ·refine af (af (thn core λ _ s' hq=>?_));exact aq (aq hq)
 ·show wpAny (model X.prog X.w) X.A (assign (.Name x pos') X.env (.ref a)) _ X.xe s5;show wpAny (model X.prog X.w) X.A (do standAt pos';bindName X.env x (.ref a)) _ X.xe s5;refine af (jQ ?_);refine bindName_ ?_;refine rF I5 hN hx1 hx (show RelV (.ref a) (.ref a) from rfl) (λ s6 I6 ⟨b,sb,hb⟩=>?_) hf
  have cb:C≠b:=by
   rcases hb with rfl|hb
   ·exact zL
   ·exact λ z=>zc x b hb z.symm
  obtain⟨o,es,ep,e,r⟩:=hn;refine⟨m,⟨o,es,ep,(sb.2 C cb).trans e,r⟩,λ h' sc=>?_⟩;exact⟨_,H5,I6.turned (t':=s6.toks) (it:=C) (λ d o nd e=>sc.extBut d o nd e) zC zL (.inr zS) zc zp,q⟩
noncomputable def GN:V->Option Int->Option Int->Hp->VK->Prop:=λ x lo hi H Q=>∃z,x=.str z/\z.length<=4000000/\Q (.str (Txt.slice z lo hi)) H
def GO:SlR X GN:=by
 intro pins s σ H x v vl vu lo hi sl Q I rx hs pl pu h;obtain⟨z,rfl,hz,q⟩:=h;obtain⟨t,rfl⟩:=rx;have s20:4000000<=sizeLine:=by rw[mX];decide
 have part:∀ {u:Value}{o:Option Int},IsPart u o->∃l,u=partValue l/\o=l.map λ p:Int×Tok=>p.1:=λ p=>by
  cases p with
  |none=>exact⟨none,rfl,rfl⟩
  |int i t=>exact⟨some (i,t),rfl,rfl⟩
 obtain⟨l,rfl,rfl⟩:=part pl;obtain⟨u,rfl,rfl⟩:=part pu;obtain⟨o,ho,hc,hd⟩:=hs;refine⟨"str",_,F.slot_str_getitem.lookup,typeIs_str _ _ _,wpAny_getItem_str_slice (l:=l) (u:=u) (st:=none) ⟨o,ho,hc,hd⟩ rfl ?_⟩;have le:=Txt.slice_le z (l.map λ p:Int×Tok=>p.1) (u.map λ p:Int×Tok=>p.1);exact post_val_or_str ⟨dg le ca,λ t' k=>⟨.str _,H,I.tok k,⟨t',O⟩,q⟩⟩
theorem wO:∀ {bs:List Bool}{us:LV},Vals (bs.map V.bl) us->us=bs.map Value.bool
 |[],_,.nil=>rfl
 |b::bs,_,.cons r t=>by
  cases (show _=Value.bool b from r);rw[wO t];rfl
def GP(hc:X.calm=true):cF X (.builtin "any") (λ xs H Q=>∃(a:Addr) (bs:List Bool),xs=[.ref a]/\SqL X.K H a (bs.map V.bl)/\Q (.bl (bs.any id)) H):=by
 intro pins s σ H xs us Q I r h;obtain⟨a,bs,rfl,hq,q⟩:=h;obtain⟨u,rfl,ru⟩:=cS r;cases (show u=Value.ref a from ru);obtain⟨its,rv,pl,hz⟩:=I.list hq;have hl:=pl.isList;have hlt:a<s.heap.objs.size:=by obtain⟨_,e,_⟩:=hl;exact aJ e
 have hb:=wO rv;subst hb;refine call_any_walk (tj hl ?_)
 refine⟨s.heap.objs.size,[s.heap.objs.size,a],[s.heap.objs.size],(bs.map Value.bool).toArray.size,_,_,λ i=>(bs[i]?).getD false,O,Walks.list (A:=X.A.in1) (I.ok.hd hc) _ a (bn hlt) (bs.map Value.bool).toArray,
  ⟨⟨_,be _ rfl,rfl,rfl⟩,hl.push _⟩,λ i v s' Q' E' hP hQ=>?_,λ h' tk hk=>?_⟩
 ·have hP:(bs.map Value.bool)[i]?=some v:=by simpa using hP
  rw[aQ] at hP
  cases e:bs[i]? with
  |none=>rw[e] at hP;cases hP
  |some b=>
   rw[e] at hP;cases hP;simp only[e,Option.getD_some] at hQ;exact gM hQ
 ·have e:((List.range (bs.map Value.bool).toArray.size).any λ i=>(bs[i]?).getD false)=bs.any id:=by
   rw[aV,ao];exact LSm.range_any bs
  rw[e];exact⟨.bl _,H,I.kept (t':=tk) (LSm.kept_iter hk),O,q⟩
section
variable {κ:Type} [DecidableEq κ]
end
section
variable {P:Program}{w:World}{H:Hp}{h:Heap}{a:Addr}
end
section
variable {pins:LO}{σ:St}{H:Hp}{s:Shared}{a:Addr}{y v:V}{u r:Value}{o:Option V}{A:Around}{E:VS}
end
section
variable {pins:LO}{σ:St}{H:Hp}{s:Shared}{a:Addr}{kvs:List (Key×V)}{k:Key}{u:Value}{A:Around}{E:VS}
end
noncomputable def wP(i:Expr):Prop:=∀ov iv,subscripted i false ov iv=operate [ov,iv] (getItem ov iv)
theorem GQ{T id:String}
  (hl:typeLookup (.type T) "__getitem__"=pure (some (.builtin id))) (hs:wP slice)
  (h:wpAny (model prog w) A (eval value env) (λ o s₁=>wpAny (model prog w) A (eval slice env) (λ i s₂=>s₂.TypeIs o T/\wpAny (model prog w) A (getItem o i) Q E s₂) E s₁) E s) :
  wpAny (model prog w) A (eval (.Subscript value slice pos) env) Q E s:=by
 refine Subscript_ (cP h (λ o s₁ h₁=>cP h₁ (λ i s₂ h₂=>?_) λ _ _ x=>x) λ _ _ x=>x);obtain⟨hT,h₂⟩:=h₂;unfold subscriptTail;refine af ?_;rw[getitemInPython_of_ne hT.not_modules];refine af (jg hT hl ?_)
 have fin:wpAny (model prog w) A (subscripted slice false o i) (λ r s₃=>wpAny (model prog w) A (letTemporaryGo value o r >>= λ _=>pure r) Q E s₃) E s₂:=by
  rw[hs o i];exact wpAny_operating (cP h₂ (λ r s₃ h₃=>af (wpAny_letTemporaryGo (aq h₃))) λ _ _ x=>x)
 first
  |exact aq (af fin)
  |exact af (aq (af fin))
  |exact af fin
section
variable {o i e value:Expr}{pos pos' tpos:Pos}{td ty tv:TE}
end
section
variable {pos:Pos}
end
section
variable {pins:LO}{σ:St}{H:Hp}{s:Shared}{a:Addr}{y d:V}{u r:Value}{o:Option V}{A:Around}{E:VS}
end
section
variable {o e f:Expr}{apos cpos:Pos}{td ty tx:TE}
end
section
variable {pins:LO}{σ:St}{H:Hp}{s:Shared}{a:Addr}{kvs:List (Key×V)}{A:Around}{E:VS}
end
section
variable {pins:LO}{σ:St}{H:Hp}{s:Shared}{a:Addr}{y:V}{u:Value}{A:Around}{E:VS}
end
section
variable {κ:Type} [DecidableEq κ]
end
noncomputable def KTab(P:Program)(w:World)(K:FG)(d:Addr)(kvs:LA):Prop:=(d == sysModules)=false/\∀h:Heap,K.In h->h.DictOf (rB P w) d (kvs.map λ p=>((Sum.inr p.1:Key),Value.ref p.2))
noncomputable def GR(pm:Params)(l:List (Str×Tok×Addr)):List DictEntry:=l.map λ p=>⟨PyData.keyHash pm p.1,.str p.1 p.2.1,.ref p.2.2⟩
theorem KTab.mk{w:World}{K:FG}{d:Addr}(hd:(d == sysModules)=false)(hl:K.lookup d=some { cls:=.type "dict",data:=.dict es n })(he:es.toList=GR w.params l)(nd:(l.map (·.1)).Nodup) :
  KTab P w K d (l.map λ p=>(p.1,p.2.2)):=by
 refine⟨hd,λ h KI=>⟨_,es,n,KI d _ hl,⟨O,O,O⟩,O,?_,?_,?_⟩⟩
 ·intro e hm;have hm:e∈es.toList:=Array.mem_toList_iff.mpr hm;rw[he] at hm;obtain⟨p,_,rfl⟩:=bG.mp hm;exact⟨Sum.inr p.1,rn p.1 p.2.1,O⟩
 ·rw[he];clear he nd hl
  induction l with
  |nil=>exact .nil
  |cons p r ih=>exact .cons (rn p.1 p.2.1) rfl ih
 ·rw[br,br];have e:((λ x:Key×Value=>x.1) ∘ (λ p:Str×Addr=>((Sum.inr p.1:Key),Value.ref p.2))) ∘ (λ p:Str×Tok×Addr=>(p.1,p.2.2))=(λ x:Str=>(Sum.inr x:Key)) ∘ λ p=>p.1:=rfl;rw[<- br] at *
  have z:(l.map λ p=>(Sum.inr p.1:Key)).Nodup:=by
   have:(l.map λ p=>(Sum.inr p.1:Key))=(l.map (·.1)).map (λ x:Str=>(Sum.inr x:Key)):=by rw[br];rfl
   rw[this];exact List.Pairwise.map _ (λ a b (h:a≠b) z=>h (s1x z)) nd
  simpa [br,Function.comp_def] using z
def GS{kvs:LA}:valueAt (kvs.map λ p=>((Sum.inr p.1:Key),Value.ref p.2)) (Sum.inr x)=(kvs.lookup x).map Value.ref:=by
 induction kvs with
 |nil=>rfl
 |cons p r ih=>
  obtain⟨k,a⟩:=p;unfold valueAt at *;rw[aX,List.find?_cons,fJ];by_cases e:x=k
  ·subst e;simp
  ·have h1:decide ((Sum.inr k:Key)=Sum.inr x)=false:=bq λ z=>e (s1x z).symm;have h2:(x == k)=false:=rq.mpr e;rw[h2];simp only[h1];exact ih
noncomputable def GU(kvs:LA):V->Hp->VK->Prop:=λ y H Q=>∃x a,y=.str x/\kvs.lookup x=some a/\Q (.ref a) H
def GV(kvs:LA)(te:TE):TE:=λ σ H Q=>te σ H λ y H1=>GU kvs y H1 Q
theorem GW(hg:Gl X n)(hm:X.mg n=some (.ref d))(T:KTab X.prog X.w X.K d kvs)(hi:PE X i te)(hs:wP i)(hdb:(n == ("__debug__" : Str))=false:=by decide) :
  PE X (.Subscript (.Name n np) i pos) (GV kvs te):=by
 intro pins s σ H Q I h;refine GQ PySem.F.slot_dict_getitem.lookup hs (oP I hg hm (thn (hi pins s σ H _ I h) λ iv s2 ⟨y,H2,I2,ry,x,a,ey,l,q⟩=>?_) hdb);subst ey;obtain⟨t,rfl⟩:=ry;have dd:=T.2 s2.heap I2.kIn;refine⟨dd.typeIs,wpAny_getItem_of (rn x t) dd.mapOf (v:=.ref a) (by rw[GS,l];rfl) ⟨.ref a,H2,I2.tok _,O,q⟩⟩
noncomputable def KTup(K:FG)(a:Addr)(xs:List V):Prop:=∃(o:Obj) (its:Array Value) (n:Nat),K.lookup a=some o/\o.cls=.type "tuple" /\ o.dict=none/\o.data=.seq its n/\its.size<=sizeLine/\Vals xs its.toList
def KTup.sq{K:FG}(h:KTup K a xs):SqT K H a xs:=.inr h
section
variable {pg:Program}{wd:World}{B:Around}{X0:VS}{s0:Shared}
end
section
variable {es:List Expr}{x1:Nat}{pp:Pos}
end
section
variable {P:Program}{w:World}{K:FG}{mg:SV}{base:Heap}
end
section
variable {CX:CXT}{k:Nat}{ps:List Str}{dvs:List V}{sp:Sp}{E:XK}{x:Str}{p pos:Pos}{e:Expr}{es:List Expr}{t:TA}
end
section
open PySem.Builtin PySem.Builtin.Str
end
section
variable {pg:Program}{wd:World}{B:Around}{X0:VS}{s0:Shared}{J d:Addr}{m:Nat}{Pr:Nat->Value->Prop}{OK:Heap->Prop}
end
section
variable {pg:Program}{wd:World}{B:Around}{X0:VS}{z0:Shared}
end
def GX(r:Vals xs us){j:Nat}(h:j<us.toArray.size):∃z,xs[j]?=some z/\RelV z us.toArray[j]:=by
 have l:=r.length;have k:j<xs.length:=by rw[l];simpa using h
 obtain⟨u,hu,ru⟩:=r.get (aB k)
 have e:us.toArray[j]=u:=by
  have z:us[j]?=some (us[j]'(by simpa using h)):=aB _;rw[z] at hu;simpa using hu
 exact⟨_,aB k,by rw[e];exact ru⟩
section
variable {pins:LO}{σ:St}{H:Hp}{s:Shared}
end
noncomputable def GY(K:FG)(tl:TE):TI:=λ σ H R=>tl σ H λ x H1=>(∃a,x=.ref a/\(∃xs,SqL K H1 a xs)/\R (Itl K a) H1)\/(∃a,x=.ref a/\(∃xs,SqT K H1 a xs)/\R (Itt K a) H1)
def GZ(hl:PE X l tl):PI X tg l (GY X.K tl):=by
 intro pins s σ H R I h;refine thn (hl pins s σ H _ I h) λ v s1 ⟨x,H1,I1,r1,q1⟩=>?_
 rcases q1 with ⟨a,e,⟨xs,hq⟩,q⟩|⟨a,e,⟨xs,hq⟩,q⟩
 ·subst e;cases r1;obtain⟨its,rv,p,hz⟩:=I1.list hq;refine tj p.isList ?_;refine⟨s1.heap.objs.size,[s1.heap.objs.size],_,_,H1,O,I1.kept (t':=s1.toks) λ b o e=>aI _ e,DD a _,⟨_,be _ rfl,O,O⟩,λ b hb=>?_,q⟩;have e:b=s1.heap.objs.size:=by simpa using hb
  subst e;exact I1.fpOk (ay _) (I1.hok.fresh (ay _))
 ·subst e;cases r1;obtain⟨its,rv,p,hz⟩:=I1.tuple hq;refine nD (show s1.heap.IsTuple a its.toArray from p) ?_;refine⟨s1.heap.objs.size,[s1.heap.objs.size],_,_,H1,O,I1.kept (t':=s1.toks) λ b o e=>aI _ e,DE a _,⟨_,be _ rfl,O,O⟩,λ b hb=>?_,q⟩;have e:b=s1.heap.objs.size:=by simpa using hb
  subst e;exact I1.fpOk (ay _) (I1.hok.fresh (ay _))
section
variable {tg:Expr}
end
theorem nE:∀(names:List (Str×NameKind)) (n:Nat) (acc:LA),cellsFrom n names acc=cellsFrom n names []++acc
 |[],_,_=>rfl
 |(x,k)::r,n,acc=>by
  unfold cellsFrom;split
  ·rw[nE r (n+1) ((x,n)::acc),nE r (n+1) [(x,n)],eX];rfl
  ·exact nE r n acc
theorem iz{α:Type}:∀ {a b:List (Str×α)}{x:Str},(a++b).lookup x=match a.lookup x with|some c=>some c|none=>b.lookup x
 |[],_,_=>rfl
 |(y,c)::a,b,x=>by
  rw[nG,fJ,fJ]
  cases x == y with
  |true=>rfl
  |false=>exact iz
theorem wQ{α:Type}{y:Str}:∀ {cl:List (Str×α)}{q:Str×α},q∈cl->q.1=y->(cl.lookup y).isSome=true
 |a::r,q,hq,e=>by
  rw[fJ]
  cases q0:y == a.1 with
  |true=>rfl
  |false=>
   rcases aL.mp hq with z|z
   ·rw[<- z,e,lL] at q0;cases q0
   ·exact wQ z e
theorem wR{α:Type}:∀ {cl:List (Str×α)}{q:Str×α},(cl.map (·.1)).Nodup->q∈cl->cl.lookup q.1=some q.2
 |a::r,q,nd,hq=>by
  rw[fJ]
  rcases aL.mp hq with z|z
  ·rw[<- z,lL]
  ·have na:=(hW.mp nd).1
   have:(q.1 == a.1)=false:=by
    cases q0:q.1 == a.1 with
    |false=>rfl
    |true=>exact absurd (bG.mpr ⟨q,z,lC q0⟩) na
   rw[this];exact wR (hW.mp nd).2 z
theorem pM{x:Str}:∀ {names:List (Str×NameKind)}{n:Nat},(∀y∈names,y.2=.cell->y.1≠x)->(cellsFrom n names []).lookup x=none
 |[],_,_=>rfl
 |(y,k)::r,n,h=>by
  unfold cellsFrom;split
  ·rename_i hk;rw[nE,iz,pM λ z hz=>h z (aE _ hz)];have hy:y≠x:=h (y,k) bo (lC hk);show List.lookup x [(y,n)]=none;rw[fJ]
   have:(x == y)=false:=by
    cases q:x == y with
    |false=>rfl
    |true=>exact absurd (lC q).symm hy
   rw[this];rfl
  ·exact pM λ z hz=>h z (aE _ hz)
section
variable {M:Model}{A:Around}{E:VS}{s₀ s:Shared}{m cm:SV}{env:Env}{cs:LA}
theorem Ha{v:Value}{Q:Unit->Shared->Prop}(x:InCallC s₀ env.locals m cs cm s)(hk:env.scope.kind=.function)(hl:env.kindOf n=some .local)
  (h:∀s',InCallC s₀ env.locals (λ y=>if y=n then some v else m y) cs cm s'->Q () s'):wpAny M A (storeName env n v) Q E s:=by
 refine vj hl x.toInCall.ns (λ h' hn' hs'=>h _ ⟨⟨?_,hn',λ b o e=>?_,x.toInCall.fresh⟩,λ k c hc=>?_,x.apart,x.above⟩) (by rw[hk];rfl)
 ·obtain⟨h₁,tk,rfl⟩:=x.toInCall.same;exact⟨h',_,O⟩
 ·exact hs'.extBut b o (bn (bM (aJ e) x.toInCall.fresh)) (x.toInCall.keep b o e)
 ·exact(x.cell k c hc).sameBut hs' (mR (x.above k c (dW hc)))
theorem Hb{v:Value}{Q:Unit->Shared->Prop}(x:InCallC s₀ env.locals m cs cm s)(hk:env.scope.kind=.function)(hl:env.kindOf n=some .cell)
  (hc:cs.lookup n=some c) (he:env.cells.lookup n=some c)
  (h:∀s',InCallC s₀ env.locals m cs (λ y=>if y=n then some v else cm y) s'->Q () s'):wpAny M A (storeName env n v) Q E s:=by
 have hLc:=x.above n c (dW hc);refine s0f hk hl he (x.cell n c hc) λ h' hc' hs'=>h _ ⟨⟨?_,x.toInCall.ns.sameBut hs' (bn hLc),λ b o e=>?_,x.toInCall.fresh⟩,λ k c' hk'=>?_,x.apart,x.above⟩
 ·obtain⟨h₁,tk,rfl⟩:=x.toInCall.same;exact⟨h',_,O⟩
 ·exact hs'.extBut b o (bn (s1s (bM (aJ e) x.toInCall.fresh) hLc)) (x.toInCall.keep b o e)
 ·by_cases hkn:k=n
  ·subst hkn;rw[hc] at hk';cases hk';simpa using hc'
  ·rw[if_neg hkn];exact(x.cell k c' hk').sameBut hs' λ e=>hkn (oZ x.apart (dW hk') (e ▸ dW hc))
theorem tm(f:Str×Value->PUnit->Sem (ForInStep PUnit))(hf:∀n v u,f (n,v) u=(do storeName env n v;pure (.yield ⟨⟩)))(hk:env.scope.kind=.function)(hcs:∀n c,cs.lookup n=some c->env.cells.lookup n=some c) :
  ∀(binds:List (Str×Value)) (m cm:SV) (s:Shared) (Q:PUnit->Shared->Prop),InCallC s₀ env.locals m cs cm s ->
   (∀x∈binds,env.kindOf x.1=some .local\/(env.kindOf x.1=some .cell/\(cs.lookup x.1).isSome=true)) ->
   (∀s',InCallC s₀ env.locals (bindL env.kindOf binds m) cs (bindC env.kindOf binds cm) s'->Q ⟨⟩ s')->wpAny M A (forIn binds ⟨⟩ f) Q E s
 |[],m,cm,s,Q,x,_,h=>by rw[List.forIn_nil];exact aq (h s x)
 |(n,v)::r,m,cm,s,Q,x,hkind,h=>by
  rw[nH,hf];have hr:∀y∈r,env.kindOf y.1=some .local\/(env.kindOf y.1=some .cell/\(cs.lookup y.1).isSome=true):=λ y hy=>hkind y (aE _ hy)
  rcases hkind (n,v) bo with hl|⟨hl,hc⟩
  ·refine af (af (Ha x hk hl λ s' x'=>aq (tm f hf hk hcs r _ _ s' Q x' hr λ s'' x''=>h s'' ?_)));unfold bindL bindC;rw[if_pos hl,if_pos hl];exact x''
  ·obtain⟨c,hc⟩:=ly.mp hc;have hnl:¬env.kindOf n=some .local:=by rw[hl];decide
   refine af (af (Hb x hk hl hc (hcs n c hc) λ s' x'=>aq (tm f hf hk hcs r _ _ s' Q x' hr λ s'' x''=>h s'' ?_)));unfold bindL bindC;rw[if_neg hnl,if_neg hnl];exact x''
end
section
variable {M:Model}{A:Around}{E:VS}{s:Shared}
theorem wT{scope:Scope}{globals:Addr}{cl:LA}{binds:List (Str×Value)}{code:Value}{Q:Env->Shared->Prop}
  (hk:scope.kind=.function)
  (hkind:∀x∈binds,scope.names.lookup x.1=some .local\/(scope.names.lookup x.1=some .cell/\((cellsFrom (s.heap.objs.size+1) scope.names []).lookup x.1).isSome=true))
  (hQ:∀env,env=newEnv scope s.heap.objs.size globals (cellsFrom (s.heap.objs.size+1) scope.names []++cl) qual func code none builtins ->
   ∀s',InCallC s env.locals (bindL env.kindOf binds λ _=>none) (cellsFrom (s.heap.objs.size+1) scope.names []) (bindC env.kindOf binds λ _=>none) s'->Q env s') :
  wpAny M A (newFunctionEnv scope globals cl binds qual func code none builtins) Q E s:=by
 simp only[newFunctionEnv,Option.isSome_none,nI,jb];refine af (wpAny_alloc ?_);refine af (wpAny_layCells _ (λ name kind cells=>by cases hkc:kind == NameKind.cell<;>simp[hkc]) _ _ _ _ ?_);have ok:=cellsFrom_ok scope.names (s.heap.push { cls:=.type "frame",data:=.dict #[] }) (s.heap.objs.size+1) [] ⟨λ _ _ hm=>(nomatch hm),List.Pairwise.nil⟩ (by rw[gc];exact ay _);rw[gc] at ok;rw[show({ s with heap:=s.heap.push { cls:=.type "frame",data:=.dict #[] } }:Shared).heap.objs.size=s.heap.objs.size+1 from gc ..];rw[nE scope.names (s.heap.objs.size+1) cl]
 refine af (tm (s₀:=s) (cs:=cellsFrom (s.heap.objs.size+1) scope.names []) (env:=newEnv scope s.heap.objs.size globals (cellsFrom (s.heap.objs.size+1) scope.names []++cl) qual func code none builtins)
  _ (λ _ _ _=>rfl) hk (λ n c hc=>by show List.lookup n (cellsFrom (s.heap.objs.size+1) scope.names []++cl)=some c;rw[iz,hc]) binds (λ _=>none) (λ _=>none) _ _
  ⟨⟨⟨_,_,rfl⟩,(Heap.Ns.new s.heap (.type "frame")).keeps (pushCells_keeps _ _),λ b o e=>pushCells_keeps _ _ b o (aI _ e),ay _⟩,
   λ n c hc=>(ok.empty n c (dW hc)).1,ok.apart,λ n c hm=>(ok.empty n c hm).2⟩
  hkind λ s' x=>aq (hQ _ rfl s' x))
end
noncomputable def lM(c:Addr)(v:V):HO:=.ext λ h=>∃u,RelV v u/\h.IsCell c (some u)
def cR(c:Addr)(qual:Str):HO:=.ext λ h=>h.CodeRec (.ref c) qual
noncomputable def fK(fa c':Addr)(qual:Str)(params:Arguments)(body:Expr)(scope:Scope)(cl:LA):HO:=.ext λ h=>∃pm ctv,h.get? fa=some (kla_obj "<lambda>" qual params body scope cl pm c' ctv)
structure CelAt (H:Hp)(cl:LA)(vcs:List V):Prop where
 len:cl.length=vcs.length
 at_:∀(i:Nat) q,cl[i]?=some q->∃v o,vcs[i]?=some v/\H q.2=some (.frz o (lM q.2 v))
 apart:cl.Pairwise λ x y=>x.2≠y.2
def CelAt.mem{cl:LA}(h:CelAt H cl vcs){q:Str×Addr}(hq:q∈cl):∃o v,H q.2=some (.frz o (lM q.2 v)):=by
 obtain⟨i,e⟩:=nJ.mp hq;obtain⟨v,o,_,e2⟩:=h.at_ i q e;exact⟨o,v,e2⟩
open Classical in
noncomputable def minC(H:Hp)(cl:LA):Hp:=λ b=>if ∃q∈cl,q.2=b then none else H b
open Classical in
noncomputable def resC(H H':Hp)(cl:LA):Hp:=λ b=>if ∃q∈cl,q.2=b then H b else H' b
def lN{cl:LA}{q:Str×Addr}(h:q∈cl):minC H cl q.2=none:=if_pos ⟨q,h,rfl⟩
def dq{cl:LA}{b:Addr}(h:∀q∈cl,q.2≠b):minC H cl b=H b:=if_neg λ⟨q,hq,e⟩=>h q hq e
def Hc{cl:LA}(h:minC H cl b=some o):H b=some o/\∀q∈cl,q.2≠b:=by
 by_cases c:∃q∈cl,q.2=b
 ·rw[show minC H cl b=none from if_pos c] at h;cases h
 ·rw[show minC H cl b=H b from if_neg c] at h;exact⟨h,λ q hq e=>c ⟨q,hq,e⟩⟩
def iA{H:Hp}{cl:LA}(h:H b=none):minC H cl b=none:=by
 by_cases c:∃q∈cl,q.2=b
 ·exact if_pos c
 ·rw[show minC H cl b=H b from if_neg c];exact h
def gQ{cl:LA}{q:Str×Addr}(h:q∈cl):resC H H' cl q.2=H q.2:=if_pos ⟨q,h,rfl⟩
def dE{cl:LA}{b:Addr}(h:∀q∈cl,q.2≠b):resC H H' cl b=H' b:=if_neg λ⟨q,hq,e⟩=>h q hq e
def HOk.minC{cl:LA}(x:HOk P w H h)(hc:CelAt H cl vcs):HOk P w (minC H cl) h:=λ b o e=>by
 obtain⟨e1,_⟩:=Hc e
 have nf:∀c u,H c=some u->(∀ob v,u≠.frz ob v)->_L.minC H cl c=some u:=λ c u e2 n=>by
  rw[dq λ q hq z=>?_]
  ·exact e2
  ·obtain⟨ob,v,e3⟩:=hc.mem hq;rw[z,e2] at e3;exact n _ _ (bJ e3)
 exact(x b o e1).stay (λ _ _ _ q=>q) (λ c q=>nf c _ q λ _ _ z=>nomatch z) λ c xs q=>nf c _ q λ _ _ z=>nomatch z
structure LmScope (N ps fv:List Str)(sc:Scope):Prop where
 kind:sc.kind=.function
 co:sc.isCoroutine=false
 gen:sc.isGenerator=false
 nd:N.Nodup
 pre:N.take (ps++fv).length=ps++fv
 par:∀x∈ps,sc.names.lookup x=some .local\/sc.names.lookup x=some .cell
 fre:∀x∈fv,sc.names.lookup x=some .free
 has:∀y∈sc.names,y.2=.free->y.1∈fv
 own:∀x∈fv,∀y∈sc.names,y.2=.cell->y.1≠x
noncomputable def ji(P:Program)(w:World)(K:FG)(mg:SV)(base:Heap)(N:List Str)(qual:Str)(scope:Scope)(f:Addr)(cd:Value)(cl:LA)(A:Around)(outer:List Env)(s:Shared)(H:Hp):Cx where
 prog:=P
 w:=w
 K:=K
 mg:=mg
 base:=base
 A:=A.deeper (envX qual scope s.heap.objs.size f cd (cellsFrom (s.heap.objs.size+1) scope.names []++cl))
 N:=N
 s₀:=s
 H₀:=H
 env:=envX qual scope s.heap.objs.size f cd (cellsFrom (s.heap.objs.size+1) scope.names []++cl)
 outer:=outer
 stack:=envX qual scope s.heap.objs.size f cd (cellsFrom (s.heap.objs.size+1) scope.names []++cl)::outer
 ex:=[]
 calm:=true
 fn:=λ x=>decide (scope.names.lookup x=some .cell)
 pn:=[]
 xe:=λ _ _=>False
def Hd{vs:List V}{i:Nat}(h:(start N vs)[i]?=some (some v)):vs[i]?=some v:=by
 unfold start at h
 have hi:i<vs.length:=by
  by_cases hi:i<vs.length
  ·exact hi
  ·rw[dn (by simpa using hi),lB] at h;split at h<;>cases h
 rw[eR (by simpa using hi),aQ] at h
 cases e:vs[i]? with
 |none=>rw[e] at h;cases h
 |some a=>rw[e] at h;cases h;rfl
theorem wU{K:FG}{cl:LA}{A:Around}{s s1:Shared}{vs vcs:List V}
  (S:LmScope N ps fv scope) (hd:A.handled=none) (e0:Env0 P w K mg base A outer s H) (hl:vs.length=ps.length) (r:Vals vs us) (hcl:cl.map (·.1)=fv) (hc:CelAt H cl vcs)
  (x:InCallC s s.heap.objs.size (bindL (λ x=>scope.names.lookup x) (ps.zip us) λ _=>none) (cellsFrom (s.heap.objs.size+1) scope.names []) (bindC (λ x=>scope.names.lookup x) (ps.zip us) λ _=>none) s1) :
  Inv (ji P w K mg base N qual scope f cd cl A outer s (minC H cl)) [] (start N (vs++vcs)) (minC H cl) s1:=by
 obtain⟨h1,tk,rfl,hk⟩:=x.done;have cll:cl.length=fv.length:=by rw[<- hcl,ao]
 have hpl:(ps++fv).length<=N.length:=by have:=bE List.length S.pre;rw[bd] at this;lia
 have noA:∀b:Addr,b ∉ (ji P w K mg base N qual scope f cd cl A outer s (minC H cl)).ex:=λ b z=>absurd (show b∈([]:List Addr) from z) on
 have old:∀q∈cl,q.2<s.heap.objs.size:=λ q hq=>by
  obtain⟨o,v,e⟩:=hc.mem hq;exact e0.hok.lt e
 have celv:∀(i:Nat) q,cl[i]?=some q->∃v u,vcs[i]?=some v/\RelV v u/\h1.IsCell q.2 (some u):=λ i q e=>by
  obtain⟨v,o,e1,e2⟩:=hc.at_ i q e;obtain⟨_,⟨u,ru,ic⟩,_⟩:=e0.hok _ _ e2;exact⟨v,u,e1,ru,ic.keeps hk⟩
 have lk:∀y c,(cellsFrom (s.heap.objs.size+1) scope.names []++cl).lookup y=some c->(y,c)∈cellsFrom (s.heap.objs.size+1) scope.names []\/(y,c)∈cl:=λ y c e=>cg.mp (dW e);have abv:∀y c,(y,c)∈cellsFrom (s.heap.objs.size+1) scope.names []->s.heap.objs.size<=c:=λ y c e=>dN (x.above y c e)
 refine⟨⟨e0.mod,S.kind,O,O,ay _,λ y z c h1 h2=>?_,λ y hy=>?_,λ y c hf h=>?_,λ _=>hd,s0g e0.frames,.inr ⟨O,O⟩,λ b z=>absurd z (noA b),λ b o e=>⟨(e0.bs b o e).1,iA (e0.bs b o e).2⟩,e0.bsz,λ b _ _=>noA b,λ b z=>absurd z (noA b),e0.funs,λ b hb=>iA (e0.frf b hb)⟩,
  rfl,e0.bare,Un.kept hk,⟨_,x.toInCall.ns,λ i y v h1 h2 h3=>?_⟩,λ y c h=>?_,(e0.hok.minC hc).fresh (ay _),λ y c h=>?_,λ p hp=>absurd (show p∈([]:LO) from hp) on,(e0.hok.minC hc).kept hk,?_⟩
 ·rcases lk y c h1 with m1|m1<;>rcases lk z c h2 with m2|m2
  ·exact oZ x.apart m1 m2
  ·exact absurd (abv y c m1) (Nat.not_le_of_lt (old _ m2))
  ·exact absurd (abv z c m2) (Nat.not_le_of_lt (old _ m1))
  ·exact oZ hc.apart m1 m2
 ·have hy:scope.names.lookup y=some .cell\/scope.names.lookup y=some .free:=hy
  rcases hy with hy|hy
  ·obtain⟨c,e⟩:=nc (n:=s.heap.objs.size+1) hy;exact⟨c,by show List.lookup y (cellsFrom (s.heap.objs.size+1) scope.names []++cl)=some c;rw[iz,e]⟩
  ·have hm:=S.has _ (dW hy) rfl;have hm:y∈cl.map (·.1):=by rw[hcl];exact hm
   obtain⟨q,hq,e⟩:=bG.mp hm;have iss:(cl.lookup y).isSome=true:=wQ hq e;obtain⟨c,ec⟩:=ly.mp iss;have e1:(cellsFrom (s.heap.objs.size+1) scope.names []).lookup y=none:=pM (S.own y (by rw[<- hcl];exact hm));exact⟨c,by show List.lookup y (cellsFrom (s.heap.objs.size+1) scope.names []++cl)=some c;rw[iz,e1];exact ec⟩
 ·have hf:scope.names.lookup y=some .cell:=aC hf;obtain⟨c',e⟩:=nc (n:=s.heap.objs.size+1) hf;have h:List.lookup y (cellsFrom (s.heap.objs.size+1) scope.names []++cl)=some c:=h;rw[iz,e] at h;cases h;exact abv y _ (dW e)
 ·have ha:=Hd h2;have hi:i<(vs++vcs).length:=(bf.mp ha).1;have lv:(vs++vcs).length=(ps++fv).length:=by rw[aN,aN,hl,<- hc.len,cll]
  have hp:(ps++fv)[i]?=some y:=by
   rw[<- S.pre,ng ca];exact h1
  have ndA:(ps++fv).Nodup:=by rw[<- S.pre];exact S.nd.sublist (List.take_sublist _ _)
  have ndP:ps.Nodup:=ndA.sublist (List.sublist_append_left _ _);by_cases hil:i<ps.length
  ·rw[eR ca] at ha;rw[eR hil] at hp;obtain⟨u,hu,rv⟩:=r.get ha;refine⟨u,rv,?_⟩
   rcases S.par y (aA hp) with k|k
   ·exact .inl ⟨k,se ndP hp hu k⟩
   ·obtain⟨c,e⟩:=nc (n:=s.heap.objs.size+1) k;refine .inr ⟨.inl k,c,by show List.lookup y (cellsFrom (s.heap.objs.size+1) scope.names []++cl)=some c;rw[iz,e],?_⟩;have q:=x.cell y c e;rw[sg ndP hp hu (by rw[k];decide)] at q;exact q
  ·rw[dn ca,hl] at ha;rw[dn ca] at hp;have hm:=aA hp;have hqc:(cl.map (·.1))[i-ps.length]?=some y:=by rw[hcl];exact hp
   rw[aQ] at hqc
   obtain⟨q,eq,e1⟩:∃q,cl[i-ps.length]?=some q/\q.1=y:=by
    cases z:cl[i-ps.length]? with
    |none=>rw[z] at hqc;cases hqc
    |some q=>rw[z] at hqc;exact⟨q,rfl,bJ hqc⟩
   obtain⟨v',u,e2,ru,ic⟩:=celv _ q eq;rw[ha] at e2;cases e2;have ndF:(cl.map (·.1)).Nodup:=by rw[hcl];exact ndA.sublist (List.sublist_append_right _ _)
   have lkq:cl.lookup y=some q.2:=by rw[<- e1];exact wR ndF (aA eq)
   have own0:(cellsFrom (s.heap.objs.size+1) scope.names []).lookup y=none:=pM (S.own y hm);exact⟨u,ru,.inr ⟨.inr (S.fre y hm),q.2,by show List.lookup y (cellsFrom (s.heap.objs.size+1) scope.names []++cl)=some q.2;rw[iz,own0];exact lkq,ic⟩⟩
 ·rcases lk y c h with m|m
  ·have h:List.lookup y (cellsFrom (s.heap.objs.size+1) scope.names []++cl)=some c:=h;rw[iz] at h
   cases e:(cellsFrom (s.heap.objs.size+1) scope.names []).lookup y with
   |some c2=>rw[e] at h;cases h;exact⟨_,x.cell y _ e⟩
   |none=>
    rw[e] at h;obtain⟨i,ei⟩:=nJ.mp (dW h);obtain⟨v,u,_,_,ic⟩:=celv i _ ei;exact⟨_,ic⟩
  ·obtain⟨i,ei⟩:=nJ.mp m;obtain⟨v,u,_,_,ic⟩:=celv i _ ei;exact⟨_,ic⟩
 ·rcases lk y c h with m|m
  ·exact(e0.hok.minC hc).fresh (abv y c m)
  ·exact lN m
 ·unfold start;show _=N.length;have lv:(vs++vcs).length=(ps++fv).length:=by rw[aN,aN,hl,<- hc.len,cll]
  rw[aN,ao,hZ];lia
noncomputable def jZ(P:Program)(w:World)(K:FG)(mg:SV)(base:Heap)(k:Nat)(fa:Addr)(vs:List V)(H:Hp)(Q:VK):Prop :=
 ∀(A:Around) (outer:List Env) (s:Shared) (us:LV),Room k A->Env0 P w K mg base A outer s H->Vals vs us->codeAny (model P w) A (.call (.ref fa) ⟨us,[]⟩) (CR CX0 outer P w H s Q λ _ _ _=>False) s
end _L
namespace _L
open PySem PySem.Spec PyProof.Rows PySem.W PySem.Calls
noncomputable def FnV(H:Hp)(fa:Addr):Prop:=∃φ,H fa=some (.ext φ)/\∀h,φ h->FnAt fa h
def FnV.lam{H:Hp}{cl:LA}(h:H fa=some (fK fa c' qual params body scope cl)):FnV H fa:=⟨_,h,λ _ ⟨_,_,e⟩=>⟨_,_,_,_,e⟩⟩
noncomputable def wV(P:Program)(w:World)(K:FG)(mg:SV)(base:Heap)(k i:Nat)(t:TA):TE:=λ σ H Q=>∃fa,σ[i]?=some (some (.ref fa))/\FnV H fa/\t σ H λ vs H1=>FnV H1 fa/\jZ P w K mg base k fa vs H1 Q
variable {X:Cx}
section
variable {k:Nat}{x:Str}{p pos:Pos}{e:Expr}{es:List Expr}{t:TA}
theorem He{i:Nat}(hr:Room k X.A)(hN:X.N[i]?=some x)(hv:Vis X.env.scope x)(ha:PA X (e::es) t)(hd:(x == ("__debug__" : Str))=false:=by decide)(hcd:(x == ("__classdict__" : Str))=false:=by decide)
  (he:starEach (e::es) X.env=(false,eval e X.env)::starEach es X.env:=by rfl) (hpl:(backTo pos (starEach es X.env)).any (·.1)=false:=by rfl) :
  PE X (.Call (.Name x p) (e::es) [] pos) (wV X.prog X.w X.K X.mg X.base k i t):=by
 intro pins s σ H Q I h;obtain⟨fa,es',fn,h⟩:=h;refine lu (thn ((iZ (pos:=p) hN hv hd hcd) pins s σ H (λ v H1=>v=.ref fa/\H1=H) I (by unfold cV;rw[es'];exact⟨O,O⟩)) λ u s1 ⟨v,H1,I1,r1,e1,e2⟩=>?_);subst e1 e2;cases r1;have at1:∀ {H':Hp}{s':Shared},Inv X pins σ H' s'->FnV H' fa->FnAt fa s'.heap:=λ J ⟨φ,e,k⟩=>k _ (J.hok _ _ e).1;refine callWith_F (at1 I1 fn) (thn (ha pos pins s1 σ _ _ I1 h) λ us s2 ⟨vs,H2,I2,r2,fn2,cv⟩=>⟨at1 I2 fn2,?_⟩) he hpl;refine wpAny_call (mZ (cv X.A X.stack s2 us hr I2.env0 r2) λ r s' hq=>?_)
 cases r with
 |error e=>exact False.elim hq
 |ok fl=>
  cases fl with
  |ret u=>exact I2.after hq
  |next=>exact False.elim hq
  |brk=>exact False.elim hq
  |cont=>exact False.elim hq
end
noncomputable def OwnCl(ec:LA)(fv:List Str)(cl:LA):Prop:=cl.map (·.1)=fv/\∀q∈cl,ec.lookup q.1=some q.2
theorem OwnCl.uniq:∀ {fv:List Str}{cl cl':LA},OwnCl ec fv cl->OwnCl ec fv cl'->cl=cl'
 |[],[],[],_,_=>rfl
 |[],_::_,_,h,_=>by cases h.1
 |[],[],_::_,_,h=>by cases h.1
 |_::_,[],_,h,_=>by cases h.1
 |_::_,_::_,[],_,h=>by cases h.1
 |n::fv,(a,c)::cl,(b,d)::cl',h,h'=>by
  have e1:a=n:=(nK h.1).1;have e2:b=n:=(nK h'.1).1;subst e1 e2;have l1:=h.2 (b,c) bo;have l2:=h'.2 (b,d) bo;rw[show ec.lookup b=some c from l1] at l2;cases l2;rw[OwnCl.uniq (fv:=fv) ⟨(nK h.1).2,λ q hq=>h.2 q (aE _ hq)⟩ ⟨(nK h'.1).2,λ q hq=>h'.2 q (aE _ hq)⟩]
noncomputable def TabOk(H:Hp)(T:Addr)(pos:Pos)(qual:Str):Prop:=∃ps,H T=some (.tbl ps)/\TriplesOk ps.toList/\(codeAmong pos ps.toList=none\/∃c',codeAmong pos ps.toList=some (.ref c')/\H c'=some (cR c' qual))
def wW{c:Value}(l:LV)(h:TriplesOk l):TriplesOk (l++[rawInt a,rawInt b,c]):=by
 fun_induction TriplesOk l with
 |case1=>simp[TriplesOk,rawInt]
 |case2 i t j u v rest ih=>simpa [TriplesOk] using ih h
 |case3=>exact h.elim
structure TabF (base:Heap)(mg:SV)(c T:Addr):Prop where
 hd:CodeHd base c T
 none_:base.get? T=none
 blt:∃bm o,mg "__builtins__"=some (.ref bm)/\bm≠builtinsNs/\bm≠mainGlobals/\bm≠T/\base.get? bm=some o/\o.cls=.type "module" /\ o.dict=some builtinsNs/\o.data=.plain
 ne:mainGlobals≠T
noncomputable def Hf(ec:LA)(fv:List Str)(T:Addr)(pos:Pos)(qual:Str)(params:Arguments)(body:Expr)(scope:Scope):TE:=λ _ H Q=>TabOk H T pos qual /\
 ∀fa c' cl H2,OwnCl ec fv cl->H fa=none->H2 fa=some (fK fa c' qual params body scope cl)->H2 c'=some (cR c' qual)->TabOk H2 T pos qual->(∀b o,b≠T->H b=some o->H2 b=some o)->Q (.ref fa) H2
def pN{h1 h2:Heap}(x:h1.CodeRec (.ref c) qual)(k:∀o,h1.get? c=some o->h2.get? c=some o):h2.CodeRec (.ref c) qual:=by
 obtain⟨c',o,vs,t,e,ho,r⟩:=x;cases e;exact⟨c,o,vs,t,O,k _ ho,r⟩
section
variable {params:Arguments}{body:Expr}{scope:Scope}{pos:Pos}{fv:List Str}{c T:Addr}{cl:LA}
theorem Hg{qual:Str}(hq:X.env.qual ++ "<lambda>"=qual)(hcode:X.env.code=.ref c)(TF:TabF X.base X.mg c T)(hdef:defaultsOf params X.env=([],[]))(hcl:closureFor scope X.env=pure cl)(own:OwnCl X.env.cells fv cl) :
  PE X (.Lambda params body scope pos) (Hf X.env.cells fv T pos qual params body scope):=by
 intro pins s σ H Q I h;obtain⟨⟨ps,hT,ht,hz⟩,h⟩:=h;subst hq;have eT:s.heap.get? T=some (tabObj ps):=I.hok _ _ hT;have hg:s.heap.Ns mainGlobals X.mg:=I.mod.glob.keeps I.bk;obtain⟨bm,ob,b1,b2,b3,b4,b5,b6⟩:=TF.blt;have hb:s.heap.BuiltinsAt X.mg T:=⟨bm,ob,b1,b2,b3,b4,I.bk _ _ b5,b6⟩;have C:CodeHd s.heap c T:=TF.hd.keeps I.bk;refine kla_eval hdef ?_
 rcases hz with hnf|⟨c',hf,hc'⟩
 ·refine kla_makeFunction hcl I.ok.glob hg hcode C eT ht hnf TF.ne hb λ c' ctv h' tk hx hge hlt hrec htb=>?_;have hfa:H h'.objs.size=none:=I.hok.fresh (dN (sK hge hlt));have hc0:H c'=none:=I.hok.fresh hge;have nTc:c'≠T:=λ z=>by rw[z,hT] at hc0;cases hc0
  have nTf:h'.objs.size≠T:=λ z=>by rw[z,hT] at hfa;cases hfa
  have ncf:c'≠h'.objs.size:=bn hlt;have old:∀b o,b≠T->s.heap.get? b=some o->(h'.push (kla_obj "<lambda>" (X.env.qual ++ "<lambda>") params body scope cl ((X.mg "__name__").getD .none) c' ctv)).get? b=some o:=λ b o n e=>aI _ (hx b o n e);have eP:(h'.push (kla_obj "<lambda>" (X.env.qual ++ "<lambda>") params body scope cl ((X.mg "__name__").getD .none) c' ctv)).get? T=some (tabObj (ps++#[rawInt pos.line,rawInt pos.col,.ref c'])):=aI _ htb;have eF:(h'.push (kla_obj "<lambda>" (X.env.qual ++ "<lambda>") params body scope cl ((X.mg "__name__").getD .none) c' ctv)).get? h'.objs.size=some (kla_obj "<lambda>" (X.env.qual ++ "<lambda>") params body scope cl ((X.mg "__name__").getD .none) c' ctv):=be _ rfl;have eC:(h'.push (kla_obj "<lambda>" (X.env.qual ++ "<lambda>") params body scope cl ((X.mg "__name__").getD .none) c' ctv)).CodeRec (.ref c') (X.env.qual ++ "<lambda>"):=pN hrec λ o e=>aI _ e;generalize h'.push (kla_obj "<lambda>" (X.env.qual ++ "<lambda>") params body scope cl ((X.mg "__name__").getD .none) c' ctv)=h2 at *;generalize h'.objs.size=fa at *;have lowT:∀b o,s.heap.get? b=some o->b≠c'/\(H b=none->b≠T):=λ b o e=>⟨bn (bM (aJ e) hge),λ n z=>by rw[z,hT] at n;cases n⟩;have lowF:∀b o,s.heap.get? b=some o->b≠fa:=λ b o e=>bn (s1s (bM (aJ e) hge) hlt);have out:∀b,b≠T->b≠c'->b≠fa->upd (upd (upd H T (.tbl (ps++#[rawInt pos.line,rawInt pos.col,.ref c']))) c' (cR c' (X.env.qual ++ "<lambda>"))) fa (fK fa c' (X.env.qual ++ "<lambda>") params body scope cl) b=H b:=λ b n1 n2 n3=>by rw[aG n3,aG n2,aG n1]
  have trk:∀b o,H b=some o->b≠c'/\b≠fa:=λ b o e=>⟨(λ z=>by rw[z,hc0] at e;cases e),(λ z=>by rw[z,hfa] at e;cases e)⟩;have _H:upd (upd (upd H T (.tbl (ps++#[rawInt pos.line,rawInt pos.col,.ref c']))) c' (cR c' (X.env.qual ++ "<lambda>"))) fa (fK fa c' (X.env.qual ++ "<lambda>") params body scope cl) T=some (.tbl (ps++#[rawInt pos.line,rawInt pos.col,.ref c'])):=by rw[aG nTf.symm,aG nTc.symm,cJ]
  have HC:upd (upd (upd H T (.tbl (ps++#[rawInt pos.line,rawInt pos.col,.ref c']))) c' (cR c' (X.env.qual ++ "<lambda>"))) fa (fK fa c' (X.env.qual ++ "<lambda>") params body scope cl) c'=some (cR c' (X.env.qual ++ "<lambda>")):=by rw[aG ncf,cJ]
  have HF:upd (upd (upd H T (.tbl (ps++#[rawInt pos.line,rawInt pos.col,.ref c']))) c' (cR c' (X.env.qual ++ "<lambda>"))) fa (fK fa c' (X.env.qual ++ "<lambda>") params body scope cl) fa=some (fK fa c' (X.env.qual ++ "<lambda>") params body scope cl):=cJ;generalize upd (upd (upd H T (.tbl (ps++#[rawInt pos.line,rawInt pos.col,.ref c']))) c' (cR c' (X.env.qual ++ "<lambda>"))) fa (fK fa c' (X.env.qual ++ "<lambda>") params body scope cl)=H2 at *;have same:∀b o,b≠T->H b=some o->H2 b=some o:=λ b o n e=>by rw[out b n (trk b o e).1 (trk b o e).2];exact e
  have un:Un X.fs [] H H2 s.heap h2:=⟨λ b o e n _ _=>old b o ((lowT b o e).2 n) e,λ b o e n _ _=>⟨o.slots,old b o ((lowT b o e).2 n) e⟩,λ b o e n _=>by rw[out b ((lowT b o e).2 n) (lowT b o e).1 (lowF b o e)];exact n,λ b o e _=>by
   by_cases z:b=T
   ·rw[z];exact⟨_,eP⟩
   ·exact⟨o,old b o z e⟩,λ b xs e=>same b _ (λ z=>by rw[z,hT] at e;cases e) e,λ b o u e=>same b _ (λ z=>by rw[z,hT] at e;cases e) e,λ b qs e=>by
   by_cases z:b=T
   ·subst z;rw[hT] at e;cases e;exact⟨_,_H⟩
   ·exact⟨#[],by rw[same b _ z e];simp⟩⟩
  have hok:HOk X.prog X.w H2 h2:=λ b o e=>by
   by_cases zf:b=fa
   ·subst zf;rw[HF] at e;cases e;exact⟨⟨_,_,eF⟩,⟨_,eF⟩,λ h1 h3 ⟨pm,cv,e1⟩ k=>⟨pm,cv,k _ e1⟩⟩
   ·by_cases zc:b=c'
    ·subst zc;rw[HC] at e;cases e;obtain⟨c2,o2,vs2,t2,e2,ho2,r2⟩:=id eC;cases e2;exact⟨eC,⟨_,ho2⟩,λ h1 h3 x k=>pN x k⟩
    ·by_cases zT:b=T
     ·subst zT;rw[_H] at e;cases e;exact eP
     ·rw[out b zT zc zf] at e;refine(I.hok b o e).stay (λ d u hd q=>old d u (λ z=>?_) q) (λ d q=>same d _ (λ z=>by rw[z,hT] at q;cases q) q) λ d xs q=>same d _ (λ z=>by rw[z,hT] at q;cases q) q
      rcases hd with hd|hd
      ·exact zT (hd.symm.trans z)
      ·rw[z,hT] at hd;cases hd
  exact⟨.ref fa,H2,I.un un hok,O,h fa c' cl H2 own hfa HF HC ⟨_,_H,by simpa using wW ps.toList ht,.inr ⟨c',by simpa using codeAmong_snoc ps.toList ht hnf,HC⟩⟩ same⟩
 ·refine kla_makeFunctionHit hcl I.ok.glob hg hcode C eT ht hf hb λ ctv h' tk hx hsz=>?_;have hfa:H h'.objs.size=none:=I.hok.fresh hsz;have same:∀b o,H b=some o->upd H h'.objs.size (fK h'.objs.size c' (X.env.qual ++ "<lambda>") params body scope cl) b=some o:=λ b o e=>by rw[aG (jP e hfa)];exact e
  refine⟨.ref h'.objs.size,upd H h'.objs.size (fK h'.objs.size c' (X.env.qual ++ "<lambda>") params body scope cl),I.laid (t':=tk) (λ b u e=>aI _ (hx b u e)) hsz ?_,O,h _ c' cl _ own hfa cJ (same _ _ hc') ⟨ps,same _ _ hT,ht,.inr ⟨c',hf,same _ _ hc'⟩⟩ λ b o _ e=>same b o e⟩;exact⟨⟨_,_,be _ rfl⟩,⟨_,be _ rfl⟩,λ h1 h3 ⟨pm,cv,e1⟩ k=>⟨pm,cv,k _ e1⟩⟩
end
noncomputable def addC(h:Heap)(H:Hp):LA->List V->Hp
 |q::cl,v::vs=>upd (addC h H cl vs) q.2 (.frz ((h.get? q.2).getD { cls:=.none,data:=.plain }) (lM q.2 v))
 |_,_=>H
theorem wX{b:Addr}:∀ {cl:LA}{vs:List V},(∀q∈cl,q.2≠b)->addC h H cl vs b=H b
 |[],_,_=>rfl
 |_::_,[],_=>rfl
 |q::cl,v::vs,n=>by
  show upd _ _ _ b=_;rw[aG (cK (n q bo))];exact wX λ q' hq=>n q' (aE _ hq)
theorem wY:∀ {cl:LA}{vs:List V},(cl.Pairwise λ x y=>x.2≠y.2)->cl.length=vs.length->∀(i:Nat) q,cl[i]?=some q->∃v,vs[i]?=some v/\addC h H cl vs q.2=some (.frz ((h.get? q.2).getD { cls:=.none,data:=.plain }) (lM q.2 v))
 |[],_,_,_,i,q,e=>by simp at e
 |_::_,[],_,l,_,_,_=>by simp at l
 |a::cl,v::vs,pw,l,0,q,e=>by
  cases (bJ e);exact⟨v,O,cJ⟩
 |a::cl,v::vs,pw,l,i+1,q,e=>by
  have e:cl[i]?=some q:=by simpa using e
  obtain⟨u,e1,e2⟩:=wY (nL.mp pw).2 (by simpa using l) i q e;refine⟨u,by simpa using e1,?_⟩;show upd _ _ _ _=_;rw[aG (cK ((nL.mp pw).1 q (aA e)))];exact e2
noncomputable def Hh(ec:LA)(fv:List Str)(js:List Nat)(sp:Sp)(t:TA):TE:=λ σ H Q=>t σ H λ vs H1=>∃vcs:List V,js.map (λ j=>σ[j]?)=vcs.map (λ v=>some (some v)) /\
 ∀cl H2,OwnCl ec fv cl->(∀q∈cl,H1 q.2=none)->CelAt H2 cl vcs->(∀b,(∀q∈cl,q.2≠b)->H2 b=H1 b)->sp vs H2 (λ v H'=>Q v (minC H' cl)) E0
section
variable {k:Nat}{x:Str}{ps:List Str}{sp:Sp}{p pos:Pos}{e:Expr}{es:List Expr}{t:TA}{fv:List Str}{js:List Nat}{cl:LA}
theorem wZ(c:Callee X.prog X.w X.K X.mg X.base CX0 k x ps sp)(hr:Room k X.A)(hg:Gl X x)(own:OwnCl X.env.cells fv cl)(hj:js.map (λ j=>X.N[j]?)=fv.map some)(hk:∀n∈fv,X.env.scope.names.lookup n=some .cell)(hf:∀n∈fv,X.fn n=true)(nd:fv.Nodup)
  (ha:PA X (e::es) t) (hdb:(x == ("__debug__" : Str))=false:=by decide)
  (he:starEach (e::es) X.env=(false,eval e X.env)::starEach es X.env:=by rfl) (hpl:(backTo pos (starEach es X.env)).any (·.1)=false:=by rfl) :
  PE X (.Call (.Name x p) (e::es) [] pos) (Hh X.env.cells fv js sp t):=by
 obtain⟨f,fd,F,hm,kp,hb⟩:=c.has;intro pins s0 σ H0 Q I0 h;refine lu (oP I0 hg hm ?_ hdb);refine W.callWith_K (h₀:=X.base) I0.ok.mod.kin kp (thn (ha pos pins s0 σ H0 _ I0 h) λ us s ⟨vs,H,I,r,vcs,hv,q⟩=>⟨I.kIn,?_⟩) he hpl;have mfv:∀q∈cl,q.1∈fv:=λ q hq=>by rw[<- own.1];exact bG.mpr ⟨q,hq,rfl⟩
 have free:∀q∈cl,H q.2=none:=λ q hq=>I.freeC q.1 q.2 (own.2 q hq)
 have apart:cl.Pairwise λ x y=>x.2≠y.2:=by
  have nd':(cl.map (·.1)).Nodup:=by rw[own.1];exact nd
  have ec:=own.2;clear own mfv free
  induction cl with
  |nil=>exact .nil
  |cons a r ih=>
   refine nL.mpr ⟨λ y hy z=>?_,ih (hW.mp nd').2 (λ q hq=>ec q (aE _ hq))⟩;have:=I.ok.inj a.1 y.1 a.2 (ec a bo) (by rw[z];exact ec y (aE _ hy));exact(hW.mp nd').1 (bG.mpr ⟨y,hy,this.symm⟩)
 have lf:js.length=fv.length:=by have:=bE List.length hj;simpa using this
 have lv:js.length=vcs.length:=by have:=bE List.length hv;simpa using this
 have lc:cl.length=fv.length:=by rw[<- own.1,ao]
 have l:cl.length=vcs.length:=by rw[lc,<- lf,lv]
 have holds:∀(i:Nat) q,cl[i]?=some q->∃v u,vcs[i]?=some v/\RelV v u/\s.heap.IsCell q.2 (some u):=λ i q e=>by
  have il:i<cl.length:=(bf.mp e).1;have ej:=aB (l:=js) (i:=i) ca;have ev:=aB (l:=vcs) (i:=i) ca
  have en:X.N[js[i]' ca]?=some q.1:=by
   have z:=bE (λ l=>l[i]?) hj;simp only[aQ,ej,Option.map_some] at z;have y:fv[i]?=some q.1:=by rw[<- own.1,aQ,e];rfl
   rw[y] at z;exact bJ z
  have eσ:σ[js[i]' ca]?=some (some (vcs[i]' ca)):=by
   have z:=bE (λ l=>l[i]?) hv;simp only[aQ,ej,ev,Option.map_some] at z;exact bJ z
  obtain⟨m,_,lo⟩:=I.loc;have kq:=hk q.1 (mfv q (aA e));obtain⟨u,ru,lk⟩:=lo _ _ _ en eσ (.inr (.inl kq));refine⟨_,u,ev,ru,?_⟩
  rcases lk with ⟨k1,_⟩|⟨_,c,ec,ic⟩
  ·have k1:X.env.scope.names.lookup q.1=some .local:=k1;rw[kq] at k1;cases k1
  ·rw[own.2 q (aA e)] at ec;cases ec;exact ic
 have hat:=wY (h:=s.heap) (H:=H) apart l;have hC:CelAt (addC s.heap H cl vcs) cl vcs:=⟨l,λ i q e=>let ⟨v,e1,e2⟩:=hat i q e;⟨v,_,e1,e2⟩,apart⟩;have hout:∀b,(∀q∈cl,q.2≠b)->addC s.heap H cl vcs b=H b:=λ b n=>wX n
 have split:∀b,(∃q∈cl,q.2=b)\/∀q∈cl,q.2≠b:=λ b=>by
  by_cases c:∃q∈cl,q.2=b
  ·exact .inl c
  ·exact .inr λ q hq e=>c ⟨q,hq,e⟩
 have gobj:∀q∈cl,∃o v,addC s.heap H cl vcs q.2=some (.frz o (lM q.2 v))/\s.heap.get? q.2=some o/\∃u,RelV v u/\s.heap.IsCell q.2 (some u):=λ q hq=>by
  obtain⟨i,e⟩:=nJ.mp hq;obtain⟨v,e1,e2⟩:=hat i q e;obtain⟨v',u,e3,ru,ic⟩:=holds i q e;rw[e1] at e3;cases e3;obtain⟨o,eo,d⟩:=id ic;rw[eo] at e2;exact⟨o,v,e2,eo,u,ru,ic⟩
 have trk:∀b o,H b=some o->addC s.heap H cl vcs b=some o:=λ b o e=>by
  rw[hout b λ q hq z=>by rw[<- z,free q hq] at e;cases e];exact e
 have hok:HOk X.prog X.w (addC s.heap H cl vcs) s.heap:=λ b o e=>by
  rcases split b with ⟨q,hq,rfl⟩|hn
  ·obtain⟨o',v,e1,eo,u,ru,ic⟩:=gobj q hq;rw[e1] at e;cases e;exact⟨eo,⟨u,ru,ic⟩,⟨_,eo⟩,λ h1 h2 ⟨u,ru,o2,e2,d2⟩ k=>⟨u,ru,o2,k _ e2,d2⟩⟩
  ·rw[hout b hn] at e;exact(I.hok b o e).stay (λ _ _ _ z=>z) (λ d z=>trk d _ z) λ d xs z=>trk d _ z
 have abv:∀q∈cl,X.s₀.heap.objs.size<=q.2:=λ q hq=>I.ok.cab q.1 q.2 (hf q.1 (mfv q hq)) (own.2 q hq)
 have nfr:∀b∈frs X.stack,∀q∈cl,q.2≠b:=λ b hb q hq z=>by
  rcases aL.mp (I.stkSub b hb) with y|y
  ·exact I.cne q.1 q.2 (own.2 q hq) (z.trans y)
  ·obtain⟨_,o,eo,_⟩:=I.ok.funs.mem y;have:=aJ eo;rw[<- z] at this;exact absurd this (Nat.not_lt_of_le (abv q hq))
 have e0:Env0 X.prog X.w X.K X.mg X.base X.A X.stack s (addC s.heap H cl vcs):=by
  have b0:=I.env0;refine⟨b0.frames,b0.mod,λ b o e=>⟨(b0.bs b o e).1,?_⟩,b0.bsz,b0.funs,λ b hb=>?_,hok,b0.bare⟩
  ·rw[hout b λ q hq z=>?_]
   ·exact(b0.bs b o e).2
   ·have:=aJ e;rw[<- z] at this;exact absurd (bM this I.ok.bsz) (Nat.not_lt_of_le (abv q hq))
  ·rw[hout b (nfr b hb)];exact b0.frf b hb
 have hl:us.length=ps.length:=by rw[<- r.length];exact F.len _ _ _ _ (q cl _ own free hC hout)
 have hb':=hb s us I.kIn (by simpa using hl);rw[fG] at hb';refine wpAny_call (mZ (F.run X.A X.stack s (addC s.heap H cl vcs) ⟨us,[]⟩ us vs _ E0 hr e0 hb' r (q cl _ own free hC hout)) λ r s' hq=>?_)
 cases r with
 |error e=>exact False.elim hq
 |ok fl=>
  cases fl with
  |next=>exact False.elim hq
  |brk=>exact False.elim hq
  |cont=>exact False.elim hq
  |ret u=>
   obtain⟨v,H',os,bare,un,hok',rv,q'⟩:=hq;have hC':CelAt H' cl vcs:=⟨l,λ i q e=>let ⟨v,o,e1,e2⟩:=hC.at_ i q e;⟨v,o,e1,un.frzs _ _ _ e2⟩,apart⟩;obtain⟨hh,gg,dd,tt,os'⟩:=s';obtain rfl:os'=s.os:=os
   have un2:Un (frs X.stack) [] H (minC H' cl) s.heap hh:=by
    refine⟨λ b o e n hb hx=>?_,λ b o e n hb hx=>?_,λ b o e n hx=>?_,un.there,λ b xs e=>?_,λ b o u e=>?_,λ b qs e=>?_⟩
    ·rcases split b with ⟨q,hq,rfl⟩|hn
     ·obtain⟨o',v',e1,eo,_⟩:=gobj q hq;rw[e] at eo;cases eo;exact(hok' _ _ (un.frzs _ _ _ e1)).1
     ·exact un.keep b o e (by rw[hout b hn];exact n) hb hx
    ·exact un.slot b o e (by rw[hout b (nfr b hb)];exact n) hb hx
    ·rcases split b with ⟨q,hq,rfl⟩|hn
     ·exact lN hq
     ·exact iA (un.free b o e (by rw[hout b hn];exact n) hx)
    ·have hn:∀q∈cl,q.2≠b:=λ q hq z=>by rw[<- z,free q hq] at e;cases e
     rw[dq hn];exact un.tups b xs (trk b _ e)
    ·have hn:∀q∈cl,q.2≠b:=λ q hq z=>by rw[<- z,free q hq] at e;cases e
     rw[dq hn];exact un.frzs b o u (trk b _ e)
    ·have hn:∀q∈cl,q.2≠b:=λ q hq z=>by rw[<- z,free q hq] at e;cases e
     rw[dq hn];exact un.tbls b qs (trk b _ e)
   exact⟨v,minC H' cl,I.call (h':=hh) (g':=gg) (d':=dd) (t':=tt) (ch:=[]) un2 (hok'.minC hC') bare (λ b z=>absurd z on),rv,q'⟩
end
theorem Fun.okT{K:FG}{st:Stmt}{sp:Sp}(F:Fun K x qual st f fd)(hcd:fd.code=.ref c)(S:FnScope N ps (ax st))(len:∀vs H Q E,sp vs H Q E->vs.length=ps.length)
  (hbody:∀(A:Around) (outer:List Env) (s:Shared) (H:Hp) (vs:List V) (Q:VK) (E:XK),Room k (A.deeper (envOfC qual (ax st) s.heap.objs.size f (.ref c)))->sp vs H Q E ->
   ∃t,PSs (dB CX0 P w K mg base N qual (ax st) f (.ref c) A outer s H E).nox (bv st) t/\t { nx:=λ _ H'=>Q .non H',rt:=Q } (start N vs) H):FnOk P w K mg base CX0 (k+1) f fd ps sp:=by
 obtain⟨oc,od,kV,doc,pm,an,cdv,ct,osl,rfl,lk,hc⟩:=F.ex;obtain rfl:cdv=.ref c:=hcd;refine vM lk hc S len λ A outer s H vs Q E hr hsp=>?_;obtain⟨t,h,q⟩:=hbody A outer s H vs Q E hr hsp;exact⟨t,h.nox,q⟩
theorem Hi{K:FG}{mg mb:SV}{fa a:Addr}{x:Str}{s₁:Shared}{vs:LV}(tbs:List (Addr×Addr))
  (hT:TabsAt tbs s₁.heap) (hK0:noTabs K=true) (hbm:∃bm ob,mg "__builtins__"=some (.ref bm)/\bm≠builtinsNs/\s₁.heap.get? bm=some ob/\ob.cls=.type "module" /\ ob.dict=some builtinsNs/\ob.data=.plain)
  (KX:K.In s₁.heap) (hns:s₁.heap.Ns mainGlobals mg) (hb:s₁.heap.Ns builtinsNs mb) (hbb:∀x:Str,x ≠ "__name__" -> mb x=bootBuiltins x) (hlim:s₁.heap.NoLimit) (hg:s₁.gens=#[])
  (ha:s₁.heap.get? a=some { cls:=.type "list",data:=.seq vs.toArray }) (hi:IntsAre vs ns) (hl:ns.length<=sizeLine) (hr:Room k callerA)
  (F:∀base:Heap,K.In base->base.Ns mainGlobals mg->(∀q∈tbs,TabF base mg q.1 q.2)->FnOk P w K mg base CX k fa fd [x] sp) (hbind:∀(s:Shared) (u:Value),BindsTo s fd ⟨[u],[]⟩ [(x,u)])
  (hsp:∀H:Hp,(∀q∈tbs,H q.2=some (.tbl #[]))->SqL K H a (ns.map V.int)->sp [.ref a] H (λ v _=>v=.bl true) λ _ _ _=>False)
  (hCX:∀H e s',CX [] H s₁ (λ _ _ _=>False) e s'->False) :
  codeAny (model P w) callerA (.call (.ref fa) ⟨[.ref a],[]⟩) (λ r s'=>r=.ok (.ret (.bool true))/\OldK s₁.heap s'.heap/\s'.os=s₁.os/\AllBare s'.gens) s₁:=by
 have rv:=sJ hi;have lenV:=hi.length;have tab:∀q∈tbs,s₁.heap.get? q.2=some (tabObj #[]):=λ q hq=>(hT q hq).2
 have naT:∀q∈tbs,q.2≠a:=λ q hq z=>by
  have e:=tab q hq;rw[z,ha] at e;cases e
 have kT:∀q∈tbs,K.lookup q.2=none:=λ q hq=>by
  cases e:K.lookup q.2 with
  |none=>rfl
  |some o=>
   have e1:=KX _ _ e;rw[tab q hq] at e1;have h2:=iB.mp hK0 (q.2,o) (mem_of_lookupK e);cases e1;exact absurd (show false=true from h2) cj
 have core:∀H:Hp,(∀q∈tbs,H q.2=some (.tbl #[]))->(∀b,H b=none\/(∃o xs,H b=some (.frz o (.lst xs)))\/∃q∈tbs,q.2=b)->SqL K H a (ns.map V.int)->HOk P w H s₁.heap->(∀b,H b≠none->b=a\/∃q∈tbs,q.2=b)->(H a≠none->K.lookup a=none) ->
   codeAny (model P w) callerA (.call (.ref fa) ⟨[.ref a],[]⟩) (λ r s'=>r=.ok (.ret (.bool true))/\OldK s₁.heap s'.heap/\s'.os=s₁.os/\AllBare s'.gens) s₁:=by
  intro H hH hO hS hok hA hK;have base_of:∀ {b:Addr}{o:Obj},s₁.heap.get? b=some o->H b=none->(fZ s₁.heap H).get? b=some o:=λ e n=>CY e n
  have noA:∀ {b:Addr}{o:Obj},s₁.heap.get? b=some o->o≠{ cls:=.type "list",data:=.seq vs.toArray }->o≠tabObj #[]->H b=none:=λ {b o} e n1 n2=>by
   cases q:H b with
   |none=>rfl
   |some u=>
    rcases hA b (by rw[q];simp) with z|⟨p,hp,z⟩
    ·subst z;rw[ha] at e;cases e;exact absurd rfl n1
    ·subst z;rw[tab p hp] at e;cases e;exact absurd rfl n2
  have nsK:∀ {b:Addr}{m:SV},s₁.heap.Ns b m->(fZ s₁.heap H).Ns b m:=λ {b m} ⟨o,es,ep,e,d,r⟩=>⟨o,es,ep,base_of e (noA e (λ z=>by rw[z] at d;cases d) (λ z=>by rw[z] at d;cases d)),d,r⟩
  have hKb:K.In (fZ s₁.heap H):=λ b o e=>base_of (KX b o e) (by
   cases q:H b with
   |none=>rfl
   |some u=>
    rcases hA b (by rw[q];simp) with z|⟨p,hp,z⟩
    ·subst z;rw[hK (by rw[q];simp)] at e;cases e
    ·subst z;rw[kT p hp] at e;cases e)
  have hM:Mod K mg (fZ s₁.heap H):=⟨hKb,nsK hns,⟨mb,nsK hb,hbb⟩,let ⟨mc,h1,h2⟩:=hlim;⟨mc,nsK h1,h2⟩⟩;have e0:Env0 P w K mg (fZ s₁.heap H) callerA [] s₁ H:=⟨rfl,hM,λ b o e=>vh e,Nat.le_of_eq (CW _ _),trivial,λ b hb=>absurd (show b∈([]:List Addr) from hb) on,hok,.of_eq hg⟩
  have tf:∀q∈tbs,TabF (fZ s₁.heap H) mg q.1 q.2:=λ q hq=>by
   obtain⟨o,vs',file,tf,flags,tg,inF,text,tt,e1,r1,r2⟩:=(hT q hq).1;obtain⟨bm,ob,b1,b2,b3,b4,b5,b6⟩:=hbm;have bmT:bm≠q.2:=λ z=>by rw[z,tab q hq] at b3;cases b3;cases b4
   have bmG:bm≠mainGlobals:=λ z=>by
    obtain⟨o,es,ep,e,d,_⟩:=hns;rw[<- z,b3] at e;cases e;rw[b6] at d;cases d
   have gT:mainGlobals≠q.2:=λ z=>by
    obtain⟨o,es,ep,e,d,_⟩:=hns;rw[z,tab q hq] at e;cases e;cases d
   refine⟨⟨o,vs',file,tf,flags,tg,inF,text,tt,base_of e1 (noA e1 (λ z=>by rw[z] at r1;exact absurd (show Value.type "list"=Value.type "code" from r1) fu) (λ z=>by rw[z] at r1;cases r1)),r1,r2⟩,?_,⟨bm,ob,b1,b2,bmG,bmT,base_of b3 (noA b3 (λ z=>by rw[z] at b4;exact absurd (show Value.type "list"=Value.type "module" from b4) fu) (λ z=>by rw[z] at b4;cases b4)),b4,b5,b6⟩,gT⟩
   cases e:(fZ s₁.heap H).get? q.2 with
   |none=>rfl
   |some o=>have:=(vh e).2;rw[hH q hq] at this;cases this
  refine mZ ((F _ hKb (nsK hns) tf).run callerA [] s₁ H ⟨[.ref a],[]⟩ [.ref a] [.ref a] _ _ hr e0 (hbind s₁ (.ref a)) (.cons rfl .nil) (hsp H hH hS)) λ r s' h=>?_
  cases r with
  |error e=>exact(hCX H e s' h).elim
  |ok fl=>
   cases fl with
   |next=>exact False.elim h
   |brk=>exact False.elim h
   |cont=>exact False.elim h
   |ret u=>
    obtain⟨v,H',os,bare,un,hok',r',q⟩:=h;have q':v=.bl true:=q;subst q';obtain rfl:u=Value.bool true:=r';refine⟨O,⟨λ b o e=>?_,λ b o e=>un.there b o e on⟩,os,bare⟩
    rcases hO b with z|⟨ob,xs,z⟩|⟨p,hp,z⟩
    ·exact .inl (un.keep b o e z (by intro z;exact absurd (show b∈([]:List Addr) from z) on) on)
    ·have z2:=un.frzs b ob _ z;obtain⟨e1,_⟩:=hok b _ z;obtain⟨e2,_⟩:=hok' b _ z2;rw[e] at e1;cases e1;exact .inl e2
    ·subst z;obtain⟨more,z2⟩:=un.tbls p.2 #[] (hH p hp);have e2:s'.heap.get? p.2=some (tabObj (#[]++more)):=hok' _ _ z2;have e1:=tab p hp;rw[e] at e1;cases e1;obtain⟨o,vs',file,tf,flags,tg,inF,text,tt,c1,c2,c3,c4,_⟩:=(hT p hp).1;exact .inr (.inl ⟨⟨p.1,o,vs',c1,c2,c3,c4⟩,O,#[],more,O,e2⟩)
 have withT:∀H:Hp,(∀b,H b=none\/∃o xs,H b=some (.frz o (.lst xs)))->SqL K H a (ns.map V.int)->HOk P w H s₁.heap->(∀b,H b≠none->b=a)->(H a≠none->K.lookup a=none) ->
   codeAny (model P w) callerA (.call (.ref fa) ⟨[.ref a],[]⟩) (λ r s'=>r=.ok (.ret (.bool true))/\OldK s₁.heap s'.heap/\s'.os=s₁.os/\AllBare s'.gens) s₁:=by
  intro H hO hS hok hA hK;have inT:∀q∈tbs,(λ b=>if (tbs.any λ q=>q.2 == b)=true then some (HO.tbl #[]) else H b) q.2=some (.tbl #[]):=λ q hq=>if_pos (List.any_eq_true.mpr ⟨q,hq,on⟩)
  have split:∀b,(∃q∈tbs,q.2=b)\/(λ b=>if (tbs.any λ q=>q.2 == b)=true then some (HO.tbl #[]) else H b) b=H b:=λ b=>by
   by_cases c:(tbs.any λ q=>q.2 == b)=true
   ·obtain⟨q,hq,e⟩:=List.any_eq_true.mp c;exact .inl ⟨q,hq,lC e⟩
   ·exact .inr (if_neg c)
  have aT:(λ b=>if (tbs.any λ q=>q.2 == b)=true then some (HO.tbl #[]) else H b) a=H a:=by
   rcases split a with ⟨q,hq,z⟩|z
   ·exact absurd z (naT q hq)
   ·exact z
  generalize (λ b=>if (tbs.any λ q=>q.2 == b)=true then some (HO.tbl #[]) else H b)=G at *
  have noneT:∀q∈tbs,H q.2=none:=λ q hq=>by
   cases e:H q.2 with
   |none=>rfl
   |some u=>exact absurd (hA q.2 (by rw[e];simp)) (naT q hq)
  refine core G inT (λ b=>?_) ?_ (λ b o e=>?_) (λ b n=>?_) (λ n=>hK (by rw[<- aT];exact n))
  ·rcases split b with z|z
   ·exact .inr (.inr z)
   ·rw[z];rcases hO b with y|y
    ·exact .inl y
    ·exact .inr (.inl y)
  ·rcases hS with (z|⟨o,z⟩)|z
   ·exact .inl (.inl (by rw[aT];exact z))
   ·exact .inl (.inr ⟨o,by rw[aT];exact z⟩)
   ·exact .inr z
  ·rcases split b with ⟨q,hq,z⟩|z
   ·subst z;rw[inT q hq] at e;cases e;exact tab q hq
   ·rw[z] at e
    rcases hO b with y|⟨ob,xs,y⟩
    ·rw[y] at e;cases e
    ·rw[y] at e;cases e;obtain⟨e1,l,its,n,r,e2⟩:=hok b _ y;exact⟨e1,l,its,n,r,e2⟩
  ·rcases split b with z|z
   ·exact .inr z
   ·rw[z] at n;exact .inl (hA b n)
 cases hk:K.lookup a with
 |some o=>
  have e:=KX a o hk;rw[ha] at e;cases e;refine withT (λ _=>none) (λ _=>.inl rfl) (.inr ⟨_,vs.toArray,_,hk,O,O,O,by rw[aV,lenV];exact hl,by simpa using rv⟩) (λ b u z=>by have z':(none:Option HO)=some u:=z;cases z') (λ b z=>absurd rfl z) λ z=>absurd rfl z
 |none=>
  refine withT (λ b=>if b=a then some (.frz { cls:=.type "list",data:=.seq vs.toArray } (.lst (ns.map V.int))) else none) (λ b=>?_) (.inl (.inr ⟨{ cls:=.type "list",data:=.seq vs.toArray },if_pos rfl⟩)) (λ b u z=>?_) (λ b z=>?_) λ _=>hk
  ·by_cases hb:b=a
   ·exact .inr ⟨_,_,if_pos hb⟩
   ·exact .inl (if_neg hb)
  ·by_cases hb:b=a
   ·have z':=(if_pos hb).symm.trans z;cases z';subst hb;exact⟨ha,by rw[ao];exact hl,vs,_,rv,ha⟩
   ·have z':=(if_neg hb).symm.trans z;cases z'
  ·by_cases hb:b=a
   ·exact hb
   ·exact absurd (if_neg hb) z
def Hj{K:FG}{oc oc2:Value}{od od2:OA}{fd:FuncData}{sl sl2:AV}{vs:Array Value}(h1:nsIn K mainGlobals x=some (some (.ref f)))(h2:K.lookup f=some ⟨oc,od,.func fd,sl⟩)(h3:fd.code=.ref c)(h4:K.lookup c=some ⟨oc2,od2,.fields vs,sl2⟩)(h5:vs[11]?=some (.ref T)):tabIn K x=some (c,T):=by
 unfold tabIn;simp only[h1,h2,h3,h4,h5]
theorem walk_ofT{l:W.OpenLaw}{YP:World->Heap->Prop}{d:DefRec}{K:Params->FG}{CX:World->CXT}{sp:World->List Addr->Sp}{x:Str}
  (hn:l.most=some n) (hn2:n<=sizeLine) (hdf:d.params.defaults=[]) (hr:Room k callerA)
  (hY:∀(w:World) (h:Heap),YP w h->(K w.params).In h) (hK0:∀w:World,noTabs (K w.params)=true)
  (F:∀(w:World) (mg:SV) (fa:Addr) (h:Heap),(K w.params).In h->h.Ns mainGlobals mg->mg d.name=some (.ref fa) ->
   ∃(fd:FuncData) (tbs:List (Str×Addr×Addr)),(∀p∈tbs,tabIn (K w.params) p.1=some p.2/\((recsOf q).find? λ e=>e.name == p.1).isSome=true)/\(∀(s:Shared) (u:Value),BindsTo s fd ⟨[u],[]⟩ [(x,u)]) /\
    ∀base:Heap,(K w.params).In base->base.Ns mainGlobals mg->(∀p∈tbs,TabF base mg p.2.1 p.2.2)->FnOk l.prog w (K w.params) mg base (CX w) k fa fd [x] (sp w (tbs.map λ p=>p.2.2)))
  (hsp:∀(w:World) (H:Hp) (a:Addr) (ns:LI) (ts:List Addr),ns.length<=n->(∀T∈ts,H T=some (.tbl #[]))->SqL (K w.params) H a (ns.map V.int)->sp w ts [.ref a] H (λ v _=>v=.bl true) λ _ _ _=>False)
  (hCX:∀(w:World) (H:Hp) (s:Shared) (e:Value) (s':Shared),CX w [] H s (λ _ _ _=>False) e s'->False) :
  W.WalkO q loose XP YP l.row.toRowW d [] (λ f vs=>PySem.call f vs):=by
 refine Att.attach_call hn hdf λ w s₀ s₁ mg mb fa o pm cd doc a vs ns G Y ho hd hcd hmg hobj hints hlen hg=>?_;have KX:=hY w _ Y;obtain⟨fd,tbs,ht,hb,hF⟩:=F w mg fa _ KX G.T.g hmg
 have hT:TabsAt (tbs.map (·.2)) s₁.heap:=λ p hp=>by
  obtain⟨t,htm,rfl⟩:=bG.mp hp;obtain⟨h1,h2⟩:=ht t htm;obtain⟨d',hd'⟩:=ly.mp h2;exact tab_of G.T KX hd' (show tabIn (K w.params) t.1=some (t.2.1,t.2.2) from h1)
 refine Hi (tbs.map (·.2)) hT (hK0 w) G.T.bmain KX G.T.g G.T.b G.T.builtins G.T.nolimit hg hobj hints (dg hlen hn2) hr (λ base kb nb tf=>hF base kb nb λ p hp=>tf p.2 (bG.mpr ⟨p,hp,O⟩)) hb (λ H hH hS=>hsp w H a ns _ hlen (λ T hT=>?_) hS) λ H e s'=>hCX w H s₁ e s';obtain⟨t,htm,rfl⟩:=bG.mp hT;exact hH t.2 (bG.mpr ⟨t,htm,O⟩)
noncomputable def eZ(fa c':Addr)(name qual:Str)(params:Arguments)(body:List Stmt)(scope:Scope)(cl:LA):HO:=.ext λ h=>∃doc pm ctv,h.get? fa=some (fnMade name qual params body scope cl doc pm c' ctv)
def FnV.dfn{H:Hp}{cl:LA}(h:H fa=some (eZ fa c' name qual params body scope cl)):FnV H fa:=⟨_,h,λ _ ⟨_,_,_,e⟩=>⟨_,_,_,_,e⟩⟩
section
variable {params:Arguments}{scope:Scope}{pos:Pos}{fv:List Str}{c T:Addr}{cl:LA}
theorem Hk{Q:VK}(I:Inv X pins σ H s)(hcode:X.env.code=.ref c)(TF:TabF X.base X.mg c T)(hcl:closureFor scope X.env=pure cl)(own:OwnCl X.env.cells fv cl)
  (h:TabOk H T pos qual/\∀fa c' cl H2,OwnCl X.env.cells fv cl->H fa=none->H2 fa=some (eZ fa c' name qual params body scope cl)->H2 c'=some (cR c' qual)->TabOk H2 T pos qual->(∀b o,b≠T->H b=some o->H2 b=some o)->Q (.ref fa) H2) :
  wpAny (model X.prog X.w) X.A (makeFunction name qual params (.stmts body) scope X.env [] [] [] pos pos.line) (EP X pins σ Q) X.xe s:=by
 obtain⟨⟨ps,hT,ht,hz⟩,h⟩:=h;have eT:s.heap.get? T=some (tabObj ps):=I.hok _ _ hT;have hg:s.heap.Ns mainGlobals X.mg:=I.mod.glob.keeps I.bk;obtain⟨bm,ob,b1,b2,b3,b4,b5,b6⟩:=TF.blt;have hb:s.heap.BuiltinsAt X.mg T:=⟨bm,ob,b1,b2,b3,b4,I.bk _ _ b5,b6⟩;have C:CodeHd s.heap c T:=TF.hd.keeps I.bk
 rcases hz with hnf|⟨c',hf,hc'⟩
 ·refine makeFunction_K hcl I.ok.glob hg hcode C eT ht hnf TF.ne hb λ c' ctv doc h' tk hx hge hlt hrec htb=>?_;have hfa:H h'.objs.size=none:=I.hok.fresh (dN (sK hge hlt));have hc0:H c'=none:=I.hok.fresh hge;have nTc:c'≠T:=λ z=>by rw[z,hT] at hc0;cases hc0
  have nTf:h'.objs.size≠T:=λ z=>by rw[z,hT] at hfa;cases hfa
  have ncf:c'≠h'.objs.size:=bn hlt;have old:∀b o,b≠T->s.heap.get? b=some o->(h'.push (fnMade name qual params body scope cl doc ((X.mg "__name__").getD .none) c' ctv)).get? b=some o:=λ b o n e=>aI _ (hx b o n e);have eP:(h'.push (fnMade name qual params body scope cl doc ((X.mg "__name__").getD .none) c' ctv)).get? T=some (tabObj (ps++#[rawInt pos.line,rawInt pos.col,.ref c'])):=aI _ htb;have eF:(h'.push (fnMade name qual params body scope cl doc ((X.mg "__name__").getD .none) c' ctv)).get? h'.objs.size=some (fnMade name qual params body scope cl doc ((X.mg "__name__").getD .none) c' ctv):=be _ rfl;have eC:(h'.push (fnMade name qual params body scope cl doc ((X.mg "__name__").getD .none) c' ctv)).CodeRec (.ref c') qual:=pN hrec λ o e=>aI _ e;generalize h'.push (fnMade name qual params body scope cl doc ((X.mg "__name__").getD .none) c' ctv)=h2 at *;generalize h'.objs.size=fa at *;have lowT:∀b o,s.heap.get? b=some o->b≠c'/\(H b=none->b≠T):=λ b o e=>⟨bn (bM (aJ e) hge),λ n z=>by rw[z,hT] at n;cases n⟩;have lowF:∀b o,s.heap.get? b=some o->b≠fa:=λ b o e=>bn (s1s (bM (aJ e) hge) hlt);have out:∀b,b≠T->b≠c'->b≠fa->upd (upd (upd H T (.tbl (ps++#[rawInt pos.line,rawInt pos.col,.ref c']))) c' (cR c' qual)) fa (eZ fa c' name qual params body scope cl) b=H b:=λ b n1 n2 n3=>by rw[aG n3,aG n2,aG n1]
  have trk:∀b o,H b=some o->b≠c'/\b≠fa:=λ b o e=>⟨(λ z=>by rw[z,hc0] at e;cases e),(λ z=>by rw[z,hfa] at e;cases e)⟩;have _H:upd (upd (upd H T (.tbl (ps++#[rawInt pos.line,rawInt pos.col,.ref c']))) c' (cR c' qual)) fa (eZ fa c' name qual params body scope cl) T=some (.tbl (ps++#[rawInt pos.line,rawInt pos.col,.ref c'])):=by rw[aG nTf.symm,aG nTc.symm,cJ]
  have HC:upd (upd (upd H T (.tbl (ps++#[rawInt pos.line,rawInt pos.col,.ref c']))) c' (cR c' qual)) fa (eZ fa c' name qual params body scope cl) c'=some (cR c' qual):=by rw[aG ncf,cJ]
  have HF:upd (upd (upd H T (.tbl (ps++#[rawInt pos.line,rawInt pos.col,.ref c']))) c' (cR c' qual)) fa (eZ fa c' name qual params body scope cl) fa=some (eZ fa c' name qual params body scope cl):=cJ;generalize upd (upd (upd H T (.tbl (ps++#[rawInt pos.line,rawInt pos.col,.ref c']))) c' (cR c' qual)) fa (eZ fa c' name qual params body scope cl)=H2 at *;have same:∀b o,b≠T->H b=some o->H2 b=some o:=λ b o n e=>by rw[out b n (trk b o e).1 (trk b o e).2];exact e
  have un:Un X.fs [] H H2 s.heap h2:=⟨λ b o e n _ _=>old b o ((lowT b o e).2 n) e,λ b o e n _ _=>⟨o.slots,old b o ((lowT b o e).2 n) e⟩,λ b o e n _=>by rw[out b ((lowT b o e).2 n) (lowT b o e).1 (lowF b o e)];exact n,λ b o e _=>by
   by_cases z:b=T
   ·rw[z];exact⟨_,eP⟩
   ·exact⟨o,old b o z e⟩,λ b xs e=>same b _ (λ z=>by rw[z,hT] at e;cases e) e,λ b o u e=>same b _ (λ z=>by rw[z,hT] at e;cases e) e,λ b qs e=>by
   by_cases z:b=T
   ·subst z;rw[hT] at e;cases e;exact⟨_,_H⟩
   ·exact⟨#[],by rw[same b _ z e];simp⟩⟩
  have hok:HOk X.prog X.w H2 h2:=λ b o e=>by
   by_cases zf:b=fa
   ·subst zf;rw[HF] at e;cases e;exact⟨⟨_,_,_,eF⟩,⟨_,eF⟩,λ h1 h3 ⟨dc,pm,cv,e1⟩ k=>⟨dc,pm,cv,k _ e1⟩⟩
   ·by_cases zc:b=c'
    ·subst zc;rw[HC] at e;cases e;obtain⟨c2,o2,vs2,t2,e2,ho2,r2⟩:=id eC;cases e2;exact⟨eC,⟨_,ho2⟩,λ h1 h3 x k=>pN x k⟩
    ·by_cases zT:b=T
     ·subst zT;rw[_H] at e;cases e;exact eP
     ·rw[out b zT zc zf] at e;refine(I.hok b o e).stay (λ d u hd q=>old d u (λ z=>?_) q) (λ d q=>same d _ (λ z=>by rw[z,hT] at q;cases q) q) λ d xs q=>same d _ (λ z=>by rw[z,hT] at q;cases q) q
      rcases hd with hd|hd
      ·exact zT (hd.symm.trans z)
      ·rw[z,hT] at hd;cases hd
  exact⟨.ref fa,H2,I.un un hok,O,h fa c' cl H2 own hfa HF HC ⟨_,_H,by simpa using wW ps.toList ht,.inr ⟨c',by simpa using codeAmong_snoc ps.toList ht hnf,HC⟩⟩ same⟩
 ·refine makeFunction_hit hcl I.ok.glob hg hcode C eT ht hf hb λ ctv doc h' tk hx hsz=>?_;have hfa:H h'.objs.size=none:=I.hok.fresh hsz;have same:∀b o,H b=some o->upd H h'.objs.size (eZ h'.objs.size c' name qual params body scope cl) b=some o:=λ b o e=>by rw[aG (jP e hfa)];exact e
  refine⟨.ref h'.objs.size,upd H h'.objs.size (eZ h'.objs.size c' name qual params body scope cl),I.laid (t':=tk) (λ b u e=>aI _ (hx b u e)) hsz ?_,O,h _ c' cl _ own hfa cJ (same _ _ hc') ⟨ps,same _ _ hT,ht,.inr ⟨c',hf,same _ _ hc'⟩⟩ λ b o _ e=>same b o e⟩;exact⟨⟨_,_,_,be _ rfl⟩,⟨_,be _ rfl⟩,λ h1 h3 ⟨dc,pm,cv,e1⟩ k=>⟨dc,pm,cv,k _ e1⟩⟩
noncomputable def Hl(ec:LA)(fv:List Str)(T:Addr)(pos:Pos)(i:Nat)(name qual:Str)(params:Arguments)(body:List Stmt)(scope:Scope):TS:=λ D σ H=>TabOk H T pos qual /\
 ∀fa c' cl H2,OwnCl ec fv cl->H fa=none->H2 fa=some (eZ fa c' name qual params body scope cl)->H2 c'=some (cR c' qual)->TabOk H2 T pos qual->(∀b o,b≠T->H b=some o->H2 b=some o)->D.nx (σ.set i (some (.ref fa))) H2
theorem Hn{i:Nat}{name qual:Str}(hN:X.N.Nodup)(hi:X.N[i]?=some name)(hx:Loc X.env.scope name)(hq:qualnameIn X.env name name=qual)(hcode:X.env.code=.ref c)(TF:TabF X.base X.mg c T)(hcl:closureFor scope X.env=pure cl)(own:OwnCl X.env.cells fv cl)
  (hd0:params.defaults=[]) (hk0:params.kw_defaults=[]) (ha:annTrees params none X.env=[]) (hf:X.fn name=true\/X.env.scope.names.lookup name=some .local:=by first|exact .inl rfl|exact .inr rfl) :
  PS X (.FunctionDef name params body [] none [] scope none name pos) (Hl X.env.cells fv T pos i name qual params body scope):=by
 intro pins s σ H D I h;refine nestDef_K hd0 hk0 ha ?_;rw[hq];refine thn (Hk (Q:=λ v H2=>∃fa,v=.ref fa/\D.nx (σ.set i (some (.ref fa))) H2) I hcode TF hcl own ⟨h.1,λ fa c' cl H2 o1 n1 a1 a2 a3 a4=>⟨fa,O,h.2 fa c' cl H2 o1 n1 a1 a2 a3 a4⟩⟩) λ u s1 ⟨v,H2,J,r,fa,e,q⟩=>?_;subst e;exact rG J hN hi hx r (λ s2 J2=>⟨_,H2,J2,q⟩) hf
end
theorem nM:∀ {xs:List V}{us:LV},Vals xs us->xs.all cM=true->∀(j:Nat) (h1:j<xs.length) (h2:j<us.length),eqU x us[j]=eqV xs[j] x
 |y::xs,u::us,.cons r t,f,j,h1,h2=>by
  rw[cX,bF] at f
  cases j with
  |zero=>exact sD r f.1
  |succ j=>exact nM t f.2 j (xa h1) (xa h2)
noncomputable def xc(K:FG):V->List V->Hp->VK->Prop:=λ x ys H Q=>∃a xs y j,x=.ref a/\ys=[y]/\SqL K H a xs/\xs.all cM=true/\cM y=true/\(∃z,xs[j]?=some z/\eqV z y=true)/\(∀m z,m<j->xs[m]?=some z->eqV z y=false)/\Q (.int (j:Nat)) H
def tq:MtR X "list.index" (xc X.K):=by
 intro pins s σ H x ys v us Q I rx rv h;obtain⟨a,xs,y,j,rfl,rfl,ha,hfl,fy,⟨z,ez,hz⟩,hn,q⟩:=h;cases rx;obtain⟨u,rfl,ru⟩:=cS rv;obtain⟨its,r',pl,zl⟩:=I.list ha;have hlen:=r'.length;obtain⟨⟨oc,od,odt,osl⟩,g1,hc,n,hd⟩:=pl.isList;simp only at hc hd;subst hc hd;have jl:=(bf.mp ez).1;have jl2:j<its.length:=ca;have big:(sizeLine:Int)<2 ^ 63-1:=by decide +kernel
 refine iu F.slot_list_index ⟨_,g1,O⟩ F.entry_list_index (F.args_list_index_2 _ _) (SeqAt.list_indexAt a its.toArray n od osl u (eqU y) j (by simpa using jl2) ca ?_ ?_) ⟨g1,λ w hw=>jT ru fy r' hfl w (by simpa using hw),?_⟩
 ·show eqU y its[j]=true;rw[nM r' hfl j jl jl2];rw[aB jl] at ez;cases (bJ ez);exact hz
 ·intro m hm hlt;show eqU y its[m]=false;have ml:m<xs.length:=by simp only[aV] at hm;lia
  rw[nM r' hfl m ml (by simpa using hm)];exact hn m _ hlt (aB ml)
 ·exact⟨.int _,H,I.tok _,⟨_,O⟩,q⟩
def Ho(l:Addr)(its:Array Value)(n:Nat)(dd:OA)(sl:AV)(x:Value)(e:Value->Bool)(j:Nat)(hj:j<its.size)(hit:e its[j]=true)(hno:∀m (hm:m<its.size),m<j->e its[m]=false):Meets (Builtin.«tuple.index» ⟨[.ref l,x],[]⟩) (λ A R s=>s.heap.get? l=some ⟨.type "tuple",dd,.seq its n,sl⟩/\(∀y,y∈its->SeqAt.EqAt A.in1 s y x (e y))/\R (.ok (.ret (.int j s.toks))) { s with toks:=s.toks+1 }) :=
 .of_wp λ prog w A R s h=>by
  obtain⟨hp,g,d,tk,os⟩:=s;obtain⟨hl,he,h⟩:=h;unfold Builtin.«tuple.index»;simp only[Std.Legacy.Range.forIn_eq_forIn_range',Std.Legacy.Range.size,Nat.sub_zero,Nat.add_sub_cancel,Nat.div_one];wp_walk using pL hl,tu _ (λ rest b s'=>b.1=none/\s'=⟨hp,g,d,tk,os⟩/\∃i,i<=j/\rest=List.range' i (its.size-i)) _
  case turn=>
   rintro y rest b s' ⟨hb,rfl,i,ij,er⟩;have il:i<its.size:=ca;rw[show its.size-i=(its.size-(i+1))+1 by lia,List.range'_succ] at er;obtain⟨rfl,rfl⟩:=nK er;rw[pI il];refine af (he _ (Array.getElem_mem il) prog w _ _ ?_);by_cases c:y=j
   ·subst c;rw[hit];wp_walk;exact⟨_,O,h⟩
   ·rw[hno y il ca];wp_walk;exact⟨O,O,y+1,ca,O⟩
  case fin=>
   rintro b s' ⟨hb,rfl,i,ij,er⟩;have:=bE List.length er;rw[List.length_nil,List.length_range'] at this;lia
  case h=>
   exact⟨O,O,0,bW _,on⟩
section
variable {prog:Program}{w:World}{A:Around}{R:Result->Shared->Prop}{I:Addr}{fp wr:List Addr}{n:Nat}{P:Nat->Value->Prop}{St:Nat->Heap->Prop}
end
def Hq(hc:X.calm=true):cF X (.builtin "max") (λ xs H Q=>∃a ns,xs=[.ref a]/\SqL X.K H a (List.map V.int ns)/\0<ns.length/\∀M:Int,M∈ns->(∀z∈ns,z<=M)->Q (.int M) H):=by
 intro pins s σ H xs us Q I r h;obtain⟨a,ns,rfl,hq,hne,q⟩:=h;obtain⟨u,rfl,ru⟩:=cS r;cases (show u=Value.ref a from ru);obtain⟨its,rv,pl,hz⟩:=I.list hq;have hi:=ph rv;obtain⟨xs,e⟩:=hi.allInts.items;have hns:ns=xs.toList.map (·.1):=by rw[<- hi.numsOf,<- nums_intItems,<- e]
 have hl:=pl.isList;rw[e] at hl;have hsz:0<xs.size:=by rw[hns,ao,Array.length_toList] at hne;exact hne
 refine max_intList (I.ok.hd hc) hl hsz λ v h' tk hv kk=>?_;obtain⟨t,rfl⟩:=intItems_at hv;obtain⟨h1,h2⟩:=argBest_gt (numAt xs) (xs.size-1);refine⟨.int _,H,I.kept kk,⟨t,O⟩,q _ ?_ λ z hz=>?_⟩
 ·rw[hns,numAt_eq];exact getD_mem (by rw[ao,Array.length_toList];lia)
 ·rw[hns] at hz;obtain⟨j,hj,rfl⟩:=mem_getD hz;rw[ao,Array.length_toList] at hj;rw[<- numAt_eq];exact h2 j ca
section
variable {pg:Program}{wd:World}{B:Around}{X0:VS}{s0:Shared}
end
section
variable {es:List Expr}{x1:Nat}{pp:Pos}
end
noncomputable def pO:V->List V->Hp->VK->Prop:=λ x vs H Q=>∃l xs i y,x=.ref l/\vs=[.int i,y]/\H l=some (.lst xs)/\0<=i/\i<=xs.length/\xs.length<sizeLine/\Q .non (upd H l (.lst (xs.take i.toNat++y::xs.drop i.toNat)))
def Hr:MtR X "list.insert" pO:=by
 intro pins s σ H x vs v us Q I rx rv h;obtain⟨l,xs,i,y,rfl,rfl,hH,i0,i1,hz,q⟩:=h;cases rx;obtain⟨u,w,rfl,⟨t,rfl⟩,rw'⟩:=mY rv;obtain⟨z,its,n,r,hl,e⟩:=I.lstM hH;have s63:sizeLine<=2 ^ 62:=by rw[mX];decide
 have hf:Builtin.List.listFitsIndex i=true:=s0o ca ca
 refine iu F.slot_list_insert ⟨_,e,O⟩ F.entry_list_insert (F.args_list_insert_3 _ _ _)
  (AutoSeq1.list_insert_list_int_val_1 l its.toArray n i t w (by simp[hf]) (by rw[aV];lia)) ⟨e,?_⟩
 refine⟨.non,_,I.lset (its':=its.take i.toNat++w::its.drop i.toNat) hH e ?_ ((r.take _).append (.cons rw' (r.drop _))) ?_,O,q⟩
 ·show(its.toArray.extract 0 (if i<0 then (i+(its.toArray.size:Int)).toNat else min i.toNat its.toArray.size)).push w++its.toArray.extract (if i<0 then (i+(its.toArray.size:Int)).toNat else min i.toNat its.toArray.size)=_;rw[if_neg ca,aV,iC ca];apply Array.ext';simp[List.extract_eq_take_drop,gP]
 ·rw[aN,List.length_cons,bd,dX];lia
def Hs(a b c:Value):checkTypeCall "zip" ⟨[a,b,c],[]⟩=pure ():=by kernel_rfl
def Ht(a b c:Value):checkBuiltinCall "zip.__new__" ⟨[.type "zip",a,b,c],[]⟩=pure ():=by kernel_rfl
def Hu(a b c d:Value):argsOk "object.__init__" ⟨[a,b,c,d],[]⟩:=by
 unfold argsOk;rw[signature?_of (n:=['_','_','t','i','n','i','_','_']) (o:=['t','c','e','j','b','o']) (by kernel_rfl) F.owner_object]
 kernel_rfl
section
variable {pg:Program}{wd:World}{B:Around}{X0:VS}{s0:Shared}
end
section
variable {es:List Expr}{x1:Nat}{pp:Pos}
end
section
variable {prog:Program}{w:World}{A:Around}{R:Result->Shared->Prop}{I:Addr}{fp wr:List Addr}{n:Nat}{P:Nat->Value->Prop}{St:Nat->Heap->Prop}
noncomputable def xf(h0:Heap)(S:Addr)(wr:List Addr)(kf:Nat->Int)(P:Nat->Value->Prop):Prop:=∀i v,P i v->∃a its,v=.ref a/\¬a∈wr/\a≠S/\h0.IsTuple a its/\(its.size:Int)<2 ^ 63/\kf i=its.size
noncomputable def tz(kf:Nat->Int)(m i:Nat):Prop:=∀j,j<m->kf j<=kf i/\(j<i->kf j<kf i)
theorem Hv(W:Walks prog w A.in1 I fp wr n P St)(kf:Nat->Int)(S:Addr)(hSf:¬S∈fp)(h0:Heap)(hk:xf h0 S wr kf P):∀(k j i:Nat) (s:Shared) (vb:Value) (tb:Tok) (c:Nat),n-(j+1)=k->j+1<=n->St (j+1) s.heap->P i vb->i<=j->tz kf (j+1) i->(∀b o,¬b∈wr->b≠S->h0.get? b=some o->s.heap.get? b=some o)->s.heap.get? S=some ⟨.type "list",none,.seq #[vb,.int (kf i) tb] c,#[]⟩ ->
  (∀i v h' tk,P i v->i<n->tz kf n i->(∀b o,¬b∈wr->b≠S->h0.get? b=some o->h'.get? b=some o)->R (.ok (.ret v)) { s with heap:=h',toks:=tk })->codeAny (model prog w) A (.builtin "max.loop" ⟨[.ref I,.builtin "len",.ref S],[]⟩) R s:=by
 have hSw:¬S∈wr:=λ h=>hSf (W.sub _ h);have nm:(toString "max" ++ toString ".loop" : String)="max.loop" := by decide
 intro k;induction k with
 |zero=>
  intro j i s vb tb c hk' hj hst hPb hij hb kp0 hS hR;have e0:j+1=n:=ca;refine iw tD ?_;rw[iy ka _];show wpAny (model prog w) A.in1 (seqItems? (.ref S) >>= _) _ _ s;refine af (m:=seqItems? (.ref S)) (jh hS rfl ?_);show wpAny (model prog w) A.in1 (tryCatch (pyNext (.ref I)) _ >>= _) _ _ s;refine af (m:=tryCatch (pyNext (.ref I)) _) (lO (W.done s _ _ (e0 ▸ hst) λ h' tk kp=>?_));have hS1:=kp S _ hSw hS;show wpAny (model prog w) A.in1 (updateSeq S (λ _=>#[]) >>= _) _ _ _;refine af (m:=updateSeq S (λ _=>#[])) (lK hS1 rfl (af (nN (aq ?_))));exact hR i vb _ tk hPb ca (e0 ▸ hb) λ b o hbw hbS e=>(fH _ _ (cK hbS)).trans (kp b o hbw (kp0 b o hbw hbS e))
 |succ k ih=>
  intro j i s vb tb c hk' hj hst hPb hij hb kp0 hS hR;have lt0:j+1<n:=ca;refine iw tD ?_;rw[iy ka _];show wpAny (model prog w) A.in1 (seqItems? (.ref S) >>= _) _ _ s;refine af (m:=seqItems? (.ref S)) (jh hS rfl ?_);show wpAny (model prog w) A.in1 (tryCatch (pyNext (.ref I)) _ >>= _) _ _ s;refine af (m:=tryCatch (pyNext (.ref I)) _) (lO (W.item (j+1) s _ _ lt0 hst λ v h' tk hP hst1 kp=>?_));have hS1:=kp S _ hSw hS;have kp1:∀b o,¬b∈wr->b≠S->h0.get? b=some o->h'.get? b=some o:=λ b o hbw hbS e=>kp b o hbw (kp0 b o hbw hbS e);obtain⟨a,its,rfl,aw,aS,at0,a63,ek⟩:=hk _ _ hP;show wpAny (model prog w) A.in1 (tryCatch (holding [.ref a] (call (.builtin "len") [.ref a])) _ >>= _) _ _ _;refine af (lO (eQ (s1d (pK at0 λ o e=>kp1 a o aw aS e) a63 ?_)));rw[<- ek];show wpAny (model prog w) A.in1 (tryCatch (holding [.ref a,.int (kf (j+1)) _] (richCompare .Gt (.int (kf (j+1)) _) (.int (kf i) tb) >>= _)) _ >>= _) _ _ _;refine af (lO (eQ (af (CmpOf.ints_gt (prog:=prog) (w:=w) (A:=A.in1) (P:=λ i v=>∃t,v=.int (kf i) t) kf (λ i v h=>h) (j+1) i _ _ _ _ _ ⟨_,O⟩ ⟨tb,O⟩ ?_))));refine af (eQ (gM ?_));refine af (nN (aq ?_));by_cases hb':kf (j+1) > kf i
  ·simp only[hb',decide_true,eW];refine af (m:=updateSeq S _) (lK hS1 rfl (af (nN ?_)));rw[nm];refine aq (a:=_) ⟨gk ka _,ih (j+1) (j+1) _ (.ref a) _ _ ca lt0 (W.frame _ _ _ hst1 λ b hbf o e=>(fH _ _ (λ h:S=b=>hSf (by rw[h];exact hbf))).trans e) hP (ay _) (λ j' hj'=>?_) (λ b o hbw hbS e=>(fH _ _ (cK hbS)).trans (kp1 b o hbw hbS e)) (im _ hS1 rfl) λ i2 v2 h2 tk2 q1 q2 q3 q4=>hR i2 v2 h2 tk2 q1 q2 q3 q4⟩;by_cases e:j'=j+1
   ·subst e;exact⟨jm _,λ z=>absurd z (dM _)⟩
   ·have:=(hb j' ca).1;exact⟨ca,λ _=>by lia⟩
  ·simp only[hb',decide_false,nI,jb];refine af (m:=letGo _) (nN ?_);rw[nm];refine aq (a:=_) ⟨gk ka _,ih (j+1) i _ vb tb c ca lt0 hst1 hPb ca (λ j' hj'=>?_) kp1 hS1 λ i2 v2 h2 tk2 q1 q2 q3 q4=>hR i2 v2 h2 tk2 q1 q2 q3 q4⟩;by_cases e:j'=j+1
   ·subst e;exact⟨ca,λ z=>by lia⟩
   ·exact hb j' ca
theorem Hw(W:Walks prog w A.in1 I fp wr n P St)(kf:Nat->Int)(S:Addr)(hSf:¬S∈fp)(h0:Heap)(hk:xf h0 S wr kf P)(hn:0<n){s:Shared}(hst:St 0 s.heap)(kp0:∀b o,¬b∈wr->b≠S->h0.get? b=some o->s.heap.get? b=some o)(hS:s.heap.get? S=some ⟨.type "list",none,.seq #[] c,#[]⟩)
  (hR:∀i v h' tk,P i v->i<n->tz kf n i->(∀b o,¬b∈wr->b≠S->h0.get? b=some o->h'.get? b=some o)->R (.ok (.ret v)) { s with heap:=h',toks:=tk }):codeAny (model prog w) A (.builtin "max.loop" ⟨[.ref I,.builtin "len",.ref S],[]⟩) R s:=by
 have hSw:¬S∈wr:=λ h=>hSf (W.sub _ h);have nm:(toString "max" ++ toString ".loop" : String)="max.loop" := by decide
 refine iw tD ?_;rw[iy ka _];show wpAny (model prog w) A.in1 (seqItems? (.ref S) >>= _) _ _ s;refine af (m:=seqItems? (.ref S)) (jh hS rfl ?_);show wpAny (model prog w) A.in1 (tryCatch (pyNext (.ref I)) _ >>= _) _ _ s;refine af (m:=tryCatch (pyNext (.ref I)) _) (lO (W.item 0 s _ _ hn hst λ v h' tk hP hst1 kp=>?_));have hS1:=kp S _ hSw hS;have kp1:∀b o,¬b∈wr->b≠S->h0.get? b=some o->h'.get? b=some o:=λ b o hbw hbS e=>kp b o hbw (kp0 b o hbw hbS e);obtain⟨a,its,rfl,aw,aS,at0,a63,ek⟩:=hk _ _ hP;show wpAny (model prog w) A.in1 (tryCatch (holding [.ref a] (call (.builtin "len") [.ref a])) _ >>= _) _ _ _;refine af (lO (eQ (s1d (pK at0 λ o e=>kp1 a o aw aS e) a63 ?_)));rw[<- ek];show wpAny (model prog w) A.in1 (updateSeq S (λ _=>#[.ref a,.int (kf 0) _]) >>= _) _ _ _;refine af (m:=updateSeq S _) (lK hS1 rfl ?_);rw[nm];refine aq (a:=_) ⟨gk ka _,Hv W kf S hSf h0 hk _ 0 0 _ (.ref a) _ _ rfl hn (W.frame _ _ _ hst1 λ b hbf o e=>(fH _ _ (λ h:S=b=>hSf (by rw[h];exact hbf))).trans e) hP (ay _) (λ j' hj'=>?_) (λ b o hbw hbS e=>(fH _ _ (cK hbS)).trans (kp1 b o hbw hbS e)) (im _ hS1 rfl) λ i2 v2 h2 tk2 q1 q2 q3 q4=>hR i2 v2 h2 tk2 q1 q2 q3 q4⟩;have z:j'=0:=ca;subst z;exact⟨jm _,λ z=>absurd z (dM _)⟩
end
section
variable {st:Stmt}{rest:List Stmt}{t u:TS}{e:Expr}{es:List Expr}{te:TE}{ta:TA}{pos:Pos}
end
section
variable {prog:Program}{w:World}{A:Around}
def Hx(a b v:Value):argsOk "max" ⟨[a,b],[(Str.ofString "key",v)]⟩:=by unfold argsOk;kernel_rfl
theorem Hy{s:Shared}{i1 i2:Array Value}{Q:VS}(hh:A.handled=none)(h1:s.heap.IsTuple a1 i1)(h2:s.heap.IsTuple a2 i2)(z1:(i1.size:Int)<2 ^ 63)(z2:(i2.size:Int)<2 ^ 63)
  (hQ:∀v h' tk,(v=.ref a1/\i2.size<=i1.size\/v=.ref a2/\i1.size<i2.size)->(∀b o,s.heap.get? b=some o->h'.get? b=some o)->Q v { s with heap:=h',toks:=tk }):wpAny (model prog w) A (call (.builtin "max") [.ref a1,.ref a2] [(Str.ofString "key",.builtin "len")]) Q E s:=by
 have nm:(toString "max" ++ toString ".loop" : String)="max.loop" := by decide
 have hT:(s.heap.push { cls:=.type "tuple",data:=.seq #[.ref a1,.ref a2] }).IsTuple s.heap.objs.size #[.ref a1,.ref a2]:=⟨_,be _ rfl,rfl,0,rfl⟩;have hsz:(s.heap.push { cls:=.type "tuple",data:=.seq #[.ref a1,.ref a2] }).objs.size=s.heap.objs.size+1:=gc ..;refine kmb_tree PySem.F.kind_max PySem.F.plain_max PySem.F.entry_max (Hx _ _ _) ?_;show wpAny _ A.in1 (Builtin.Builtins.bindParams "max" ["key","default"] 0 ⟨[],[(Str.ofString "key",.builtin "len")]⟩ >>= _) _ _ s;refine af (fI (show Builtin.Builtins.bindParams "max" ["key","default"] 0 ⟨[],[(Str.ofString "key",.builtin "len")]⟩=pure [some (.builtin "len"),none] from rfl) ?_);show wpAny _ A.in1 (newTuple [.ref a1,.ref a2] >>= _) _ _ s;refine af (dC ?_);refine af (m:=pyIter _) (nD hT ?_);refine af (m:=newList _) (dC ?_);rw[nm];have W:=Walks.tuple (prog:=prog) (w:=w) (A:=A.in1) hh (s.heap.push { cls:=.type "tuple",data:=.seq #[.ref a1,.ref a2] }).objs.size s.heap.objs.size (by rw[hsz];exact bn (jd _)) #[.ref a1,.ref a2];have hI:((s.heap.push { cls:=.type "tuple",data:=.seq #[.ref a1,.ref a2] }).push { cls:=.type "tuple_iterator",data:=.fields #[.ref s.heap.objs.size,.int 0 0] }).objs.size=s.heap.objs.size+2:=by rw[gc,hsz]
 have e1:a1<s.heap.objs.size:=by obtain⟨o,g,_⟩:=h1;exact aJ g
 have e2:a2<s.heap.objs.size:=by obtain⟨o,g,_⟩:=h2;exact aJ g
 refine aq (a:=_) ⟨gk ka _,Hw W (λ i=>([(i1.size:Int),(i2.size:Int)].getD i 0)) ((s.heap.push { cls:=.type "tuple",data:=.seq #[.ref a1,.ref a2] }).push { cls:=.type "tuple_iterator",data:=.fields #[.ref s.heap.objs.size,.int 0 0] }).objs.size ?_ s.heap (λ i v hv=>?_) (lQ _) ?_ (λ b o _ _ e=>aI _ (aI _ (aI _ e))) (be _ rfl) λ i v h' tk q1 q2 q3 q4=>?_⟩
 ·rw[hI,hsz];intro z
  rcases aL.mp z with z|z
  ·exact absurd z (Nat.succ_ne_self _)
  ·exact absurd (bh.mp z) (mR (eY (jd _)))
 ·have nw:∀a,a<s.heap.objs.size->¬a∈[(s.heap.push { cls:=.type "tuple",data:=.seq #[.ref a1,.ref a2] }).objs.size]:=λ a h z=>by
   have:=bh.mp z;rw[hsz] at this;exact bn (eY h) this
  match i,hv with
  |0,hv=>cases hv;exact⟨a1,i1,rfl,nw _ e1,by rw[hI];exact bn (eY (eY e1)),h1,z1,rfl⟩
  |1,hv=>cases hv;exact⟨a2,i2,rfl,nw _ e2,by rw[hI];exact bn (eY (eY e2)),h2,z2,rfl⟩
  |i+2,hv=>simp at hv
 ·exact W.frame _ _ _ ⟨⟨_,be _ rfl,O,O⟩,hT.push _⟩ λ b _ o e=>aI _ e
 ·have kp:∀b o,s.heap.get? b=some o->h'.get? b=some o:=λ b o e=>by
   have bl:=aJ e;exact q4 b o (λ z=>by have:=bh.mp z;rw[hsz] at this;exact bn (eY bl) this) (by rw[hI];exact bn (eY (eY bl))) e
  match i,q1 with
  |0,q1=>
   cases q1;have b:=(q3 1 (jd _)).1;have b:(i2.size:Int)<=(i1.size:Int):=b;exact hQ _ _ _ (.inl ⟨O,ca⟩) kp
  |1,q1=>
   cases q1;have b:=(q3 0 (lQ _)).2 (lQ _);have b:(i1.size:Int)<(i2.size:Int):=b;exact hQ _ _ _ (.inr ⟨O,ca⟩) kp
  |i+2,q1=>simp at q1
end
noncomputable def Hz(r:V->V->Hp->VK->Prop)(te tf:TE):TE:=λ σ H Q=>te σ H λ x H1=>tf σ H1 λ y H2=>r x y H2 Q
theorem HA{X:Cx}{i:Nat}{elt tg iter cnd:Expr}{cl:LA}{pos pos' lpos:Pos}{own fv:List Str}{js:List Nat}
  (hN:X.N.Nodup) (hx1:X.N[i]?=some x) (hx:Loc X.env.scope x) (hf:X.fn x=true\/X.env.scope.names.lookup x=some .local)
  (hc:X.calm=true) (hi:PI X tg iter wi) (hclos:closureFor scope X.env=pure cl) (hcell:∀y∈scope.names,y.2≠.cell) (hkind:scope.kind=.function)
  (hnames:∀y∈scope.names,y.2=.local->scope.names.lookup y.1=some .local)
  (hcl:∀x c,cl.lookup x=some c->X.env.cells.lookup x=some c)
  (hhas:∀x,((relabel scope X.env).names.lookup x=some .cell\/(relabel scope X.env).names.lookup x=some .free)->∃c,cl.lookup x=some c)
  (hlen:js.length=fv.length) (hcap:∀(i:Nat) x j,fv[i]?=some x->js[i]?=some j->Cap X scope cl x j)
  (hg:∀(C:Addr) (ex:List Addr) (s:Shared) (H:Hp),PG (bC X (own++fv) scope cl C ex s H) tg g)
  (he:∀(C:Addr) (ex:List Addr) (s:Shared) (H:Hp),PE (bC X (own++fv) scope cl C ex s H) elt te)
  (ht:∀(C:Addr) (ex:List Addr) (s:Shared) (H:Hp),PT (bC X (own++fv) scope cl C ex s H) cnd tc)
  (hsw:swapsWith (.ListComp elt [⟨tg,iter,[cnd],0⟩] scope lpos) (some (.Name x pos')) pos.line X.env=pure true:=by rfl)
  (hs:∀x,foldedSetIterable iter X.env x=pure x:=by intro _;rfl) :
  PS X (.Assign [.Name x pos'] (.ListComp elt [⟨tg,iter,[cnd],0⟩] scope lpos) pos) (lg (jW wi own.length js g tc te) (eO i)):=by
 intro pins s σ H D I h;rw[wM _ _ _ _ hsw];refine af (jQ ?_);rw[wN];have core:=wH (use:=some (assign (.Name x pos') X.env)) (QQ:=λ _ s'=>SP X pins D .next s') (fpos:=firstIterPos [⟨tg,iter,[cnd],0⟩] lpos) (pos:=lpos) hc hi hclos hcell hkind hnames hcl hhas hlen hcap hg he ht hs I h (λ a C s5 H5 fl I5 zC zL zS zc zp ⟨m,hn⟩ q=>?_)
 ·refine af (af (thn core λ _ s' hq=>?_));exact aq (aq hq)
 ·show wpAny (model X.prog X.w) X.A (assign (.Name x pos') X.env (.ref a)) _ X.xe s5;show wpAny (model X.prog X.w) X.A (do standAt pos';bindName X.env x (.ref a)) _ X.xe s5;refine af (jQ ?_);refine bindName_ ?_;refine rF I5 hN hx1 hx (show RelV (.ref a) (.ref a) from rfl) (λ s6 I6 ⟨b,sb,hb⟩=>?_) hf
  have cb:C≠b:=by
   rcases hb with rfl|hb
   ·exact zL
   ·exact λ z=>zc x b hb z.symm
  obtain⟨o,es,ep,e,r⟩:=hn;refine⟨m,⟨o,es,ep,(sb.2 C cb).trans e,r⟩,λ h' sc=>?_⟩;exact⟨_,H5,I6.turned (t':=s6.toks) (it:=C) (λ d o nd e=>sc.extBut d o nd e) zC zL (.inr zS) zc zp,q⟩
section
variable {M:Model}{A:Around}{E:VS}{s:Shared}{B:Heap}{env:Env}{outer:List Env}{L e dx:Addr}{cls:Value}
end
end _L
namespace _L
open PySem PySem.Spec PyProof.Rows Builtin Builtin.ObjectAttr
section
variable {prog:Program}{w:World}{A:Around}{E:VS}{h:Heap}{g:Array GenState}{dr:Drawn}{tk:Nat}{os:OsState}{C:Addr}{bmB:LV}{B nid initId:String}
end
section
variable {prog:Program}{w:World}{A:Around}{E:VS}{h:Heap}{g:Array GenState}{dr:Drawn}{tk:Nat}{os:OsState}{C x:Addr}{bmB:LV}{B nid initId:String}{K:FG}
end
section
variable {P:Program}{w:World}{K:FG}{mg:SV}{base:Heap}{N:List Str}{qual:Str}{scope:Scope}{f:Addr}{cd:Value}{A:Around}{outer:List Env}{s:Shared}{H:Hp}{E:XK}
end
section
variable {M:Model}{A:Around}{E:VS}{env:Env}{C:Addr}{bmB:LV}{nid:String}
end
end _L
namespace _L
open PySem PySem.Spec PyProof.Rows PySem.W
variable {X:Cx}
section
variable {o e value:Expr}{f:Str}{pos pos' tpos:Pos}{ta tv:TE}
end
section
variable {CX:CXT}{k:Nat}{f C:Addr}{fd:FuncData}{ps:List Str}{sp:Sp}{dvs:List V}{ds:LV}{E:XK}{EE:St->XK}{x m:Str}{p pos apos:Pos}{e o:Expr}{es:List Expr}{ta:TE}{t:TA}
end
section
open PySem.Builtin PySem.Builtin.Str
end
section
variable {a b e:Expr}{es:List Expr}{ta tb te:TE}{t:TA}{u v:TS}{st:Stmt}{rest bl:List Stmt}{pos p pos':Pos}{x:Str}
end
section
variable {k j:Nat}{ps:List Str}{sp:Sp}{E:XK}{x:Str}{p pos:Pos}{e:Expr}{es:List Expr}{t:TA}
end
end _L
namespace _L
open PySem PyProof.Rows
section
variable {a p q:Addr}{b:Bool}{i j:Int}{x y:Str}{v:V}{vs:List V}{r:_L.St}{H:Hp}{Q:VK}{K:FG}{o:Option V}{n:Nat}{α β:Type}
end
variable {X:Cx}
section
variable {st:Stmt}{rest:List Stmt}{t u:TS}{e a b:Expr}{es:List Expr}{te tb:TE}{ta:TA}{pos:Pos}
end
section
variable {CX:CXT}{k:Nat}{f:Addr}{fd:FuncData}{ps:List Str}{sp:Sp}{E:XK}{x:Str}{p pos:Pos}{e:Expr}{es:List Expr}{te:TE}{t:TA}{st:Stmt}{rest:List Stmt}{ts u:TS}
end
section
open PySem.W
end
end _L
namespace _L
open PySem PySem.Spec PyProof.Rows PySem.W PySem.Calls
theorem HB{X:Cx}{h₀:ExceptHandler}{hl:List ExceptHandler}(hb:∀(xe:VS) (pn:LO),PSs (X.more xe pn) body tb) :
  PS X (.Try body (h₀::hl) [] [] pos) tb:=by
 intro pins s σ H D I h;refine wpAny_Try_except ?_;generalize (λ e s₁=>wpAny (model X.prog X.w) X.A (noteFrame e X.env) (λ _ s₂=>wpAny (model X.prog X.w) X.A (setFlight e none) (λ _ s₃=>wpAny (model X.prog X.w) X.A (handleBy e X.env (h₀::hl)) (SP X pins D) X.xe s₃) X.xe s₂) X.xe s₁:VS)=XE;have toY:Inv (X.more XE (X.pn++pins)) [] σ H s:=⟨I.ok.more _ _,I.os,I.bare,I.base,I.loc,I.cell,I.free,I.freeC,λ p hp=>I.pin p (by simpa using hp),I.hok,I.len⟩;have ofY:∀ {σ':St}{H':Hp}{s':Shared}{pp:LO},Inv (X.more XE (X.pn++pins)) pp σ' H' s'->Inv X pins σ' H' s':=λ J=>⟨I.ok,J.os,J.bare,J.base,J.loc,J.cell,J.free,J.freeC,λ p hp=>J.pin p (kX _ hp),J.hok,J.len⟩;refine thn (hb XE (X.pn++pins) [] s σ H D toY h) λ fl s' q=>?_
 cases fl with
 |next=>obtain⟨σ',H',J,z⟩:=q;exact oQ ⟨σ',H',ofY J,z⟩
 |brk=>obtain⟨σ',H',J,z⟩:=q;exact⟨σ',H',ofY J,z⟩
 |cont=>obtain⟨σ',H',J,z⟩:=q;exact⟨σ',H',ofY J,z⟩
 |ret u=>obtain⟨v,σ',H',J,r,z⟩:=q;exact⟨v,σ',H',ofY J,r,z⟩
variable {X:Cx}
section
variable {pg:Program}{wd:World}{B:Around}{X0:VS}{s0:Shared}{r:Addr}{j:Int}{t u v:Tok}{n:Nat}
end
end _L
namespace _H
open PySem PyProof.Rows
section
open PySem.SeqAt
open PySem.AutoSeq1 (wpAny_loadPart')
open PySem.MeetsSeq PySem.MeetsSeq2 PySem.MeetsSeq3
end
section
variable {prog:Program}{w:World}{A:Around}{E:VS}{s:Shared}
end
end _H
namespace _L
open PySem PySem.Spec PyProof.Rows
variable {X:Cx}
end _L
namespace _L
open PySem PySem.Spec PyProof.Rows
noncomputable def Wk(h:Heap)(c:Bool)(j t:Addr)(k:Nat):Prop:=cond c (h.IsTupleIter j t k) (h.IsListIter j t k)
noncomputable def Wq(h:Heap)(c:Bool)(t:Addr)(its:Array Value):Prop:=cond c (h.IsTuple t its) (h.IsList t its)
def Wk.out(p:Wk h c j t k):∃o,h.get? j=some o/\(∀v,o.data≠.cell v)/\∀h':Heap,h'.get? j=some o->Wk h' c j t k:=by
 cases c<;>obtain⟨o,g,r,d⟩:=p<;>exact⟨o,g,λ v z=>(by rw[d] at z;cases z),λ h' e=>⟨o,e,r,d⟩⟩
def Wq.out(p:Wq h c t its):∃o,h.get? t=some o/\∀h':Heap,h'.get? t=some o->Wq h' c t its:=by
 cases c<;>obtain⟨o,g,r⟩:=p<;>exact⟨o,g,λ h' e=>⟨o,e,r⟩⟩
def Wk.to{h h':Heap}(p:Wk h c j t k)(f:∀o,h.get? j=some o->h'.get? j=some o):Wk h' c j t k:=let ⟨o,g,_,q⟩:=p.out;q h' (f o g)
def Wq.to{h h':Heap}(p:Wq h c t its)(f:∀o,h.get? t=some o->h'.get? t=some o):Wq h' c t its:=let ⟨o,g,q⟩:=p.out;q h' (f o g)
noncomputable abbrev TuO(us:LV):Obj:={ cls:=.type "tuple",data:=.seq us.toArray }
structure Zs (S:List (Bool×Addr))(N:Nat)(f0:Value)(us:LV)(kk:Nat->Nat)(h:Heap):Prop where
 z:IsZip h (N+S.length+2) (N+S.length) (N+S.length+1) f0
 ti:h.get? (N+S.length)=some (TuO ((List.range' N S.length).map Value.ref))
 ox:h.get? (N+S.length+1)=some (TuO us)
 ul:us.length=S.length
 it:∀(i:Nat) (s:Bool×Addr),S[i]?=some s->Wk h s.1 (N+i) s.2 (kk i)
def nl{a b:Nat}(h:a<b\/b<a):a≠b:=ca
def HD{a c:Nat}(h1:a<=c)(h2:c<a+3):c=a\/c=a+1\/c=a+2:=ca
def gq{α:Type}{S:List α}{i:Nat}{s:α}(h:S[i]?=some s):i<S.length:=by
 obtain⟨q,_⟩:=bf.mp h;exact q
section
variable {pg:Program}{wd:World}{B:Around}{X0:VS}{s0:Shared}
theorem HE{R:VS}(p:Wk s0.heap c j t k)(q:Wq s0.heap c t its)(e:its[k]?=some x)
  (f:∀h',Wk h' c j t (k+1)->Heap.SameBut j s0.heap h'->R x { s0 with heap:=h' }):wpAny (model pg wd) B (Builtin.SmallTypes.nextOf (.ref j)) R X0 s0:=by
 cases c
 ·exact wpAny_nextOf_list_item p q e f
 ·exact wC p q e f
theorem HG(hh:B.handled=none)(p:Wk s0.heap c j t k)(q:Wq s0.heap c t its)(e:its[k]?=none)
  (f:∀h' z,Heap.ExtBut j s0.heap h'->(∃o,h'.get? z=some o/\o.cls=.type "StopIteration")->X0 (.ref z) { s0 with heap:=h' }):wpAny (model pg wd) B (Builtin.SmallTypes.nextOf (.ref j)) R X0 s0:=by
 cases c
 ·exact wpAny_nextOf_list_end hh p q e f
 ·exact sX hh p q e f
theorem HH{T:Addr}{Q:Unit->Shared->Prop}(hT:s0.heap.get? T=some (TuO us))(hz:us.length<=1000)
  (h:∀h':Heap,h'.get? T=some (TuO (us.set k x))->Heap.SameBut T s0.heap h'->Q () { s0 with heap:=h' }):wpAny (model pg wd) B (updateSeq T (·.setIfInBounds k x)) Q X0 s0:=by
 refine lK hT rfl (h _ ?_ (px ..)) (small (by simpa using hz)) (Nat.le_succ_of_le (small (by simpa using hz)));rw[im _ hT rfl];simp[Obj.mapSeq]
theorem xg{S:List (Bool×Addr)}{N k e:Nat}{xs:Nat->Value}{R:Option Value->Shared->Prop}(hh:B.handled=none)(hn:S≠[])(hz9:S.length<=1000)(Z:Zs S N .none us (λ _=>k) s0.heap)(lo:∀(i:Nat) (s:Bool×Addr),S[i]?=some s->s.2<N)
  (src:∀(i:Nat) (s:Bool×Addr),S[i]?=some s->∃its,Wq s0.heap s.1 s.2 its/\(i<e->its[k]?=some (xs i))/\(i=e->its[k]?=none))
  (fi:S.length<=e->∀h' us',(∀i,i<S.length->us'[i]?=some (xs i))->Zs S N (rawInt s0.heap.objs.size) us' (λ _=>k+1) h'->h'.get? s0.heap.objs.size=some (TuO us')->(∀c o,c<N\/N+S.length+2<c->s0.heap.get? c=some o->h'.get? c=some o)->R (some (.ref s0.heap.objs.size)) { s0 with heap:=h' })
  (fe:e<S.length->∀h',(∀c o,c<N\/N+S.length+2<c->s0.heap.get? c=some o->h'.get? c=some o)->R none { s0 with heap:=h' }) :
  wpAny (model pg wd) B (pyNext (.ref (N+S.length+2))) R X0 s0:=by
 have n0:0<S.length:=lR.mpr hn;obtain⟨hz,hi,ho,ul,hit⟩:=Z;have ty:s0.TypeIs (.ref (N+S.length+2)) "zip" := ⟨_,hz,rfl⟩;unfold pyNext;refine af (lG (jc (name:=Str.ofString "__next__") ty F.slot_zip_next (gb F.slot_zip_next ty F.entry_zip_next ?_ (F.args_zip_next_1 _))));show wpAny _ _ (field (.ref (N+S.length+2)) 2 >>= _) _ _ _;refine af (cU hz rfl (x:=.bool false) rfl ?_);show wpAny _ _ (field (.ref (N+S.length+2)) 3 >>= _) _ _ _;refine af (cU hz rfl (x:=.ref (N+S.length)) rfl ?_);refine af (jh hi rfl ?_);have ne:((List.range' N S.length).map Value.ref).toArray.isEmpty=false:=by simp;lia
 simp only[ne];show wpAny _ _ (Builtin.SmallTypes.ownedTupleIsFree (.ref (N+S.length+2)) >>= _) _ _ _;refine af ?_;unfold Builtin.SmallTypes.ownedTupleIsFree;refine af (cU hz rfl (x:=.none) rfl (aq ?_));simp only[eW];refine af (lJ ?_);refine af (cU hz rfl (x:=.ref (N+S.length+1)) rfl ?_);refine af (pQ hz on λ m1 zm1 sb1=>?_);refine af ?_
 refine tu _ (λ rest b s'=>b.1=none/\∃d m us',s'={ s0 with heap:=m }/\rest=((List.range' N S.length).map Value.ref).zipIdx.drop d/\d≤S.length/\d≤e/\m.objs.size=s0.heap.objs.size/\(∀i,i < d->us'[i]?=some (xs i)) /\
  Zs S N .ellipsis us' (λ i=>if i<d then k+1 else k) m/\∀c o,c<N\/N+S.length+2<c->s0.heap.get? c=some o->m.get? c=some o) _ ?_ ?_ _ _ ⟨rfl,0,m1,us,rfl,rfl,bW _,bW _,sb1.1,λ i q=>absurd q (lT _),⟨zm1,sb1.extBut _ _ (nl ca) hi,sb1.extBut _ _ (nl ca) ho,ul,λ i s q=>(hit i s q).to λ o g=>sb1.extBut _ _ (nl (by have:=gq q;lia)) g⟩,λ c o q g=>sb1.extBut _ _ (nl ca) g⟩
 ·rintro⟨x,d'⟩ rest ⟨b1,b2⟩ s' ⟨hb,d,m,us',rfl,hr,h1,h2,h3,h4,Z,out⟩;simp only at hb;subst hb
  have hd:d<S.length:=by
   have:=bE List.length hr;simp at this;lia
  rw[lU (by simpa using hd)] at hr
  injection hr with hx hr
  rw[List.getElem_zipIdx] at hx;simp at hx;obtain⟨rfl,rfl⟩:=hx;obtain⟨s,hs⟩:∃s,S[d']?=some s:=⟨S[d'],aB hd⟩;have w:Wk m s.1 (N+d') s.2 k:=by simpa using Z.it d' s hs
  obtain⟨its,q,e1,e2⟩:=src d' s hs;have q:Wq m s.1 s.2 its:=q.to λ o g=>out _ o (.inl (lo d' s hs)) g;refine af (wpAny_onRaise ?_);show wpAny _ _ (Builtin.SmallTypes.nextOf (.ref (N+d')) >>= _) _ _ _
  rcases Nat.lt_or_eq_of_le h2 with hlt|heq
  ·refine af (HE w q (e1 hlt) λ m2 pm2 sb2=>aq ?_);have om2:m2.get? (N+S.length+1)=some (TuO us'):=sb2.extBut _ _ (nl ca) Z.ox;refine af (jh om2 rfl ?_);refine af (HH om2 (by rw[Z.ul];exact hz9) λ m3 om3 sb3=>?_);refine af (nN (aq ?_));have to3:∀c o,c≠N+d'->c≠N+S.length+1->m.get? c=some o->m3.get? c=some o:=λ c o a1 a2 g=>sb3.extBut _ _ a2 (sb2.extBut _ _ a1 g);refine⟨O,d' + 1,m3,us'.set d' (xs d'),O,hr,hd,hlt,by rw[sb3.1,sb2.1];exact h3,λ i hi=>?_,⟨to3 _ _ (nl ca) (nl ca) Z.z,to3 _ _ (nl ca) (nl ca) Z.ti,om3,by rw[cW];exact Z.ul,λ i s' hs'=>?_⟩,λ c o a g=>to3 c o (nl ca) (nl ca) (out c o a g)⟩
   ·by_cases hid:i=d'
    ·subst hid;rw[hE (by rw[Z.ul];exact hd)]
    ·rw[iY (cK hid)];exact h4 i ca
   ·have li:=gq hs';by_cases hid:i=d'
    ·subst hid;rw[hs] at hs';cases hs';rw[if_pos (jd _)];exact pm2.to λ o g=>sb3.extBut _ _ (nl ca) g
    ·have:=(Z.it i s' hs').to (h':=m3) λ o g=>to3 _ o (nl ca) (nl ca) g;by_cases hl:i<d'
     ·rw[if_pos hl] at this;rw[if_pos ca];exact this
     ·rw[if_neg hl] at this;rw[if_neg ca];exact this
  ·refine af (HG hh w q (e2 heq) λ m2 e' xb he=>?_);obtain⟨oe,ge,ce⟩:=he;have zm2:IsZip m2 (N+S.length+2) (N+S.length) (N+S.length+1) .ellipsis:=xb _ _ (nl ca) Z.z;have ez:e'≠N+S.length+2:=λ q=>by subst q;rw[zm2] at ge;cases ge;simp at ce
   exact pQ zm2 on λ m3 _ sb3=>af (lF (T := "StopIteration") (b:=true) ⟨oe,sb3.extBut _ _ ez ge,ce⟩ s0p (aq (fe (heq ▸ hd) _ λ c o a g=>sb3.extBut _ _ (nl ca) (xb _ _ (nl ca) (out c o a g)))))
 ·rintro⟨b1,b2⟩ s' ⟨hb,d,m,us',rfl,hr,h1,h2,h3,h4,Z,out⟩;simp only at hb;subst hb
  have hd:d=S.length:=by
   have:=bE List.length hr;simp at this;lia
  subst hd;refine af (jh Z.ox rfl ?_);refine af (s0r ?_ (small (by simpa [Z.ul] using hz9)));have zlt:N+S.length+2<m.objs.size:=aJ Z.z;show wpAny _ _ (Builtin.SmallTypes.ownedTupleHandOut (.ref (N+S.length+2)) (.ref m.objs.size) >>= _) _ _ _;refine af ?_;unfold Builtin.SmallTypes.ownedTupleHandOut;have zm6:IsZip (m.push (TuO us')) (N+S.length+2) (N+S.length) (N+S.length+1) .ellipsis:=aI _ Z.z;refine af (pQ zm6 on λ m7 zm7 sb7=>?_);refine pQ zm7 on λ m8 zm8 sb8=>?_;have to8:∀c o,c≠N+S.length+2->m.get? c=some o->m8.get? c=some o:=λ c o a1 g=>sb8.extBut _ _ a1 (sb7.extBut _ _ a1 (aI _ g));have np8:m8.get? m.objs.size=some (TuO us'):=sb8.extBut _ _ (mR zlt) (sb7.extBut _ _ (mR zlt) (be _ rfl));have zm8:IsZip m8 (N+S.length+2) (N+S.length) (N+S.length+1) (rawInt m.objs.size):=zm8;rw[h3] at zm8 np8;refine aq ⟨_,O,aq ?_⟩;show R (some (.ref m.objs.size)) _;rw[h3]
  exact fi h2 m8 us' h4 ⟨zm8,to8 _ _ (nl ca) Z.ti,to8 _ _ (nl ca) Z.ox,Z.ul,λ i s hs=>by
   have:=(Z.it i s hs).to (h':=m8) λ o g=>to8 _ o (nl (by have:=gq hs;lia)) g
   rwa [if_pos (gq hs)] at this⟩ np8 λ c o a g=>to8 c o (nl ca) (out c o a g)
theorem HI{Q:VS}(q:Wq s0.heap c t its)
  (f:∀h':Heap,Wk h' c s0.heap.objs.size t 0->h'.objs.size=s0.heap.objs.size+1->(∀c o,s0.heap.get? c=some o->h'.get? c=some o)->Q (.ref s0.heap.objs.size) { s0 with heap:=h' }):wpAny (model pg wd) B (pyIter (.ref t)) Q X0 s0:=by
 cases c
 ·exact tj q (f _ ⟨_,be _ rfl,O,O⟩ (gc ..) λ _ _ g=>aI _ g)
 ·exact nD q (f _ ⟨_,be _ rfl,O,O⟩ (gc ..) λ _ _ g=>aI _ g)
theorem HJ(S:List (Bool × Addr))(hz9:S.length≤1000):Meets (Builtin.«zip.__new__» ⟨.type "zip" :: S.map (λ s=>Value.ref s.2),[]⟩) (λ _ R s=>(∀(i:Nat) (p:Bool × Addr),S[i]?=some p->∃its,Wq s.heap p.1 p.2 its) /\
   ∀h':Heap,Zs S s.heap.objs.size .none (S.map λ _=>.none) (λ _=>0) h'->(∀c o,s.heap.get? c=some o->h'.get? c=some o)->R (.ok (.ret (.ref (s.heap.objs.size+S.length+2)))) { s with heap:=h' }) :=
 .of_wp λ prog w A R s h=>by
  obtain⟨hp,g,dd,tk,os⟩:=s;obtain⟨hq,h⟩:=h;have q0:=sub_zip
  wp_walk using tu _ (λ rest (b:Array Value) s'=>∃d m,s'=⟨m,g,dd,tk,os⟩/\rest=(S.map (λ s=>Value.ref s.2)).drop d/\d≤S.length/\b=((List.range' hp.objs.size d).map Value.ref).toArray/\m.objs.size=hp.objs.size+d /\
   (∀(i:Nat) (p:Bool×Addr),S[i]?=some p->i<d->Wk m p.1 (hp.objs.size+i) p.2 0)/\∀c o,hp.get? c=some o->m.get? c=some o) _
  case turn=>
   rintro x rest b s ⟨d,m,rfl,hr,h1,rfl,h3,h4,h5⟩
   have hd:d<S.length:=by
    have:=bE List.length hr;simp at this;lia
   rw[lU (by simpa using hd)] at hr
   injection hr with hx hr
   rw[List.getElem_map] at hx;subst hx;have hs:S[d]?=some S[d]:=aB hd;obtain⟨its,q⟩:=hq d _ hs;refine af (eQ (HI (q.to λ o e=>h5 _ o e) λ m2 w2 z2 k2=>aq ?_));refine⟨d+1,m2,O,hr,hd,?_,by rw[z2];show m.objs.size+1=_;lia,λ i p hp hi=>?_,λ c o e=>k2 c o (h5 c o e)⟩
   ·show Array.push _ (Value.ref m.objs.size)=_;rw[h3,List.range'_concat];simp
   ·by_cases hid:i=d
    ·subst hid;rw[hs] at hp;cases hp;have w2:Wk m2 _ m.objs.size _ 0:=w2;rw[h3] at w2;exact w2
    ·exact(h4 i p hp ca).to λ o e=>k2 _ o e
  case fin=>
   rintro b s ⟨d,m,rfl,hr,h1,rfl,h3,h4,h5⟩
   have hd:d=S.length:=by
    have:=bE List.length hr;simp at this;lia
   subst hd;refine aq (af (s0r (af (s0r ?_ ?_)) ?_))
   ·wp_walk;refine⟨_,O,?_⟩;dsimp only;generalize e1:m.push _=m1;generalize e2:m1.push _=m2;have n1:m1.objs.size=hp.objs.size+S.length+1:=by rw[<- e1,gc,h3]
    have n2:m2.objs.size=hp.objs.size+S.length+2:=by rw[<- e2,gc,n1]
    rw[show List.map (λ _=>Value.none) (List.map Value.ref (List.range' hp.objs.size S.length))=S.map λ _=>Value.none by simp[List.map_const',Function.comp_def]] at e2;have k1:∀c o,m.get? c=some o->m1.get? c=some o:=λ c o g=>e1 ▸ aI _ g;have k2:∀c o,m1.get? c=some o->m2.get? c=some o:=λ c o g=>e2 ▸ aI _ g;have g1:m1.get? m.objs.size=some (TuO _):=e1 ▸ be _ rfl;have g2:m2.get? m1.objs.size=some (TuO _):=e2 ▸ be _ rfl;rw[h3] at g1;rw[n1] at g2;rw[n2,h3,n1];refine h _ ⟨?_,aI _ (k2 _ _ g1),aI _ g2,on,λ i s hs=>(h4 i s hs (gq hs)).to λ o e=>aI _ (k2 _ _ (k1 _ _ e))⟩ λ c o e=>aI _ (k2 _ _ (k1 _ _ (h5 c o e)));rw[<- n2];exact be _ rfl
   ·exact small (by simpa using hz9)
   ·exact small (by simpa using hz9)
  case h=>exact⟨0,hp,rfl,rfl,bW _,rfl,rfl,λ i _ _ q=>absurd q (lT _),λ _ _ e=>e⟩
end
noncomputable def SqB(K:FG)(b:Bool)(H:Hp)(a:Addr)(vs:List V):Prop:=if b=true then SqT K H a vs else SqL K H a vs
variable {X:Cx}
section
variable {pins:LO}{σ:St}{H:Hp}{s:Shared}
def Inv.sq(I:Inv X pins σ H s)(h:SqB X.K b H a xs):∃its:LV,Vals xs its/\Wq s.heap b a its.toArray:=by
 cases b
 ·obtain⟨its,r,p,_⟩:=I.list h;exact⟨its,r,p.isList⟩
 ·obtain⟨its,r,p,_⟩:=I.tuple h;exact⟨its,r,p⟩
def Inv.sq_inj(I:Inv X pins σ H s)(h:SqB X.K b H a xs)(h':SqB X.K b H a ys):xs=ys:=by
 cases b
 ·exact I.list_inj h h'
 ·exact I.tuple_inj h h'
end
def xh{α β:Type} [Nonempty β] {S:List α}{P:Nat->α->β->Prop}(h:∀d s,S[d]?=some s->∃u,P d s u):∃f:Nat->β,∀d s,S[d]?=some s->P d s (f d) :=
 ⟨λ d=>Classical.epsilon λ u=>∀s,S[d]?=some s->P d s u,λ d s hs=>by
  obtain⟨u,hu⟩:=h d s hs
  exact Classical.epsilon_spec (p:=λ u=>∀s,S[d]?=some s->P d s u) ⟨u,λ s' hs'=>by rw[hs] at hs';cases hs';exact hu⟩ s hs⟩
theorem xi(f:Nat->V×Value):∀l:List Nat,(∀d∈l,RelV (f d).1 (f d).2)->Vals (l.map λ d=>(f d).1) (l.map λ d=>(f d).2)
 |[],_=>.nil
 |d::l,h=>.cons (h d on) (xi f l λ e he=>h e (by simp[he]))
noncomputable def Itn(K:FG)(S:List (Bool × Addr)):It:=⟨λ i H=>∀(d:Nat) (s:Bool × Addr),S[d]?=some s->∃xs,SqB K s.1 H s.2 xs/\i < xs.length,
 λ i H v H'=>∃T vs,v=.ref T/\H T=none/\H'=upd H T (.tup vs)/\vs.length=S.length/\∀(d:Nat) (s:Bool×Addr) xs,S[d]?=some s->SqB K s.1 H s.2 xs->vs[d]?=xs[i]?,
 λ i H=>∃e,e<S.length/\∀(d:Nat) (s:Bool×Addr),S[d]?=some s->∃xs,SqB K s.1 H s.2 xs/\(d<e->i<xs.length)/\(d=e->xs.length<=i)⟩
def xj{N n c:Nat}(h:c ∉ List.range' N (n+3)):c<N\/N+n+2<c:=by rw[kg] at h;lia
theorem HK{K:FG}{S:List (Bool×Addr)}{N:Nat}(hn:S≠[])(hz:S.length<=1000)(lo:∀(i:Nat) (s:Bool×Addr),S[i]?=some s->s.2<N) :
  Turn P w K (.Tuple es x1 pp) (Itn K S) (List.range' N (S.length+3)) (N+S.length+2) (λ i h=>∃us,Zs S N .none us (λ _=>i) h) where
 mem:=by rw[kg];lia
 obj:=λ i h ⟨us,Z⟩ c hc=>by
  rw[kg] at hc
  rcases s1t c (N+S.length) with q|q
  ·have hd:c-N<S.length:=Nat.sub_lt_left_of_lt_add hc.1 q;obtain⟨o,g,d,_⟩:=(Z.it (c-N) S[c-N] (aB hd)).out;rw[Nat.add_sub_cancel' hc.1] at g;exact⟨o,g,d⟩
  ·rcases HD q hc.2 with rfl|rfl|rfl
   ·exact⟨_,Z.ti,λ v z=>nomatch z⟩
   ·exact⟨_,Z.ox,λ v z=>nomatch z⟩
   ·exact⟨_,Z.z,λ v z=>nomatch z⟩
 keep:=λ i h h' ⟨us,Z⟩ k=>by
  have k:∀c,N<=c->c<N+(S.length+3)->∀o,h.get? c=some o->h'.get? c=some o:=λ c a b=>k c (kg.mpr ⟨a,b⟩);exact⟨us,k _ ca ca _ Z.z,k _ ca ca _ Z.ti,k _ ca ca _ Z.ox,Z.ul,λ i s hs=>(Z.it i s hs).to λ o g=>k _ ca (by have:=gq hs;lia) o g⟩
 item:=by
  intro X hP hw hK hc i pins s σ H E I hf ⟨us,Z⟩ hg;subst hP hw hK
  haveI:Nonempty (V×Value):=⟨(.int 0,.none)⟩
  obtain⟨f,hf'⟩:=xh (β:=V×Value) (P:=λ d (s':Bool×Addr) p=>∃xs its,SqB X.K s'.1 H s'.2 xs/\Wq s.heap s'.1 s'.2 (List.toArray its)/\xs[i]?=some p.1/\its[i]?=some p.2/\RelV p.1 p.2) λ d s' hs=>by
   obtain⟨xs,q,l⟩:=hg d s' hs;obtain⟨its,r,p⟩:=I.sq q;obtain⟨u,hu,ru⟩:=r.get (aB l);exact⟨(xs[i],u),xs,its,q,p,aB l,hu,ru⟩
  refine xg (I.ok.hd hc) hn hz Z lo (e:=S.length) (xs:=λ d=>(f d).2) (λ d s' hs=>?_) (λ _ h' us' hu Z' np bt=>?_) λ q=>absurd q (dM _)
  ·obtain⟨xs,its,q,p,_,hu,_⟩:=hf' d s' hs;exact⟨_,p,λ _=>by simpa using hu,λ q=>absurd (gq hs) ca⟩
  have eu:us'=(List.range S.length).map λ d=>(f d).2:=by
   refine lV λ d=>?_
   rcases s1t d S.length with q|q
   ·rw[hu d q];simp[q]
   ·rw[gu (by rw[Z'.ul];exact q)];simp[q]
  have rl:Vals ((List.range S.length).map λ d=>(f d).1) us':=by
   rw[eu]
   exact xi f _ λ d hd=>by
    obtain⟨xs,its,_,_,_,_,r⟩:=hf' d _ (aB (fq.mp hd));exact r
  have I1:Inv X pins σ H { s with heap:=h' }:=I.turnedL (t':=s.toks) (fl:=List.range' N (S.length+3)) (λ c o hc e=>bt c o (xj hc) e) hf;obtain⟨f0,f1,f2,f3,f4,f5⟩:=I.fpOk (ay s.heap.objs.size) (I.hok.fresh (ay _))
  have n0:X.s₀.heap.get? s.heap.objs.size=none:=by
   cases q:X.s₀.heap.get? s.heap.objs.size with
   |none=>rfl
   |some o=>exact absurd (bM (aJ q) I.sz) (dM _)
  have I2:Inv X pins σ (upd H s.heap.objs.size (.tup ((List.range S.length).map λ d=>(f d).1))) { s with heap:=h' }:=I1.track f0 ⟨small (by simpa using hz),us',rl,⟨_,np,⟨rfl,_,rfl⟩,rfl⟩⟩ f1 f4 f5 n0;have zl:N+S.length+2<s.heap.objs.size:=aJ Z.z;have mz:N+S.length+2∈List.range' N (S.length+3):=by rw[kg];lia
  obtain⟨e0,e1,e2,e3,e4,e5⟩:=hf _ mz;refine⟨_,O,wpAny_letOwnedTupleGo_zip Z'.z λ h2 z2 sb=>?_⟩;have I3:Inv X pins σ (upd H s.heap.objs.size (.tup ((List.range S.length).map λ d=>(f d).1))) { s with heap:=h2 }:=Inv.turned (s:={ s with heap:=h' }) (h':=h2) (t':=s.toks) (it:=N+S.length+2) I2 (λ c o hc e=>sb.extBut _ _ hc e) (by rw[aG (bn zl)];exact e0) e1 e3 e4 e5;refine⟨.ref s.heap.objs.size,_,I3,O,⟨_,_,O,f0,O,on,λ d s' xs hs hq=>?_⟩,⟨us',z2,sb.extBut _ _ (nl ca) Z'.ti,sb.extBut _ _ (nl ca) Z'.ox,Z'.ul,λ i s hs=>(Z'.it i s hs).to λ o g=>sb.extBut _ _ (nl (by have:=gq hs;lia)) g⟩,λ c hc=>?_⟩
  ·obtain⟨ys,its,q,_,hy,_⟩:=hf' d s' hs;rw[I.sq_inj hq q,hy];simp[gq hs]
  ·have:=kg.mp hc;rw[aG (show c≠s.heap.objs.size from nl ca)];exact(hf c hc).1
 done:=by
  intro X hP hw hK hc i pins s σ H E I hf ⟨us,Z⟩ ⟨e,he,hg⟩;subst hP hw hK
  haveI:Nonempty Value:=⟨.none⟩
  obtain⟨f,hf'⟩:=xh (β:=Value) (P:=λ d (s':Bool×Addr) u=>∃its,Wq s.heap s'.1 s'.2 its/\(d<e->its[i]?=some u)/\(d=e->its[i]?=none)) λ d s' hs=>by
   obtain⟨xs,q,l,l'⟩:=hg d s' hs;obtain⟨its,r,p⟩:=I.sq q;have ln:=r.length;refine⟨(its[i]?).getD .none,_,p,λ q=>?_,λ q=>?_⟩
   ·have:=l q;rw[aB (show i<its.length by lia)];simp
   ·have:=l' q;simp;lia
  exact xg (I.ok.hd hc) hn hz Z lo hf' (λ q=>absurd he ca) λ _ h' bt=>⟨O,I.turnedL (t':=s.toks) (fl:=List.range' N (S.length+3)) (λ c o hc e=>bt c o (xj hc) e) hf⟩
 self:=λ _ _ _ _ _ ⟨_,Z⟩ h=>wpAny_pyIter_zip Z.z h
section
variable {es:List Expr}{x1:Nat}{pp:Pos}
noncomputable def iZn(K:FG)(n:Nat)(ta:TA):TI:=λ σ H R=>ta σ H λ vs H1=>∃S:List (Bool×Addr),S.length=n/\vs=S.map (λ s=>V.ref s.2)/\(∀(i:Nat) (s:Bool×Addr),S[i]?=some s->∃xs,SqB K s.1 H1 s.2 xs)/\R (Itn K S) H1
noncomputable def tE(n:Nat):Prop:=(0<n/\n<=1000)/\∀us:LV,us.length=n->checkTypeCall "zip" ⟨us,[]⟩=pure ()/\checkBuiltinCall "zip.__new__" ⟨.type "zip" :: us,[]⟩=pure ()/\∀ob,argsOk "object.__init__" ⟨ob::us,[]⟩
def HL:∀ {S:List (Bool×Addr)},Vals (S.map λ s=>V.ref s.2) us->us=S.map λ s=>Value.ref s.2:=by
 intro S r;generalize e:(S.map λ s=>V.ref s.2)=vs at r
 induction r generalizing S with
 |nil=>cases S with|nil=>rfl|cons=>cases e
 |cons h t ih=>
  cases S with
  |nil=>cases e
  |cons s S=>injection e with a b;subst a;rw[ih b];cases h;rfl
theorem xk{e:Expr}{rest:List Expr}{p pos:Pos}(za:tE n)(hg:Gl X "zip")(hm:X.mg "zip"=none)(ha:PA X (e::rest) ta)(he:starEach (e::rest) X.env=(false,eval e X.env)::starEach rest X.env)(hr:(backTo pos (starEach rest X.env)).any (·.1)=false) :
  PI X (.Tuple es x1 pp) (.Call (.Name "zip" p) (e::rest) [] pos) (iZn X.K n ta):=by
 intro pins s σ H R I h;have hA:=ha pos pins s σ H _ I h;refine Call_ (eN I hg hm boot_zip (hV (thn hA λ us s1 ⟨vs,H1,I1,r1,q1⟩=>?_) he hr));obtain⟨S,rfl,rfl,hS,q⟩:=q1;cases HL r1;obtain⟨⟨n0,n9⟩,za⟩:=za;obtain⟨z1,z2,z3⟩:=za _ (ao _)
 have src:∀(i:Nat) (s:Bool×Addr),S[i]?=some s->∃its,Wq s1.heap s.1 s.2 its:=λ i s hs=>by
  obtain⟨xs,q⟩:=hS i s hs;obtain⟨its,_,p⟩:=I1.sq q;exact⟨_,p⟩
 refine s1r F.called_zip fu z1 z2 z3 F.entry_zip_new (HJ S n9) ⟨src,λ h' Z kk=>⟨⟨_,Z.z,O⟩,?_⟩⟩;have I2:Inv X pins σ H1 { s1 with heap:=h' }:=I1.kept (t':=s1.toks) kk;refine wpAny_pyIter_zip Z.z ⟨_,_,_,_,H1,O,I2,HK (lR.mp n0) n9 (λ i s hs=>?_),⟨_,Z⟩,λ c hc=>?_,q⟩
 ·obtain⟨its,p⟩:=src i s hs;obtain⟨o,g,_⟩:=p.out;exact aJ g
 ·have ge:s1.heap.objs.size<=c:=(kg.mp hc).1;exact I1.fpOk ge (I1.hok.fresh ge)
def HM:tE 2:=⟨fu,λ us h=>by
 match us,h with
 |[a,b],_=>exact⟨F.typeCall_zip_2 _ _,F.newCall_zip_2 _ _,λ ob=>F.args_object_init_3 ob _ _⟩⟩
def HN:tE 3:=⟨fu,λ us h=>by
 match us,h with
 |[a,b,c],_=>exact⟨Hs _ _ _,Ht _ _ _,λ ob=>Hu ob _ _ _⟩⟩
end
inductive TV where
 |non|bl (b:Bool)|int (i:Int)|str (x:Str)|tup (l:List TV)|lst (l:List TV)|bor (l:List TV)|own (l:List TV)
abbrev Fz:=Addr->Prop
noncomputable def Ls(K:FG)(F:Fz)(H:Hp)(a:Addr)(vs:List V):Prop:=(F a/\SqL K H a vs) \/
 ∃(o:Obj) (its:Array Value) (n:Nat),K.lookup a=some o/\o.cls=.type "list" /\ o.dict=none/\o.data=.seq its n/\its.size<=sizeLine/\Vals vs its.toList
def Ls.sq{K:FG}{vs:List V}(h:Ls K F H a vs):SqL K H a vs:=h.elim (λ h=>h.2) λ h=>.inr h
def Ls.imp{K:FG}{F F':Fz}{vs:List V}(h:Ls K F H a vs)(i:F a->SqL K H a vs->F' a/\SqL K H' a vs):Ls K F' H' a vs:=h.elim (λ h=>.inl (i h.1 h.2)) .inr
mutual
def Rp(K:FG)(F:Fz)(H:Hp):TV->V->Prop
 |.non,v=>v=.non
 |.bl b,v=>v=.bl b
 |.int i,v=>v=.int i
 |.str x,v=>v=.str x
 |.tup l,v=>∃a vs,v=.ref a/\SqT K H a vs/\RpL K F H l vs
 |.lst l,v=>∃a vs,v=.ref a/\Ls K F H a vs/\RpL K F H l vs
 |.bor _,_=>False
 |.own _,_=>False
def RpL(K:FG)(F:Fz)(H:Hp):List TV->List V->Prop
 |[],vs=>vs=[]
 |t::ts,vs=>∃v r,vs=v::r/\Rp K F H t v/\RpL K F H ts r
end
structure Wd (J:Hp->Prop)(F:Fz)(H:Hp):Prop where
 j:J H
 d:∀a,F a->H a≠none
structure Grow (J:Hp->Prop)(F:Fz)(H:Hp)(F':Fz)(H':Hp):Prop where
 sm:∀a o,(∀ps,o≠.tbl ps)->H a=some o->H' a=some o
 dm:∀a,H a≠none->H' a≠none
 up:∀a,F a->F' a
 nw:∀a,F' a->F a\/H a=none
 w:Wd J F' H'
section
variable {K:FG}{J:Hp->Prop}{F F' F1 F2:Fz}{H H' H1 H2:Hp}
def Grow.refl(w:Wd J F H):Grow J F H F H:=⟨λ _ _ _ e=>e,λ _ e=>e,λ _ e=>e,λ _ e=>.inl e,w⟩
def Grow.trans(g:Grow J F H F1 H1)(k:Grow J F1 H1 F2 H2):Grow J F H F2 H2 :=
 ⟨λ a o n e=>k.sm a o n (g.sm a o n e),λ a e=>k.dm a (g.dm a e),λ a e=>k.up a (g.up a e),λ a e=>by
  rcases k.nw a e with q|q
  ·exact g.nw a q
  ·by_cases z:H a=none
   ·exact .inr z
   ·exact absurd q (g.dm a z),k.w⟩
def Rd.sm{a:Addr}{u:HO}(s:∀a o,(∀ps,o≠.tbl ps)->H a=some o->H' a=some o)(n:∀ps,u≠.tbl ps)(h:Rd H a u):Rd H' a u:=by
 rcases h with h|⟨o,h⟩
 ·exact .inl (s _ _ n h)
 ·exact .inr ⟨o,s _ _ (λ ps z=>by cases z) h⟩
def SqT.sm{a:Addr}{vs:List V}(s:∀a o,(∀ps,o≠.tbl ps)->H a=some o->H' a=some o)(h:SqT K H a vs):SqT K H' a vs:=by
 rcases h with h|h
 ·exact .inl (h.sm s λ ps z=>by cases z)
 ·exact .inr h
def SqL.sm{a:Addr}{vs:List V}(s:∀a o,(∀ps,o≠.tbl ps)->H a=some o->H' a=some o)(h:SqL K H a vs):SqL K H' a vs:=by
 rcases h with h|h
 ·exact .inl (h.sm s λ ps z=>by cases z)
 ·exact .inr h
structure Ke (K:FG)(F:Fz)(H:Hp)(F':Fz)(H':Hp):Prop where
 t:∀a vs,SqT K H a vs->SqT K H' a vs
 l:∀a vs,Ls K F H a vs->Ls K F' H' a vs
mutual
theorem Rp.ke(k:Ke K F H F' H'):∀ {t:TV}{v:V},Rp K F H t v->Rp K F' H' t v
 |.non,_,h=>h
 |.bl _,_,h=>h
 |.int _,_,h=>h
 |.str _,_,h=>h
 |.tup _,_,⟨a,vs,e,q,r⟩=>⟨a,vs,e,k.t _ _ q,RpL.ke k r⟩
 |.lst _,_,⟨a,vs,e,f,r⟩=>⟨a,vs,e,k.l _ _ f,RpL.ke k r⟩
 |.bor _,_,h=>h.elim
 |.own _,_,h=>h.elim
theorem RpL.ke(k:Ke K F H F' H'):∀ {ts:List TV}{vs:List V},RpL K F H ts vs->RpL K F' H' ts vs
 |[],_,h=>h
 |_::_,_,⟨v,r,e,h1,h2⟩=>⟨v,r,e,Rp.ke k h1,RpL.ke k h2⟩
end
def Grow.ke(g:Grow J F H F' H'):Ke K F H F' H':=⟨λ _ _ h=>h.sm g.sm,λ a _ h=>h.imp λ f h=>⟨g.up a f,h.sm g.sm⟩⟩
def Ke.up(h:∀a,F a->F' a):Ke K F H F' H:=⟨λ _ _ h=>h,λ a _ q=>q.imp λ f q=>⟨h a f,q⟩⟩
noncomputable def Rr(K:FG)(H:Hp)(F':Fz)(H':Hp):TV->V->Prop
 |.own l,v=>∃a vs,v=.ref a/\H a=none/\¬F' a/\H' a=some (.lst vs)/\RpL K F' H' l vs
 |.bor l,v=>∃a vs,v=.ref a/\¬F' a/\H' a=some (.lst vs)/\RpL K F' H' l vs
 |t,v=>Rp K F' H' t v
def Rr.of(h:Rp K F' H' t v):Rr K H F' H' t v:=by
 cases t<;>first|exact h|exact h.elim
def Rr.grow(g:Grow J F1 H1 F2 H2)(h:Rr K H F1 H1 t v):Rr K H F2 H2 t v:=by
 have nf:∀ {a vs},¬F1 a->H1 a=some (.lst vs)->¬F2 a:=λ n e z=>by
  rcases g.nw _ z with q|q
  ·exact n q
  ·rw[q] at e;cases e
 cases t with
 |own l=>obtain⟨a,vs,e,n,f,q,r⟩:=h;exact⟨a,vs,e,n,nf f q,g.sm _ _ (λ ps z=>by cases z) q,r.ke g.ke⟩
 |bor l=>obtain⟨a,vs,e,f,q,r⟩:=h;exact⟨a,vs,e,nf f q,g.sm _ _ (λ ps z=>by cases z) q,r.ke g.ke⟩
 |_=>exact Rp.ke g.ke h
def Rr.late(g:Grow J F H F1 H1)(h:Rr K H1 F2 H2 t v):Rr K H F2 H2 t v:=by
 cases t with
 |own l=>
  obtain⟨a,vs,e,n,f,q,r⟩:=h;refine⟨a,vs,e,?_,f,q,r⟩;by_cases z:H a=none
  ·exact z
  ·exact absurd n (g.dm a z)
 |_=>exact h
noncomputable abbrev RrL(K:FG)(H:Hp)(F':Fz)(H':Hp):List TV->List V->Prop:=Paired (Rr K H F' H')
def RrL.grow{vs:List V}(g:Grow J F1 H1 F2 H2)(h:RrL K H F1 H1 ts vs):RrL K H F2 H2 ts vs:=Paired.mapP h λ _ _ r=>r.grow g
theorem RpL.length:∀ {ts:List TV}{vs:List V},RpL K F H ts vs->ts.length=vs.length
 |[],_,h=>by cases h;rfl
 |_::_,_,⟨_,_,e,_,h⟩=>by rw[e,List.length_cons,List.length_cons,RpL.length h]
theorem RpL.get:∀ {ts:List TV}{vs:List V}{i:Nat}{t:TV},RpL K F H ts vs->ts[i]?=some t->∃v,vs[i]?=some v/\Rp K F H t v
 |[],_,_,_,_,e=>by simp at e
 |_::_,_,0,_,⟨v,r,e,h1,_⟩,q=>by cases q;exact⟨v,by rw[e];rfl,h1⟩
 |_::_,_,i+1,_,⟨v,r,e,_,h2⟩,q=>by
  obtain⟨w,e1,h⟩:=RpL.get (i:=i) h2 q;exact⟨w,by rw[e];exact e1,h⟩
theorem RpL.append:∀ {ts us:List TV}{vs ws:List V},RpL K F H ts vs->RpL K F H us ws->RpL K F H (ts++us) (vs++ws)
 |[],_,_,_,h,g=>by cases h;exact g
 |_::_,_,_,_,⟨v,r,e,h1,h2⟩,g=>by subst e;exact⟨v,_,rfl,h1,RpL.append h2 g⟩
theorem RpL.take:∀ {ts:List TV}{vs:List V}(n:Nat),RpL K F H ts vs->RpL K F H (ts.take n) (vs.take n)
 |_,_,0,_=>rfl
 |[],_,_+1,h=>by cases h;rfl
 |_::_,_,n+1,⟨v,r,e,h1,h2⟩=>by subst e;exact⟨v,_,rfl,h1,RpL.take n h2⟩
theorem RpL.drop:∀ {ts:List TV}{vs:List V}(n:Nat),RpL K F H ts vs->RpL K F H (ts.drop n) (vs.drop n)
 |_,_,0,h=>h
 |[],_,_+1,h=>by cases h;rfl
 |_::_,_,n+1,⟨v,r,e,h1,h2⟩=>by subst e;exact RpL.drop n h2
theorem RpL.set(h:Rp K F H t v):∀ {ts:List TV}{vs:List V}(i:Nat),RpL K F H ts vs->RpL K F H (ts.set i t) (vs.set i v)
 |[],_,_,q=>by cases q;rfl
 |_::_,_,0,⟨w,r,e,_,h2⟩=>by subst e;exact⟨v,r,rfl,h,h2⟩
 |_::_,_,i+1,⟨w,r,e,h1,h2⟩=>by subst e;exact⟨w,_,rfl,h1,RpL.set h i h2⟩
def RpL.reverse{vs:List V}(h:RpL K F H ts vs):RpL K F H ts.reverse vs.reverse:=by
 induction ts generalizing vs with
 |nil=>cases h;rfl
 |cons t r ih=>
  obtain⟨v,q,e,h1,h2⟩:=h;subst e;rw[iq,iq];exact(ih h2).append ⟨v,[],O,h1,O⟩
theorem RpL.ints:∀ {ns:LI}{vs:List V},RpL K F H (ns.map TV.int) vs->vs=ns.map V.int
 |[],_,h=>h
 |_::_,_,⟨v,r,e,h1,h2⟩=>by rw[e,RpL.ints h2,show v=_ from h1];rfl
theorem RpL.ofInts:∀(ns:LI),RpL K F H (ns.map TV.int) (ns.map V.int)
 |[]=>rfl
 |_::r=>⟨_,_,rfl,rfl,RpL.ofInts r⟩
theorem RpL.bls:∀ {ns:List Bool}{vs:List V},RpL K F H (ns.map TV.bl) vs->vs=ns.map V.bl
 |[],_,h=>h
 |_::_,_,⟨v,r,e,h1,h2⟩=>by rw[e,RpL.bls h2,show v=_ from h1];rfl
noncomputable def TV.items:TV->Option (Bool×List TV)
 |.tup l=>some (true,l)
 |.lst l=>some (false,l)
 |.bor l=>some (false,l)
 |.own l=>some (false,l)
 |_=>none
def Rr.sq{b:Bool}{l:List TV}(h:Rr K H F' H' t v)(e:t.items=some (b,l)):∃a vs,v=.ref a/\RpL K F' H' l vs/\((b=true/\SqT K H' a vs)\/(b=false/\SqL K H' a vs)):=by
 cases t<;>cases e
 ·obtain⟨a,vs,e,q,r⟩:=h;exact⟨a,vs,e,r,.inl ⟨rfl,q⟩⟩
 ·obtain⟨a,vs,e,q,r⟩:=h;exact⟨a,vs,e,r,.inr ⟨rfl,q.sq⟩⟩
 ·obtain⟨a,vs,e,_,q,r⟩:=h;exact⟨a,vs,e,r,.inr ⟨rfl,.of q⟩⟩
 ·obtain⟨a,vs,e,_,_,q,r⟩:=h;exact⟨a,vs,e,r,.inr ⟨rfl,.of q⟩⟩
structure JS (J:Hp->Prop):Prop where
 nw:∀(H:Hp) (p:Addr) (o:HO),H p=none->J H->J (upd H p o)
 mu:∀(H:Hp) (p:Addr) (vs ws:List V),H p=some (.lst vs)->J H->J (upd H p (.lst ws))
def Grow.new(hJ:JS J)(w:Wd J F H)(o:HO)(h:H p=none):Grow J F H F (upd H p o):=by
 have k:∀a x,H a=some x->upd H p o a=some x:=λ a x e=>by rw[aG (λ z=>by rw[z,h] at e;cases e)];exact e
 have d:∀a,H a≠none->upd H p o a≠none:=λ a e z=>by
  cases q:H a with
  |none=>exact e q
  |some x=>rw[k a x q] at z;cases z
 exact⟨λ a x _ e=>k a x e,d,λ _ e=>e,λ _ e=>.inl e,hJ.nw H p o h w.j,λ a f=>d a (w.d a f)⟩
def Grow.frz(g:Grow J F H F1 H1)(n:H a=none)(e:H1 a≠none):Grow J F H (λ b=>F1 b\/b=a) H1 :=
 ⟨g.sm,g.dm,λ b f=>.inl (g.up b f),λ b f=>by
  rcases f with f|rfl
  ·exact g.nw b f
  ·exact .inr n,g.w.j,λ b f=>by
  rcases f with f|rfl
  ·exact g.w.d b f
  ·exact e⟩
def TV.fz:TV->TV
 |.own l=>.lst l
 |.bor l=>.lst l
 |t=>t
def TV.nb:TV->Bool
 |.bor _=>false
 |_=>true
def Rr.frz(g:Grow J F H F1 H1)(h:Rr K H F1 H1 t v)(n:t.nb=true):∃F2,Grow J F H F2 H1/\(∀a,F1 a->F2 a)/\(∀a,F2 a->F1 a\/v=.ref a)/\Rp K F2 H1 t.fz v:=by
 cases t with
 |own l=>
  obtain⟨a,vs,e,n,f,q,r⟩:=h;refine⟨λ b=>F1 b\/b=a,g.frz n (by rw[q];simp),λ _ f=>.inl f,λ b f=>?_,a,vs,e,.inl ⟨.inr rfl,.of q⟩,r.ke (.up λ _ f=>.inl f)⟩
  rcases f with f|rfl
  ·exact .inl f
  ·exact .inr e
 |bor l=>cases n
 |_=>exact⟨F1,g,λ _ f=>f,λ _ f=>.inl f,h⟩
end
mutual
def eqT:TV->TV->Bool
 |.non,.non=>true
 |.bl a,.bl b=>a == b
 |.bl a,.int b=>(if a then 1 else 0) == b
 |.int a,.bl b=>a == (if b then 1 else 0)
 |.int a,.int b=>decide (a=b)
 |.str a,.str b=>decide (a=b)
 |.tup l,.tup m=>eqTL l m
 |.lst l,.lst m=>eqTL l m
 |_,_=>false
def eqTL:List TV->List TV->Bool
 |[],[]=>true
 |x::xs,y::ys=>eqT x y&&eqTL xs ys
 |_,_=>false
end
def pR(l m:List TV):eqT (.lst l) (.lst m)=eqTL l m:=rfl
def xn(l m:List TV):eqT (.tup l) (.tup m)=eqTL l m:=rfl
def eqTL_c(x y:TV)(xs ys:List TV):eqTL (x::xs) (y::ys)=(eqT x y&&eqTL xs ys):=rfl
noncomputable def dp:Nat->TV->Prop
 |_,.non=>True|_,.bl _=>True|_,.int _=>True|_,.str _=>True
 |n+1,.tup l=>∀x∈l,dp n x
 |n+1,.lst l=>∀x∈l,dp n x
 |_,_=>False
theorem lW:∀ {l m:List TV},l.length≠m.length->eqTL l m=false
 |[],[],h=>absurd rfl h
 |[],_::_,_=>rfl
 |_::_,[],_=>rfl
 |x::xs,y::ys,h=>by rw[eqTL_c,lW (l:=xs) (m:=ys) (λ z=>h (by rw[List.length_cons,List.length_cons,z])),pU]
theorem lX:∀ {l m:List TV},l.length=m.length->(List.range l.length).all (λ j=>eqT (l.getD j .non) (m.getD j .non))=eqTL l m
 |[],[],_=>rfl
 |x::xs,y::ys,h=>by
  rw[List.length_cons,tF,cX,List.all_map];show(eqT x y&&(List.range xs.length).all λ j=>eqT (xs.getD j .non) (ys.getD j .non))=eqTL (x::xs) (y::ys);rw[lX (l:=xs) (m:=ys) (by simpa using h),eqTL_c]
mutual
theorem eqT_self:∀ {t:TV}{n:Nat},dp n t->eqT t t=true
 |.non,_,_=>rfl
 |.bl b,_,_=>lL b
 |.int _,_,_=>cY rfl
 |.str _,_,_=>cY rfl
 |.tup l,0,h=>h.elim
 |.tup l,n+1,h=>eqTL_self (l:=l) (n:=n) h
 |.lst l,0,h=>h.elim
 |.lst l,n+1,h=>eqTL_self (l:=l) (n:=n) h
 |.bor _,0,h=>h.elim
 |.bor _,_+1,h=>h.elim
 |.own _,0,h=>h.elim
 |.own _,_+1,h=>h.elim
theorem eqTL_self:∀ {l:List TV}{n:Nat},(∀x∈l,dp n x)->eqTL l l=true
 |[],_,_=>rfl
 |x::xs,n,h=>by rw[eqTL_c,eqT_self (h x on),eqTL_self λ y hy=>h y (by simp[hy])];rfl
end
def RelV.uniq(h:RelV x u)(g:RelV y u):x=y:=by
 cases x<;>cases y<;>first
  |(cases h;cases g;rfl)
  |(obtain⟨_,rfl⟩:=h;obtain⟨_,e⟩:=g;cases e;rfl)
  |(cases h;cases g;done)
  |(cases h;obtain⟨_,e⟩:=g;cases e;done)
  |(obtain⟨_,rfl⟩:=h;cases g;done)
  |(obtain⟨_,rfl⟩:=h;obtain⟨_,e⟩:=g;cases e;done)
theorem Vals.uniq:∀ {xs ys:List V}{us:LV},Vals xs us->Vals ys us->xs=ys
 |_,_,_,.nil,.nil=>rfl
 |_,_,_,.cons r t,.cons r' t'=>by rw[r.uniq r',Vals.uniq t t']
section
variable {pins:LO}{σ:St}{H:Hp}{s:Shared}{F:Fz}
def Inv.tup_uniq(I:Inv X pins σ H s)(h:SqT X.K H a xs)(g:SqT X.K H a ys):xs=ys:=by
 obtain⟨us,r1,p1,_⟩:=I.tuple h;obtain⟨ws,r2,p2,_⟩:=I.tuple g;obtain⟨o,e,_,n,d⟩:=p1;obtain⟨o',e',_,n',d'⟩:=p2;rw[e] at e';cases e';rw[d] at d';have:us.toArray=ws.toArray:=by injection d'
 have:us=ws:=by simpa using bE Array.toList this
 subst this;exact r1.uniq r2
def Inv.lst_uniq(I:Inv X pins σ H s)(h:SqL X.K H a xs)(g:SqL X.K H a ys):xs=ys:=by
 obtain⟨us,r1,p1,_⟩:=I.list h;obtain⟨ws,r2,p2,_⟩:=I.list g;obtain⟨o,n,e,_,_,d⟩:=p1;obtain⟨o',n',e',_,_,d'⟩:=p2;rw[e] at e';cases e';rw[d] at d';have:us.toArray=ws.toArray:=by injection d'
 have:us=ws:=by simpa using bE Array.toList this
 subst this;exact r1.uniq r2
def Inv.tl(I:Inv X pins σ H s)(h:SqT X.K H a xs)(g:SqL X.K H a ys):False:=by
 obtain⟨us,r1,p1,_⟩:=I.tuple h;obtain⟨ws,r2,p2,_⟩:=I.list g;obtain⟨o,e,c,_⟩:=p1;obtain⟨o',n',e',c',_⟩:=p2;rw[e] at e';cases e';rw[c] at c';simp at c'
mutual
theorem Inv.rp_uniq(I:Inv X pins σ H s):∀ {t u:TV}{v:V},Rp X.K F H t v->Rp X.K F H u v->t=u
 |.non,u,v,h,g=>by cases h;cases u<;>first|rfl|(cases g;done)|(obtain⟨_,_,e,_⟩:=g;cases e)|exact g.elim
 |.bl _,u,v,h,g=>by cases h;cases u<;>first|(cases g;rfl)|(cases g;done)|(obtain⟨_,_,e,_⟩:=g;cases e)|exact g.elim
 |.int _,u,v,h,g=>by cases h;cases u<;>first|(cases g;rfl)|(cases g;done)|(obtain⟨_,_,e,_⟩:=g;cases e)|exact g.elim
 |.str _,u,v,h,g=>by cases h;cases u<;>first|(cases g;rfl)|(cases g;done)|(obtain⟨_,_,e,_⟩:=g;cases e)|exact g.elim
 |.tup l,u,v,⟨a,vs,e,q,r⟩,g=>by
  subst e
  cases u with
  |tup m=>
   obtain⟨b,ws,e,q',r'⟩:=g;cases e;have:=I.tup_uniq q q';subst this;rw[Inv.rpl_uniq I r r']
  |lst m=>obtain⟨b,ws,e,q',r'⟩:=g;cases e;exact(I.tl q q'.sq).elim
  |_=>first|exact g.elim|cases g
 |.lst l,u,v,⟨a,vs,e,q,r⟩,g=>by
  subst e
  cases u with
  |lst m=>
   obtain⟨b,ws,e,q',r'⟩:=g;cases e;have:=I.lst_uniq q.sq q'.sq;subst this;rw[Inv.rpl_uniq I r r']
  |tup m=>obtain⟨b,ws,e,q',r'⟩:=g;cases e;exact(I.tl q' q.sq).elim
  |_=>first|exact g.elim|cases g
 |.bor _,_,_,h,_=>h.elim
 |.own _,_,_,h,_=>h.elim
theorem Inv.rpl_uniq(I:Inv X pins σ H s):∀ {ts us:List TV}{vs:List V},RpL X.K F H ts vs->RpL X.K F H us vs->ts=us
 |[],us,_,h,g=>by
  cases h
  cases us with
  |nil=>rfl
  |cons t r=>obtain⟨_,_,e,_⟩:=g;cases e
 |t::ts,us,_,⟨v,r,e,h1,h2⟩,g=>by
  subst e
  cases us with
  |nil=>cases g
  |cons u us=>obtain⟨_,_,e,g1,g2⟩:=g;cases e;rw[Inv.rp_uniq I h1 g1,Inv.rpl_uniq I h2 g2]
end
def jn{K:FG}{vs:List V}(r:RpL K F H l vs)(q:Vals vs us){j:Nat}(h:j<us.toArray.size):∃z,Rp K F H (l.getD j .non) z/\RelV z us.toArray[j]/\l.getD j .non∈l:=by
 obtain⟨z,e,rz⟩:=GX q h;have k:j<l.length:=by rw[r.length,q.length];simpa using h
 obtain⟨v,e',rv⟩:=r.get (aB k);rw[e] at e';cases e';have ee:l.getD j .non=l[j]:=by simp[aR,aB k]
 rw[ee];exact⟨z,rv,rz,jo k⟩
def xp(I:Inv X pins σ H s){n:Nat}(ih:∀m,n=m+1->∀(A:Around) (t u:TV) (x y:V) (v w:Value),A.units+m<cLine->dp m t->Rp X.K F H t x->Rp X.K F H u y->RelV x v->RelV y w->SeqAt.EqAt A s v w (eqT t u))(A:Around)(t u:TV)(x y:V)(v w:Value)(hu:A.units+n<cLine)(d:dp n t)(h:Rp X.K F H t x)(g:Rp X.K F H u y)(rx:RelV x v)(ry:RelV y w):SeqAt.EqAt A s v w (eqT t u):=by
 have hu0:A.units<cLine:=ca;have tupI:∀ {a vs},SqT X.K H a vs->∃us:LV,Vals vs us/\s.heap.IsTuple a us.toArray:=λ q=>by obtain⟨us,r,p,_⟩:=I.tuple q;exact⟨us,r,p⟩
 have lstI:∀ {a vs},SqL X.K H a vs->∃us:LV,Vals vs us/\s.heap.IsList a us.toArray:=λ q=>by obtain⟨us,r,p,_⟩:=I.list q;exact⟨us,r,p.isList⟩
 cases t with
 |bor l=>exact h.elim
 |own l=>exact h.elim
 |tup l=>
  obtain⟨a,vs,rfl,q,r⟩:=h;cases rx;obtain⟨us,r1,p1⟩:=tupI q
  cases u with
  |bor l=>exact g.elim
  |own l=>exact g.elim
  |non=>cases g;cases ry;exact SeqAt.EqAt.tuple_none p1 hu0
  |bl b=>cases g;cases ry;exact SeqAt.EqAt.tuple_bool b p1 hu0
  |int b=>cases g;obtain⟨tk,rfl⟩:=ry;exact SeqAt.EqAt.tuple_int b tk p1 hu0
  |str b=>cases g;obtain⟨tk,rfl⟩:=ry;exact SeqAt.EqAt.tuple_str b tk p1 hu0
  |lst m=>
   obtain⟨b,ws,rfl,q',r'⟩:=g;cases ry;obtain⟨us2,r2,p2⟩:=lstI q'.sq;exact SeqAt.EqAt.tuple_list p1 p2 hu0
  |tup m=>
   obtain⟨b,ws,rfl,q',r'⟩:=g;cases ry;obtain⟨us2,r2,p2⟩:=tupI q'
   cases n with
   |zero=>exact False.elim d
   |succ n=>
    have d':∀x∈l,dp n x:=d;by_cases ab:a=b
    ·subst ab;have:=I.tup_uniq q q';subst this;have:=I.rpl_uniq r r';subst this;rw[xn,eqTL_self d'];exact sC _
    ·refine s1h ab ?_
     have z:=SeqAt.RcAt.tuples (A:=A) p1 p2 (e:=λ j=>eqT (l.getD j .non) (m.getD j .non)) hu0 (λ j k1 k2=>by
      obtain⟨z1,h1,r1',m1⟩:=jn r r1 k1;obtain⟨z2,h2,r2',_⟩:=jn r' r2 k2
      exact ih n rfl A.in1 _ _ z1 z2 _ _ (by show A.units+1+n<cLine;lia) (d' _ m1) h1 h2 r1' r2')
     have e1:us.toArray.size=l.length:=by simp[r.length,r1.length]
     have e2:us2.toArray.size=m.length:=by simp[r'.length,r2.length]
     rw[e1,e2] at z;rw[xn];by_cases c:l.length=m.length
     ·rw[<- c,s1u,lX c] at z;simpa using z
     ·rw[lW c];have c':(l.length == m.length)=false:=by simpa using c
      rw[c',pU] at z;exact z
 |lst l=>
  obtain⟨a,vs,rfl,q,r⟩:=h;cases rx;obtain⟨us,r1,p1⟩:=lstI q.sq
  cases u with
  |bor l=>exact g.elim
  |own l=>exact g.elim
  |non=>cases g;cases ry;exact SeqAt.EqAt.list_none p1 hu0
  |bl b=>cases g;cases ry;exact SeqAt.EqAt.list_bool b p1 hu0
  |int b=>cases g;obtain⟨tk,rfl⟩:=ry;exact SeqAt.EqAt.list_int b tk p1 hu0
  |str b=>cases g;obtain⟨tk,rfl⟩:=ry;exact SeqAt.EqAt.list_str b tk p1 hu0
  |tup m=>
   obtain⟨b,ws,rfl,q',r'⟩:=g;cases ry;obtain⟨us2,r2,p2⟩:=tupI q';exact SeqAt.EqAt.list_tuple p1 p2 hu0
  |lst m=>
   obtain⟨b,ws,rfl,q',r'⟩:=g;cases ry;obtain⟨us2,r2,p2⟩:=lstI q'.sq
   cases n with
   |zero=>exact False.elim d
   |succ n=>
    have d':∀x∈l,dp n x:=d;have e1:us.toArray.size=l.length:=by simp[r.length,r1.length]
    have e2:us2.toArray.size=m.length:=by simp[r'.length,r2.length]
    by_cases ab:a=b
    ·subst ab;have:=I.lst_uniq q.sq q'.sq;subst this;have:=I.rpl_uniq r r';subst this;rw[pR,eqTL_self d'];exact sC _
    ·refine s1h ab ?_;rw[pR];by_cases c:l.length=m.length
     ·have z:=SeqAt.RcAt.lists (A:=A) p1 p2 (e:=λ j=>eqT (l.getD j .non) (m.getD j .non)) (by rw[e1,e2,c]) hu0 (λ j k1 k2=>by
       obtain⟨z1,h1,r1',m1⟩:=jn r r1 k1;obtain⟨z2,h2,r2',_⟩:=jn r' r2 k2
       exact ih n rfl A.in1 _ _ z1 z2 _ _ (by show A.units+1+n<cLine;lia) (d' _ m1) h1 h2 r1' r2')
      rwa [e1,lX c] at z
     ·rw[lW c];exact SeqAt.RcAt.lists_lengths p1 p2 (by rw[e1,e2];simpa using c) hu0
 |non=>
  cases h
  cases u with
  |bor l=>exact g.elim
  |own l=>exact g.elim
  |tup m=>obtain⟨b,ws,rfl,q',_⟩:=g;cases ry;obtain⟨us2,r2,p2⟩:=tupI q';cases rx;exact SeqAt.EqAt.none_tuple p2 hu0
  |lst m=>obtain⟨b,ws,rfl,q',_⟩:=g;cases ry;obtain⟨us2,r2,p2⟩:=lstI q'.sq;cases rx;exact SeqAt.EqAt.none_list p2 hu0
  |_=>cases g;exact nh rx ry rfl rfl
 |bl k=>
  cases h
  cases u with
  |bor l=>exact g.elim
  |own l=>exact g.elim
  |tup m=>obtain⟨b,ws,rfl,q',_⟩:=g;cases ry;obtain⟨us2,r2,p2⟩:=tupI q';cases rx;exact SeqAt.EqAt.bool_tuple k p2 hu0
  |lst m=>obtain⟨b,ws,rfl,q',_⟩:=g;cases ry;obtain⟨us2,r2,p2⟩:=lstI q'.sq;cases rx;exact SeqAt.EqAt.bool_list k p2 hu0
  |_=>cases g;exact nh rx ry rfl rfl
 |int k=>
  cases h
  cases u with
  |bor l=>exact g.elim
  |own l=>exact g.elim
  |tup m=>obtain⟨b,ws,rfl,q',_⟩:=g;cases ry;obtain⟨us2,r2,p2⟩:=tupI q';obtain⟨tk,rfl⟩:=rx;exact SeqAt.EqAt.int_tuple k tk p2 hu0
  |lst m=>obtain⟨b,ws,rfl,q',_⟩:=g;cases ry;obtain⟨us2,r2,p2⟩:=lstI q'.sq;obtain⟨tk,rfl⟩:=rx;exact SeqAt.EqAt.int_list k tk p2 hu0
  |_=>cases g;exact nh rx ry rfl rfl
 |str k=>
  cases h
  cases u with
  |bor l=>exact g.elim
  |own l=>exact g.elim
  |tup m=>obtain⟨b,ws,rfl,q',_⟩:=g;cases ry;obtain⟨us2,r2,p2⟩:=tupI q';obtain⟨tk,rfl⟩:=rx;exact SeqAt.EqAt.str_tuple k tk p2 hu0
  |lst m=>obtain⟨b,ws,rfl,q',_⟩:=g;cases ry;obtain⟨us2,r2,p2⟩:=lstI q'.sq;obtain⟨tk,rfl⟩:=rx;exact SeqAt.EqAt.str_list k tk p2 hu0
  |_=>cases g;exact nh rx ry rfl rfl
def xq(I:Inv X pins σ H s)(n:Nat):∀(A:Around) (t u:TV) (x y:V) (v w:Value),A.units+n<cLine->dp n t->Rp X.K F H t x->Rp X.K F H u y->RelV x v->RelV y w->SeqAt.EqAt A s v w (eqT t u):=by
 induction n with
 |zero=>exact xp I λ m e=>nomatch e
 |succ n ih=>exact xp I λ m e=>by cases e;exact ih
end
inductive BI where
 |len|tuple|list|sum|max|min|abs|int|str|sorted|any|all|isI|isB|isT|isL|isS|maxlen|trev (b:Bool)|lrange (k:Bool)
 deriving DecidableEq
inductive IK where
 |seq|rng|rng2|rng3|zip (a b:Bool)|zip3|enum (a:Bool)|rev (a:Bool)|str
 deriving DecidableEq
inductive Cd where
 |v (i:Nat)|c (t:TV)|g (k:Nat)
 |bin (o:Operator) (a b:Cd)|neg (a:Cd)|not (a:Cd)|cmp (o:CmpOp) (a b:Cd)|cm2 (o o':CmpOp) (a b c:Cd)
 |and (a b:Cd)|or (a b:Cd)|ite (c a b:Cd)
 |nil|cons (a r:Cd)|tup (l:Cd)|lst (l:Cd)|ix (a b:Cd)|sl (a lo hi:Cd)
 |call (f:Nat) (l:Cd)|bi (f:BI) (l:Cd)|isi (f:BI) (a:Cd)|mxl (a b:Cd)|trev (k:Bool) (a:Cd)|lrng (k:Bool) (a:Cd)|idx (i:Nat) (b:Cd)|idxE (k:Bool) (a b:Cd)|dk (k:Nat) (a:Cd)
 |comp (own:List Str) (fv:List Str) (js:List Nat) (tg:List Nat) (k:IK) (it:Cd) (e:Cd)|compI (own:List Str) (fv:List Str) (js:List Nat) (tg:List Nat) (k:IK) (it:Cd) (c e:Cd)
abbrev PSp:=List TV->(TV->Prop)->Prop
abbrev En:=List (Option TV)
noncomputable def i2(t u:TV)(P:Int->Int->Prop):Prop:=match t,u with|.int i,.int j=>P i j|_,_=>False
def i1(t:TV)(P:Int->Prop):Prop:=match t with|.int i=>P i|_=>False
def b1(t:TV)(P:Bool->Prop):Prop:=match t with|.bl i=>P i|_=>False
noncomputable def l1(t:TV)(P:List TV->Prop):Prop:=match t with|.lst l=>P l|.bor l=>P l|.own l=>P l|_=>False
noncomputable def s1(t:TV)(P:List TV->Prop):Prop:=match t with|.lst l=>P l|.bor l=>P l|.own l=>P l|.tup l=>P l|_=>False
def aH(i j:Int):Int:=if 0<j then i%j else i.fmod j
def aM(i j:Int):Int:=if 0<j then i/j else i.fdiv j
noncomputable def tG(t u:TV)(K:TV->Prop):Prop:=match t,u with
 |.int i,.int j=>K (.int (i+j))
 |.tup l,.tup m=>l.length+m.length<=sizeLine/\K (.tup (l++m))
 |t,u=>l1 t λ l=>l1 u λ m=>l.length+m.length<=sizeLine/\K (.own (l++m))
noncomputable def tH(t u:TV)(K:TV->Prop):Prop:=match t,u with
 |.int i,.int j=>IntMulOk i j/\K (.int (i*j))
 |t,.int k=>(match t with|.own l=>(0<=k/\k<2 ^ 63)/\l.length*k.toNat<=sizeLine/\K (.own (List.replicate k.toNat l).flatten)|_=>False)
 |_,_=>False
noncomputable def opP:Operator->TV->TV->(TV->Prop)->Prop
 |.Add,t,u,K=>tG t u K
 |.Sub,t,u,K=>i2 t u λ i j=>K (.int (i-j))
 |.Mult,t,u,K=>tH t u K
 |.FloorDiv,t,u,K=>i2 t u λ i j=>(j≠0/\-18446744073709551616<j/\j<1606938044258990275541962092341162602522202993782792835301376)/\K (.int (aM i j))
 |.Mod,t,u,K=>i2 t u λ i j=>j≠0/\K (.int (aH i j))
 |.Pow,t,u,K=>i2 t u λ i j=>mV i j/\K (.int (i ^ j.toNat))
 |.RShift,t,u,K=>i2 t u λ i j=>0<=j/\K (.int (i/2 ^ j.toNat))
 |.BitAnd,t,u,K=>i2 t u λ i j=>K (.int (Builtin.bitAnd i j))
 |.BitOr,t,u,K=>i2 t u λ i j=>K (.int (Builtin.bitOr i j))
 |.BitXor,t,u,K=>i2 t u λ i j=>K (.int (Builtin.bitXor i j))
 |_,_,_,_=>False
noncomputable def eqC(t u:TV):Prop:=match t,u with
 |.tup l,.tup _=>dp 9 (.tup l)
 |.lst l,.lst _=>dp 9 (.lst l)
 |.int _,.int _=>True|.str _,.str _=>True|.bl _,.bl _=>True|.non,.non=>True
 |.non,.int _=>True|.int _,.non=>True|.non,.str _=>True|.str _,.non=>True|.int _,.str _=>True|.str _,.int _=>True
 |.non,.bl _=>True|.bl _,.non=>True
 |_,_=>False
noncomputable def flT:TV->Bool
 |.non=>true|.bl _=>true|.int _=>true|.str _=>true|_=>false
def inT(x:TV)(l:List TV):Bool:=l.any λ y=>eqT y x
noncomputable def gtQ(t u:TV)(K:TV->Prop):Prop:=match t,u with
 |t,u=>i2 t u λ i j=>K (.bl (decide (j<i)))
noncomputable def jp:CmpOp->TV->TV->(TV->Prop)->Prop
 |.Eq,t,u,K=>eqC t.fz u.fz/\K (.bl (eqT t.fz u.fz))
 |.NotEq,t,u,K=>eqC t.fz u.fz/\K (.bl (!eqT t.fz u.fz))
 |.Lt,t,u,K=>i2 t u λ i j=>K (.bl (decide (i<j)))
 |.LtE,t,u,K=>i2 t u λ i j=>K (.bl (decide (i<=j)))
 |.Gt,t,u,K=>gtQ t u K
 |.GtE,t,u,K=>i2 t u λ i j=>K (.bl (decide (j<=i)))
 |.In,t,u,K=>s1 u λ l=>flT t=true/\(∀x∈l,flT x=true)/\K (.bl (inT t l))
 |.NotIn,t,u,K=>s1 u λ l=>flT t=true/\(∀x∈l,flT x=true)/\K (.bl (!inT t l))
 |.Is,t,u,K=>u=.non/\K (.bl (match t with|.non=>true|_=>false))
 |.IsNot,t,u,K=>u=.non/\K (.bl (match t with|.non=>false|_=>true))
noncomputable def ai(l:List TV)(lo hi:Option Int):List TV:=(l.drop (_H.sIx l.length 0 lo)).take (_H.sIx l.length l.length hi-_H.sIx l.length 0 lo)
noncomputable def oI(t:TV)(P:Option Int->Prop):Prop:=match t with|.non=>P none|.int i=>P (some i)|_=>False
noncomputable def slK(t:TV)(a b:Option Int)(K:TV->Prop):Prop:=match t with
 |.tup l=>K (.tup (ai l a b))
 |.str x=>x.length<=4000000/\K (.str (Txt.slice x a b))
 |t=>l1 t λ l=>K (.own (ai l a b))
noncomputable def ixP(t u:TV)(K:TV->Prop):Prop:=match t with
 |.str x=>i1 u λ i=>x.length<=sizeLine/\∃c,atI x.cps.toList i=some c/\K (.str ⟨#[c]⟩)
 |t=>s1 t λ l=>i1 u λ i=>∃x,atI l i=some x/\K x
noncomputable def LF:TV->Prop
 |.tup l=>∀x∈l,LF x
 |.lst _=>False|.bor _=>False|.own _=>False
 |_=>True
noncomputable def k1(b:Bool)(t:TV)(P:List TV->Prop):Prop:=if b=true then (match t with|.tup l=>P l|_=>False) else l1 t P
noncomputable def biP:BI->List TV->(TV->Prop)->Prop
 |.len,[t],K=>(match t with|.str x=>x.length<=sizeLine/\K (.int x.length)|t=>s1 t λ l=>K (.int l.length))
 |.tuple,[t],K=>s1 t λ l=>K (.tup l)
 |.list,[t],K=>s1 t λ l=>K (.own l)
 |.sum,[t],K=>l1 t λ l=>∃ns:LI,l=ns.map .int/\K (.int ns.sum)
 |.max,[t,u],K=>i2 t u λ i j=>K (.int (if j > i then j else i))
 |.max,[t],K=>l1 t λ l=>∃ns:LI,l=ns.map .int/\0<ns.length/\∀M:Int,M∈ns->(∀z∈ns,z<=M)->K (.int M)
 |.min,[t,u],K=>i2 t u λ i j=>K (.int (if j<i then j else i))
 |.abs,[t],K=>i1 t λ i=>K (.int (if i<0 then -i else i))
 |.int,[t],K=>(match t with|.int i=>K (.int i)|.bl k=>K (.int (if k then 1 else 0))|_=>False)
 |.str,[t],K=>i1 t λ i=>i.natAbs.log2<1920/\K (.str (Str.ofString (toString i)))
 |.sorted,[t],K=>s1 t λ l=>∃ns:LI,l=ns.map .int/\ns.length<64/\∀ns':LI,ns'.Perm ns->ns'.Pairwise (·<=·)->K (.own (ns'.map .int))
 |.any,[t],K=>l1 t λ l=>∃bs:List Bool,l=bs.map .bl/\K (.bl (bs.any id))
 |.all,[t],K=>l1 t λ l=>∃bs:List Bool,l=bs.map .bl/\K (.bl (bs.all id))
 |.isI,[t],K=>(match t with|.int _=>K (.bl true)|.bl _=>K (.bl true)|.str _=>K (.bl false)|.non=>K (.bl false)|.tup _=>K (.bl false)|_=>False)
 |.isB,[t],K=>(match t with|.bl _=>K (.bl true)|.int _=>K (.bl false)|.str _=>K (.bl false)|.non=>K (.bl false)|.tup _=>K (.bl false)|_=>False)
 |.isT,[t],K=>(match t with|.tup _=>K (.bl true)|.int _=>K (.bl false)|.str _=>K (.bl false)|.non=>K (.bl false)|.bl _=>K (.bl false)|_=>False)
 |.isL,[t],K=>(match t with|.tup _=>K (.bl false)|.int _=>K (.bl false)|.str _=>K (.bl false)|.non=>K (.bl false)|.bl _=>K (.bl false)|.lst _=>K (.bl true)|.bor _=>K (.bl true)|.own _=>K (.bl true))
 |.isS,[t],K=>(match t with|.tup _=>K (.bl false)|.int _=>K (.bl false)|.str _=>K (.bl true)|.non=>K (.bl false)|.bl _=>K (.bl false)|_=>False)
 |.trev b,[t],K=>k1 b t λ l=>K (.tup l.reverse)
 |.maxlen,[t,u],K=>(match t,u with|.tup l,.tup m=>K (.tup (if l.length<m.length then m else l))|_,_=>False)
 |.lrange k,[t],K=>i1 t λ j=>(0<=j/\j<=1000)/\K (if k=true then .tup ((List.range j.toNat).map λ i=>.int (i:Nat)) else .own ((List.range j.toNat).map λ i=>.int (i:Nat)))
 |_,_,_=>False
noncomputable def z3(l m n:List TV):List TV:=List.zipWith (λ x (p:TV×TV)=>.tup [x,p.1,p.2]) l (m.zip n)
noncomputable def itP:IK->List TV->(List TV->Prop)->Prop
 |.seq,[t],K=>s1 t K
 |.rng,[t],K=>i1 t λ j=>(-(2 ^ 62)<=j/\j<2 ^ 62)/\K ((List.range j.toNat).map λ i=>.int (i:Nat))
 |.rng2,[t,u],K=>i2 t u λ i j=>(-(2 ^ 62)<=i/\i<2 ^ 62/\-(2 ^ 62)<=j/\j<2 ^ 62)/\K ((List.range (j-i).toNat).map λ k=>.int (i+(k:Nat)))
 |.rng3,[t,u,w],K=>i2 t u λ i j=>i1 w λ c=>(c≠0/\c.natAbs<1073741824/\Builtin.Range.small i j c=true)/\K ((List.range (Builtin.Range.rangeSize i j c).toNat).map λ k=>.int (i+(k:Nat)*c))
 |.zip a b,[t,u],K=>k1 a t λ l=>k1 b u λ m=>K (List.zipWith (λ x y=>.tup [x,y]) l m)
 |.zip3,[t,u,w],K=>k1 true t λ l=>k1 true u λ m=>k1 true w λ n=>(m.length=l.length/\n.length=l.length)/\K (z3 l m n)
 |.enum a,[t],K=>k1 a t λ l=>K (l.mapIdx λ i x=>.tup [.int (i:Nat),x])
 |.rev a,[t],K=>k1 a t λ l=>K l.reverse
 |.str,[t],K=>(match t with|.str x=>K (x.cps.toList.map λ c=>.str ⟨#[c]⟩)|_=>False)
 |_,_,_=>False
noncomputable def gtP(s:Option TV)(K:TV->Prop):Prop:=match s with|some (.bor _)=>False|some t=>K t|none=>False
noncomputable def dcP(s:Option TV)(P:List TV->Prop):Prop:=match s with|some (.bor l)=>P l|_=>False
def t1(t:TV)(P:Str->Prop):Prop:=match t with|.str x=>P x|_=>False
noncomputable def dlk:List TV->Str->Option TV
 |.tup [.str k,t]::r,x=>if decide (k=x)=true then some t else dlk r x
 |_,_=>none
noncomputable def idP(l:List TV)(y:TV)(K:TV->Prop):Prop:=flT y=true/\(∀z∈l,flT z=true)/\∃(j:Nat) (z:TV),l[j]?=some z/\eqT z y=true/\(∀(m:Nat) (z:TV),m<j->l[m]?=some z->eqT z y=false)/\K (.int (j:Nat))
noncomputable def rdV:Option (Option TV)->(TV->Prop)->Prop
 |some (some t),K=>K (match t with|.own l=>.bor l|t=>t)
 |_,_=>False
noncomputable def stE(ρ:En)(is:List Nat)(t:TV)(K:En->Prop):Prop:=match is with
 |[i]=>K (ρ.set i (some t))
 |[i,j]=>(match t with|.tup [x,y]=>K ((ρ.set i (some x)).set j (some y))|_=>False)
 |[i,j,k]=>(match t with|.tup [x,y,z]=>K (((ρ.set i (some x)).set j (some y)).set k (some z))|_=>False)
 |_=>False
noncomputable def cmF(b:TV->(List TV->Prop)->Prop):List TV->(List TV->Prop)->Prop
 |[],K=>K []
 |t::r,K=>b t λ y=>cmF b r λ ys=>K (y++ys)
section
variable (FT:List PSp)(GT:List TV)
mutual
def wE:Cd->En->(TV->Prop)->Prop
 |.v i,ρ,K=>rdV ρ[i]? K
 |.c t,_,K=>K t
 |.g k,_,K=>gtP GT[k]? K
 |.bin o a b,ρ,K=>wE a ρ λ x=>wE b ρ λ y=>opP o x y K
 |.neg a,ρ,K=>wE a ρ λ x=>i1 x λ i=>K (.int (-i))
 |.not a,ρ,K=>wE a ρ λ x=>b1 x λ i=>K (.bl (!i))
 |.cmp o a b,ρ,K=>wE a ρ λ x=>wE b ρ λ y=>jp o x y K
 |.cm2 o o' a b c,ρ,K=>wE a ρ λ x=>wE b ρ λ y=>jp o x y λ z=>b1 z λ k=>if k=true then wE c ρ λ w=>jp o' y w K else K (.bl false)
 |.and a b,ρ,K=>wE a ρ λ x=>b1 x λ k=>if k=true then wE b ρ K else K (.bl false)
 |.or a b,ρ,K=>wE a ρ λ x=>b1 x λ k=>if k=true then K (.bl true) else wE b ρ K
 |.ite c a b,ρ,K=>wE c ρ λ x=>b1 x λ k=>if k=true then wE a ρ K else wE b ρ K
 |.tup l,ρ,K=>wL l ρ λ ts=>ts.all TV.nb=true/\ts.length<=sizeLine/\K (.tup (ts.map .fz))
 |.lst l,ρ,K=>wL l ρ λ ts=>ts.all TV.nb=true/\ts.length<=sizeLine/\K (.own (ts.map .fz))
 |.ix a b,ρ,K=>wE a ρ λ x=>wE b ρ λ y=>ixP x y K
 |.sl a lo hi,ρ,K=>wE a ρ λ x=>wE lo ρ λ y=>oI y λ p=>wE hi ρ λ z=>oI z λ q=>slK x p q K
 |.call f l,ρ,K=>wL l ρ λ ts=>∃P,(∃S,FT[f]?=some S/\S (ts.map .fz) P)/\∀t,P t->(ts.all TV.nb=false->LF t)/\K t
 |.bi f l,ρ,K=>wL l ρ λ ts=>biP f ts K
 |.isi f a,ρ,K=>wE a ρ λ t=>biP f [t] K
 |.mxl a b,ρ,K=>wE a ρ λ t=>wE b ρ λ u=>biP .maxlen [t,u] K
 |.trev k a,ρ,K=>wE a ρ λ t=>biP (.trev k) [t] K
 |.lrng k a,ρ,K=>wE a ρ λ t=>biP (.lrange k) [t] K
 |.idx i b,ρ,K=>rdV ρ[i]? λ x=>s1 x λ l=>wE b ρ λ y=>idP l y K
 |.idxE k a b,ρ,K=>wE a ρ λ x=>k1 k x λ l=>wE b ρ λ y=>idP l y K
 |.dk k a,ρ,K=>dcP GT[k]? λ kvs=>wE a ρ λ y=>t1 y λ x=>∃t,dlk kvs x=some t/\K t
 |.comp own _ js tg k it e,ρ,K=>wL it ρ λ ts=>itP k ts λ its=>its.length<sizeLine /\
   cmF (λ t K'=>stE (List.replicate own.length none++js.map λ j=>(ρ[j]?).join) tg t λ ρ'=>wE e ρ' λ y=>(y.nb=true/\K' [y.fz])) its λ ys=>K (.own ys)
 |.compI own _ js tg k it c e,ρ,K=>wL it ρ λ ts=>itP k ts λ its=>its.length<sizeLine /\
   cmF (λ t K'=>stE (List.replicate own.length none++js.map λ j=>(ρ[j]?).join) tg t λ ρ'=>wE c ρ' λ x=>b1 x λ q=>if q=true then wE e ρ' λ y=>(y.nb=true/\K' [y.fz]) else K' []) its λ ys=>K (.own ys)
 |_,_,_=>False
def wL:Cd->En->(List TV->Prop)->Prop
 |.nil,_,K=>K []
 |.cons a r,ρ,K=>wE a ρ λ t=>wL r ρ λ ts=>K (t::ts)
 |_,_,_=>False
end
end
section
variable {K K':TV->Prop}{t u w:TV}
def lY{P P':Int->Int->Prop}(h:∀i j,P i j->P' i j)(q:i2 t u P):i2 t u P':=by
 cases t<;>cases u<;>first|exact h _ _ q|exact q.elim
def gv{P P':Int->Prop}(h:∀i,P i->P' i)(q:i1 t P):i1 t P':=by
 cases t<;>first|exact h _ q|exact q.elim
def cG{P P':Bool->Prop}(h:∀i,P i->P' i)(q:b1 t P):b1 t P':=by
 cases t<;>first|exact h _ q|exact q.elim
def nO{P P':List TV->Prop}(h:∀i,P i->P' i)(q:l1 t P):l1 t P':=by
 cases t<;>first|exact h _ q|exact q.elim
def pV{P P':List TV->Prop}(h:∀i,P i->P' i)(q:s1 t P):s1 t P':=by
 cases t<;>first|exact h _ q|exact q.elim
def gR{P P':List TV->Prop}(h:∀i,P i->P' i)(q:k1 b t P):k1 b t P':=by
 cases b
 ·exact nO h q
 ·cases t<;>first|exact h _ q|exact q.elim
def pW{P P':Option Int->Prop}(h:∀i,P i->P' i)(q:oI t P):oI t P':=by
 cases t<;>first|exact h _ q|exact q.elim
def HP(h:∀t,K t->K' t)(q:tG t u K):tG t u K':=by
 cases t<;>cases u<;>first|exact h _ q|exact iD q.1 (h _ q.2)|exact q.elim
def HQ(h:∀t,K t->K' t)(q:tH t u K):tH t u K':=by
 cases t<;>cases u<;>first|exact q.elim|exact iD q.1 (h _ q.2)|exact iD q.1 (iD q.2.1 (iD q.2.2.1 (h _ q.2.2.2)))|exact iD q.1 (iD q.2.1 (h _ q.2.2))
def HR(h:∀t,K t->K' t)(q:opP o t u K):opP o t u K':=by
 cases o<;>first
  |exact q.elim
  |exact HP h q
  |exact HQ h q
  |exact lY (λ _ _ q=>h _ q) q
  |exact lY (λ _ _ q=>⟨q.1,h _ q.2⟩) q
def HS(h:∀t,K t->K' t)(q:gtQ t u K):gtQ t u K':=by
 cases t<;>cases u<;>first|exact q.elim|exact h _ q|(obtain⟨ns,ms,a,b,q⟩:=q;exact⟨ns,ms,a,b,h _ q⟩)
def iE(h:∀t,K t->K' t)(q:jp o t u K):jp o t u K':=by
 cases o<;>first
  |exact⟨q.1,h _ q.2⟩
  |exact lY (λ _ _ q=>h _ q) q
  |exact HS h q
  |exact pV (λ _ q=>⟨q.1,q.2.1,h _ q.2.2⟩) q
def HU(h:∀t,K t->K' t)(q:slK t a b K):slK t a b K':=by
 cases t<;>first|exact h _ q|exact iD q.1 (h _ q.2)|exact q.elim
def HV(h:∀t,K t->K' t)(q:ixP t u K):ixP t u K':=by
 have a:∀l,(i1 u λ i=>∃x,atI l i=some x/\K x)->i1 u λ i=>∃x,atI l i=some x/\K' x:=λ l q=>gv (λ i ⟨c,e,q⟩=>⟨c,e,h _ q⟩) q;have b:∀x:Str,(i1 u λ i=>x.length<=sizeLine/\∃c,atI x.cps.toList i=some c/\K (.str ⟨#[c]⟩))->i1 u λ i=>x.length<=sizeLine/\∃c,atI x.cps.toList i=some c/\K' (.str ⟨#[c]⟩):=λ l q=>gv (λ i ⟨z,c,e,q⟩=>⟨z,c,e,h _ q⟩) q
 cases t with
 |str x=>exact b x q
 |tup l=>exact a l q
 |lst l=>exact a l q
 |bor l=>exact a l q
 |own l=>exact a l q
 |_=>exact q.elim
def nP(h:∀t,K t->K' t)(q:biP f ts K):biP f ts K':=by
 have sl:∀ {t:TV}{g:List TV->TV},(s1 t λ l=>K (g l))->s1 t λ l=>K' (g l):=λ q=>pV (λ _ q=>h _ q) q;have il:∀ {t:TV}{g:Int->TV},(i1 t λ l=>K (g l))->i1 t λ l=>K' (g l):=λ q=>gv (λ _ q=>h _ q) q;have i2l:∀ {t u:TV}{g:Int->Int->TV},(i2 t u λ i j=>K (g i j))->i2 t u λ i j=>K' (g i j):=λ q=>lY (λ _ _ q=>h _ q) q
 rcases ts with _|⟨t,_|⟨u,_|⟨w,r⟩⟩⟩
 ·cases f<;>exact q.elim
 ·cases f with
  |len=>cases t<;>first|exact h _ q|exact q.elim|exact iD q.1 (h _ q.2)
  |tuple=>exact sl q
  |list=>exact sl q
  |trev b=>exact gR (λ _ q=>h _ q) q
  |sum=>exact nO (λ _ ⟨ns,e,q⟩=>⟨ns,e,h _ q⟩) q
  |max=>exact nO (λ _ ⟨ns,e,l,q⟩=>⟨ns,e,l,λ M m z=>h _ (q M m z)⟩) q
  |min=>exact q.elim
  |abs=>exact il q
  |int=>cases t<;>first|exact h _ q|exact q.elim
  |str=>exact gv (λ _ ⟨a,q⟩=>⟨a,h _ q⟩) q
  |sorted=>exact pV (λ _ ⟨ns,e,l,q⟩=>⟨ns,e,l,λ M m z=>h _ (q M m z)⟩) q
  |any=>exact nO (λ _ ⟨ns,e,q⟩=>⟨ns,e,h _ q⟩) q
  |all=>exact nO (λ _ ⟨ns,e,q⟩=>⟨ns,e,h _ q⟩) q
  |isI=>cases t<;>first|exact h _ q|exact q.elim
  |isB=>cases t<;>first|exact h _ q|exact q.elim
  |isT=>cases t<;>first|exact h _ q|exact q.elim
  |isL=>cases t<;>first|exact h _ q|exact q.elim
  |isS=>cases t<;>first|exact h _ q|exact q.elim
  |lrange k=>exact gv (λ _ ⟨a,q⟩=>⟨a,h _ q⟩) q
  |maxlen=>exact q.elim
 ·cases f with
  |max=>exact i2l q
  |min=>exact i2l q
  |maxlen=>cases t<;>cases u<;>first|exact h _ q|exact q.elim
  |_=>exact q.elim
 ·cases f<;>exact q.elim
def jq{K K':List TV->Prop}(h:∀t,K t->K' t)(q:itP k ts K):itP k ts K':=by
 rcases ts with _|⟨t,_|⟨u,_|⟨w,_|⟨y,r⟩⟩⟩⟩
 ·cases k<;>exact q.elim
 ·cases k with
  |seq=>exact pV h q
  |rng=>exact gv (λ _ ⟨a,q⟩=>⟨a,h _ q⟩) q
  |enum a=>exact gR (λ _ q=>h _ q) q
  |rev a=>exact gR (λ _ q=>h _ q) q
  |str=>cases t<;>first|exact h _ q|exact q.elim
  |_=>exact q.elim
 ·cases k with
  |rng2=>exact lY (λ _ _ ⟨a,q⟩=>⟨a,h _ q⟩) q
  |zip a b=>exact gR (λ _ q=>gR (λ _ q=>h _ q) q) q
  |_=>exact q.elim
 ·cases k with
  |rng3=>exact lY (λ _ _ q=>gv (λ _ ⟨a,q⟩=>⟨a,h _ q⟩) q) q
  |zip3=>exact gR (λ _ q=>gR (λ _ q=>gR (λ _ ⟨a,q⟩=>⟨a,h _ q⟩) q) q) q
  |_=>exact q.elim
 ·cases k<;>exact q.elim
def HW(h:∀t,K t->K' t)(q:gtP s K):gtP s K':=by
 cases s with
 |none=>exact q
 |some t=>cases t<;>first|exact h _ q|exact q.elim
def xr(q:dcP s P):∃l,s=some (.bor l)/\P l:=by
 cases s with
 |none=>exact q.elim
 |some t=>cases t<;>first|exact⟨_,rfl,q⟩|exact q.elim
def HX{P P':List TV->Prop}(h:∀l,P l->P' l)(q:dcP s P):dcP s P':=by
 obtain⟨l,e,p⟩:=xr q;subst e;exact h l p
def xt(q:t1 t P):∃x,t=.str x/\P x:=by cases t<;>first|exact⟨_,rfl,q⟩|exact q.elim
def HY{P P':Str->Prop}(h:∀x,P x->P' x)(q:t1 t P):t1 t P':=by
 obtain⟨x,e,p⟩:=xt q;subst e;exact h x p
def HZ{P P':List TV->Prop}(h:∀x,P x->P' x)(q:s1 t P):s1 t P':=by cases t<;>first|exact h _ q|exact q.elim
def xw(h:∀t,K t->K' t)(q:rdV s K):rdV s K':=by
 rcases s with _|_|t
 ·exact q
 ·exact q
 ·exact h _ q
def gx{K K':En->Prop}(h:∀t,K t->K' t)(q:stE ρ is t K):stE ρ is t K':=by
 rcases is with _|⟨i,_|⟨j,_|⟨k,_|⟨l,r⟩⟩⟩⟩
 ·exact q.elim
 ·exact h _ q
 ·cases t with
  |tup l=>rcases l with _|⟨x,_|⟨y,_|⟨z,r⟩⟩⟩<;>first|exact h _ q|exact q.elim
  |_=>exact q.elim
 ·cases t with
  |tup l=>rcases l with _|⟨x,_|⟨y,_|⟨z,_|⟨w,r⟩⟩⟩⟩<;>first|exact h _ q|exact q.elim
  |_=>exact q.elim
 ·exact q.elim
theorem pX{b b':TV->(List TV->Prop)->Prop}(hb:∀t K K',(∀y,K y->K' y)->b t K->b' t K'):∀ {l:List TV}{K K':List TV->Prop},(∀y,K y->K' y)->cmF b l K->cmF b' l K'
 |[],_,_,h,q=>h _ q
 |_::_,_,_,h,q=>hb _ _ _ (λ y q=>pX hb (λ ys q=>h _ q) q) q
variable {FT:List PSp}{GT:List TV}
structure Mo (FT:List PSp)(GT:List TV)(c:Cd):Prop where
 e:∀ {ρ:En}{K K':TV->Prop},(∀t,K t->K' t)->wE FT GT c ρ K->wE FT GT c ρ K'
 l:∀ {ρ:En}{K K':List TV->Prop},(∀t,K t->K' t)->wL FT GT c ρ K->wL FT GT c ρ K'
def jr{k:Bool}{A A' B B':Prop}(ha:A->A')(hb:B->B')(q:if k=true then A else B):if k=true then A' else B':=by
 cases k
 ·exact hb q
 ·exact ha q
def mo(FT:List PSp)(GT:List TV):∀c,Mo FT GT c:=λ c=>by
 induction c with
 |v i=>exact⟨λ h q=>xw h q,λ _ q=>q.elim⟩
 |c t=>exact⟨λ h q=>h _ q,λ _ q=>q.elim⟩
 |g k=>exact⟨λ h q=>HW h q,λ _ q=>q.elim⟩
 |bin o a b ia ib=>exact⟨λ h q=>ia.e (λ x q=>ib.e (λ y q=>HR h q) q) q,λ _ q=>q.elim⟩
 |neg a ia=>exact⟨λ h q=>ia.e (λ x q=>gv (λ _ q=>h _ q) q) q,λ _ q=>q.elim⟩
 |not a ia=>exact⟨λ h q=>ia.e (λ x q=>cG (λ _ q=>h _ q) q) q,λ _ q=>q.elim⟩
 |cmp o a b ia ib=>exact⟨λ h q=>ia.e (λ x q=>ib.e (λ y q=>iE h q) q) q,λ _ q=>q.elim⟩
 |cm2 o o' a b c ia ib ic=>exact⟨λ h q=>ia.e (λ x q=>ib.e (λ y q=>iE (λ z q=>cG (λ k q=>jr (λ q=>ic.e (λ w q=>iE h q) q) (λ q=>h _ q) q) q) q) q) q,λ _ q=>q.elim⟩
 |and a b ia ib=>exact⟨λ h q=>ia.e (λ x q=>cG (λ k q=>jr (λ q=>ib.e h q) (λ q=>h _ q) q) q) q,λ _ q=>q.elim⟩
 |or a b ia ib=>exact⟨λ h q=>ia.e (λ x q=>cG (λ k q=>jr (λ q=>h _ q) (λ q=>ib.e h q) q) q) q,λ _ q=>q.elim⟩
 |ite c a b ic ia ib=>exact⟨λ h q=>ic.e (λ x q=>cG (λ k q=>jr (λ q=>ia.e h q) (λ q=>ib.e h q) q) q) q,λ _ q=>q.elim⟩
 |nil=>exact⟨λ _ q=>q.elim,λ h q=>h _ q⟩
 |cons a r ia ir=>exact⟨λ _ q=>q.elim,λ h q=>ia.e (λ t q=>ir.l (λ ts q=>h _ q) q) q⟩
 |tup l il=>exact⟨λ h q=>il.l (λ ts ⟨a,b,q⟩=>⟨a,b,h _ q⟩) q,λ _ q=>q.elim⟩
 |lst l il=>exact⟨λ h q=>il.l (λ ts ⟨a,b,q⟩=>⟨a,b,h _ q⟩) q,λ _ q=>q.elim⟩
 |ix a b ia ib=>exact⟨λ h q=>ia.e (λ x q=>ib.e (λ y q=>HV h q) q) q,λ _ q=>q.elim⟩
 |sl a lo hi ia il ih=>exact⟨λ h q=>ia.e (λ x q=>il.e (λ y q=>pW (λ p q=>ih.e (λ z q=>pW (λ r q=>HU h q) q) q) q) q) q,λ _ q=>q.elim⟩
 |call f l il=>exact⟨λ h q=>il.l (λ ts q=>let ⟨P,s,q⟩:=q;⟨P,s,λ t p=>⟨(q t p).1,h _ (q t p).2⟩⟩) q,λ _ q=>q.elim⟩
 |bi f l il=>exact⟨λ h q=>il.l (λ ts q=>nP h q) q,λ _ q=>q.elim⟩
 |isi f a ia=>exact⟨λ h q=>ia.e (λ t q=>nP h q) q,λ _ q=>q.elim⟩
 |mxl a b ia ib=>exact⟨λ h q=>ia.e (λ t q=>ib.e (λ u q=>nP h q) q) q,λ _ q=>q.elim⟩
 |trev k a ia=>exact⟨λ h q=>ia.e (λ t q=>nP h q) q,λ _ q=>q.elim⟩
 |idx i b ib=>exact⟨λ h q=>xw (λ x q=>HZ (λ l q=>ib.e (λ y ⟨a,b,j,z,e,f,g,q⟩=>⟨a,b,j,z,e,f,g,h _ q⟩) q) q) q,λ _ q=>q.elim⟩
 |idxE k a b ia ib=>exact⟨λ h q=>ia.e (λ x q=>gR (λ l q=>ib.e (λ y ⟨a,b,j,z,e,f,g,q⟩=>⟨a,b,j,z,e,f,g,h _ q⟩) q) q) q,λ _ q=>q.elim⟩
 |dk k a ia=>exact⟨λ h q=>HX (λ kvs q=>ia.e (λ y q=>HY (λ x ⟨t,e,q⟩=>⟨t,e,h _ q⟩) q) q) q,λ _ q=>q.elim⟩
 |lrng k a ia=>exact⟨λ h q=>ia.e (λ t q=>nP h q) q,λ _ q=>q.elim⟩
 |comp own fv js tg k it e ii ie=>exact⟨λ h q=>ii.l (λ ts q=>jq (λ its q=>⟨q.1,pX (λ t K K' h q=>gx (λ ρ' q=>ie.e (λ y q=>⟨q.1,h _ q.2⟩) q) q) (λ ys q=>h _ q) q.2⟩) q) q,λ _ q=>q.elim⟩
 |compI own fv js tg k it c e ii ic ie=>exact⟨λ h q=>ii.l (λ ts q=>jq (λ its q=>⟨q.1,pX (λ t K K' h q=>gx (λ ρ' q=>ic.e (λ x q=>cG (λ z q=>jr (λ q=>ie.e (λ y q=>⟨q.1,h _ q.2⟩) q) (λ q=>h _ q) q) q) q) q) (λ ys q=>h _ q) q.2⟩) q) q,λ _ q=>q.elim⟩
def av(c:Cd){K K':TV->Prop}(h:∀t,K t->K' t)(q:wE FT GT c ρ K):wE FT GT c ρ K':=(mo FT GT c).e h q
def cN(c:Cd){K K':List TV->Prop}(h:∀t,K t->K' t)(q:wL FT GT c ρ K):wL FT GT c ρ K':=(mo FT GT c).l h q
end
example (FT:List PSp) (GT:List TV) (K:TV->Prop):wE FT GT (.neg (.v 0)) [some (.int 3)] K=K (.int (-3)):=rfl
section
variable {J:Hp->Prop}
noncomputable def r2(X:Cx)(J:Hp->Prop)(p:TV->TV->(TV->Prop)->Prop):R2:=λ x y H1 Q=>∃F H F1 t u,Grow J F H F1 H1/\Rr X.K H F1 H1 t x/\Rr X.K H F1 H1 u y/\p t u λ r=>∀F' H' v,Grow J F H F' H'->Rr X.K H F' H' r v->Q v H'
def fb(h:i2 t u P):∃i j,t=.int i/\u=.int j/\P i j:=by
 cases t<;>cases u<;>first|exact⟨_,_,rfl,rfl,h⟩|exact h.elim
def iF(h:i1 t P):∃i,t=.int i/\P i:=by
 cases t<;>first|exact⟨_,rfl,h⟩|exact h.elim
def jt(h:b1 t P):∃i,t=.bl i/\P i:=by
 cases t<;>first|exact⟨_,rfl,h⟩|exact h.elim
def ju(h:l1 t P):∃l,t.items=some (false,l)/\P l:=by
 cases t<;>first|exact⟨_,rfl,h⟩|exact h.elim
def lZ(h:s1 t P):∃b l,t.items=some (b,l)/\P l:=by
 cases t<;>first|exact⟨_,_,rfl,h⟩|exact h.elim
def Rr.lq{K:FG}{l:List TV}(h:Rr K H F' H' t v)(e:t.items=some (false,l)):∃a vs,v=.ref a/\RpL K F' H' l vs/\SqL K H' a vs:=by
 obtain⟨a,vs,e,r,q⟩:=h.sq e
 rcases q with ⟨z,_⟩|⟨_,q⟩
 ·cases z
 ·exact⟨a,vs,e,r,q⟩
def ma(hJ:JS J){K:FG}{Q:VK}{vs:List V}(g:Grow J F H F1 H1)(r:RpL K F1 H1 l vs)(q:∀F' H' v,Grow J F H F' H'->Rr K H F' H' (.tup l) v->Q v H')(p:Addr)(hp:H1 p=none):Q (.ref p) (upd H1 p (.tup vs)) :=
 q F1 _ _ (g.trans (.new hJ g.w _ hp)) ⟨p,vs,rfl,.of cJ,r.ke (Grow.new hJ g.w _ hp).ke⟩
def Grow.none(g:Grow J F H F1 H1)(h:H1 a=none):H a=none:=by
 by_cases z:H a=Option.none
 ·exact z
 ·exact absurd h (g.dm a z)
def gz(hJ:JS J){K:FG}{Q:VK}{vs:List V}(g:Grow J F H F1 H1)(r:RpL K F1 H1 l vs)(q:∀F' H' v,Grow J F H F' H'->Rr K H F' H' (.own l) v->Q v H')(p:Addr)(hp:H1 p=none):Q (.ref p) (upd H1 p (.lst vs)) :=
 q F1 _ _ (g.trans (.new hJ g.w _ hp)) ⟨p,vs,rfl,g.none hp,λ z=>g.w.d p z hp,cJ,r.ke (Grow.new hJ g.w _ hp).ke⟩
def Ia(hJ:JS J)(o:Operator):OpR X (binaryOp o) (r2 X J (opP o)):=by
 intro pins s σ H1 x y v u Q I rx ry h;obtain⟨F,H,F1,t,w,g,rt,rw',p⟩:=h
 cases o with
 |Add=>
  cases t with
  |int i=>
   cases rt
   cases w with
   |int j=>cases rw';exact DQ pins s σ H1 _ _ v u Q I rx ry (p F1 H1 _ g rfl)
   |_=>exact p.elim
  |tup l=>
   cases w with
   |tup m=>
    obtain⟨a,vs,rfl,q1,r1⟩:=rt;obtain⟨b,ws,rfl,q2,r2⟩:=rw';obtain⟨lz,p⟩:=p;have rr:=r1.append r2;refine FY pins s σ H1 _ _ v u Q I rx ry ⟨a,b,vs,ws,O,O,q1,q2,by rw[<- r1.length,<- r2.length];exact lz,λ e=>?_,λ _ e=>?_,λ _ _=>ma hJ g rr p⟩
    ·subst e;exact p F1 H1 _ g ⟨b,_,rfl,q2,rr⟩
    ·subst e;rw[fG] at rr;exact p F1 H1 _ g ⟨a,_,rfl,q1,rr⟩
   |_=>exact p.elim
  |lst l=>
   obtain⟨m,em,lz,p⟩:=ju p;obtain⟨a,vs,rfl,r1,q1⟩:=rt.lq rfl;obtain⟨b,ws,rfl,r2,q2⟩:=rw'.lq em;exact sZ pins s σ H1 _ _ v u Q I rx ry ⟨a,b,vs,ws,O,O,q1,q2,by rw[<- r1.length,<- r2.length];exact lz,gz hJ g (r1.append r2) p⟩
  |bor l=>
   obtain⟨m,em,lz,p⟩:=ju p;obtain⟨a,vs,rfl,r1,q1⟩:=rt.lq rfl;obtain⟨b,ws,rfl,r2,q2⟩:=rw'.lq em;exact sZ pins s σ H1 _ _ v u Q I rx ry ⟨a,b,vs,ws,O,O,q1,q2,by rw[<- r1.length,<- r2.length];exact lz,gz hJ g (r1.append r2) p⟩
  |own l=>
   obtain⟨m,em,lz,p⟩:=ju p;obtain⟨a,vs,rfl,r1,q1⟩:=rt.lq rfl;obtain⟨b,ws,rfl,r2,q2⟩:=rw'.lq em;exact sZ pins s σ H1 _ _ v u Q I rx ry ⟨a,b,vs,ws,O,O,q1,q2,by rw[<- r1.length,<- r2.length];exact lz,gz hJ g (r1.append r2) p⟩
  |_=>exact p.elim
 |Sub=>
  obtain⟨i,j,rfl,rfl,p⟩:=fb p;cases rt;cases rw';exact DS pins s σ H1 _ _ v u Q I rx ry (p F1 H1 _ g rfl)
 |Mult=>
  cases t with
  |int i=>
   cases rt
   cases w with
   |int j=>cases rw';exact GH pins s σ H1 _ _ v u Q I rx ry ⟨p.1,p.2 F1 H1 _ g rfl⟩
   |_=>exact p.elim
  |own l=>
   cases w with
   |int k=>
    cases rw';obtain⟨a,vs,rfl,n,f,q,r⟩:=rt;obtain⟨k0,lz,p⟩:=p
    have rr:RpL X.K F1 H1 (List.replicate k.toNat l).flatten (List.replicate k.toNat vs).flatten:=by
     generalize k.toNat=m
     induction m with
     |zero=>rfl
     |succ m ih=>rw[jV,jV,lD,lD];exact r.append ih
    exact Fl pins s σ H1 _ _ v u Q I rx ry ⟨a,k,vs,O,O,q,ca,k0.2,by rw[<- r.length];exact lz,gz hJ g rr p⟩
   |_=>exact p.elim
  |_=>cases w<;>exact p.elim
 |FloorDiv=>
  obtain⟨i,j,rfl,rfl,⟨c1,c2,c3⟩,p⟩:=fb p;cases rt;cases rw';by_cases c:0<j
  ·rw[show aM i j=i/j by unfold aM;rw[if_pos c]] at p;exact Go pins s σ H1 _ _ v u Q I rx ry ⟨⟨c,c3⟩,p F1 H1 _ g rfl⟩
  ·rw[show aM i j=i.fdiv j by unfold aM;rw[if_neg c]] at p;exact FB pins s σ H1 _ _ v u Q I rx ry ⟨⟨c1,c2,ca⟩,p F1 H1 _ g rfl⟩
 |Mod=>
  obtain⟨i,j,rfl,rfl,c1,p⟩:=fb p;cases rt;cases rw';by_cases c:0<j
  ·rw[show aH i j=i%j by unfold aH;rw[if_pos c]] at p;exact DT pins s σ H1 _ _ v u Q I rx ry ⟨c,p F1 H1 _ g rfl⟩
  ·rw[show aH i j=i.fmod j by unfold aH;rw[if_neg c]] at p;exact DU pins s σ H1 _ _ v u Q I rx ry ⟨c1,p F1 H1 _ g rfl⟩
 |Pow=>
  obtain⟨i,j,rfl,rfl,c1,p⟩:=fb p;cases rt;cases rw';exact DV pins s σ H1 _ _ v u Q I rx ry ⟨c1,p F1 H1 _ g rfl⟩
 |RShift=>
  obtain⟨i,j,rfl,rfl,c1,p⟩:=fb p;cases rt;cases rw';exact DW pins s σ H1 _ _ v u Q I rx ry ⟨c1,p F1 H1 _ g rfl⟩
 |BitAnd=>
  obtain⟨i,j,rfl,rfl,p⟩:=fb p;cases rt;cases rw';exact DX pins s σ H1 _ _ v u Q I rx ry (p F1 H1 _ g rfl)
 |BitOr=>
  obtain⟨i,j,rfl,rfl,p⟩:=fb p;cases rt;cases rw';exact DY pins s σ H1 _ _ v u Q I rx ry (p F1 H1 _ g rfl)
 |BitXor=>
  obtain⟨i,j,rfl,rfl,p⟩:=fb p;cases rt;cases rw';exact DZ pins s σ H1 _ _ v u Q I rx ry (p F1 H1 _ g rfl)
 |_=>exact p.elim
end
section
variable {J:Hp->Prop}{pins:LO}{σ:St}{H H1:Hp}{s:Shared}{F F1:Fz}
def FA:Fz:=λ _=>True
def Rr.top{K:FG}(h:Rr K H F1 H1 t v):Rp K FA H1 t.fz v:=by
 have k:Ke K F1 H1 FA H1:=.up λ _ _=>trivial
 cases t with
 |own l=>obtain⟨a,vs,e,_,_,q,r⟩:=h;exact⟨a,vs,e,.inl ⟨trivial,.of q⟩,r.ke k⟩
 |bor l=>obtain⟨a,vs,e,_,q,r⟩:=h;exact⟨a,vs,e,.inl ⟨trivial,.of q⟩,r.ke k⟩
 |_=>exact Rp.ke k h
def pY{K:FG}(h:Rp K F H t v)(f:flT t=true):cM v=true:=by
 cases t<;>first|(cases h;rfl)|(cases f)
def tJ{K:FG}(h:Rp K F H t v)(g:Rp K F H u w)(f:flT t=true)(f':flT u=true):eqV v w=eqT t u:=by
 cases t<;>cases u<;>first|(cases h;cases g;rfl)|(cases f;done)|(cases f';done)
theorem pZ{K:FG}:∀ {l:List TV}{vs:List V},RpL K F H l vs->(∀x∈l,flT x=true)->vs.all cM=true
 |[],_,h,_=>by cases h;rfl
 |t::ts,_,⟨v,r,e,h1,h2⟩,f=>by subst e;rw[cX,pY h1 (f t on),pZ h2 λ x hx=>f x (by simp[hx])];rfl
theorem tK{K:FG}(ht:Rp K F H t v)(f:flT t=true):∀ {l:List TV}{vs:List V},RpL K F H l vs->(∀x∈l,flT x=true)->inV v vs=inT t l
 |[],_,h,_=>by cases h;rfl
 |u::ts,_,⟨w,r,e,h1,h2⟩,g=>by
  subst e;have ih:=tK ht f h2 λ x hx=>g x (by simp[hx]);unfold inV inT at *;rw[nq,nq,ih,tJ h1 ht (g u on) f]
theorem xx(I:Inv X pins σ H s){A:Around}{vs ws:List V}(hu:A.units+9<cLine)(d:dp 9 (.tup l))(q:SqT X.K H a vs)(r:RpL X.K F H l vs)(q':SqT X.K H b ws)(r':RpL X.K F H m ws) :
  ∃(us us2:LV),s.heap.IsTuple a us.toArray/\s.heap.IsTuple b us2.toArray/\(∀j (h1:j<us.toArray.size) (h2:j<us2.toArray.size),SeqAt.EqAt A.in1 s us.toArray[j] us2.toArray[j] (eqT (l.getD j .non) (m.getD j .non))) /\
   ((List.range (min us.toArray.size us2.toArray.size)).all (λ j=>eqT (l.getD j .non) (m.getD j .non))&&us.toArray.size == us2.toArray.size)=eqTL l m:=by
 obtain⟨us,r1,p1,_⟩:=I.tuple q;obtain⟨us2,r2,p2,_⟩:=I.tuple q';have d':∀x∈l,dp 8 x:=d;refine⟨us,us2,p1,p2,λ j k1 k2=>?_,?_⟩
 ·obtain⟨z1,h1,r1',m1⟩:=jn r r1 k1;obtain⟨z2,h2,r2',_⟩:=jn r' r2 k2;exact xq I 8 A.in1 _ _ z1 z2 _ _ (by show A.units+1+8<cLine;lia) (d' _ m1) h1 h2 r1' r2'
 ·have e1:us.toArray.size=l.length:=by simp[r.length,r1.length]
  have e2:us2.toArray.size=m.length:=by simp[r'.length,r2.length]
  rw[e1,e2];by_cases c:l.length=m.length
  ·rw[<- c,s1u,lX c];simp
  ·rw[lW c];have c':(l.length == m.length)=false:=by simpa using c
   rw[c',pU]
theorem xy(I:Inv X pins σ H s){A:Around}{vs ws:List V}(hu:A.units+9<cLine)(d:dp 9 (.lst l))(q:SqL X.K H a vs)(r:RpL X.K F H l vs)(q':SqL X.K H b ws)(r':RpL X.K F H m ws) :
  ∃(us us2:LV),s.heap.IsList a us.toArray/\s.heap.IsList b us2.toArray/\(∀j (h1:j<us.toArray.size) (h2:j<us2.toArray.size),SeqAt.EqAt A.in1 s us.toArray[j] us2.toArray[j] (eqT (l.getD j .non) (m.getD j .non)))/\us.toArray.size=l.length/\us2.toArray.size=m.length:=by
 obtain⟨us,r1,p1,_⟩:=I.list q;obtain⟨us2,r2,p2,_⟩:=I.list q';have d':∀x∈l,dp 8 x:=d;refine⟨us,us2,p1.isList,p2.isList,λ j k1 k2=>?_,by simp[r.length,r1.length],by simp[r'.length,r2.length]⟩;obtain⟨z1,h1,r1',m1⟩:=jn r r1 k1;obtain⟨z2,h2,r2',_⟩:=jn r' r2 k2;exact xq I 8 A.in1 _ _ z1 z2 _ _ (by show A.units+1+8<cLine;lia) (d' _ m1) h1 h2 r1' r2'
noncomputable def r2c(X:Cx)(J:Hp->Prop)(p:TV->TV->(TV->Prop)->Prop):R2:=λ x y H1 Q=>∃F H F1 t u,Grow J F H F1 H1/\Rr X.K H F1 H1 t x/\Rr X.K H F1 H1 u y/\p t u λ r=>∀v,Rr X.K H F1 H1 r v->Q v H1
def Ib(hu:X.A.units+20<cLine):OpR X (compareOp .Eq) (r2c X J (jp .Eq)):=by
 intro pins s σ H1 x y v u Q I rx ry h;obtain⟨F,H,F1,t,w,g,rt,rw',c,p⟩:=h;replace p:=p _ rfl;have ht:=rt.top;have hw:=rw'.top;generalize t.fz=t at *;generalize w.fz=w at *;clear rt rw';have fin:EP X pins σ Q (.bool (eqT t w)) s:=⟨.bl _,H1,I,rfl,p⟩
 cases t with
 |tup l=>
  cases w with
  |tup m=>
   obtain⟨a,vs,rfl,q,r⟩:=ht;obtain⟨b,ws,rfl,q',r'⟩:=hw;cases rx;cases ry;obtain⟨us,us2,p1,p2,e,z⟩:=xx I (A:=X.A) ca c q r q' r';exact SeqAt.eq_tupleAt p1 p2 ca e (by rw[z];exact fin)
  |_=>exact c.elim
 |lst l=>
  cases w with
  |lst m=>
   obtain⟨a,vs,rfl,q,r⟩:=ht;obtain⟨b,ws,rfl,q',r'⟩:=hw;cases rx;cases ry;obtain⟨us,us2,p1,p2,e,e1,e2⟩:=xy I (A:=X.A) ca c q.sq r q'.sq r';by_cases k:l.length=m.length
   ·exact SeqAt.eq_listAt p1 p2 (by rw[e1,e2,k]) ca e (by rw[e1,lX k];exact fin)
   ·refine SeqAt.eq_list_lengthsAt p1 p2 (by rw[e1,e2];simpa using k) ca ?_;rw[pR,lW k] at fin;exact fin
  |_=>exact c.elim
 |int i=>
  cases w with
  |int j=>cases ht;cases hw;exact fD pins s σ H1 _ _ v u Q I rx ry p
  |non=>cases ht;cases hw;exact fD pins s σ H1 _ _ v u Q I rx ry (show bV _ _=true/\_ from ⟨rfl,p⟩)
  |str j=>cases ht;cases hw;exact fD pins s σ H1 _ _ v u Q I rx ry (show bV _ _=true/\_ from ⟨rfl,p⟩)
  |_=>exact c.elim
 |str i=>
  cases w with
  |str j=>cases ht;cases hw;exact fD pins s σ H1 _ _ v u Q I rx ry p
  |non=>cases ht;cases hw;exact fD pins s σ H1 _ _ v u Q I rx ry (show bV _ _=true/\_ from ⟨rfl,p⟩)
  |int j=>cases ht;cases hw;exact fD pins s σ H1 _ _ v u Q I rx ry (show bV _ _=true/\_ from ⟨rfl,p⟩)
  |_=>exact c.elim
 |bl i=>
  cases w with
  |bl j=>cases ht;cases hw;refine fD pins s σ H1 _ _ v u Q I rx ry (show bV _ _=true/\_ from ⟨rfl,?_⟩);cases i<;>cases j<;>exact p
  |non=>cases ht;cases hw;exact fD pins s σ H1 _ _ v u Q I rx ry (show bV _ _=true/\_ from ⟨rfl,p⟩)
  |_=>exact c.elim
 |non=>
  cases w with
  |non=>cases ht;cases hw;exact fD pins s σ H1 _ _ v u Q I rx ry (show bV _ _=true/\_ from ⟨rfl,p⟩)
  |int j=>cases ht;cases hw;exact fD pins s σ H1 _ _ v u Q I rx ry (show bV _ _=true/\_ from ⟨rfl,p⟩)
  |str j=>cases ht;cases hw;exact fD pins s σ H1 _ _ v u Q I rx ry (show bV _ _=true/\_ from ⟨rfl,p⟩)
  |bl j=>cases ht;cases hw;exact fD pins s σ H1 _ _ v u Q I rx ry (show bV _ _=true/\_ from ⟨rfl,p⟩)
  |_=>exact c.elim
 |_=>exact ht.elim
def Ic(hu:X.A.units+20<cLine):OpR X (compareOp .NotEq) (r2c X J (jp .NotEq)):=by
 intro pins s σ H1 x y v u Q I rx ry h;obtain⟨F,H,F1,t,w,g,rt,rw',c,p⟩:=h;replace p:=p _ rfl;have ht:=rt.top;have hw:=rw'.top;generalize t.fz=t at *;generalize w.fz=w at *;clear rt rw';have fin:EP X pins σ Q (.bool (!eqT t w)) s:=⟨.bl _,H1,I,rfl,p⟩
 cases t with
 |tup l=>
  cases w with
  |tup m=>
   obtain⟨a,vs,rfl,q,r⟩:=ht;obtain⟨b,ws,rfl,q',r'⟩:=hw;cases rx;cases ry;obtain⟨us,us2,p1,p2,e,z⟩:=xx I (A:=X.A) ca c q r q' r';exact SeqAt.RcNeAt.tuples p1 p2 ca e _ _ _ _ (by rw[z];exact fin)
  |_=>exact c.elim
 |lst l=>
  cases w with
  |lst m=>
   obtain⟨a,vs,rfl,q,r⟩:=ht;obtain⟨b,ws,rfl,q',r'⟩:=hw;cases rx;cases ry;obtain⟨us,us2,p1,p2,e,e1,e2⟩:=xy I (A:=X.A) ca c q.sq r q'.sq r';by_cases k:l.length=m.length
   ·exact SeqAt.RcNeAt.lists p1 p2 (by rw[e1,e2,k]) ca e _ _ _ _ (by rw[e1,lX k];exact fin)
   ·refine SeqAt.RcNeAt.lists_lengths p1 p2 (by rw[e1,e2];simpa using k) ca _ _ _ _ ?_;rw[pR,lW k] at fin;exact fin
  |_=>exact c.elim
 |int i=>
  cases w with
  |int j=>cases ht;cases hw;exact fF pins s σ H1 _ _ v u Q I rx ry p
  |non=>cases ht;cases hw;exact fF pins s σ H1 _ _ v u Q I rx ry (show bV _ _=true/\_ from ⟨rfl,p⟩)
  |str j=>cases ht;cases hw;exact fF pins s σ H1 _ _ v u Q I rx ry (show bV _ _=true/\_ from ⟨rfl,p⟩)
  |_=>exact c.elim
 |str i=>
  cases w with
  |str j=>cases ht;cases hw;exact fF pins s σ H1 _ _ v u Q I rx ry p
  |non=>cases ht;cases hw;exact fF pins s σ H1 _ _ v u Q I rx ry (show bV _ _=true/\_ from ⟨rfl,p⟩)
  |int j=>cases ht;cases hw;exact fF pins s σ H1 _ _ v u Q I rx ry (show bV _ _=true/\_ from ⟨rfl,p⟩)
  |_=>exact c.elim
 |bl i=>
  cases w with
  |bl j=>cases ht;cases hw;refine fF pins s σ H1 _ _ v u Q I rx ry (show bV _ _=true/\_ from ⟨rfl,?_⟩);cases i<;>cases j<;>exact p
  |non=>cases ht;cases hw;exact fF pins s σ H1 _ _ v u Q I rx ry (show bV _ _=true/\_ from ⟨rfl,p⟩)
  |_=>exact c.elim
 |non=>
  cases w with
  |non=>cases ht;cases hw;exact fF pins s σ H1 _ _ v u Q I rx ry (show bV _ _=true/\_ from ⟨rfl,p⟩)
  |int j=>cases ht;cases hw;exact fF pins s σ H1 _ _ v u Q I rx ry (show bV _ _=true/\_ from ⟨rfl,p⟩)
  |str j=>cases ht;cases hw;exact fF pins s σ H1 _ _ v u Q I rx ry (show bV _ _=true/\_ from ⟨rfl,p⟩)
  |bl j=>cases ht;cases hw;exact fF pins s σ H1 _ _ v u Q I rx ry (show bV _ _=true/\_ from ⟨rfl,p⟩)
  |_=>exact c.elim
 |_=>exact ht.elim
def mf(hu:X.A.units+20<cLine)(o:CmpOp):OpR X (compareOp o) (r2c X J (jp o)):=by
 cases o with
 |Eq=>exact Ib hu
 |NotEq=>exact Ic hu
 |In=>
  intro pins s σ H1 x y v u Q I rx ry h;obtain⟨F,H,F1,t,w,g,rt,rw',p⟩:=h;obtain⟨b,l,e,f1,f2,p⟩:=lZ p;obtain⟨a,vs,rfl,r,q⟩:=rw'.sq e
  have ht:Rp X.K F1 H1 t x:=by cases t<;>first|exact rt|cases f1
  refine EX pins s σ H1 _ _ v u Q I rx ry ⟨a,vs,O,?_,pY ht f1,pZ r f2,?_⟩
  ·rcases q with ⟨_,q⟩|⟨_,q⟩
   ·exact .inr q
   ·exact .inl q
  ·rw[if_neg fu,tK ht f1 r f2];exact p _ rfl
 |NotIn=>
  intro pins s σ H1 x y v u Q I rx ry h;obtain⟨F,H,F1,t,w,g,rt,rw',p⟩:=h;obtain⟨b,l,e,f1,f2,p⟩:=lZ p;obtain⟨a,vs,rfl,r,q⟩:=rw'.sq e
  have ht:Rp X.K F1 H1 t x:=by cases t<;>first|exact rt|cases f1
  refine EY pins s σ H1 _ _ v u Q I rx ry ⟨a,vs,O,?_,pY ht f1,pZ r f2,?_⟩
  ·rcases q with ⟨_,q⟩|⟨_,q⟩
   ·exact .inr q
   ·exact .inl q
  ·rw[if_pos rfl,tK ht f1 r f2];exact p _ rfl
 |Is=>
  intro pins s σ H1 x y v u Q I rx ry h;obtain⟨F,H,F1,t,w,g,rt,rw',rfl,p⟩:=h;cases rw';have hx:=rt.top;refine Eh pins s σ H1 _ _ v u Q I rx ry ⟨O,?_⟩;replace p:=p _ rfl
  cases t<;>first|(cases hx;exact p)|(obtain⟨a,vs,rfl,_⟩:=hx;exact p)
 |IsNot=>
  intro pins s σ H1 x y v u Q I rx ry h;obtain⟨F,H,F1,t,w,g,rt,rw',rfl,p⟩:=h;cases rw';have hx:=rt.top;refine Ei pins s σ H1 _ _ v u Q I rx ry ⟨O,?_⟩;replace p:=p _ rfl
  cases t<;>first|(cases hx;exact p)|(obtain⟨a,vs,rfl,_⟩:=hx;exact p)
 |Lt=>intro pins s σ H1 x y v u Q I rx ry h;obtain⟨F,H,F1,t,w,g,rt,rw',p⟩:=h;obtain⟨i,j,rfl,rfl,p⟩:=fb p;cases rt;cases rw';exact Ed pins s σ H1 _ _ v u Q I rx ry (p _ rfl)
 |LtE=>intro pins s σ H1 x y v u Q I rx ry h;obtain⟨F,H,F1,t,w,g,rt,rw',p⟩:=h;obtain⟨i,j,rfl,rfl,p⟩:=fb p;cases rt;cases rw';exact Ee pins s σ H1 _ _ v u Q I rx ry (p _ rfl)
 |Gt=>
  intro pins s σ H1 x y v u Q I rx ry h;obtain⟨F,H,F1,t,w,g,rt,rw',p⟩:=h;cases t<;>cases w<;>try exact p.elim
  ·cases rt;cases rw';exact Ef pins s σ H1 _ _ v u Q I rx ry (p _ rfl)
 |GtE=>intro pins s σ H1 x y v u Q I rx ry h;obtain⟨F,H,F1,t,w,g,rt,rw',p⟩:=h;obtain⟨i,j,rfl,rfl,p⟩:=fb p;cases rt;cases rw';exact Eg pins s σ H1 _ _ v u Q I rx ry (p _ rfl)
def Ie{K:FG}{vs:List V}(r:RpL K F H l vs)(e:atI l i=some t):∃v,atI vs i=some v/\Rp K F H t v:=by
 unfold atI at *;rw[<- r.length]
 cases q:ixN l.length i with
 |none=>rw[q] at e;cases e
 |some j=>rw[q] at e;exact r.get e
def Ig:IxR X (r2 X J ixP):=by
 intro value slice pins s σ H1 x y v u Q I rx ry h hs;obtain⟨F,H,F1,t,w,g,rt,rw',p⟩:=h
 have key:∀b l,t.items=some (b,l)->(i1 w λ i=>∃x,atI l i=some x/\∀F' H' v,Grow J F H F' H'->Rr X.K H F' H' x v->Q v H')->wpAny (model X.prog X.w) X.A (subscriptTail value slice v u) (EP X pins σ Q) X.xe s:=λ b l e p=>by
  obtain⟨i,rfl,z,ez,p⟩:=iF p;cases rw';obtain⟨a,vs,rfl,r,q⟩:=rt.sq e;obtain⟨zv,e1,rz⟩:=Ie r ez;have fin:=p F1 H1 _ g (Rr.of rz)
  rcases q with ⟨_,q⟩|⟨_,q⟩
  ·exact sx value slice pins s σ H1 _ _ v u Q I rx ry (.inr (.inl ⟨a,vs,i,zv,O,O,q,e1,fin⟩)) hs
  ·exact sx value slice pins s σ H1 _ _ v u Q I rx ry (.inl ⟨a,vs,i,zv,O,O,q,e1,fin⟩) hs
 cases t with
 |str x=>
  obtain⟨i,rfl,lz,c,ec,p⟩:=iF p;cases rw';cases rt;exact sx value slice pins s σ H1 _ _ v u Q I rx ry (.inr (.inr ⟨x,i,c,O,O,lz,ec,p F1 H1 _ g rfl⟩)) hs
 |tup l=>exact key _ _ rfl p
 |lst l=>exact key _ _ rfl p
 |bor l=>exact key _ _ rfl p
 |own l=>exact key _ _ rfl p
 |_=>exact p.elim
noncomputable def rsl(X:Cx)(J:Hp->Prop):V->Option Int->Option Int->Hp->VK->Prop:=λ x lo hi H1 Q=>∃F H F1 t,Grow J F H F1 H1/\Rr X.K H F1 H1 t x /\
 slK t lo hi λ r=>∀F' H' v,Grow J F H F' H'->Rr X.K H F' H' r v->Q v H'
def tM{K:FG}{vs:List V}(r:RpL K F H l vs)(lo hi:Option Int):RpL K F H (ai l lo hi) (ig vs lo hi):=by
 unfold ai ig;rw[<- r.length];exact(r.drop _).take _
def Ih(hJ:JS J):SlR X (rsl X J):=by
 intro pins s σ H1 x v vl vu lo hi sl Q I rx hs pl pu h;obtain⟨F,H,F1,t,g,rt,p⟩:=h
 have key:∀l,t.items=some (false,l)->(∀F' H' v,Grow J F H F' H'->Rr X.K H F' H' (.own (ai l lo hi)) v->Q v H')->∃T id,typeLookup (.type T) "__getitem__"=pure (some (.builtin id))/\s.TypeIs v T/\wpAny (model X.prog X.w) X.A (getItem v (.ref sl)) (EP X pins σ Q) X.xe s:=λ l e p=>by
  obtain⟨a,vs,rfl,r,q⟩:=rt.lq e;exact EW pins s σ H1 _ v vl vu lo hi sl Q I rx hs pl pu ⟨a,vs,O,q,gz hJ g (tM r lo hi) p⟩
 cases t with
 |tup l=>
  obtain⟨a,xs,rfl,ha,r⟩:=rt;by_cases c:_H.sIx xs.length 0 lo=0/\_H.sIx xs.length xs.length hi=xs.length
  ·cases rx;obtain⟨its,rr,ht,hz⟩:=I.tuple ha;have hlen:its.toArray.size=xs.length:=by rw[aV];exact rr.length.symm
   refine⟨"tuple",_,PyProof.Rows.slot_tuple_getitem.lookup,ht.typeIs,_H.whole_tup ht hs pl pu (by rw[hlen];exact c.1) (by rw[hlen];exact c.2) ⟨.ref a,H1,I,O,p F1 H1 _ g ⟨a,xs,O,ha,?_⟩⟩⟩;have z:=tM r lo hi;unfold ig at z
   rwa [c.1,c.2,List.drop_zero,Nat.sub_zero,cy] at z
  ·exact EI pins s σ H1 _ v vl vu lo hi sl Q I rx hs pl pu ⟨a,xs,O,ha,c,ma hJ g (tM r lo hi) p⟩
 |str z=>cases rt;exact GO pins s σ H1 _ v vl vu lo hi sl Q I rx hs pl pu ⟨z,rfl,p.1,p.2 F1 H1 _ g rfl⟩
 |lst l=>exact key l rfl p
 |bor l=>exact key l rfl p
 |own l=>exact key l rfl p
 |_=>exact p.elim
end
section
variable {J:Hp->Prop}
noncomputable def xz(X:Cx):V->V->Hp->VK->Prop:=λ x y H Q=>∃(a b:Addr) (xs ys:List V),x=.ref a/\y=.ref b/\SqT X.K H a xs/\SqT X.K H b ys/\(ys.length<=xs.length->Q (.ref a) H)/\(xs.length<ys.length->Q (.ref b) H)
def Ii{p kp pos p2:Pos}(hc:X.calm=true)(hg:Gl X "max")(hm:X.mg "max"=none)(hg2:Gl X "len")(hm2:X.mg "len"=none)(he:PE X e te)(hf:PE X f tf)(hs:starEach [e,f] X.env=(false,eval e X.env)::starEach [f] X.env:=by rfl)(hs2:starEach [f] X.env=[(false,eval f X.env)]:=by rfl):PE X (.Call (.Name "max" p) [e,f] [⟨some (Str.ofString "key"),.Name "len" p2,kp⟩] pos) (Hz (xz X) te tf):=by
 intro pins s σ H Q I h;refine lu (eN I hg hm boot_max ?_);have hA:=(cL he (cL hf (pa_nil (X:=X)) hs2) hs) pos pins s σ H (λ vs H1=>match vs with|[x,y]=>xz X x y H1 Q|_=>False) I h;refine callWith_kw (thn hA λ us s1 ⟨vs,H1,I1,r1,q1⟩=>?_) (by rw[hs,hs2];rfl) (by rw[hs,hs2];rfl)
 match vs,q1 with
 |[x0,y0],q1=>
  obtain⟨u,v,rfl,ru,rv⟩:=mY r1;refine kws_cons (eN I1 hg2 hm2 boot_len (kws_nil ?_));obtain⟨a,b,xs,ys,rfl,rfl,ha,hb,qa,qb⟩:=q1;cases (show u=Value.ref a from ru);cases (show v=Value.ref b from rv);obtain⟨i1,t1,p1,y1⟩:=I1.tuple ha;obtain⟨i2,t2,p2',y2⟩:=I1.tuple hb;have l1:=t1.length;have l2:=t2.length;have hsz:sizeLine=16777216:=mX;refine Hy (I1.ok.hd hc) p1 p2' (by rw[aV];omega) (by rw[aV];omega) λ v h' tk hv kk=>?_;simp only[aV] at hv
  rcases hv with ⟨rfl,hl⟩|⟨rfl,hl⟩
  ·exact⟨.ref a,H1,I1.kept kk,O,qa (by omega)⟩
  ·exact⟨.ref b,H1,I1.kept kk,O,qb (by omega)⟩
noncomputable def rL(X:Cx)(J:Hp->Prop)(p:List TV->(TV->Prop)->Prop):List V->Hp->VK->Prop:=λ xs H1 Q=>∃F H F1 ts,Grow J F H F1 H1/\RrL X.K H F1 H1 ts xs/\p ts λ r=>∀F' H' v,Grow J F H F' H'->Rr X.K H F' H' r v->Q v H'
noncomputable def biV:BI->Value
 |.len=>.builtin "len" |.tuple=>.type "tuple" |.list=>.type "list" |.sum=>.builtin "sum" |.max=>.builtin "max" |.min=>.builtin "min" |.abs=>.builtin "abs" |.int=>.type "int" |.str=>.type "str"
 |.sorted=>.builtin "sorted" |.any=>.builtin "any" |.all=>.builtin "all" |_=>.none
def jv{K:FG}{t:TV}(h:RrL K H F1 H1 [t] xs):∃x,xs=[x]/\Rr K H F1 H1 t x:=by
 cases h with
 |cons r q=>cases q;exact⟨_,rfl,r⟩
def qd{K:FG}{t u:TV}(h:RrL K H F1 H1 [t,u] xs):∃x y,xs=[x,y]/\Rr K H F1 H1 t x/\Rr K H F1 H1 u y:=by
 cases h with
 |cons r q=>obtain⟨y,rfl,r'⟩:=jv q;exact⟨_,y,rfl,r,r'⟩
def Ij(h:rL X J p xs H1 Q)(n:∀ts K,p ts K->ts.length=1):∃F H F1 t x,xs=[x]/\Grow J F H F1 H1/\Rr X.K H F1 H1 t x/\p [t] λ r=>∀F' H' v,Grow J F H F' H'->Rr X.K H F' H' r v->Q v H':=by
 obtain⟨F,H,F1,ts,g,r,q⟩:=h
 match ts,n _ _ q with
 |[t],_=>obtain⟨x,rfl,rx⟩:=jv r;exact⟨F,H,F1,t,x,rfl,g,rx,q⟩
def tN{K:FG}{b:Bool}{vs:List V}(q:(b=true/\SqT K H' a vs)\/(b=false/\SqL K H' a vs)):SqL K H' a vs\/SqT K H' a vs:=q.elim (λ z=>.inr z.2) λ z=>.inl z.2
def bi1{f:BI}(h:f=.len\/f=.tuple\/f=.list\/f=.sum\/f=.abs\/f=.int\/f=.sorted\/f=.any):∀ts K,biP f ts K->ts.length=1:=by
 intro ts K q
 rcases ts with _|⟨t,_|⟨u,_|⟨w,r⟩⟩⟩
 ·rcases h with rfl|rfl|rfl|rfl|rfl|rfl|rfl|rfl<;>exact q.elim
 ·rfl
 ·rcases h with rfl|rfl|rfl|rfl|rfl|rfl|rfl|rfl<;>exact q.elim
 ·rcases h with rfl|rfl|rfl|rfl|rfl|rfl|rfl|rfl<;>exact q.elim
def iG(hJ:JS J)(hc:X.calm=true)(f:BI)(h:f=.len\/f=.tuple\/f=.list\/f=.sum\/f=.abs\/f=.int\/f=.sorted\/f=.any):cF X (biV f) (rL X J (biP f)):=by
 intro pins s σ H1 xs us Q I rs hh;obtain⟨F,H,F1,t,x,rfl,g,rt,p⟩:=Ij hh (bi1 h)
 rcases h with rfl|rfl|rfl|rfl|rfl|rfl|rfl|rfl
 ·have key:∀b l,t.items=some (b,l)->(∀F' H' v,Grow J F H F' H'->Rr X.K H F' H' (.int l.length) v->Q v H')->wpAny (model X.prog X.w) X.A (call (biV .len) us) (EP X pins σ Q) X.xe s:=λ b l e p=>by
   obtain⟨a,vs,rfl,r,q⟩:=rt.sq e;exact EZ pins s σ H1 _ us Q I rs ⟨a,vs,O,tN q,by rw[<- r.length];exact p F1 H1 _ g rfl⟩
  cases t with
  |str z=>cases rt;exact Fa pins s σ H1 _ us Q I rs ⟨z,rfl,p.1,p.2 F1 H1 _ g rfl⟩
  |tup l=>exact key _ _ rfl p
  |lst l=>exact key _ _ rfl p
  |bor l=>exact key _ _ rfl p
  |own l=>exact key _ _ rfl p
  |_=>exact p.elim
 ·obtain⟨b,l,e,p⟩:=lZ p;obtain⟨a,vs,rfl,r,q⟩:=rt.sq e;refine Fc pins s σ H1 _ us Q I rs ⟨a,vs,O,?_⟩
  rcases q with ⟨_,q⟩|⟨_,q⟩
  ·exact .inr ⟨q,p F1 H1 _ g ⟨a,vs,O,q,r⟩⟩
  ·exact .inl ⟨q,ma hJ g r p⟩
 ·obtain⟨b,l,e,p⟩:=lZ p;obtain⟨a,vs,rfl,r,q⟩:=rt.sq e;exact Fb pins s σ H1 _ us Q I rs ⟨a,vs,O,tN q,gz hJ g r p⟩
 ·obtain⟨l,e,ns,rfl,p⟩:=ju p;obtain⟨a,vs,rfl,r,q⟩:=rt.lq e;cases r.ints;exact FZ hc pins s σ H1 _ us Q I rs ⟨a,ns,O,q,p F1 H1 _ g rfl⟩
 ·obtain⟨i,rfl,p⟩:=iF p;cases rt;exact Eo pins s σ H1 _ us Q I rs ⟨i,O,p F1 H1 _ g rfl⟩
 ·cases t with
  |int i=>cases rt;exact vG pins s σ H1 _ us Q I rs (.inl ⟨i,rfl,p F1 H1 _ g rfl⟩)
  |bl i=>cases rt;exact vG pins s σ H1 _ us Q I rs (.inr ⟨i,rfl,p F1 H1 _ g rfl⟩)
  |_=>exact p.elim
 ·obtain⟨b,l,e,ns,rfl,n64,p⟩:=lZ p;obtain⟨a,vs,rfl,r,q⟩:=rt.sq e;cases r.ints;exact GI pins s σ H1 _ us Q I rs ⟨a,ns,O,tN q,n64,λ ns' p1 p2=>gz hJ g (RpL.ofInts ns') (p ns' p1 p2)⟩
 ·obtain⟨l,e,ns,rfl,p⟩:=ju p;obtain⟨a,vs,rfl,r,q⟩:=rt.lq e;cases r.bls;exact GP hc pins s σ H1 _ us Q I rs ⟨a,ns,O,q,p F1 H1 _ g rfl⟩
def Ik(hc:X.calm=true):cF X (.builtin "max") (rL X J (biP .max)):=by
 intro pins s σ H1 xs us Q I rs h;obtain⟨F,H,F1,ts,g,r,p⟩:=h
 rcases ts with _|⟨t,_|⟨u,_|⟨w,r⟩⟩⟩
 ·exact p.elim
 ·obtain⟨x,rfl,rt⟩:=jv r;obtain⟨l,e,ns,rfl,l0,p⟩:=ju p;obtain⟨a,vs,rfl,r,q⟩:=rt.lq e;cases r.ints;exact Hq hc pins s σ H1 _ us Q I rs ⟨a,ns,O,q,l0,λ M m z=>p M m z F1 H1 _ g rfl⟩
 ·obtain⟨x,y,rfl,rt,ru⟩:=qd r;obtain⟨i,j,rfl,rfl,p⟩:=fb p;cases rt;cases ru;exact Ep hc pins s σ H1 _ us Q I rs ⟨i,j,O,p F1 H1 _ g rfl⟩
 ·exact p.elim
def Il(hc:X.calm=true):cF X (.builtin "min") (rL X J (biP .min)):=by
 intro pins s σ H1 xs us Q I rs h;obtain⟨F,H,F1,ts,g,r,p⟩:=h
 rcases ts with _|⟨t,_|⟨u,_|⟨w,r⟩⟩⟩
 ·exact p.elim
 ·exact p.elim
 ·obtain⟨x,y,rfl,rt,ru⟩:=qd r;obtain⟨i,j,rfl,rfl,p⟩:=fb p;cases rt;cases ru;exact Er hc pins s σ H1 _ us Q I rs ⟨i,j,O,p F1 H1 _ g rfl⟩
 ·exact p.elim
noncomputable def isN:BI->String
 |.isI=> "int" |.isB=> "bool" |.isT=> "tuple" |.isL=> "list" |.isS=> "str" |_=> ""
noncomputable def tyT:TV->String
 |.non=> "NoneType" |.bl _=> "bool" |.int _=> "int" |.str _=> "str" |.tup _=> "tuple" |_=> "list"
theorem Im{t:TV}{Q:VS}(I:Inv X pins σ H1 s)(ht:Rp X.K FA H1 t.fz x)(rx:RelV x u)
  (e:W.kitOne X.K (.type (tyT t)) (.type n)=some b) (h:∀tk,Q (.bool b) { s with toks:=tk }):wpAny (model X.prog X.w) A (call (.builtin "isinstance") [u,.type n]) Q E s:=by
 have lst:∀ {l a vs},x=.ref a->SqL X.K H1 a vs->RpL X.K FA H1 l vs->tyT t="list" -> wpAny (model X.prog X.w) A (call (.builtin "isinstance") [u,.type n]) Q E s:=λ ex q r et=>by
  subst ex;cases rx;obtain⟨its,_,⟨o,n,e1,c,_⟩,_⟩:=I.list q;rw[et] at e;exact mh W.kitx_list I.kIn ⟨_,e1,c⟩ e (λ z=>nomatch z) h
 cases t with
 |non=>cases ht;cases rx;exact mh W.kitx_none I.kIn s1n e (λ z=>nomatch z) h
 |bl y=>cases ht;cases rx;exact mh W.kitx_bool I.kIn s1n e (λ z=>nomatch z) h
 |int i=>cases ht;obtain⟨t,rfl⟩:=rx;exact mh W.kitx_int I.kIn s1n e (λ z=>nomatch z) h
 |str i=>cases ht;obtain⟨t,rfl⟩:=rx;exact mh W.kitx_str I.kIn s1n e (λ z=>nomatch z) h
 |tup l=>
  obtain⟨a,vs,rfl,q,r⟩:=ht;cases rx;obtain⟨its,_,⟨o,e1,c,_⟩,_⟩:=I.tuple q;exact mh W.kitx_tuple I.kIn ⟨_,e1,c⟩ e (λ z=>nomatch z) h
 |lst l=>obtain⟨a,vs,rfl,q,r⟩:=ht;exact lst rfl q.sq r rfl
 |bor l=>obtain⟨a,vs,rfl,q,r⟩:=ht;exact lst rfl q.sq r rfl
 |own l=>obtain⟨a,vs,rfl,q,r⟩:=ht;exact lst rfl q.sq r rfl
def Io{K:FG}(f:BI)(h:f=.isI\/f=.isB\/f=.isT\/f=.isL\/f=.isS)(t:TV):W.kitOne K (.type (tyT t)) (.type (isN f))=some (sO (tyT t) (isN f)):=by
 have m:tyT t="NoneType" \/ tyT t="bool" \/ tyT t="int" \/ tyT t="str" \/ tyT t="tuple" \/ tyT t="list" := by cases t<;>simp[tyT]
 generalize tyT t=y at *
 rcases m with rfl|rfl|rfl|rfl|rfl|rfl<;>rcases h with rfl|rfl|rfl|rfl|rfl<;>exact FC (by decide +kernel)
def Ip(f:BI)(h:f=.isI\/f=.isB\/f=.isT\/f=.isL\/f=.isS):cF X (.builtin "isinstance") (λ xs H1 Q=>∃x,xs=[x,.ty (isN f)]/\rL X J (biP f) [x] H1 Q):=by
 intro pins s σ H1 xs us Q I rs hh;obtain⟨x,rfl,F,H,F1,ts,g,r,p⟩:=hh;obtain⟨u,w',rfl,rx,ry⟩:=mY rs;cases (show w'=Value.type _ from ry)
 have n1:∃t,ts=[t]:=by
  cases r with
  |cons a b=>cases b;exact⟨_,rfl⟩
 obtain⟨t,rfl⟩:=n1;obtain⟨_,e0,rt⟩:=jv r;cases e0;refine Im I rt.top rx (Io f h t) λ tk=>⟨.bl _,H1,I.tok tk,O,?_⟩;have e1:∀b,sO (tyT t) (isN f)=b->(∀F' H' v,Grow J F H F' H'->Rr X.K H F' H' (.bl b) v->Q v H')->Q (.bl (sO (tyT t) (isN f))) H1:=λ b e q=>by rw[e];exact q F1 H1 _ g rfl
 rcases h with rfl|rfl|rfl|rfl|rfl<;>cases t<;>first|exact p.elim|exact e1 true (by simp only[tyT,isN];decide +kernel) p|exact e1 false (by simp only[tyT,isN];decide +kernel) p
end
section
variable {K:FG}{J:Hp->Prop}
noncomputable def Vw(K:FG)(F:Fz)(H:Hp)(t:TV)(x:V):Prop:=match t.items with
 |some (true,l)=>∃a vs,x=.ref a/\SqT K H a vs/\RpL K F H l vs
 |some (false,l)=>∃a vs,x=.ref a/\SqL K H a vs/\RpL K F H l vs
 |none=>Rp K F H t x
def Vw.l{t:TV}{l:List TV}(h:Vw K F H t x)(e:t.items=some (false,l)):∃a vs,x=.ref a/\SqL K H a vs/\RpL K F H l vs:=by
 unfold Vw at h;rw[e] at h;exact h
def Vw.t{t:TV}{l:List TV}(h:Vw K F H t x)(e:t.items=some (true,l)):∃a vs,x=.ref a/\SqT K H a vs/\RpL K F H l vs:=by
 unfold Vw at h;rw[e] at h;exact h
def Rr.vw{H F1 H1}(h:Rr K H F1 H1 t x):Vw K F1 H1 t x:=by
 unfold Vw
 cases e:t.items with
 |none=>cases t<;>first|exact h|cases e
 |some p=>
  obtain⟨b,l⟩:=p;obtain⟨a,vs,rfl,r,q⟩:=h.sq e;cases b
  ·rcases q with ⟨z,_⟩|⟨_,q⟩
   ·cases z
   ·exact⟨a,vs,O,q,r⟩
  ·rcases q with ⟨_,q⟩|⟨z,_⟩
   ·exact⟨a,vs,O,q,r⟩
   ·cases z
def Rp.vw{F1 H1}{t:TV}(h:Rp K F1 H1 t.fz x):Vw K F1 H1 t x:=by
 cases t with
 |bor l=>obtain⟨a,vs,e,q,r⟩:=h;exact⟨a,vs,e,q.sq,r⟩
 |own l=>obtain⟨a,vs,e,q,r⟩:=h;exact⟨a,vs,e,q.sq,r⟩
 |lst l=>obtain⟨a,vs,e,q,r⟩:=h;exact⟨a,vs,e,q.sq,r⟩
 |_=>exact h
structure ItOk (K:FG)(J:Hp->Prop)(Jt:It)(its ts:List TV)(xs:List V):Prop where
 go:∀F H i,Wd J F H->Paired (Vw K F H) ts xs->i<its.length->Jt.go i H
 stop:∀F H,Wd J F H->Paired (Vw K F H) ts xs->Jt.stop its.length H
 yld:∀F H i x H',Wd J F H->Paired (Vw K F H) ts xs->i<its.length->Jt.yld i H x H'->∃t,its[i]?=some t/\Grow J F H F H'/\Rp K F H' t x
def fN{t:TV}{x:V}(h:Paired (Vw K F H) [t] [x]):Vw K F H t x:=by cases h with|cons r _=>exact r
def jw{α:Type}{l:List α}{i:Nat}(h:i<l.length):∃x,l[i]?=some x:=⟨_,aB h⟩
theorem Iq{t:TV}{l:List TV}(e:t.items=some (false,l)):ItOk K J (Itl K a) l [t] [.ref a] where
 go F H i w h hi:=by
  obtain⟨b,vs,eb,q,r⟩:=(fN h).l e;cases eb;obtain⟨x,ex⟩:=jw (l:=vs) (by rw[<- r.length];exact hi);exact⟨vs,x,q,ex⟩
 stop F H w h:=by
  obtain⟨b,vs,eb,q,r⟩:=(fN h).l e;cases eb;exact⟨vs,q,by rw[r.length];exact ay _⟩
 yld F H i x H' w h hi y:=by
  obtain⟨b,vs,eb,q,r⟩:=(fN h).l e;cases eb;obtain⟨rfl,y⟩:=y;obtain⟨t,et⟩:=jw hi;obtain⟨v,ev,rv⟩:=r.get et;have:=y vs q;rw[ev] at this;cases this;exact⟨t,et,.refl w,rv⟩
theorem Ir{t:TV}{l:List TV}(e:t.items=some (true,l)):ItOk K J (Itt K a) l [t] [.ref a] where
 go F H i w h hi:=by
  obtain⟨b,vs,eb,q,r⟩:=(fN h).t e;cases eb;obtain⟨x,ex⟩:=jw (l:=vs) (by rw[<- r.length];exact hi);exact⟨vs,x,q,ex⟩
 stop F H w h:=by
  obtain⟨b,vs,eb,q,r⟩:=(fN h).t e;cases eb;exact⟨vs,q,by rw[r.length];exact ay _⟩
 yld F H i x H' w h hi y:=by
  obtain⟨b,vs,eb,q,r⟩:=(fN h).t e;cases eb;obtain⟨rfl,y⟩:=y;obtain⟨t,et⟩:=jw hi;obtain⟨v,ev,rv⟩:=r.get et;have:=y vs q;rw[ev] at this;cases this;exact⟨t,et,.refl w,rv⟩
theorem Iu(lo:Int)(n:Nat):ItOk K J (Itr lo n) ((List.range n).map λ k=>.int (lo+(k:Nat))) ts xs where
 go F H i w h hi:=by show i<n;simpa using hi
 stop F H w h:=by show n<=_;simp
 yld F H i x H' w h hi y:=by
  obtain⟨rfl,rfl⟩:=y;have hi':i<n:=by simpa using hi
  exact⟨.int (lo+(i:Nat)),by rw[aQ,iH hi'];rfl,.refl w,O⟩
def Iv{α:Type}{l:List α}{i:Nat}(h:i<l.length):l.reverse[i]?=l[l.length-1-i]?:=jY h
theorem Iw{t:TV}{l:List TV}{n:Nat}(e:t.items=some (true,l))(hn:n=l.length):ItOk K J (py K a n) l.reverse [t] [.ref a] where
 go F H i w h hi:=by
  obtain⟨b,vs,eb,q,r⟩:=(fN h).t e;cases eb;exact⟨vs,q,by rw[<- r.length,hn],by rw[iI] at hi;lia⟩
 stop F H w h:=by
  obtain⟨b,vs,eb,q,r⟩:=(fN h).t e;cases eb;exact⟨vs,q,by rw[<- r.length,hn],by rw[iI,hn]⟩
 yld F H i x H' w h hi y:=by
  obtain⟨b,vs,eb,q,r⟩:=(fN h).t e;cases eb;obtain⟨rfl,y⟩:=y;rw[iI] at hi;obtain⟨t,et⟩:=jw (l:=l) (i:=l.length-1-i) ca;obtain⟨v,ev,rv⟩:=r.get et;have:=y vs q;rw[hn,ev] at this;cases this;exact⟨t,by rw[Iv hi];exact et,.refl w,rv⟩
theorem Ix(hJ:JS J){t:TV}{l:List TV}(e:t.items=some (true,l)):ItOk K J (Ite K a) (l.mapIdx λ i x=>.tup [.int (i:Nat),x]) [t] [.ref a] where
 go F H i w h hi:=by
  obtain⟨b,vs,eb,q,r⟩:=(fN h).t e;cases eb;obtain⟨x,ex⟩:=jw (l:=vs) (by rw[<- r.length];simpa using hi);exact⟨vs,x,q,ex⟩
 stop F H w h:=by
  obtain⟨b,vs,eb,q,r⟩:=(fN h).t e;cases eb;exact⟨vs,q,by rw[<- r.length];simp⟩
 yld F H i x H' w h hi y:=by
  obtain⟨b,vs,eb,q,r⟩:=(fN h).t e;cases eb;obtain⟨T,z,rfl,hT,rfl,y⟩:=y;obtain⟨t,et⟩:=jw (l:=l) (i:=i) (by simpa using hi);obtain⟨v,ev,rv⟩:=r.get et;have:=y vs q;rw[ev] at this;cases this;have g:Grow J F H F (upd H T (.tup [.int i,z])):=.new hJ w _ hT;exact⟨.tup [.int (i:Nat),t],by rw[s0l,et];rfl,g,T,_,O,.of cJ,_,_,O,O,_,_,O,rv.ke g.ke,O⟩
theorem Vw.b{t:TV}{b:Bool}{l:List TV}(h:Vw K F H t x)(e:t.items=some (b,l)):∃a vs,x=.ref a/\SqB K b H a vs/\RpL K F H l vs:=by
 cases b
 ·exact h.l e
 ·exact h.t e
theorem xA{α β:Type}{R:α->β->Prop}{a:α}{b:β}:∀ {l:List α}{m:List β}{i:Nat},Paired R l m->l[i]?=some a->m[i]?=some b->R a b
 |_,_,0,.cons r _,e,e'=>by cases e;cases e';exact r
 |_,_,i+1,.cons _ h,e,e'=>xA (i:=i) h (by simpa using e) (by simpa using e')
theorem xB:∀ {ts:List TV}{vs:List V},ts.length=vs.length->(∀(d:Nat) t v,ts[d]?=some t->vs[d]?=some v->Rp K F H t v)->RpL K F H ts vs
 |[],[],_,_=>rfl
 |_::_,_::_,l,h=>⟨_,_,rfl,h 0 _ _ rfl rfl,xB (by simpa using l) λ d t v a b=>h (d+1) t v (by simpa using a) (by simpa using b)⟩
theorem xC(hJ:JS J){S:List (Bool×Addr)}{ts rows:List TV}{L:Nat->List TV}(ht:∀(d:Nat) (s:Bool×Addr),S[d]?=some s->∃t,ts[d]?=some t/\t.items=some (s.1,L d))
  (hs:∃e,e<S.length/\(L e).length<=rows.length/\∀d,d<e->rows.length<(L d).length) (hy:∀i,i<rows.length->∃tl,rows[i]?=some (.tup tl)/\tl.length=S.length/\∀d,d<S.length->i<(L d).length/\tl[d]?=(L d)[i]?) :
  ItOk K J (Itn K S) rows ts (S.map λ s=>V.ref s.2):=by
 have V:∀ {F:Fz}{H:Hp},Paired (Vw K F H) ts (S.map λ s=>V.ref s.2)->∀(d:Nat) (s:Bool×Addr),S[d]?=some s->∃vs,SqB K s.1 H s.2 vs/\RpL K F H (L d) vs:=λ {F H} h d s q=>by
  obtain⟨t,e,it⟩:=ht d s q;obtain⟨a,vs,ea,q,r⟩:=(xA h e (b:=.ref s.2) (by rw[aQ,q];rfl)).b it;cases ea;exact⟨vs,q,r⟩
 refine⟨λ F H i w h hi d s q=>?_,λ F H w h=>?_,λ F H i x H' w h hi y=>?_⟩
 ·obtain⟨vs,q1,r⟩:=V h d s q;obtain⟨tl,_,_,z⟩:=hy i hi;exact⟨vs,q1,r.length ▸ (z d (gq q)).1⟩
 ·obtain⟨e,le,l1,l2⟩:=hs;refine⟨e,le,λ d s q=>?_⟩;obtain⟨vs,q1,r⟩:=V h d s q;exact⟨vs,q1,λ z=>r.length ▸ l2 d z,λ z=>r.length ▸ z ▸ l1⟩
 ·obtain⟨T,vs,rfl,hT,rfl,lv,y⟩:=y;obtain⟨tl,er,lt,z⟩:=hy i hi;have g:Grow J F H F (upd H T (.tup vs)):=.new hJ w _ hT;refine⟨_,er,g,T,vs,O,.of cJ,xB (lt.trans lv.symm) λ d t v a b=>?_⟩;have hd:d<S.length:=lt ▸ gq a;obtain⟨ws,q1,r⟩:=V h d _ (aB hd);rw[(z d hd).2] at a;obtain⟨v',ev,rv⟩:=r.get a;rw[y d _ ws (aB hd) q1,ev] at b;cases b;exact rv.ke g.ke
def Iy(hJ:JS J){t u:TV}{l m:List TV}{a b:Addr}{c d:Bool}(e:t.items=some (c,l))(e':u.items=some (d,m)):ItOk K J (Itn K [(c,a),(d,b)]) (List.zipWith (λ x y=>.tup [x,y]) l m) [t,u] [.ref a,.ref b]:=by
 refine xC hJ (L:=λ k=>if k=0 then l else m) (λ k s q=>?_) ?_ λ i hi=>?_
 ·match k,q with
  |0,rfl=>exact⟨t,rfl,e⟩
  |1,rfl=>exact⟨u,rfl,e'⟩
 ·rw[kh]
  rcases s1t m.length l.length with q|q
  ·exact⟨1,Nat.le.refl,by simp;lia,λ k hk=>by rw[if_pos ca];lia⟩
  ·exact⟨0,lQ _,by simp;lia,λ k hk=>absurd hk (lT _)⟩
 ·rw[kh] at hi;have l1:i<l.length:=ca;have l2:i<m.length:=ca;refine⟨_,by rw[nQ,aB l1,aB l2],O,λ k hk=>?_⟩
  rcases(show k=0\/k=1 by simp at hk;lia) with rfl|rfl<;>simp[l1,l2]
def Iz(hJ:JS J){t u s:TV}{l m n:List TV}{a b c:Addr}(e:t.items=some (true,l))(e':u.items=some (true,m))(e'':s.items=some (true,n))(h1:m.length=l.length)(h2:n.length=l.length):ItOk K J (Itn K [(true,a),(true,b),(true,c)]) (z3 l m n) [t,u,s] [.ref a,.ref b,.ref c]:=by
 refine xC hJ (L:=λ k=>if k=0 then l else if k=1 then m else n) (λ k s' q=>?_) ?_ λ i hi=>?_
 ·match k,q with
  |0,rfl=>exact⟨t,rfl,e⟩
  |1,rfl=>exact⟨u,rfl,e'⟩
  |2,rfl=>exact⟨s,rfl,e''⟩
 ·exact⟨0,lQ _,by unfold z3;simp;lia,λ k hk=>absurd hk (lT _)⟩
 ·have l1:i<l.length:=by unfold z3 at hi;rw[kh,List.length_zip] at hi;lia
  have l2:i<m.length:=ca;have l3:i<n.length:=ca;have ez:(m.zip n)[i]?=some (m[i],n[i]):=nR.mpr ⟨aB l2,aB l3⟩;refine⟨_,by unfold z3;rw[nQ,aB l1,ez],O,λ k hk=>?_⟩
  rcases(show k=0\/k=1\/k=2 by simp at hk;lia) with rfl|rfl|rfl<;>simp[l1,l2,l3]
end
noncomputable def gl(nm:List (Str×NameKind))(x:Str):Bool:=decide (nm.lookup x=some .globalImplicit)
noncomputable def vs(nm:List (Str×NameKind))(x:Str):Bool:=decide (nm.lookup x=some .local) || decide (nm.lookup x=some .cell) || decide (nm.lookup x=some .free)
noncomputable def cf(nm:List (Str×NameKind))(x:Str):Bool:=decide (nm.lookup x=some .cell) || decide (nm.lookup x=some .free)
noncomputable def okN(x:Str):Bool:=!decide (x=("__debug__" : Str)) && !decide (x=("__classdict__" : Str)) && !decide (x=("__name__" : Str))
noncomputable def ckC:TV->Const->Bool
 |.int i,.int j=>decide (i=j)
 |.str x,.str y=>decide (x=y)
 |.bl x,.bool y=>decide (x=y)
 |.non,.none=>true
 |_,_=>false
def xD:Cd->Bool
 |.nil=>true|_=>false
def mi:Cd->Bool
 |.c .non=>true|_=>false
def aO:Expr->Bool
 |.Starred ..=>false|_=>true
def dY:Expr->Bool
 |.Set ..=>false|_=>true
noncomputable def ki:Expr->Bool
 |.Name ..=>true|.Constant (.int _) _ _=>true|.BinOp ..=>true|.Subscript ..=>true|.Call ..=>true|.UnaryOp ..=>true|_=>false
noncomputable def xE:BI->Bool
 |.isI=>true|.isB=>true|.isT=>true|.isL=>true|.isS=>true|_=>false
noncomputable def biN:BI->Option Str
 |.len=>some "len" |.tuple=>some "tuple" |.list=>some "list" |.sum=>some "sum" |.max=>some "max" |.min=>some "min" |.abs=>some "abs" |.int=>some "int"
 |.sorted=>some "sorted" |.any=>some "any" |_=>none
noncomputable def cz(e:Expr)(k:Str->Pos->Bool):Bool:=match e with|.Name x p=>k x p|_=>false
@[elab_as_elim] theorem cx{motive:Expr->Prop}{e:Expr}{k:Str->Pos->Bool}(h:cz e k=true)(f:∀x p,k x p=true->motive (.Name x p)):motive e:=by cases e<;>first|exact f _ _ h|exact Bool.noConfusion h
def IA(h:cz e k=true):∃x p,e=.Name x p/\k x p=true:=by cases e<;>first|exact⟨_,_,rfl,h⟩|exact Bool.noConfusion h
noncomputable def xF(e:Expr)(k:Const->Nat->Pos->Bool):Bool:=match e with|.Constant x p q=>k x p q|_=>false
@[elab_as_elim] theorem IB{motive:Expr->Prop}{e:Expr}{k:Const->Nat->Pos->Bool}(h:xF e k=true)(f:∀x p q,k x p q=true->motive (.Constant x p q)):motive e:=by cases e<;>first|exact f _ _ _ h|exact Bool.noConfusion h
noncomputable def xG(e:Expr)(k:Expr->Operator->Expr->Pos->Bool):Bool:=match e with|.BinOp x p q r=>k x p q r|_=>false
@[elab_as_elim] theorem IC{motive:Expr->Prop}{e:Expr}{k:Expr->Operator->Expr->Pos->Bool}(h:xG e k=true)(f:∀x p q r,k x p q r=true->motive (.BinOp x p q r)):motive e:=by cases e<;>first|exact f _ _ _ _ h|exact Bool.noConfusion h
noncomputable def cUn(e:Expr)(k:UnaryOp->Expr->Pos->Bool):Bool:=match e with|.UnaryOp x p q=>k x p q|_=>false
@[elab_as_elim] theorem xH{motive:Expr->Prop}{e:Expr}{k:UnaryOp->Expr->Pos->Bool}(h:cUn e k=true)(f:∀x p q,k x p q=true->motive (.UnaryOp x p q)):motive e:=by cases e<;>first|exact f _ _ _ h|exact Bool.noConfusion h
noncomputable def tO(e:Expr)(k:Expr->List CmpOp->List Expr->Pos->Bool):Bool:=match e with|.Compare x p q r=>k x p q r|_=>false
@[elab_as_elim] theorem xI{motive:Expr->Prop}{e:Expr}{k:Expr->List CmpOp->List Expr->Pos->Bool}(h:tO e k=true)(f:∀x p q r,k x p q r=true->motive (.Compare x p q r)):motive e:=by cases e<;>first|exact f _ _ _ _ h|exact Bool.noConfusion h
noncomputable def cBo(e:Expr)(k:BoolOp->List Expr->Pos->Bool):Bool:=match e with|.BoolOp x p q=>k x p q|_=>false
@[elab_as_elim] theorem xJ{motive:Expr->Prop}{e:Expr}{k:BoolOp->List Expr->Pos->Bool}(h:cBo e k=true)(f:∀x p q,k x p q=true->motive (.BoolOp x p q)):motive e:=by cases e<;>first|exact f _ _ _ h|exact Bool.noConfusion h
def xK(h:cBo e k=true):∃x p q,e=.BoolOp x p q/\k x p q=true:=by cases e<;>first|exact⟨_,_,_,rfl,h⟩|exact Bool.noConfusion h
noncomputable def cIf(e:Expr)(k:Expr->Expr->Expr->Pos->Bool):Bool:=match e with|.IfExp x p q r=>k x p q r|_=>false
@[elab_as_elim] theorem xL{motive:Expr->Prop}{e:Expr}{k:Expr->Expr->Expr->Pos->Bool}(h:cIf e k=true)(f:∀x p q r,k x p q r=true->motive (.IfExp x p q r)):motive e:=by cases e<;>first|exact f _ _ _ _ h|exact Bool.noConfusion h
noncomputable def qg(e:Expr)(k:List Expr->Nat->Pos->Bool):Bool:=match e with|.Tuple x p q=>k x p q|_=>false
@[elab_as_elim] theorem tP{motive:Expr->Prop}{e:Expr}{k:List Expr->Nat->Pos->Bool}(h:qg e k=true)(f:∀x p q,k x p q=true->motive (.Tuple x p q)):motive e:=by cases e<;>first|exact f _ _ _ h|exact Bool.noConfusion h
noncomputable def tQ(e:Expr)(k:List Expr->Pos->Bool):Bool:=match e with|.List x p=>k x p|_=>false
@[elab_as_elim] theorem xM{motive:Expr->Prop}{e:Expr}{k:List Expr->Pos->Bool}(h:tQ e k=true)(f:∀x p,k x p=true->motive (.List x p)):motive e:=by cases e<;>first|exact f _ _ h|exact Bool.noConfusion h
noncomputable def nS(e:Expr)(k:Expr->Expr->Pos->Bool):Bool:=match e with|.Subscript x p q=>k x p q|_=>false
@[elab_as_elim] theorem qh{motive:Expr->Prop}{e:Expr}{k:Expr->Expr->Pos->Bool}(h:nS e k=true)(f:∀x p q,k x p q=true->motive (.Subscript x p q)):motive e:=by cases e<;>first|exact f _ _ _ h|exact Bool.noConfusion h
noncomputable def xN(e:Expr)(k:Option Expr->Option Expr->Option Expr->Pos->Bool):Bool:=match e with|.Slice x p q r=>k x p q r|_=>false
@[elab_as_elim] theorem ID{motive:Expr->Prop}{e:Expr}{k:Option Expr->Option Expr->Option Expr->Pos->Bool}(h:xN e k=true)(f:∀x p q r,k x p q r=true->motive (.Slice x p q r)):motive e:=by cases e<;>first|exact f _ _ _ _ h|exact Bool.noConfusion h
noncomputable def dP(e:Expr)(k:Expr->List Expr->List Keyword->Pos->Bool):Bool:=match e with|.Call x p q r=>k x p q r|_=>false
@[elab_as_elim] theorem dZ{motive:Expr->Prop}{e:Expr}{k:Expr->List Expr->List Keyword->Pos->Bool}(h:dP e k=true)(f:∀x p q r,k x p q r=true->motive (.Call x p q r)):motive e:=by cases e<;>first|exact f _ _ _ _ h|exact Bool.noConfusion h
noncomputable def nT(e:Expr)(k:Expr->Str->Pos->Bool):Bool:=match e with|.Attribute x p q=>k x p q|_=>false
@[elab_as_elim] theorem qi{motive:Expr->Prop}{e:Expr}{k:Expr->Str->Pos->Bool}(h:nT e k=true)(f:∀x p q,k x p q=true->motive (.Attribute x p q)):motive e:=by cases e<;>first|exact f _ _ _ h|exact Bool.noConfusion h
noncomputable def cLC(e:Expr)(k:Expr->List Comprehension->Scope->Pos->Bool):Bool:=match e with|.ListComp x p q r=>k x p q r|_=>false
def qj(h:cLC e k=true):∃x p q r,e=.ListComp x p q r/\k x p q r=true:=by cases e<;>first|exact⟨_,_,_,_,rfl,h⟩|exact Bool.noConfusion h
noncomputable def c1{α:Type}(l:List α)(k:α->Bool):Bool:=match l with|[x]=>k x|_=>false
noncomputable def c2{α:Type}(l:List α)(k:α->α->Bool):Bool:=match l with|[x,y]=>k x y|_=>false
noncomputable def c3{α:Type}(l:List α)(k:α->α->α->Bool):Bool:=match l with|[x,y,z]=>k x y z|_=>false
noncomputable def cC{α:Type}(l:List α)(k:α->List α->Bool):Bool:=match l with|x::r=>k x r|_=>false
section
variable {α:Type}{l:List α}{a b c d e f g h i:Bool}
@[elab_as_elim] theorem fO{motive:List α->Prop}{k:α->Bool}(h:c1 l k=true)(f:∀x,k x=true->motive ([x])):motive l:=by rcases l with _|⟨x,_|⟨_,_⟩⟩<;>first|exact f _ h|exact Bool.noConfusion h
def kj{k:α->Bool}(h:c1 l k=true):∃x,l=[x]/\k x=true:=by rcases l with _|⟨x,_|⟨_,_⟩⟩<;>first|exact⟨_,rfl,h⟩|exact Bool.noConfusion h
@[elab_as_elim] theorem nU{motive:List α->Prop}{k:α->α->Bool}(h:c2 l k=true)(f:∀x y,k x y=true->motive ([x,y])):motive l:=by rcases l with _|⟨x,_|⟨y,_|⟨_,_⟩⟩⟩<;>first|exact f _ _ h|exact Bool.noConfusion h
@[elab_as_elim] theorem IE{motive:List α->Prop}{k:α->α->α->Bool}(h:c3 l k=true)(f:∀x y z,k x y z=true->motive ([x,y,z])):motive l:=by rcases l with _|⟨x,_|⟨y,_|⟨z,_|⟨_,_⟩⟩⟩⟩<;>first|exact f _ _ _ h|exact Bool.noConfusion h
@[elab_as_elim] theorem tR{motive:List α->Prop}{k:α->List α->Bool}(h:cC l k=true)(f:∀x r,k x r=true->motive (x::r)):motive l:=by rcases l with _|⟨x,r⟩<;>first|exact f _ _ h|exact Bool.noConfusion h
@[elab_as_elim] theorem dF{motive:List α->Prop}(h:l.isEmpty=true)(f:motive []):motive l:=by cases l<;>first|exact f|exact Bool.noConfusion h
def an{a b:Bool}(h:(a&&b)=true):a=true/\b=true:=gD.mp h
def a3(z:(a&&b&&c)=true):a=true/\b=true/\c=true:=let ⟨x,y⟩:=an z;⟨(an x).1,(an x).2,y⟩
def a4(z:(a&&b&&c&&d)=true):a=true/\b=true/\c=true/\d=true:=let ⟨x,y⟩:=an z;let ⟨p,q,r⟩:=a3 x;⟨p,q,r,y⟩
def a5(z:(a&&b&&c&&d&&e)=true):a=true/\b=true/\c=true/\d=true/\e=true:=let ⟨x,y⟩:=an z;let ⟨p,q,r,s⟩:=a4 x;⟨p,q,r,s,y⟩
def a6(z:(a&&b&&c&&d&&e&&f)=true):a=true/\b=true/\c=true/\d=true/\e=true/\f=true:=let ⟨x,y⟩:=an z;let ⟨p,q,r,s,t⟩:=a5 x;⟨p,q,r,s,t,y⟩
def a7(z:(a&&b&&c&&d&&e&&f&&g)=true):a=true/\b=true/\c=true/\d=true/\e=true/\f=true/\g=true:=let ⟨x,y⟩:=an z;let ⟨p,q,r,s,t,u⟩:=a6 x;⟨p,q,r,s,t,u,y⟩
def a8(z:(a&&b&&c&&d&&e&&f&&g&&h)=true):a=true/\b=true/\c=true/\d=true/\e=true/\f=true/\g=true/\h=true:=let ⟨x,y⟩:=an z;let ⟨p,q,r,s,t,u,v⟩:=a7 x;⟨p,q,r,s,t,u,v,y⟩
def a9(z:(a&&b&&c&&d&&e&&f&&g&&h&&i)=true):a=true/\b=true/\c=true/\d=true/\e=true/\f=true/\g=true/\h=true/\i=true:=let ⟨x,y⟩:=an z;let ⟨p,q,r,s,t,u,v,w⟩:=a8 x;⟨p,q,r,s,t,u,v,w,y⟩
end
noncomputable def ckT(cells:Bool)(N:List Str)(nm:List (Str×NameKind))(is:List Nat)(tg:Expr):Bool :=
 let one (i:Nat) (e:Expr):Bool:=cz e λ x _=>decide (N[i]?=some x)&&(decide (nm.lookup x=some .local) || (cells&&decide (nm.lookup x=some .cell)))
 match is with
 |[i]=>one i tg
 |[i,j]=>qg tg λ es _ _=>c2 es λ a b=>one i a&&one j b
 |[i,j,k]=>qg tg λ es _ _=>c3 es λ a b c=>one i a&&one j b&&one k c
 |_=>false
noncomputable def tsE:Expr->Bool
 |.BoolOp ..=>false|.UnaryOp .Not ..=>false|.Compare ..=>false|.IfExp ..=>false|.NamedExpr ..=>false|.Constant ..=>false|_=>true
noncomputable def tB':Cd->Expr->Bool
 |.and ..,_=>true|.or ..,_=>true|.not ..,_=>true|.cmp ..,_=>true|.cm2 ..,_=>true
 |_,e=>tsE e
def jx:Expr->Bool
 |.Tuple ..=>true|_=>false
noncomputable def ikN:IK->Option (Str×Nat)
 |.rng=>some ("range",0)|.zip _ _=>some ("zip",1)|.zip3=>some ("zip",2)|.enum true=>some ("enumerate",0)|.rev true=>some ("reversed",0)|_=>none
noncomputable def ikT:IK->Bool
 |.zip _ _=>true|.zip3=>true|.enum _=>true|_=>false
noncomputable def cn(nm names:List (Str×NameKind)):List (Str×NameKind):=names.map λ(x,k)=>if (k == .free&&nm.lookup x == some .cell) then (x,.cell) else (x,k)
noncomputable def ckS(N:List Str)(nm:List (Str×NameKind))(sc:Scope)(own fv:List Str)(js:List Nat):Bool :=
 decide (sc.kind=.function)&&sc.names.all (λ y=>!decide (y.2=.cell))&&sc.names.all (λ y=>!decide (y.2=.local) || decide (sc.names.lookup y.1=some .local))&&sc.names.all (λ y=>!decide (y.2=.free) || cf nm y.1)
  && decide (js.length=fv.length)&&(fv.zip js).all (λ p=>decide (N[p.2]?=some p.1)&&cf nm p.1&&cf (cn nm sc.names) p.1)&&decide (own++fv).Nodup
section
variable (fs gs:List Str)
mutual
def ck:Cd->List Str->List (Str×NameKind)->Expr->Bool
 |.v i,N,nm,e=>cz e λ x _=>decide (N[i]?=some x)&&vs nm x&&okN x
 |.c t,_,_,e=>xF e λ k _ _=>ckC t k
 |.g k,_,nm,e=>cz e λ x _=>decide (gs[k]?=some x)&&gl nm x&&okN x
 |.bin o a b,N,nm,e=>xG e λ l op r _=>decide (op=o)&&ck a N nm l&&ck b N nm r
 |.neg a,N,nm,e=>cUn e λ op x _=>decide (op=.USub)&&ck a N nm x
 |.not a,N,nm,e=>cUn e λ op x _=>decide (op=.Not)&&tB' a x&&ck a N nm x
 |.cmp o a b,N,nm,e=>tO e λ l os rs _=>c1 os λ op=>c1 rs λ r=>decide (op=o)&&ck a N nm l&&ck b N nm r&&dY r
 |.cm2 o o' a b c,N,nm,e=>tO e λ l os rs _=>c2 os λ op op'=>c2 rs λ r w=>decide (op=o)&&decide (op'=o')&&ck a N nm l&&ck b N nm r&&ck c N nm w&&dY w
 | .and a b,N,nm,e=>cBo e λ op es p=>decide (op=.And) && (match es with
   |[x,y]=>tB' a x&&tB' b y&&ck a N nm x&&ck b N nm y
   |x::y::z::r=>tB' a x&&ck a N nm x&&ck b N nm (.BoolOp .And (y::z::r) p)
   |_=>false)
 | .or a b,N,nm,e=>cBo e λ op es p=>decide (op=.Or) && (match es with
   |[x,y]=>tB' a x&&tB' b y&&ck a N nm x&&ck b N nm y
   |x::y::z::r=>tB' a x&&ck a N nm x&&ck b N nm (.BoolOp .Or (y::z::r) p)
   |_=>false)
 |.ite c a b,N,nm,e=>cIf e λ x y z _=>tB' c x&&ck c N nm x&&ck a N nm y&&ck b N nm z
 |.tup l,N,nm,e=>qg e λ es _ _=>ckL l N nm es
 |.lst l,N,nm,e=>tQ e λ es _=>ckL l N nm es
 |.ix a b,N,nm,e=>nS e λ x y _=>ki y&&ck a N nm x&&ck b N nm y
 |.sl a lo hi,N,nm,e=>nS e λ x y _=>xN y λ l h s _=>s.isNone&&ck a N nm x&&(match l with|none=>mi lo|some l=>ck lo N nm l && !mi lo)&&(match h with|none=>mi hi|some h=>ck hi N nm h && !mi hi)
 |.call f l,N,nm,e=>dP e λ g as w _=>cz g λ x _=>cC as λ a es=>w.isEmpty&&decide (fs[f]?=some x)&&gl nm x&&okN x&&ckL l N nm (a::es)
 |.bi f l,N,nm,e=>dP e λ g as w _=>cz g λ x _=>cC as λ a es=>w.isEmpty&&decide (biN f=some x)&&gl nm x&&ckL l N nm (a::es)
 |.isi f a,N,nm,e=>dP e λ g as w _=>cz g λ x _=>c2 as λ y u=>cz u λ z _=>w.isEmpty&&decide (x="isinstance")&&gl nm x&&xE f&&decide (z=Str.ofString (isN f))&&gl nm z&&aO y&&ck a N nm y
 |.mxl a b,N,nm,e=>dP e λ g as w _=>cz g λ x _=>c2 as λ y z=>c1 w λ k=>cz k.value λ u _=>decide (x="max")&&gl nm x&&decide (k.arg=some (Str.ofString "key"))&&decide (u="len")&&gl nm u&&aO y&&aO z&&ck a N nm y&&ck b N nm z
 |.trev _ a,N,nm,e=>dP e λ g as w _=>cz g λ x _=>c1 as λ u=>dP u λ g' as' w' _=>cz g' λ y _=>c1 as' λ z=>w.isEmpty&&w'.isEmpty&&decide (x="tuple")&&gl nm x&&decide (y="reversed")&&gl nm y&&aO z&&ck a N nm z
 |.lrng k a,N,nm,e=>dP e λ g as w _=>cz g λ x _=>c1 as λ u=>dP u λ g' as' w' _=>cz g' λ y _=>c1 as' λ z=>(w.isEmpty && !k)&&w'.isEmpty&&decide (x=if k=true then "tuple" else "list")&&gl nm x&&decide (y="range")&&gl nm y&&aO z&&ck a N nm z
 |.idx i b,N,nm,e=>dP e λ g as w cp=>nT g λ o name ap=>cz o λ x _=>c1 as λ y=>w.isEmpty&&decide (N[i]?=some x)&&vs nm x&&okN x&&decide (name="index")&&decide (ap.endLine=cp.line)&&aO y&&ck b N nm y
 |.idxE _ a b,N,nm,e=>dP e λ g as w cp=>nT g λ o name ap=>tQ o λ es lp=>c1 as λ y=>w.isEmpty&&decide (name="index")&&decide (ap.endLine=cp.line)&&aO y&&ck a N nm (.List es lp)&&ck b N nm y
 |.dk k a,N,nm,e=>nS e λ o y _=>cz o λ x _=>decide (gs[k]?=some x)&&gl nm x&&okN x&&ki y&&ck a N nm y
 |.comp own fv js tg k it e,N,nm,x=>cLC x λ elt gn sc _=>c1 gn λ g=>g.ifs.isEmpty&&decide (g.is_async=0)&&ckS N nm sc own fv js&&ckI it k g.target N nm g.iter&&ckT false (own++fv) (cn nm sc.names) tg g.target&&tg.all (λ i=>decide (i<own.length))&&ck e (own++fv) (cn nm sc.names) elt
 |.compI own fv js tg k it c e,N,nm,x=>cLC x λ elt gn sc _=>c1 gn λ g=>c1 g.ifs λ cnd=>decide (g.is_async=0)&&ckS N nm sc own fv js&&ckI it k g.target N nm g.iter&&ckT false (own++fv) (cn nm sc.names) tg g.target&&tg.all (λ i=>decide (i<own.length))&&tB' c cnd&&ck c (own++fv) (cn nm sc.names) cnd&&ck e (own++fv) (cn nm sc.names) elt
 |_,_,_,_=>false
def ckL:Cd->List Str->List (Str×NameKind)->List Expr->Bool
 |.nil,_,_,es=>(match es with|[]=>true|_=>false)
 |.cons a r,N,nm,es=>(match es with|e::es=>aO e&&ck a N nm e&&ckL r N nm es|[]=>false)
 |_,_,_,_=>false
def ckI:Cd->IK->Expr->List Str->List (Str×NameKind)->Expr->Bool
 | .cons a r,k,tg,N,nm,it=>(match k with
   |.seq=>dY it&&xD r&&ck a N nm it
   |.str=>false
   |k=>dP it λ g as w _=>cz g λ x _=>cC as λ e es=>w.isEmpty&&decide (ikN k=some (x,es.length))&&gl nm x&&(!ikT k || jx tg)&&aO e&&ck a N nm e&&ckL r N nm es)
 |_,_,_,_,_,_=>false
end
end
section
variable {K:FG}{J:Hp->Prop}
noncomputable def Sr(K:FG)(F:Fz)(H:Hp)(t:TV)(v:V):Prop:=match t with
 |.own l=>Rr K H F H (.bor l) v
 |t=>Rp K F H t v
structure EV (K:FG)(J:Hp->Prop)(F:Fz)(H:Hp)(σ:St)(ρ:En):Prop where
 w:Wd J F H
 sl:∀(i:Nat) t,ρ[i]?=some (some t)->∃v,σ[i]?=some (some v)/\Sr K F H t v
def Sr.grow(g:Grow J F H F' H')(h:Sr K F H t v):Sr K F' H' t v:=by
 cases t with
 |own l=>exact Rr.grow (t:=.bor l) (H:=H') g h
 |_=>exact Rp.ke g.ke h
def EV.grow(e:EV K J F H σ ρ)(g:Grow J F H F' H'):EV K J F' H' σ ρ :=
 ⟨g.w,λ i t h=>let ⟨v,q,r⟩:=e.sl i t h;⟨v,q,r.grow g⟩⟩
noncomputable def pSp(K:FG)(J:Hp->Prop)(S:PSp):Sp:=λ vs H Q _=>∃F ts P,Wd J F H/\RpL K F H ts vs/\S ts P/\∀t,P t->∀F' H' v,Grow J F H F' H'->Rp K F' H' t v->Q v H'
theorem ko(g:Grow J F H F1 H1):∀ {ts:List TV}{vs:List V},RrL K H F1 H1 ts vs->ts.all TV.nb=true->∃F2,Grow J F H F2 H1/\(∀a,F1 a->F2 a)/\RpL K F2 H1 (ts.map TV.fz) vs
 |[],_,h,_=>by cases h;exact⟨F1,g,λ _ f=>f,rfl⟩
 |t::ts,_,h,n=>by
  cases h with
  |cons r q=>
   rw[cX,bF] at n;obtain⟨F2,g2,u2,r2⟩:=ko g q n.2
   cases t with
   |own l=>
    obtain⟨a,vs,e,na,f,qa,ra⟩:=r;refine⟨λ b=>F2 b\/b=a,g2.frz na (by rw[qa];simp),λ b f=>.inl (u2 b f),_,_,O,⟨a,vs,e,.inl ⟨.inr rfl,.of qa⟩,ra.ke (.up λ b f=>.inl (u2 b f))⟩,r2.ke (.up λ b f=>.inl f)⟩
   |bor l=>cases n.1
   |_=>exact⟨F2,g2,u2,_,_,rfl,Rp.ke (.up u2) r,r2⟩
mutual
theorem LF.rp:∀ {t:TV}{v:V},LF t->Rp K F H t v->Rp K F' H t v
 |.non,_,_,h=>h
 |.bl _,_,_,h=>h
 |.int _,_,_,h=>h
 |.str _,_,_,h=>h
 |.tup l,_,f,⟨a,vs,e,q,r⟩=>⟨a,vs,e,q,LF.rpl (λ x hx=>by simp only[LF] at f;exact f x hx) r⟩
 |.lst _,_,f,_=>by simp[LF] at f
 |.bor _,_,f,_=>by simp[LF] at f
 |.own _,_,f,_=>by simp[LF] at f
theorem LF.rpl:∀ {ts:List TV}{vs:List V},(∀x∈ts,LF x)->RpL K F H ts vs->RpL K F' H ts vs
 |[],_,_,h=>h
 |t::ts,_,f,⟨v,r,e,h1,h2⟩=>⟨v,r,e,LF.rp (f t on) h1,LF.rpl (λ x hx=>f x (by simp[hx])) h2⟩
end
end
noncomputable def BN:List Str:=["len","tuple","list","sum","max","min","abs","int","str","sorted","any","all","isinstance","bool","range","zip","enumerate","reversed"]
noncomputable def DOk(P:Program)(w:World)(K:FG)(mg:SV)(x:Str)(l:List TV):Prop:=∃d kvs,mg x=some (.ref d)/\KTab P w K d kvs/\∀y t,dlk l y=some t->∃a,kvs.lookup y=some a/\∀F H,Rp K F H t (.ref a)
structure XOk (X:Cx)(J:Hp->Prop)(FT:List PSp)(GT:List TV)(fs gs:List Str):Prop where
 calm:X.calm=true
 units:X.A.units+20<cLine
 hJ:JS J
 fns:∀(f:Nat) x S,fs[f]?=some x->FT[f]?=some S->∃k ps,Room k X.A/\Callee X.prog X.w X.K X.mg X.base CX0 k x ps (pSp X.K J S)
 glb:∀(g:Nat) x t,gs[g]?=some x->GT[g]?=some t->t.nb=true->∃v u,X.mg x=some u/\RelV v u/\∀F H,Rp X.K F H t v
 dic:∀(g:Nat) x l,gs[g]?=some x->GT[g]?=some (.bor l)->DOk X.prog X.w X.K X.mg x l
 blt:∀x∈BN,X.mg x=none
 len:fs.length=FT.length
structure XS (X:Cx)(N:List Str)(nm:List (Str×NameKind)):Prop where
 N:X.N=N
 nm:X.env.scope.names=nm
section
variable {J:Hp->Prop}{FT:List PSp}{GT:List TV}{fs gs:List Str}
noncomputable def rE(K:FG)(J:Hp->Prop)(FT:List PSp)(GT:List TV)(c:Cd):TE:=λ σ H Q=>∃F ρ,EV K J F H σ ρ/\wE FT GT c ρ λ t=>∀F' H' v,Grow J F H F' H'->Rr K H F' H' t v->Q v H'
noncomputable def rT(K:FG)(J:Hp->Prop)(FT:List PSp)(GT:List TV)(c:Cd):TT:=λ σ H Q=>∃F ρ,EV K J F H σ ρ/\wE FT GT c ρ λ t=>b1 t λ b=>∀F' H',Grow J F H F' H'->Q b H'
noncomputable def rA(K:FG)(J:Hp->Prop)(FT:List PSp)(GT:List TV)(c:Cd):TA:=λ σ H Q=>∃F ρ,EV K J F H σ ρ/\wL FT GT c ρ λ ts=>∀F' H' vs,Grow J F H F' H'->RrL K H F' H' ts vs->Q vs H'
def PE.imp{t t':TE}(h:PE X e t)(i:∀σ H Q,t' σ H Q->t σ H Q):PE X e t':=λ pins s σ H Q I q=>h pins s σ H Q I (i σ H Q q)
def PT.imp{t t':TT}(h:PT X e t)(i:∀σ H Q,t' σ H Q->t σ H Q):PT X e t':=λ pins s σ H Q I q=>h pins s σ H Q I (i σ H Q q)
def PA.imp{t t':TA}(h:PA X e t)(i:∀σ H Q,t' σ H Q->t σ H Q):PA X e t':=λ pos pins s σ H Q I q=>h pos pins s σ H Q I (i σ H Q q)
def bw{es:List Expr}(h:aO e=true):starEach (e::es) env=(false,eval e env)::starEach es env:=by cases e<;>first|rfl|cases h
theorem tS:∀ {es:List Expr}{env:Env},es.all aO=true->(starEach es env).any (·.1)=false
 |[],_,_=>rfl
 |e::es,env,h=>by
  rw[cX,bF] at h;rw[bw h.1,nq,tS h.2];rfl
def mj{es:List Expr}(h:es.all aO=true):(backTo pos (starEach es env)).any (·.1)=false:=by
 unfold backTo;rw[List.any_map];exact tS h
def glX(xs:XS X N nm)(h:gl nm x=true):Gl X x:=by
 show X.env.scope.names.lookup x=_;rw[xs.nm];exact aC h
def kr(xs:XS X N nm)(h:vs nm x=true):Vis X.env.scope x:=by
 unfold vs at h;rw[mq,mq] at h;unfold Vis;rw[xs.nm]
 rcases h with (h|h)|h
 ·exact .inl (aC h)
 ·exact .inr (.inl (aC h))
 ·exact .inr (.inr (aC h))
def gF(h:okN x=true):(x == ("__debug__" : Str))=false/\(x == ("__classdict__" : Str))=false/\x ≠ "__name__" := by
 simp only[okN,bF,Bool.not_eq_true',xO] at h;exact⟨by simpa using h.1.1,by simpa using h.1.2,h.2⟩
end
theorem tT{env:Env}:∀(l:List (Str×NameKind)) (cs:LA),(∀x,(x,NameKind.free)∈l->∃c,env.cells.lookup x=some c) ->
  ∃cl,(forIn l cs (λ(x:Str × NameKind) (r:LA)=>(match x with
   |(name,kind)=>if (kind == NameKind.free)=true then (do let y <- cellOf env name;pure (ForInStep.yield ((name,y)::r))) else pure (ForInStep.yield r):Sem (ForInStep (LA)))):Sem (LA))=pure cl /\
   (∀x c,cl.lookup x=some c->cs.lookup x=some c\/env.cells.lookup x=some c)/\(∀x,(x,NameKind.free)∈l\/(∃c,cs.lookup x=some c)->∃c,cl.lookup x=some c)
 | [],cs,_=>⟨cs,rfl,λ _ _ h=>.inl h,λ x h=>by
  rcases h with h|h
  ·cases h
  ·exact h⟩
 |(n,k)::l,cs,h=>by
  by_cases hk:k=.free
  ·subst hk;obtain⟨c,hc⟩:=h n on;obtain⟨cl,e,q1,q2⟩:=tT l ((n,c)::cs) λ x hx=>h x (by simp[hx]);refine⟨cl,?_,λ x d hx=>?_,λ x hx=>?_⟩
   ·rw[nH];have:cellOf env n=pure c:=by unfold cellOf;rw[hc]
    simp only[this,lL,eW,s2a];exact e
   ·rcases q1 x d hx with z|z
    ·rw[fJ] at z;split at z
     ·rename_i en;have:x=n:=by simpa using en
      subst this;cases z;exact .inr hc
     ·exact .inl z
    ·exact .inr z
   ·refine q2 x ?_
    rcases hx with hx|⟨d,hd⟩
    ·rcases aL.mp hx with z|z
     ·cases z;exact .inr ⟨c,by simp[fJ]⟩
     ·exact .inl z
    ·by_cases en:x=n
     ·subst en;exact .inr ⟨c,by simp[fJ]⟩
     ·have:(x == n)=false:=by simpa using en
      exact .inr ⟨d,by rw[fJ,this];exact hd⟩
  ·obtain⟨cl,e,q1,q2⟩:=tT l cs λ x hx=>h x (by simp[hx]);refine⟨cl,?_,q1,λ x hx=>q2 x ?_⟩
   ·rw[nH];have:(k == NameKind.free)=false:=by simpa using hk
    simp only[this,nI,jb,s2a];exact e
   ·rcases hx with hx|hx
    ·rcases aL.mp hx with z|z
     ·cases z;exact absurd rfl hk
     ·exact .inl z
    ·exact .inr hx
theorem IF{scope:Scope}{env:Env}(h:∀x,(x,NameKind.free)∈scope.names->∃c,env.cells.lookup x=some c) :
  ∃cl,closureFor scope env=pure cl/\(∀x c,cl.lookup x=some c->env.cells.lookup x=some c)/\∀x,(x,NameKind.free)∈scope.names->∃c,cl.lookup x=some c:=by
 obtain⟨cl,e,q1,q2⟩:=tT (env:=env) scope.names [] h;refine⟨cl,?_,λ x c hx=>?_,λ x hx=>q2 x (.inl hx)⟩
 ·unfold closureFor;simp only[bind_pure];exact e
 ·rcases q1 x c hx with z|z
  ·cases z
  ·exact z
section
variable {N:List Str}{nm:List (Str×NameKind)}{sc:Scope}{own fv:List Str}{js:List Nat}
def IG{α β:Type} [BEq α] [LawfulBEq α] {l:List (α×β)}{x:α}{y:β}(h:l.lookup x=some y):(x,y)∈l:=by
 induction l with
 |nil=>cases h
 |cons p r ih=>
  obtain⟨a,b⟩:=p;rw[fJ] at h;split at h
  ·rename_i e;have:x=a:=by simpa using e
   subst this;cases h;simp
  ·exact aE _ (ih h)
structure CSc (X:Cx)(N:List Str)(nm:List (Str×NameKind))(sc:Scope)(own fv:List Str)(js:List Nat)(cl:LA):Prop where
 clos:closureFor sc X.env=pure cl
 cell:∀y∈sc.names,y.2≠.cell
 kind:sc.kind=.function
 names:∀y∈sc.names,y.2=.local->sc.names.lookup y.1=some .local
 sub:∀x c,cl.lookup x=some c->X.env.cells.lookup x=some c
 has:∀x,((relabel sc X.env).names.lookup x=some .cell\/(relabel sc X.env).names.lookup x=some .free)->∃c,cl.lookup x=some c
 len:js.length=fv.length
 cap:∀(i:Nat) x j,fv[i]?=some x->js[i]?=some j->Cap X sc cl x j
 nd:(own++fv).Nodup
 rel:(relabel sc X.env).names=cn nm sc.names
def tU(h:cf nm x=true):nm.lookup x=some .cell\/nm.lookup x=some .free:=by
 unfold cf at h;rw[mq] at h;exact h.imp aC aC
def nV(ok:X.Ok)(xs:XS X N nm)(h:ckS N nm sc own fv js=true):∃cl,CSc X N nm sc own fv js cl:=by
 unfold ckS at h;simp only[bF] at h;obtain⟨⟨⟨⟨⟨⟨h1,h2⟩,h3⟩,h4⟩,h5⟩,h6⟩,h7⟩:=h
 have hfree:∀x,(x,NameKind.free)∈sc.names->nm.lookup x=some .cell\/nm.lookup x=some .free:=λ x hx=>by
  have:=iB.mp h4 _ hx;simp only[decide_true,Bool.not_true,s1i] at this;exact tU this
 obtain⟨cl,e,s1,s2⟩:=IF (scope:=sc) (env:=X.env) λ x hx=>ok.has x (by
  have:=hfree x hx;rw[<- xs.nm] at this
  exact this)
 have hcell:∀y∈sc.names,y.2≠.cell:=λ y hy=>by simpa using iB.mp h2 y hy
 have hrel:(relabel sc X.env).names=cn nm sc.names:=by
  unfold relabel cn;rw[<- xs.nm];apply jy;intro y hy;obtain⟨n,k⟩:=y;have:(X.env.scope.kind == ScopeKind.function)=true:=by rw[ok.kind];rfl
  simp only[this,Bool.and_true];rfl
 refine⟨cl,e,hcell,aC h1,λ y hy e=>?_,s1,λ x hx=>s2 x ?_,aC h5,λ i x j e1 e2=>?_,aC h7,hrel⟩
 ·have:=iB.mp h3 y hy;simpa [e] using this
 ·have:∀k,(relabel sc X.env).names.lookup x=some k->k=.cell\/k=.free->(x,NameKind.free)∈sc.names:=λ k hk hz=>by
   have m:=IG hk;obtain⟨⟨n,k0⟩,hm,he⟩:=bG.mp m;have he:(if (k0 == NameKind.free&&X.env.scope.kind == .function&&X.env.kindOf n == some .cell)=true then (n,NameKind.cell) else (n,k0))=(x,k):=he;split at he
   ·rename_i c;cases he;simp only[bF] at c;have:k0=.free:=by simpa using c.1.1
    subst this;exact hm
   ·cases he
    rcases hz with rfl|rfl
    ·exact absurd rfl (hcell _ hm)
    ·exact hm
  rcases hx with hx|hx
  ·exact this _ hx (.inl rfl)
  ·exact this _ hx (.inr rfl)
 ·have m:(x,j)∈fv.zip js:=by
   refine aA (i:=i) ?_;rw[nR];exact⟨e1,e2⟩
  have:=iB.mp h6 _ m;simp only[bF] at this;refine⟨by rw[xs.N];exact aC this.1.1,?_,?_⟩
  ·rw[xs.nm];exact tU this.1.2
  ·rw[hrel];exact tU this.2
end
section
variable {K:FG}{J:Hp->Prop}{F:Fz}{H:Hp}{σ:St}{ρ:En}
def qk(h:Rp K F H t v):Sr K F H t v:=by cases t<;>first|exact h|exact h.elim
def EV.set{i:Nat}(e:EV K J F H σ ρ)(h:Rp K F H t v)(hi:i<σ.length):EV K J F H (σ.set i (some v)) (ρ.set i (some t)) :=
 ⟨e.w,λ j u hj=>by
  rw[eh] at hj;split at hj
  ·rename_i c;subst c;split at hj
   ·cases hj;exact⟨v,by rw[eh];simp[hi],qk h⟩
   ·cases hj
  ·rename_i c;obtain⟨w,e1,r⟩:=e.sl j u hj
   exact⟨w,by rw[eh,if_neg c];exact e1,r⟩⟩
def EV.any{i:Nat}(e:EV K J F H σ ρ)(h:∀t,ρ[i]?≠some (some t)):EV K J F H (σ.set i v) ρ :=
 ⟨e.w,λ j u hj=>by
  obtain⟨w,e1,r⟩:=e.sl j u hj;refine⟨w,?_,r⟩;rw[eh,if_neg (λ z=>by subst z;exact h u hj)]
  exact e1⟩
noncomputable def tgG(K:FG):List Nat->TG
 |[i]=>eO i
 |[i,j]=>rP K 2 (kZ (eO i) (kZ (eO j) rO))
 |[i,j,k]=>rP K 3 (kZ (eO i) (kZ (eO j) (kZ (eO k) rO)))
 |_=>λ _ _ _ _=>False
theorem qm{Q:St->Hp->Prop}(h:stE ρ is t P)(e:EV K J F H σ ρ)(rt:Rp K F H t v)(hl:∀i∈is,i<σ.length)
  (fin:∀σ' ρ',P ρ'->EV K J F H σ' ρ'->σ'.length=σ.length->(∀ρ0,EV K J F H σ ρ0->(∀i∈is,∀u,ρ0[i]?≠some (some u))->EV K J F H σ' ρ0)->Q σ' H):tgG K is v σ H Q:=by
 match is,h with
 |[i],h=>exact fin _ _ h (e.set rt (hl i on)) on λ ρ0 e0 n=>e0.any (n i on)
 |[i,j],h=>
  cases t with
  |tup l=>
   match l,h with
   |[x,y],h=>
    obtain⟨a,ws,rfl,q,v1,r1,rfl,h1,v2,r2,rfl,h2,rfl⟩:=rt;exact⟨a,_,O,q,O,v1,_,O,v2,_,O,O,fin _ _ h ((e.set h1 (hl i on)).set h2 (by simpa using hl j on)) on λ ρ0 e0 n=>(e0.any (n i on)).any (n j on)⟩
   |[],h=>exact h.elim
   |[_],h=>exact h.elim
   |_::_::_::_,h=>exact h.elim
  |_=>exact h.elim
 |[i,j,k],h=>
  cases t with
  |tup l=>
   match l,h with
   |[x,y,z],h=>
    obtain⟨a,ws,rfl,q,v1,r1,rfl,h1,v2,r2,rfl,h2,v3,r3,rfl,h3,rfl⟩:=rt;exact⟨a,_,O,q,O,v1,_,O,v2,_,O,v3,_,O,O,fin _ _ h (((e.set h1 (hl i on)).set h2 (by simpa using hl j on)).set h3 (by simpa using hl k on)) on λ ρ0 e0 n=>((e0.any (n i on)).any (n j on)).any (n k on)⟩
   |[],h=>exact h.elim
   |[_],h=>exact h.elim
   |[_,_],h=>exact h.elim
   |_::_::_::_::_,h=>exact h.elim
  |_=>exact h.elim
 |[],h=>exact h.elim
 |_::_::_::_::_,h=>exact h.elim
end
section
variable {N:List Str}{nm:List (Str×NameKind)}
def kt{cells:Bool}(hN:X.N.Nodup)(hc:X.calm=true)(xs:XS X N nm)(hf:cells=true->∀x,X.env.scope.names.lookup x=some .cell->X.fn x=true)(h:ckT cells N nm is tg=true):PG X tg (tgG X.K is)/\∀i∈is,i<N.length:=by
 have one:∀(i:Nat) (x:Str) (p:Pos),(decide (N[i]?=some x)&&(decide (nm.lookup x=some .local) || (cells&&decide (nm.lookup x=some .cell))))=true->PG X (.Name x p) (eO i)/\i<N.length:=λ i x p h=>by
  rw[bF,mq,bF] at h;obtain⟨h1,h2⟩:=h;have e:=aC h1;refine⟨?_,(bf.mp e).1⟩
  rcases h2 with h2|⟨h2,h3⟩
  ·have k:X.env.scope.names.lookup x=some .local:=by rw[xs.nm];exact aC h2
   exact vt hN (by rw[xs.N];exact e) (.inl k) (.inr k)
  ·have k:X.env.scope.names.lookup x=some .cell:=by rw[xs.nm];exact aC h3
   exact vt hN (by rw[xs.N];exact e) (.inr k) (.inl (hf h2 x k))
 match is,h with
 |[i],h=>
  refine cx h λ x p g=>?_;obtain⟨a,b⟩:=one _ _ p g;exact⟨a,λ i hi=>by rw[bh.mp hi];exact b⟩
 |[i,j],h=>
  refine tP h λ es _ _ g=>?_;refine nU g λ e1 e2 g=>?_;refine cx (an g).1 λ x p g1=>?_;refine cx (an g).2 λ y q g2=>?_;obtain⟨a1,b1⟩:=one _ _ p g1;obtain⟨a2,b2⟩:=one _ _ q g2;refine⟨vx hc (mQ a1 (mQ a2 vv)),λ i hi=>?_⟩;simp only[aL,bX,bY] at hi
  rcases hi with rfl|rfl<;>assumption
 |[i,j,k],h=>
  refine tP h λ es _ _ g=>?_;refine IE g λ e1 e2 e3 g=>?_;obtain⟨g1,g2,g3⟩:=a3 g;refine cx g1 λ x p g1=>?_;refine cx g2 λ y q g2=>?_;refine cx g3 λ z r g3=>?_;obtain⟨a1,b1⟩:=one _ _ p g1;obtain⟨a2,b2⟩:=one _ _ q g2;obtain⟨a3,b3⟩:=one _ _ r g3;refine⟨vx hc (mQ a1 (mQ a2 (mQ a3 vv))),λ i hi=>?_⟩;simp only[aL,bX,bY] at hi
  rcases hi with rfl|rfl|rfl<;>assumption
 |[],h=>exact Bool.noConfusion h
 |_::_::_::_::_,h=>exact Bool.noConfusion h
end
section
variable {J:Hp->Prop}{FT:List PSp}{GT:List TV}{fs gs:List Str}{N:List Str}{nm:List (Str×NameKind)}
noncomputable def rW(K:FG)(J:Hp->Prop)(FT:List PSp)(GT:List TV)(k:IK)(c:Cd):TI:=λ σ H R=>∃F ρ,EV K J F H σ ρ/\wL FT GT c ρ λ ts=>itP k ts λ its=>∀F' H' xs Jt,Grow J F H F' H'->RrL K H F' H' ts xs->ItOk K J Jt its ts xs->R Jt H'
def PI.imp{t t':TI}(h:PI X tg e t)(i:∀σ H Q,t' σ H Q->t σ H Q):PI X tg e t':=λ pins s σ H Q I q=>h pins s σ H Q I (i σ H Q q)
def tV(h:dY e=true):behindInMarks op e=false:=by cases e<;>first|rfl|cases h
def xP{o o':CmpOp}{r w:Expr}(h:dY w=true):lastMarks [o,o'] [r,w]=false:=by
 show behindInMarks o' w=false;exact tV h
def mx(h:dY e=true):foldedSetIterable e env x=pure x:=by cases e<;>first|rfl|cases h
def xQ(h:ki e=true):vU e:=by
 intro o i
 cases e<;>first|rfl|(cases h;done)
def s_v(xs:XS X N nm)(h:ck fs gs (.v i) N nm e=true):PE X e (rE X.K J FT GT (.v i)):=by
 refine cx h λ x p h0=>?_;have h':=gD.mp h0;obtain⟨h1,h2⟩:=gD.mp h'.1;obtain⟨d1,d2,_⟩:=gF h'.2;refine(iZ (by rw[xs.N];exact aC h1) (kr xs h2) d1 d2).imp λ σ H Q q=>?_;obtain⟨F,ρ,ev,w⟩:=q;have w:rdV ρ[i]? _:=w
 rcases hs:ρ[i]? with _|_|t
 ·rw[hs] at w;exact w.elim
 ·rw[hs] at w;exact w.elim
 ·rw[hs] at w;obtain⟨v,e,r⟩:=ev.sl i t hs;unfold cV;rw[e];refine w F H v (.refl ev.w) ?_
  cases t with
  |own l=>exact r
  |bor l=>exact r.elim
  |_=>exact r
def s_c(h:ck fs gs (.c t) N nm e=true):PE X e (rE X.K J FT GT (.c t)):=by
 refine IB h λ k _ _ h0=>?_;replace h:ckC t k=true:=h0
 cases t<;>cases k<;>first
  |exact Bool.noConfusion h
  |(cases aC h;exact pe_int.imp λ σ H Q ⟨F,ρ,ev,w⟩=>w F H _ (.refl ev.w) rfl)
  |(cases aC h;exact pe_str.imp λ σ H Q ⟨F,ρ,ev,w⟩=>w F H _ (.refl ev.w) rfl)
  |(cases aC h;exact pe_bl.imp λ σ H Q ⟨F,ρ,ev,w⟩=>w F H _ (.refl ev.w) rfl)
  |exact pe_non.imp λ σ H Q ⟨F,ρ,ev,w⟩=>w F H _ (.refl ev.w) rfl
def s_g(xo:XOk X J FT GT fs gs)(xs:XS X N nm)(h:ck fs gs (.g k) N nm e=true):PE X e (rE X.K J FT GT (.g k)):=by
 refine cx h λ x p h0=>?_;have h':=gD.mp h0;obtain⟨h1,h2⟩:=gD.mp h'.1;obtain⟨d1,_,_⟩:=gF h'.2
 cases et:GT[k]? with
 |none=>exact λ pins s σ H Q I ⟨F,ρ,ev,w⟩=>by have w:gtP GT[k]? _:=w;rw[et] at w;exact w.elim
 |some t=>
  cases nb:t.nb with
  |false=>
   intro pins s σ H Q I ⟨F,ρ,ev,w⟩;have w:gtP GT[k]? _:=w;rw[et] at w
   cases t<;>first|exact w.elim|exact Bool.noConfusion nb
  |true=>
   obtain⟨v,u,m,r,p⟩:=xo.glb k _ t (aC h1) et nb;refine(Dd (glX xs h2) m r d1).imp λ σ H Q ⟨F,ρ,ev,w⟩=>?_;have w:gtP GT[k]? _:=w;rw[et] at w
   cases t with
   |bor l=>cases nb
   |_=>exact w F H v (.refl ev.w) (Rr.of (p F H))
def IH{k:Nat}(xo:XOk X J FT GT fs gs)(xs:XS X N nm)(h1:gs[k]?=some x)(h2:gl nm x=true)(h3:okN x=true)(h4:ki y=true)(ha:PE X y (rE X.K J FT GT a)):PE X (.Subscript (.Name x p1) y p2) (rE X.K J FT GT (.dk k a)):=by
 intro pins s σ H Q I ⟨F,ρ,ev,w⟩;obtain⟨l,et,w⟩:=xr (show dcP GT[k]? _ from w);obtain⟨d,kvs,hm,T,look⟩:=xo.dic k x l h1 et;refine GW (glX xs h2) hm T ha (xQ h4) (gF h3).1 pins s σ H Q I ⟨F,ρ,ev,av a (λ t w F1 H1 v g r=>?_) w⟩;obtain⟨z,rfl,t,el,w⟩:=xt w;cases r;obtain⟨b,eb,rp⟩:=look z t el;exact⟨z,b,O,eb,w F1 H1 _ g (Rr.of (rp F1 H1))⟩
def II(xo:XOk X J FT GT fs gs)(ha:PE X l (rE X.K J FT GT a))(hb:PE X r (rE X.K J FT GT b)):PE X (.BinOp l o r p) (rE X.K J FT GT (.bin o a b)) :=
 (DN (Ia xo.hJ o) ha hb).imp λ σ H Q ⟨F,ρ,ev,w⟩=>⟨F,ρ,ev,av a (λ x w F1 H1 v g1 r1=>⟨F1,ρ,ev.grow g1,av b (λ y w F2 H2 v2 g2 r2=>⟨F,H,F2,x,y,g1.trans g2,r1.grow g2,r2.late g1,w⟩) w⟩) w⟩
def IJ{o:CmpOp}(xo:XOk X J FT GT fs gs)(ha:PE X l (rE X.K J FT GT a))(hb:PE X r (rE X.K J FT GT b))(hs:dY r=true):PE X (.Compare l [o] [r] p) (rE X.K J FT GT (.cmp o a b)) :=
 (Ej (mf xo.units o) ha hb (tV hs)).imp λ σ H Q ⟨F,ρ,ev,w⟩=>⟨F,ρ,ev,av a (λ x w F1 H1 v g1 r1=>⟨F1,ρ,ev.grow g1,av b (λ y w F2 H2 v2 g2 r2=>⟨F,H,F2,x,y,g1.trans g2,r1.grow g2,r2.late g1,iE (λ z w v r=>w F2 H2 v (g1.trans g2) r) w⟩) w⟩) w⟩
def IL(ha:PE X l (rE X.K J FT GT a))(hb:PE X r (rE X.K J FT GT b))(hs:ki r=true):PE X (.Subscript l r p) (rE X.K J FT GT (.ix a b)) :=
 (EL Ig ha hb (xQ hs)).imp λ σ H Q ⟨F,ρ,ev,w⟩=>⟨F,ρ,ev,av a (λ x w F1 H1 v g1 r1=>⟨F1,ρ,ev.grow g1,av b (λ y w F2 H2 v2 g2 r2=>⟨F,H,F2,x,y,g1.trans g2,r1.grow g2,r2.late g1,w⟩) w⟩) w⟩
def IM(ha:PE X l (rE X.K J FT GT a)):PE X (.UnaryOp .USub l p) (rE X.K J FT GT (.neg a)) :=
 (DO Ea ha).imp λ σ H Q ⟨F,ρ,ev,w⟩=>⟨F,ρ,ev,av a (λ x w F1 H1 v g1 r1=>by
  obtain⟨i,rfl,w⟩:=iF w;cases r1
  exact w F1 H1 _ g1 rfl) w⟩
def IN(ha:PE X l (rE X.K J FT GT a)):PE X (.UnaryOp .Not l p) (rE X.K J FT GT (.not a)) :=
 (Ds ha).imp λ σ H Q ⟨F,ρ,ev,w⟩=>⟨F,ρ,ev,av a (λ x w F1 H1 v g1 r1=>by
  obtain⟨i,rfl,w⟩:=jt w;cases r1
  exact⟨i,O,w F1 H1 _ g1 rfl⟩) w⟩
def qo{Q:VK}(g:Grow J F H F1 H1)(w:∀F' H' v,Grow J F H F' H'->Rr X.K H F' H' t v->Q v H'):∀F' H' v,Grow J F1 H1 F' H'->Rr X.K H1 F' H' t v->Q v H':=λ F' H' v g' r=>w F' H' v (g.trans g') (r.late g)
def IP{o o':CmpOp}(xo:XOk X J FT GT fs gs)(ha:PE X l (rE X.K J FT GT a))(hb:PE X r (rE X.K J FT GT b))(hc:PE X w' (rE X.K J FT GT c))(hs:dY w'=true):PE X (.Compare l [o,o'] [r,w'] p) (rE X.K J FT GT (.cm2 o o' a b c)) :=
 (El (mf xo.units o) (mf xo.units o') ha hb hc (xP hs)).imp λ σ H Q ⟨F,ρ,ev,w⟩=>⟨F,ρ,ev,av a (λ x w F1 H1 v g1 r1=>⟨F1,ρ,ev.grow g1,av b (λ y w F2 H2 v2 g2 r2=>⟨F,H,F2,x,y,g1.trans g2,r1.grow g2,r2.late g1,iE (λ z w v3 r3=>by
  obtain⟨k,ek,w2⟩:=jt w;subst ek;cases r3;refine⟨k,O,?_⟩;split at w2
  ·rw[if_pos (by assumption)];exact⟨F2,ρ,(ev.grow g1).grow g2,av c (λ z w F4 H4 v4 g4 r4=>⟨F,H,F4,y,z,(g1.trans g2).trans g4,(r2.late g1).grow g4,r4.late (g1.trans g2),iE (λ u w v r=>w F4 H4 v ((g1.trans g2).trans g4) r) w⟩) w2⟩
  ·rw[if_neg (by assumption)];exact w2 F2 H2 _ (g1.trans g2) rfl) w⟩) w⟩) w⟩
def xR{l r:Expr}{rest:List Expr}(ha:PE X l (rE X.K J FT GT a))(hb:PE X (.BoolOp .And (r::rest) p) (rE X.K J FT GT b)):PE X (.BoolOp .And (l::r::rest) p) (rE X.K J FT GT (.and a b)) :=
 (Dq ha hb).imp λ σ H Q ⟨F,ρ,ev,w⟩=>⟨F,ρ,ev,av a (λ x w F1 H1 v g1 r1=>by
  obtain⟨k,ek,w2⟩:=jt w;subst ek;cases r1;show if k=true then _ else _;split at w2
  ·rw[if_pos (by assumption)];exact⟨F1,ρ,ev.grow g1,av b (λ y w=>qo g1 w) w2⟩
  ·rw[if_neg (by assumption)];exact w2 F1 H1 _ g1 rfl) w⟩
def xS{l r:Expr}{rest:List Expr}(ha:PE X l (rE X.K J FT GT a))(hb:PE X (.BoolOp .Or (r::rest) p) (rE X.K J FT GT b)):PE X (.BoolOp .Or (l::r::rest) p) (rE X.K J FT GT (.or a b)) :=
 (Dr ha hb).imp λ σ H Q ⟨F,ρ,ev,w⟩=>⟨F,ρ,ev,av a (λ x w F1 H1 v g1 r1=>by
  obtain⟨k,ek,w2⟩:=jt w;subst ek;cases r1;show if k=true then _ else _;split at w2
  ·rw[if_pos (by assumption)];exact w2 F1 H1 _ g1 rfl
  ·rw[if_neg (by assumption)];exact⟨F1,ρ,ev.grow g1,av b (λ y w=>qo g1 w) w2⟩) w⟩
def IQ(hc:PT X x (rT X.K J FT GT c))(ha:PE X y (rE X.K J FT GT a))(hb:PE X z (rE X.K J FT GT b)):PE X (.IfExp x y z p) (rE X.K J FT GT (.ite c a b)) :=
 (vn hc ha hb).imp λ σ H Q ⟨F,ρ,ev,w⟩=>⟨F,ρ,ev,av c (λ x w=>cG (λ k w2 F1 H1 g1=>by
  split at w2
  ·rw[if_pos (by assumption)];exact⟨F1,ρ,ev.grow g1,av a (λ y w=>qo g1 w) w2⟩
  ·rw[if_neg (by assumption)];exact⟨F1,ρ,ev.grow g1,av b (λ y w=>qo g1 w) w2⟩) w) w⟩
def nW(ha:PE X e (rE X.K J FT GT a))(hr:PA X es (rA X.K J FT GT r))(hs:aO e=true):PA X (e::es) (rA X.K J FT GT (.cons a r)) :=
 (cL ha hr (bw hs)).imp λ σ H Q ⟨F,ρ,ev,w⟩=>⟨F,ρ,ev,av a (λ x w F1 H1 v g1 r1=>⟨F1,ρ,ev.grow g1,cN r (λ ts w F2 H2 vs g2 r2=>w F2 H2 _ (g1.trans g2) (.cons (r1.grow g2) (Paired.mapP r2 λ _ _ z=>z.late g1))) w⟩) w⟩
def tW:PA X [] (rA X.K J FT GT .nil):=pa_nil.imp λ σ H Q ⟨F,ρ,ev,w⟩=>w F H _ (.refl ev.w) .nil
def IR(xo:XOk X J FT GT fs gs)(h:PA X es (rA X.K J FT GT l)):PE X (.Tuple es k p) (rE X.K J FT GT (.tup l)) :=
 (vI h).imp λ σ H Q ⟨F,ρ,ev,w⟩=>⟨F,ρ,ev,cN l (λ ts ⟨n,z,w⟩ F1 H1 vs g1 r1=>by
  obtain⟨F2,g2,_,r2⟩:=ko g1 r1 n
  exact⟨by rw[<- r2.length,ao];exact z,ma xo.hJ g2 r2 w⟩) w⟩
def IS(xo:XOk X J FT GT fs gs)(h:PA X es (rA X.K J FT GT l)):PE X (.List es p) (rE X.K J FT GT (.lst l)) :=
 (Eu h).imp λ σ H Q ⟨F,ρ,ev,w⟩=>⟨F,ρ,ev,cN l (λ ts ⟨n,z,w⟩ F1 H1 vs g1 r1=>by
  obtain⟨F2,g2,_,r2⟩:=ko g1 r1 n
  exact⟨by rw[<- r2.length,ao];exact z,gz xo.hJ g2 r2 w⟩) w⟩
theorem IT{a lo hi:Cd}(xo:XOk X J FT GT fs gs)(ha:PE X e (rE X.K J FT GT a))(hl:PO X l (λ σ H Q=>∃F ρ,EV X.K J F H σ ρ/\wE FT GT lo ρ λ t=>oI t λ o=>∀F' H',Grow J F H F' H'->Q o H'))(hh:PO X h (λ σ H Q=>∃F ρ,EV X.K J F H σ ρ/\wE FT GT hi ρ λ t=>oI t λ o=>∀F' H',Grow J F H F' H'->Q o H')) :
  PE X (.Subscript e (.Slice l h none p2) p) (rE X.K J FT GT (.sl a lo hi)) :=
 (EG (Ih xo.hJ) ha hl hh).imp λ σ H Q ⟨F,ρ,ev,w⟩=>⟨F,ρ,ev,av a (λ x w F1 H1 v g1 r1=>⟨F1,ρ,ev.grow g1,av lo (λ y w=>pW (λ a w F2 H2 g2=>⟨F2,ρ,(ev.grow g1).grow g2,av hi (λ z w=>pW (λ b w F3 H3 g3=>⟨F,H,F3,x,(g1.trans g2).trans g3,(r1.grow g2).grow g3,w⟩) w) w⟩) w) w⟩) w⟩
end
section
variable {J:Hp->Prop}{FT:List PSp}{GT:List TV}{fs gs:List Str}{N:List Str}{nm:List (Str×NameKind)}
set_option tactic.hygienic true in
def IU{K:FG}{vs:List V}(w:Wd J F1 H1)(h:RrL K H F1 H1 ts vs):∃F2,Wd J F2 H1/\RpL K F2 H1 (ts.map TV.fz) vs:=by
 refine⟨λ b=>H1 b≠none,⟨w.j,λ a f=>f⟩,?_⟩;have up:∀a,F1 a->H1 a≠none:=w.d
 induction h with
 |nil=>rfl
 |cons r q ih=>
  refine⟨_,_,O,?_,ih⟩;rename_i t v _ _
  cases t with
  |own l=>obtain⟨a,vs,e,_,_,qa,ra⟩:=r;exact⟨a,vs,e,(.inl ⟨(λ z=>by rw[qa] at z;cases z),.of qa⟩),ra.ke (.up up)⟩
  |bor l=>obtain⟨a,vs,e,_,qa,ra⟩:=r;exact⟨a,vs,e,(.inl ⟨(λ z=>by rw[qa] at z;cases z),.of qa⟩),ra.ke (.up up)⟩
  |_=>exact Rp.ke (.up up) r
theorem IV{f:Nat}{a:Expr}{es:List Expr}(xo:XOk X J FT GT fs gs)(hf:fs[f]?=some x)(hg:Gl X x)(hd:(x == ("__debug__" : Str))=false)(ha:PA X (a::es) (rA X.K J FT GT l))(hs:aO a=true)(hss:es.all aO=true) :
  PE X (.Call (.Name x p) (a::es) [] pos) (rE X.K J FT GT (.call f l)):=by
 obtain⟨S,eS⟩:∃S,FT[f]?=some S:=jw (by rw[<- xo.len];exact(bf.mp hf).1);obtain⟨k,ps,hr,c⟩:=xo.fns f x S hf eS;refine(Fw c hr hg Fp ha hd (bw hs) (mj hss)).imp λ σ H Q ⟨F,ρ,ev,w⟩=>⟨F,ρ,ev,cN l (λ ts w F1 H1 vs g1 r1=>?_) w⟩;obtain⟨P,⟨S',e',sp⟩,w⟩:=w;rw[eS] at e';cases e';rw[fG]
 cases n:ts.all TV.nb with
 |true=>
  obtain⟨F2,g2,_,r2⟩:=ko g1 r1 n;exact⟨F2,_,P,g2.w,r2,sp,λ t pt F' H' v g' r'=>(w t pt).2 F' H' v (g2.trans g') (Rr.of r')⟩
 |false=>
  obtain⟨F2,w2,r2⟩:=IU g1.w r1;refine⟨F2,_,P,w2,r2,sp,λ t pt F' H' v g' r'=>?_⟩;obtain⟨lf,w⟩:=w t pt;have gg:Grow J F1 H1 F1 H':=⟨g'.sm,g'.dm,λ _ h=>h,λ _ h=>.inl h,g'.w.j,λ b f=>g'.dm b (g1.w.d b f)⟩;exact w F1 H' v (g1.trans gg) (Rr.of ((lf n).rp r'))
theorem kw{a:Expr}{es:List Expr}{id:String}(hc:cF X (.builtin id) (rL X J (biP f)))(hg:Gl X x)(hm:X.mg x=none)(hv:bootBuiltins x=some (.builtin id))(hn:x ≠ "__name__")(hd:(x == ("__debug__" : Str))=false)(ha:PA X (a::es) (rA X.K J FT GT l))(hs:aO a=true)(hss:es.all aO=true) :
  PE X (.Call (.Name x p) (a::es) [] pos) (rE X.K J FT GT (.bi f l)) :=
 (vO hc hg hm hv ha hn hd (bw hs) (mj hss)).imp λ σ H Q ⟨F,ρ,ev,w⟩=>⟨F,ρ,ev,cN l (λ ts w F1 H1 vs g1 r1=>⟨F,H,F1,ts,g1,r1,w⟩) w⟩
theorem tX{a:Expr}{es:List Expr}{id:String}(hc:cF X (.type id) (rL X J (biP f)))(hg:Gl X x)(hm:X.mg x=none)(hv:bootBuiltins x=some (.type id))(hn:x ≠ "__name__")(hd:(x == ("__debug__" : Str))=false)(ha:PA X (a::es) (rA X.K J FT GT l))(hs:aO a=true)(hss:es.all aO=true) :
  PE X (.Call (.Name x p) (a::es) [] pos) (rE X.K J FT GT (.bi f l)) :=
 (pc hc hg hm hv ha hn hd (bw hs) (mj hss)).imp λ σ H Q ⟨F,ρ,ev,w⟩=>⟨F,ρ,ev,cN l (λ ts w F1 H1 vs g1 r1=>⟨F,H,F1,ts,g1,r1,w⟩) w⟩
theorem IW{a:Expr}{es:List Expr}(xo:XOk X J FT GT fs gs)(hx:biN f=some x)(hg:Gl X x)(ha:PA X (a::es) (rA X.K J FT GT l))(hs:aO a=true)(hss:es.all aO=true) :
  PE X (.Call (.Name x p) (a::es) [] pos) (rE X.K J FT GT (.bi f l)):=by
 have bm:∀y,y∈BN->X.mg y=none:=xo.blt
 cases f with
 |len=>cases hx;exact kw (iG xo.hJ xo.calm .len on) hg (bm _ fu) (by decide +kernel) fu fu ha hs hss
 |tuple=>cases hx;exact tX (iG xo.hJ xo.calm .tuple on) hg (bm _ fu) (by decide +kernel) fu fu ha hs hss
 |list=>cases hx;exact tX (iG xo.hJ xo.calm .list on) hg (bm _ fu) (by decide +kernel) fu fu ha hs hss
 |sum=>cases hx;exact kw (iG xo.hJ xo.calm .sum on) hg (bm _ fu) (by decide +kernel) fu fu ha hs hss
 |max=>cases hx;exact kw (Ik xo.calm) hg (bm _ fu) (by decide +kernel) fu fu ha hs hss
 |min=>cases hx;exact kw (Il xo.calm) hg (bm _ fu) (by decide +kernel) fu fu ha hs hss
 |abs=>cases hx;exact kw (iG xo.hJ xo.calm .abs on) hg (bm _ fu) (by decide +kernel) fu fu ha hs hss
 |int=>cases hx;exact tX (iG xo.hJ xo.calm .int on) hg (bm _ fu) (by decide +kernel) fu fu ha hs hss
 |sorted=>cases hx;exact kw (iG xo.hJ xo.calm .sorted on) hg (bm _ fu) (by decide +kernel) fu fu ha hs hss
 |any=>cases hx;exact kw (iG xo.hJ xo.calm .any on) hg (bm _ fu) (by decide +kernel) fu fu ha hs hss
 |_=>cases hx
theorem IY{f:BI}{z:Str}{p pos pz:Pos}(xo:XOk X J FT GT fs gs)(h:f=.isI\/f=.isB\/f=.isT\/f=.isL\/f=.isS)(hz:z=Str.ofString (isN f))(hg:Gl X "isinstance")(hgz:Gl X z)(hs:aO y=true)(hy:PE X y (rE X.K J FT GT b)) :
  PE X (.Call (.Name "isinstance" p) [y,.Name z pz] [] pos) (rE X.K J FT GT (.isi f b)):=by
 have bm:∀y,y∈BN->X.mg y=none:=xo.blt
 have hb:bootBuiltins z=some (.type (isN f))/\X.mg z=none/\z ≠ "__name__" /\ (z == ("__debug__" : Str))=false:=by
  subst hz
  rcases h with rfl|rfl|rfl|rfl|rfl<;>exact⟨by decide +kernel,bm _ fu,fu,fu⟩
 have ha:PA X [y,.Name z pz] (oX (rE X.K J FT GT b) (oX (tC (.ty (isN f))) rX)):=cL hy (cL (De (v:=.ty (isN f)) hgz hb.2.1 hb.1 rfl hb.2.2.1 hb.2.2.2) pa_nil rfl) (bw hs);refine(vO (Ip (J:=J) f h) hg (bm _ fu) (by decide +kernel) ha fu fu (bw hs) rfl).imp λ σ H Q ⟨F,ρ,ev,w⟩=>⟨F,ρ,ev,av b (λ t w F1 H1 v g1 r1=>?_) w⟩;exact⟨v,O,F,H,F1,[t],g1,.cons r1 .nil,w⟩
theorem IZ{p pos kp p2:Pos}(xo:XOk X J FT GT fs gs)(hg:Gl X "max")(hg2:Gl X "len")(hs:aO y=true)(hs2:aO z=true)(hy:PE X y (rE X.K J FT GT a))(hz:PE X z (rE X.K J FT GT b)) :
  PE X (.Call (.Name "max" p) [y,z] [⟨some (Str.ofString "key"),.Name "len" p2,kp⟩] pos) (rE X.K J FT GT (.mxl a b)):=by
 refine(Ii xo.calm hg (xo.blt _ fu) hg2 (xo.blt _ fu) hy hz (bw hs) (bw hs2)).imp λ σ H Q ⟨F,ρ,ev,w⟩=>⟨F,ρ,ev,av a (λ t w F1 H1 v g1 r1=>⟨F1,ρ,ev.grow g1,av b (λ u w F2 H2 v2 g2 r2=>?_) w⟩) w⟩;have w:biP .maxlen [t,u] λ t=>∀F' H' v,Grow J F H F' H'->Rr X.K H F' H' t v->Q v H':=w
 cases t with
 |tup l=>
  cases u with
  |tup m=>
   obtain⟨A,xs,rfl,q1,s1⟩:=r1.grow g2;obtain⟨B,ys,rfl,q2,s2⟩:=r2;refine⟨A,B,xs,ys,O,O,q1,q2,λ z=>?_,λ z=>?_⟩
   ·have w:∀F' H' v,Grow J F H F' H'->Rr X.K H F' H' (.tup (if l.length<m.length then m else l)) v->Q v H':=w;rw[if_neg (by rw[s1.length,s2.length];lia)] at w;exact w F2 H2 _ (g1.trans g2) ⟨A,xs,O,q1,s1⟩
   ·have w:∀F' H' v,Grow J F H F' H'->Rr X.K H F' H' (.tup (if l.length<m.length then m else l)) v->Q v H':=w;rw[if_pos (by rw[s1.length,s2.length];lia)] at w;exact w F2 H2 _ (g1.trans g2) ⟨B,ys,O,q2,s2⟩
  |_=>exact w.elim
 |_=>cases u<;>exact w.elim
theorem Ja{p pos p2 pos2:Pos}(xo:XOk X J FT GT fs gs)(hg:Gl X "tuple")(hg2:Gl X "reversed")(hs:aO y=true)(hy:PE X y (rE X.K J FT GT a)) :
  PE X (.Call (.Name "tuple" p) [.Call (.Name "reversed" p2) [y] [] pos2] [] pos) (rE X.K J FT GT (.trev k a)):=by
 cases k with
 |false=>
  refine(FW xo.calm hg hg2 (xo.blt _ fu) (xo.blt _ fu) hy (bw hs)).imp λ σ H Q ⟨F,ρ,ev,w⟩=>⟨F,ρ,ev,av a (λ t w F1 H1 v g1 r1=>?_) w⟩;obtain⟨l,e,w⟩:=ju (show l1 t λ l=>∀F' H' v,Grow J F H F' H'->Rr X.K H F' H' (.tup l.reverse) v->Q v H' from w);obtain⟨b,vs,rfl,r,q⟩:=r1.lq e;exact⟨b,vs,O,q,ma xo.hJ g1 r.reverse w⟩
 |true=>
  refine(GE xo.calm hg hg2 (xo.blt _ fu) (xo.blt _ fu) hy (bw hs)).imp λ σ H Q ⟨F,ρ,ev,w⟩=>⟨F,ρ,ev,av a (λ t w F1 H1 v g1 r1=>?_) w⟩;have w:k1 true t λ l=>∀F' H' v,Grow J F H F' H'->Rr X.K H F' H' (.tup l.reverse) v->Q v H':=w
  cases t with
  |tup l=>obtain⟨b,vs,rfl,q,r⟩:=r1;exact⟨b,vs,rfl,q,ma xo.hJ g1 r.reverse w⟩
  |_=>exact w.elim
theorem Jb{k:Bool}{p pos p2 pos2:Pos}(hk:(!k)=true)(xo:XOk X J FT GT fs gs)(hg:Gl X (Str.ofString (if k=true then "tuple" else "list")))(hg2:Gl X "range")(hs:aO y=true)(hy:PE X y (rE X.K J FT GT a)) :
  PE X (.Call (.Name (Str.ofString (if k=true then "tuple" else "list")) p) [.Call (.Name "range" p2) [y] [] pos2] [] pos) (rE X.K J FT GT (.lrng k a)):=by
 have hr:=pc (p:=p2) (pos:=pos2) GJ hg2 (xo.blt _ fu) (by decide +kernel) (cL hy pa_nil (bw hs)) fu fu (bw hs) rfl;have e:∀j:Int,(upL j.toNat).map TV.int=(List.range j.toNat).map λ i=>TV.int (i:Nat):=λ j=>by unfold upL;rw[br];rfl
 cases k with
 |false=>
  refine(pc (GK xo.calm) hg (xo.blt _ fu) (by decide +kernel) (cL hr pa_nil rfl) fu fu rfl rfl).imp λ σ H Q ⟨F,ρ,ev,w⟩=>⟨F,ρ,ev,av a (λ t w F1 H1 v g1 r1=>?_) w⟩;obtain⟨j,rfl,⟨c0,c1⟩,w⟩:=iF (show i1 t λ j=>(0<=j/\j<=1000)/\∀F' H' v,Grow J F H F' H'->Rr X.K H F' H' (.own ((List.range j.toNat).map λ i=>.int (i:Nat))) v->Q v H' from w);cases r1;refine⟨j,O,λ r hr=>?_⟩;have g2:Grow J F1 H1 F1 (upd H1 r (.rng 0 j)):=.new xo.hJ g1.w _ hr;refine⟨r,j.toNat,O,by rw[cJ];congr 2;exact(iJ c0).symm,ca,λ l hl=>?_⟩;rw[<- e] at w;exact gz xo.hJ (g1.trans g2) (RpL.ofInts _) w l hl
 |true=>exact Bool.noConfusion hk
end
section
variable {J:Hp->Prop}{FT:List PSp}{GT:List TV}{fs gs:List Str}{N:List Str}{nm:List (Str×NameKind)}{tg:Expr}
def xT(hy:PE X y (rE X.K J FT GT a)):PI X tg y (rW X.K J FT GT .seq (.cons a .nil)) :=
 (GZ hy).imp λ σ H R ⟨F,ρ,ev,w⟩=>⟨F,ρ,ev,av a (λ t w F1 H1 v g r=>by
  obtain⟨b,l,e,w⟩:=lZ (show s1 t λ its=>∀F' H' xs Jt,Grow J F H F' H'->RrL X.K H F' H' [t] xs->ItOk X.K J Jt its [t] xs->R Jt H' from w);obtain⟨p,vs,rfl,_,q⟩:=r.sq e
  rcases q with ⟨rfl,q⟩|⟨rfl,q⟩
  ·exact .inr ⟨p,O,⟨vs,q⟩,w F1 H1 _ _ g (.cons r .nil) (Ir e)⟩
  ·exact .inl ⟨p,O,⟨vs,q⟩,w F1 H1 _ _ g (.cons r .nil) (Iq e)⟩) w⟩
def Jc(n:Nat):((List.range n).map λ k=>TV.int (0+(k:Nat)))=(List.range n).map λ k=>TV.int (k:Nat):=on
def Jd{p pos:Pos}(xo:XOk X J FT GT fs gs)(hg:Gl X "range")(hs:aO e=true)(he:PE X e (rE X.K J FT GT a)):PI X tg (.Call (.Name "range" p) [e] [] pos) (rW X.K J FT GT .rng (.cons a .nil)) :=
 (DI hg (xo.blt _ fu) (cL he pa_nil (bw hs)) (bw hs)).imp λ σ H R ⟨F,ρ,ev,w⟩=>⟨F,ρ,ev,av a (λ t w F1 H1 v g r=>by
  obtain⟨j,rfl,c,w⟩:=iF (show i1 t λ j=>(-(2 ^ 62)<=j/\j<2 ^ 62)/\∀F' H' xs Jt,Grow J F H F' H'->RrL X.K H F' H' [t] xs->ItOk X.K J Jt ((List.range j.toNat).map λ i=>.int (i:Nat)) [t] xs->R Jt H' from w);cases r
  exact⟨j,O,c.1,c.2,w F1 H1 _ _ g (.cons rfl .nil) (by rw[<- Jc];exact Iu 0 _)⟩) w⟩
def Je{K:FG}{t u z:TV}(h:RrL K H F1 H1 [t,u,z] xs):∃x y w,xs=[x,y,w]/\Rr K H F1 H1 t x/\Rr K H F1 H1 u y/\Rr K H F1 H1 z w:=by
 cases h with
 |cons r q=>obtain⟨y,w,rfl,r',r''⟩:=qd q;exact⟨_,y,w,rfl,r,r',r''⟩
def iK(h:k1 b t P):∃l,t.items=some (b,l)/\P l:=by
 cases b with
 |true=>cases t<;>first|exact⟨_,rfl,h⟩|exact h.elim
 |false=>exact ju h
def Rr.sb{K:FG}{b:Bool}{l:List TV}(h:Rr K H F' H' t v)(e:t.items=some (b,l)):∃a vs,v=.ref a/\SqB K b H' a vs:=by
 obtain⟨a,vs,rfl,q,_⟩:=h.vw.b e;exact⟨a,vs,O,q⟩
def Jf{p pos:Pos}(xo:XOk X J FT GT fs gs)(hg:Gl X "zip")(hs:aO e=true)(hs2:aO e2=true)(hp:PA X [e,e2] (rA X.K J FT GT l)):PI X (.Tuple es x1 pp) (.Call (.Name "zip" p) [e,e2] [] pos) (rW X.K J FT GT (.zip c d) l) :=
 (xk HM hg (xo.blt _ fu) hp (bw hs) (by rw[bw hs2];rfl)).imp λ σ H R ⟨F,ρ,ev,w⟩=>⟨F,ρ,ev,cN l (λ ts w F1 H1 vs g r=>by
  rcases ts with _|⟨t,_|⟨u,_|⟨z,ts⟩⟩⟩
  ·exact w.elim
  ·exact w.elim
  ·obtain⟨l,e1,w⟩:=iK w;obtain⟨m,e2,w⟩:=iK w;obtain⟨x,y,rfl,r1,r2⟩:=qd r;obtain⟨A,vs,rfl,q⟩:=r1.sb e1;obtain⟨B,ws,rfl,q2⟩:=r2.sb e2
   exact⟨[(c,A),(d,B)],O,O,λ i s q'=>by
    match i,q' with
    |0,rfl=>exact⟨_,q⟩
    |1,rfl=>exact⟨_,q2⟩,w F1 H1 _ _ g r (Iy xo.hJ e1 e2)⟩
  ·exact w.elim) w⟩
def Jg{p pos:Pos}(xo:XOk X J FT GT fs gs)(hg:Gl X "zip")(hs:aO e=true)(hs2:aO e2=true)(hs3:aO e3=true)(hp:PA X [e,e2,e3] (rA X.K J FT GT l)):PI X (.Tuple es x1 pp) (.Call (.Name "zip" p) [e,e2,e3] [] pos) (rW X.K J FT GT .zip3 l) :=
 (xk HN hg (xo.blt _ fu) hp (bw hs) (by rw[bw hs2,bw hs3];rfl)).imp λ σ H R ⟨F,ρ,ev,w⟩=>⟨F,ρ,ev,cN l (λ ts w F1 H1 vs g r=>by
  rcases ts with _|⟨t,_|⟨u,_|⟨z,_|⟨_,ts⟩⟩⟩⟩
  ·exact w.elim
  ·exact w.elim
  ·exact w.elim
  ·obtain⟨l,e1,w⟩:=iK w;obtain⟨m,e2,w⟩:=iK w;obtain⟨n,e3,hl,w⟩:=iK w;obtain⟨x,y,v,rfl,r1,r2,r3⟩:=Je r;obtain⟨A,vs,rfl,q⟩:=r1.sb e1;obtain⟨B,ws,rfl,q2⟩:=r2.sb e2;obtain⟨C,us,rfl,q3⟩:=r3.sb e3
   exact⟨[(true,A),(true,B),(true,C)],O,O,λ i s q'=>by
    match i,q' with
    |0,rfl=>exact⟨_,q⟩
    |1,rfl=>exact⟨_,q2⟩
    |2,rfl=>exact⟨_,q3⟩,w F1 H1 _ _ g r (Iz xo.hJ e1 e2 e3 hl.1 hl.2)⟩
  ·exact w.elim) w⟩
def Jh{p pos:Pos}(xo:XOk X J FT GT fs gs)(hg:Gl X "enumerate")(hs:aO e=true)(he:PE X e (rE X.K J FT GT a)):PI X (.Tuple es x1 pp) (.Call (.Name "enumerate" p) [e] [] pos) (rW X.K J FT GT (.enum true) (.cons a .nil)):=by
 exact(Gk hg (xo.blt _ fu) he (bw hs)).imp λ σ H R ⟨F,ρ,ev,w⟩=>⟨F,ρ,ev,av a (λ t w F1 H1 v g r=>by
   obtain⟨l,e1,w⟩:=iK (show k1 true t λ l=>∀F' H' xs Jt,Grow J F H F' H'->RrL X.K H F' H' [t] xs->ItOk X.K J Jt (l.mapIdx λ i x=>.tup [.int (i:Nat),x]) [t] xs->R Jt H' from w);obtain⟨A,vs,rfl,q⟩:=r.sb e1
   exact⟨A,vs,O,q,w F1 H1 _ _ g (.cons r .nil) (Ix xo.hJ e1)⟩) w⟩
def Ji{p pos:Pos}(xo:XOk X J FT GT fs gs)(hg:Gl X "reversed")(hs:aO e=true)(he:PE X e (rE X.K J FT GT a)):PI X tg (.Call (.Name "reversed" p) [e] [] pos) (rW X.K J FT GT (.rev true) (.cons a .nil)):=by
 exact(FO hg (xo.blt _ fu) he (bw hs)).imp λ σ H R ⟨F,ρ,ev,w⟩=>⟨F,ρ,ev,av a (λ t w F1 H1 v g r=>by
   obtain⟨l,e1,w⟩:=iK (show k1 true t λ l=>∀F' H' xs Jt,Grow J F H F' H'->RrL X.K H F' H' [t] xs->ItOk X.K J Jt l.reverse [t] xs->R Jt H' from w);obtain⟨A,vs,rfl,q,rl⟩:=r.vw.t e1
   exact⟨A,vs,O,q,w F1 H1 _ _ g (.cons r .nil) (Iw e1 rl.length.symm)⟩) w⟩
noncomputable def cEn(own:List Str)(js:List Nat)(ρ:En):En:=List.replicate own.length none++js.map λ j=>(ρ[j]?).join
def EV.comp{K:FG}{own:List Str}(e:EV K J F H σ ρ):EV K J F H (dD own.length js σ) (cEn own js ρ) :=
 ⟨e.w,λ i t h=>by
  unfold cEn at h;unfold dD;by_cases hi:i<own.length
  ·rw[eR (by simpa using hi),lB] at h;split at h<;>cases h
  ·rw[dn (by simpa using hi),hZ,aQ] at h;rw[dn (by simpa using hi),hZ,aQ]
   cases ej:js[i-own.length]? with
   |none=>rw[ej] at h;cases h
   |some j=>
    rw[ej] at h;have h:(ρ[j]?).join=some t:=bJ h
    have h2:ρ[j]?=some (some t):=by
     cases q:ρ[j]? with
     |none=>rw[q] at h;cases h
     |some o=>rw[q] at h;cases o<;>cases h;rfl
    obtain⟨v,e1,r⟩:=e.sl j t h2
    exact⟨v,by rw[Option.map_some,e1];rfl,r⟩⟩
def qp{own:List Str}{i:Nat}(h:i<own.length):∀u,(cEn own js ρ)[i]?≠some (some u):=λ u z=>by
 unfold cEn at z;rw[eR (by simpa using h),lB] at z;split at z<;>cases z
theorem qr{K:PySem.W.Frag}{own:List Str}{js tgs:List Nat}{Q:VK}{tc:TT}{te:TE}
  (hJ:JS J) (g1:Grow J F H F1 H1) (rx:RrL K H F1 H1 ts xs) (ok:ItOk K J Jt its ts xs) (ev:EV K J F H σ ρ) (lt:∀i∈tgs,i<own.length) (hn:its.length<sizeLine) (b:TV->(List TV->Prop)->Prop)
  (hm:∀t K K',(∀y,K y->K' y)->b t K->b t K') (w:cmF b its λ ys=>∀F' H' v,Grow J F H F' H'->Rr K H F' H' (.own ys) v->Q v H')
  (st:∀t P x F' H' σ',b t P->EV K J F' H' σ' (cEn own js ρ)->σ'.length=(dD own.length js σ).length->Rp K F' H' t x ->
   ∀R:List V->St->Hp->Prop,(∀ys vs σ2 F2 H2,P ys->ys.length<=1->Grow J F' H' F2 H2->RpL K F2 H2 ys vs->EV K J F2 H2 σ2 (cEn own js ρ)->σ2.length=σ'.length->R vs σ2 H2) ->
    tgG K tgs x σ' H' λ σ3 H3=>tc σ3 H3 λ q H4=>if q=true then te σ3 H4 λ v H5=>R [v] σ3 H5 else R [] σ3 H4) :
  ∃W:Nat->Nat->List V->St->Hp->Prop,(∃m,W 0 m [] (dD own.length js σ) H1)/\∀i m ys σ' H',W i m ys σ' H' ->
   (Jt.stop i H'/\∀p,H' p=none->Q (.ref p) (upd H' p (.lst ys))) \/
   (Jt.go i H'/\ys.length < sizeLine/\∃N:List V->St->Hp->Prop,(∀zs σ2 H2,N zs σ2 H2->∃m',m' < m/\W (i+1) m' zs σ2 H2) /\
    ∀x H2,Jt.yld i H' x H2->tgG K tgs x σ' H2 λ σ3 H3=>tc σ3 H3 λ q H4=>if q=true then te σ3 H4 λ v H5=>N (ys++[v]) σ3 H5 else N ys σ3 H4):=by
 refine⟨λ i m ys σ' H'=>i≤its.length/\m=its.length - i/\∃F' zs,Grow J F1 H1 F' H'/\EV K J F' H' σ' (cEn own js ρ)/\σ'.length=(dD own.length js σ).length/\RpL K F' H' zs ys/\zs.length≤i/\cmF b (its.drop i) λ ws=>∀F' H' v,Grow J F H F' H'->Rr K H F' H' (.own (zs++ws)) v->Q v H',
  ⟨_,bW _,rfl,F1,[],.refl g1.w,(ev.grow g1).comp,rfl,rfl,bW _,w⟩,?_⟩
 rintro i m ys σ' H' ⟨hi,rfl,F',zs,g',ev',sl,rz,zl,w'⟩;have vw:Paired (Vw K F' H') ts xs:=Paired.mapP (rx.grow g') λ _ _ r=>r.vw;by_cases c:i<its.length
 ·refine .inr ⟨ok.go F' H' i g'.w vw c,by rw[← rz.length];lia,λ zs' σ2 H2=>∃F2 ws,Grow J F1 H1 F2 H2/\EV K J F2 H2 σ2 (cEn own js ρ)/\σ2.length=(dD own.length js σ).length/\RpL K F2 H2 ws zs'/\ws.length≤i+1/\cmF b (its.drop (i+1)) λ us=>∀F' H' v,Grow J F H F' H'->Rr K H F' H' (.own (ws++us)) v->Q v H',
   λ zs' σ2 H2 ⟨F2,ws,q⟩=>⟨_,ca,c,rfl,F2,ws,q⟩,λ x H2 y=>?_⟩
  obtain⟨t,et,gy,rt⟩:=ok.yld F' H' i x H2 g'.w vw c y
  have ed:its.drop i=t::its.drop (i+1):=by
   rw[lU c]
   congr 1
   rw[aB c] at et;exact bJ et
  rw[ed] at w'
  have z:=st t _ x F' H2 σ' w' (ev'.grow gy) sl rt (λ vs σ2 H3=>∃F2 ws,Grow J F1 H1 F2 H3/\EV K J F2 H3 σ2 (cEn own js ρ)/\σ2.length=(dD own.length js σ).length/\RpL K F2 H3 ws (ys++vs)/\ws.length<=i+1/\cmF b (its.drop (i+1)) λ us=>∀F' H' v,Grow J F H F' H'->Rr K H F' H' (.own (ws++us)) v->Q v H')
   (λ zs2 vs σ2 F2 H3 q l1 g2 r2 e2 s2=>⟨F2,zs++zs2,(g'.trans gy).trans g2,e2,s2.trans sl,(rz.ke (gy.trans g2).ke).append r2,by rw[aN];lia,by
    exact pX hm (λ us q=>by rw[eX];exact q) q⟩)
  simp only[fG] at z;exact z
 ·have e:i=its.length:=by lia
  subst e;rw[tY] at w';have w':∀F' H' v,Grow J F H F' H'->Rr K H F' H' (.own (zs++[])) v->Q v H':=w';rw[fG] at w';exact .inl ⟨ok.stop F' H' g'.w vw,gz hJ (g1.trans g') rz w'⟩
end
section
variable {J:Hp->Prop}{FT:List PSp}{GT:List TV}{fs gs:List Str}{N:List Str}{nm:List (Str×NameKind)}
def my{cl:LA}(xo:XOk X J FT GT fs gs):XOk (bC X N' sc cl C ex s H) J FT GT fs gs:=⟨xo.calm,xo.units,xo.hJ,xo.fns,xo.glb,xo.dic,xo.blt,xo.len⟩
theorem Jj{t iter elt:Expr}(xo:XOk X J FT GT fs gs)(xs:XS X N nm)(hS:ckS N nm sc own fv js=true)(hi:PI X t iter (rW X.K J FT GT k it))(hT:ckT false (own++fv) (cn nm sc.names) tgs t=true)(hl:tgs.all (λ i=>decide (i<own.length))=true)(hns:dY iter=true)
  (he:∀Y:Cx,XOk Y J FT GT fs gs->XS Y (own++fv) (cn nm sc.names)->PE Y elt (rE Y.K J FT GT e)):PE X (.ListComp elt [⟨t,iter,[],0⟩] sc pos) (rE X.K J FT GT (.comp own fv js tgs k it e)):=by
 intro pins s σ H Q I h;obtain⟨cl,S⟩:=nV I.ok xs hS;have yx:∀(C:Addr) (ex:List Addr) (s:Shared) (H:Hp),XS (bC X (own++fv) sc cl C ex s H) (own++fv) (cn nm sc.names):=λ C ex s H=>⟨rfl,S.rel⟩;have lt:∀i∈tgs,i<own.length:=λ i hi=>aC (iB.mp hl i hi);refine wo (g:=tgG X.K tgs) (te:=rE X.K J FT GT e) xo.calm hi S.clos S.cell S.kind S.names S.sub S.has S.len S.cap (λ C ex s H=>(kt (X:=bC X (own++fv) sc cl C ex s H) S.nd xo.calm (yx C ex s H) (λ z=>by cases z) hT).1) (λ C ex s H=>he _ (my xo) (yx C ex s H)) (λ x=>mx hns) pins s σ H Q I ?_;obtain⟨F,ρ,ev,w⟩:=h;refine⟨F,ρ,ev,cN it (λ ts w=>jq (λ its w F1 H1 xs Jt g1 rx ok=>?_) w) w⟩;obtain⟨hn,w⟩:=w
 have z:=qr (tc:=λ σ H Q=>Q true H) (te:=rE X.K J FT GT e) xo.hJ g1 rx ok ev lt hn (λ t K'=>stE (cEn own js ρ) tgs t λ ρ'=>wE FT GT e ρ' λ y=>(y.nb=true/\K' [y.fz])) (λ t K K' h q=>gx (λ ρ' q=>av e (λ y q=>⟨q.1,h _ q.2⟩) q) q) w
  (λ t P x F' H' σ' b ev' sl rt R fin=>qm b ev' rt (λ i hi=>by rw[sl];unfold dD;simp;have:=lt i hi;lia) λ σ2 ρ2 p ev2 sl2 keep=>by
   show if true=true then _ else _;rw[if_pos rfl];refine⟨F',ρ2,ev2,av e (λ y ⟨nb,p⟩ F2 H2 v g r=>?_) p⟩;obtain⟨F3,g3,_,_,rp⟩:=r.frz g nb
   exact fin [y.fz] [v] σ2 F3 H2 p (ay _) g3 ⟨v,[],O,rp,O⟩ ((keep _ ev' λ i hi u=>qp (lt i hi) u).grow g3) sl2)
 simpa only[eW] using z
theorem Jk{t iter elt cnd:Expr}(xo:XOk X J FT GT fs gs)(xs:XS X N nm)(hS:ckS N nm sc own fv js=true)(hi:PI X t iter (rW X.K J FT GT k it))(hT:ckT false (own++fv) (cn nm sc.names) tgs t=true)(hl:tgs.all (λ i=>decide (i<own.length))=true)(hns:dY iter=true)
  (hc:∀Y:Cx,XOk Y J FT GT fs gs->XS Y (own++fv) (cn nm sc.names)->PT Y cnd (rT Y.K J FT GT c)) (he:∀Y:Cx,XOk Y J FT GT fs gs->XS Y (own++fv) (cn nm sc.names)->PE Y elt (rE Y.K J FT GT e)):PE X (.ListComp elt [⟨t,iter,[cnd],0⟩] sc pos) (rE X.K J FT GT (.compI own fv js tgs k it c e)):=by
 intro pins s σ H Q I h;obtain⟨cl,S⟩:=nV I.ok xs hS;have yx:∀(C:Addr) (ex:List Addr) (s:Shared) (H:Hp),XS (bC X (own++fv) sc cl C ex s H) (own++fv) (cn nm sc.names):=λ C ex s H=>⟨rfl,S.rel⟩;have lt:∀i∈tgs,i<own.length:=λ i hi=>aC (iB.mp hl i hi);refine Gc (g:=tgG X.K tgs) (tc:=rT X.K J FT GT c) (te:=rE X.K J FT GT e) xo.calm hi S.clos S.cell S.kind S.names S.sub S.has S.len S.cap (λ C ex s H=>(kt (X:=bC X (own++fv) sc cl C ex s H) S.nd xo.calm (yx C ex s H) (λ z=>by cases z) hT).1) (λ C ex s H=>he _ (my xo) (yx C ex s H)) (λ C ex s H=>hc _ (my xo) (yx C ex s H)) (λ x=>mx hns) pins s σ H Q I ?_;obtain⟨F,ρ,ev,w⟩:=h;refine⟨F,ρ,ev,cN it (λ ts w=>jq (λ its w F1 H1 xs Jt g1 rx ok=>?_) w) w⟩;obtain⟨hn,w⟩:=w
 exact qr (tc:=rT X.K J FT GT c) (te:=rE X.K J FT GT e) xo.hJ g1 rx ok ev lt hn (λ t K'=>stE (cEn own js ρ) tgs t λ ρ'=>wE FT GT c ρ' λ x=>b1 x λ q=>if q=true then wE FT GT e ρ' λ y=>(y.nb=true/\K' [y.fz]) else K' []) (λ t K K' h q=>gx (λ ρ' q=>av c (λ x q=>cG (λ z q=>by
   split at q
   ·rw[if_pos (by assumption)];exact av e (λ y q=>⟨q.1,h _ q.2⟩) q
   ·rw[if_neg (by assumption)];exact h _ q) q) q) q) w
  (λ t P x F' H' σ' b ev' sl rt R fin=>qm b ev' rt (λ i hi=>by rw[sl];unfold dD;simp;have:=lt i hi;lia) λ σ2 ρ2 p ev2 sl2 keep=>by
   have kp:=keep _ ev' λ i hi u=>qp (own:=own) (js:=js) (ρ:=ρ) (lt i hi) u;refine⟨F',ρ2,ev2,av c (λ x w=>cG (λ q w2 F2 H2 g2=>?_) w) p⟩;split at w2
   ·rw[if_pos (by assumption)];refine⟨F2,ρ2,ev2.grow g2,av e (λ y ⟨nb,p⟩ F3 H3 v g r=>?_) w2⟩;obtain⟨F4,g4,_,_,rp⟩:=r.frz g nb;exact fin [y.fz] [v] σ2 F4 H3 p (ay _) (g2.trans g4) ⟨v,[],O,rp,O⟩ ((kp.grow g2).grow g4) sl2
   ·rw[if_neg (by assumption)]
    exact fin [] [] σ2 F2 H2 w2 (bW _) g2 rfl (kp.grow g2) sl2)
def Jl{es:List Expr}(h:es.all aO=true):(backTo pos (starEach es env)).all (λ x=>!x.1)=true:=by
 unfold backTo;rw[List.all_map];have:=tS (env:=env) h;rw[List.all_eq_not_any_not];simpa using this
theorem mB{e:Expr}{es:List Expr}(h:(e::es).all aO=true)(hl:(e::es).length<20) :
  ((backTo cp (starEach (e::es) env)).all (λ x=>!x.1)&&(backToKw cp (keywordEach [] env)).all (λ x=>x.1.isSome)&&decide ((e::es).length+([]:List Keyword).length+(if ([]:List Keyword).isEmpty then 0 else 1)<30))=true:=by
 rw[Jl h,bF,bF];refine⟨⟨O,O⟩,?_⟩;simp only[List.isEmpty_nil,eW,List.length_nil];exact cY ca
def Inv.tupD(I:Inv X pins σ H s)(h:SqT X.K H a xs):s.TypeIs (.ref a) "tuple" /\ ∃ob,s.heap.get? a=some ob/\ob.dict=none:=by
 rcases h with h|⟨o,its,n,hk,hc,hd,hs,hz,r⟩
 ·obtain⟨z,its,r,o,e,⟨c,_⟩,d⟩:=h.ok I.hok;exact⟨⟨o,e,c⟩,o,e,d⟩
 ·exact⟨⟨o,I.kIn a o hk,hc⟩,o,I.kIn a o hk,hd⟩
noncomputable def xU(K:FG):V->List V->Hp->VK->Prop:=λ x ys H Q=>∃a xs y j,x=.ref a/\ys=[y]/\SqT K H a xs/\xs.all cM=true/\cM y=true/\(∃z,xs[j]?=some z/\eqV z y=true)/\(∀m z,m<j->xs[m]?=some z->eqV z y=false)/\Q (.int (j:Nat)) H
def xV:MtR X "tuple.index" (xU X.K):=by
 intro pins s σ H x ys v us Q I rx rv h;obtain⟨a,xs,y,j,rfl,rfl,ha,hfl,fy,⟨z,ez,hz0⟩,hn,q⟩:=h;cases rx;obtain⟨u,rfl,ru⟩:=cS rv;obtain⟨its,rv2,⟨o,g1,c2,n2,d2⟩,hz⟩:=I.tuple ha;obtain⟨oc,od,odt,osl⟩:=o;subst c2 d2;have hlen:=rv2.length;have jl:=(bf.mp ez).1;have jl2:j<its.length:=ca;refine iu F.slot_tuple_index ⟨_,g1,O⟩ F.entry_tuple_index (F.args_tuple_index_2 _ _) (Ho a its.toArray n2 od osl u (eqU y) j (by simpa using jl2) ?_ ?_) ⟨g1,λ w hw=>jT ru fy rv2 hfl w (by simpa using hw),?_⟩
 ·show eqU y its[j]=true;rw[nM rv2 hfl j jl jl2];rw[aB jl] at ez;cases (bJ ez);exact hz0
 ·intro m hm hlt;show eqU y its[m]=false;have ml:m<xs.length:=by simp only[aV] at hm;lia
  rw[nM rv2 hfl m ml (by simpa using hm)];exact hn m _ hlt (aB ml)
 ·exact⟨.int _,H,I.tok _,⟨_,O⟩,q⟩
noncomputable def Jm(K:FG)(r:V->List V->Hp->VK->Prop)(to:TE)(t:TA):TE:=λ σ H Q=>to σ H λ x H1=>(∃a xs,x=.ref a/\SqT K H1 a xs)/\t σ H1 λ ys H2=>r x ys H2 Q
theorem xW{o e:Expr}{es:List Expr}{name:Str}{apos cpos:Pos}{id:String}(slot:Slot "tuple" name id)(hty:typeOf (.builtin id)=pure (.type "method_descriptor"))(hm:MtR X id r)(ho:PE X o to)(ha:PA X (e::es) t)
  (hbase:attributeBase o name X.env (eval o X.env)=eval o X.env)
  (hfew:((backTo cpos (starEach (e::es) X.env)).all (λ x=>!x.1) && (backToKw cpos (keywordEach [] X.env)).all (λ x=>x.1.isSome)
   && decide ((e::es).length+([]:List Keyword).length+(if ([]:List Keyword).isEmpty then 0 else 1)<30))=true)
  (hline:(apos.endLine == cpos.line)=true) (hs:starEach (e::es) X.env=(false,eval e X.env)::starEach es X.env) (hplain:(backTo cpos (starEach es X.env)).any (·.1)=false) :
  PE X (.Call (.Attribute o name apos) (e::es) [] cpos) (Jm X.K r to t):=by
 intro pins s σ H Q I h;refine wa hbase hfew hline rfl (thn (ho pins s σ H _ I h) λ v s1 ⟨x,H1,I1,r1,ty,q1⟩=>?_)
 have hh:s1.TypeIs v "tuple" /\ ∀a,v=.ref a->∃ob,s1.heap.get? a=some ob/\ob.dict=none:=by
  obtain⟨a,xs,rfl,ha⟩:=ty;cases r1;obtain⟨t1,t2⟩:=I1.tupD ha;exact⟨t1,λ b e=>by cases e;exact t2⟩
 refine⟨"tuple",id,PySem.F.plainAttrs_tuple,slot,hty,hh.1,hh.2,?_⟩;have hA:=ha cpos pins s1 σ H1 _ I1 q1;rw[hs] at hA ⊢;refine sG (by show(false || (backTo cpos (starEach es X.env)).any (·.1))=false;rw[hplain]<;>rfl) (s0h ?_);exact thn hA λ us s2 ⟨vs,H2,I2,r2,q2⟩=>hm pins s2 σ H2 x vs v us Q I2 r1 r2 q2
def xX{K:FG}(h:Rr K H F' H' t v)(f:flT t=true):Rp K F' H' t v:=by cases t<;>first|exact h|exact Bool.noConfusion f
theorem xY{K:FG}{vs:List V}{u z:TV}{j:Nat}(rl:RpL K F H l vs)(rx:Rp K F H u x)(f1:flT u=true)(f2:∀z∈l,flT z=true)(ez:l[j]?=some z)(h1:eqT z u=true)(h2:∀(m:Nat) z,m<j->l[m]?=some z->eqT z u=false) :
  vs.all cM=true/\cM x=true/\(∃z,vs[j]?=some z/\eqV z x=true)/\∀(m:Nat) z,m<j->vs[m]?=some z->eqV z x=false:=by
 obtain⟨v,ev,rv⟩:=rl.get ez;refine⟨pZ rl f2,pY rx f1,⟨v,ev,by rw[tJ rv rx (f2 _ (aA ez)) f1];exact h1⟩,λ m w hm ew=>?_⟩;have ml:m<l.length:=by rw[rl.length];exact(bf.mp ew).1
 have em:=aB ml;obtain⟨w',ew',rw'⟩:=rl.get em;rw[ew] at ew';cases ew';rw[tJ rw' rx (f2 _ (jo ml)) f1];exact h2 m _ hm em
def Jn{i:Nat}{p ap cp:Pos}(xs:XS X N nm)(h1:N[i]?=some x)(h2:vs nm x=true)(h3:okN x=true)(hl:ap.endLine=cp.line)(st:aO y=true)(hb:PE X y (rE X.K J FT GT b)):PE X (.Call (.Attribute (.Name x p) "index" ap) [y] [] cp) (rE X.K J FT GT (.idx i b)):=by
 intro pins s σ H Q I ⟨F,ρ,ev,w⟩;obtain⟨d1,d2,_⟩:=gF h3;have hv:PE X (.Name x p) (cV i):=iZ (by rw[xs.N];exact h1) (kr xs h2) d1 d2;have ha:PA X [y] (rA X.K J FT GT (.cons b .nil)):=nW hb tW st;have w:rdV ρ[i]? _:=w;have fo:=mB (e:=y) (es:=[]) (env:=X.env) (cp:=cp) (by rw[cX,st];rfl) (show 1<20 by decide);have tv:∀ {P:VK}{a:Addr},σ[i]?=some (some (.ref a))->P (.ref a) H->cV i σ H P:=λ {P a} e p=>by unfold cV;rw[e];exact p
 have arg:∀ {l:List TV}{a:Addr}{vs:List V}{r:V->List V->Hp->VK->Prop},(wE FT GT b ρ λ y=>flT y=true/\(∀z∈l,flT z=true)/\∃(j:Nat) (z:TV),l[j]?=some z/\eqT z y=true/\(∀(m:Nat) (z:TV),m<j->l[m]?=some z->eqT z y=false)/\∀F' H' v,Grow J F H F' H'->Rr X.K H F' H' (.int (j:Nat)) v->Q v H')->(∀F' H',Grow J F H F' H'->RpL X.K F' H' l vs) ->
   (∀F' H' (y:V) (j:Nat),Grow J F H F' H'->vs.all cM=true->cM y=true->(∃z,vs[j]?=some z/\eqV z y=true)->(∀(m:Nat) z,m<j->vs[m]?=some z->eqV z y=false)->Q (.int (j:Nat)) H'->r (.ref a) [y] H' Q)->rA X.K J FT GT (.cons b .nil) σ H λ ys H2=>r (.ref a) ys H2 Q:=λ {l a vs r} w rl fin=>by
  refine⟨F,ρ,ev,av b (λ u w F' H' ws g rr=>?_) w⟩;obtain⟨f1,f2,j,z,ez,q1,q2,w⟩:=w;obtain⟨xv,rfl,rt⟩:=jv rr;obtain⟨c1,c2,c3,c4⟩:=xY (rl F' H' g) (xX rt f1) f1 f2 ez q1 q2;exact fin F' H' xv j g c1 c2 c3 c4 (w F' H' _ g rfl)
 rcases hs:ρ[i]? with _|_|t
 ·rw[hs] at w;exact w.elim
 ·rw[hs] at w;exact w.elim
 ·rw[hs] at w;obtain⟨v,e,r⟩:=ev.sl i t hs
  cases t with
  |tup l=>
   obtain⟨a,vs,rfl,q,rl⟩:=r;exact xW (apos:=ap) (cpos:=cp) xZ yg xV hv ha rfl fo (ky.mpr hl) (bw st) rfl pins s σ H Q I (tv e ⟨⟨a,vs,O,q⟩,arg w (λ F' H' g=>rl.ke g.ke) λ F' H' y j g c1 c2 c3 c4 q'=>⟨a,vs,y,j,O,O,q.sm g.sm,c1,c2,c3,c4,q'⟩⟩)
  |lst l=>
   obtain⟨a,vs,rfl,q,rl⟩:=r;exact jU (apos:=ap) (cpos:=cp) jz tZ ua tq hv ha rfl fo (ky.mpr hl) (bw st) rfl pins s σ H Q I (tv e ⟨.inl ⟨O,vs,q.sq⟩,arg w (λ F' H' g=>rl.ke g.ke) λ F' H' y j g c1 c2 c3 c4 q'=>⟨a,vs,y,j,O,O,q.sq.sm g.sm,c1,c2,c3,c4,q'⟩⟩)
  |own l=>
   obtain⟨a,vs,rfl,nf,q,rl⟩:=r;exact jU (apos:=ap) (cpos:=cp) jz tZ ua tq hv ha rfl fo (ky.mpr hl) (bw st) rfl pins s σ H Q I (tv e ⟨.inl ⟨O,vs,.of q⟩,arg w (λ F' H' g=>rl.ke g.ke) λ F' H' y j g c1 c2 c3 c4 q'=>⟨a,vs,y,j,O,O,.of (g.sm _ _ (λ ps z=>by cases z) q),c1,c2,c3,c4,q'⟩⟩)
  |bor l=>exact r.elim
  |_=>exact w.elim
def Jo{lp ap cp:Pos}(hl:ap.endLine=cp.line)(st:aO y=true)(ha:PE X (.List es lp) (rE X.K J FT GT a))(hb:PE X y (rE X.K J FT GT b)):PE X (.Call (.Attribute (.List es lp) "index" ap) [y] [] cp) (rE X.K J FT GT (.idxE k a b)):=by
 have hy:PA X [y] (rA X.K J FT GT (.cons b .nil)):=nW hb tW st;have fo:=mB (e:=y) (es:=[]) (env:=X.env) (cp:=cp) (by rw[cX,st];rfl) (show 1<20 by decide)
 have core:∀ {σ:St}{H:Hp}{Q:VK}{F:Fz}{ρ:En}{x:TV}{F1:Fz}{H1:Hp}{v:V}{r:V->List V->Hp->VK->Prop}{ty:V->Hp->Prop},EV X.K J F H σ ρ->(k1 k x λ l=>wE FT GT b ρ λ y=>idP l y λ t=>∀F' H' v,Grow J F H F' H'->Rr X.K H F' H' t v->Q v H')->Grow J F H F1 H1->Rr X.K H F1 H1 x v ->
   (∀p vs H',SqB X.K k H' p vs->ty (.ref p) H')->(∀p vs H' (y:V) (j:Nat),SqB X.K k H' p vs->vs.all cM=true->cM y=true->(∃z,vs[j]?=some z/\eqV z y=true)->(∀(m:Nat) z,m<j->vs[m]?=some z->eqV z y=false)->Q (.int (j:Nat)) H'->r (.ref p) [y] H' Q) ->
   ty v H1/\rA X.K J FT GT (.cons b .nil) σ H1 λ ys H2=>r v ys H2 Q:=λ {σ H Q F ρ x F1 H1 v r ty} ev w g rv hty fin=>by
  obtain⟨l,e,w⟩:=iK w;obtain⟨p,vs,rfl,q,rl⟩:=rv.vw.b e;refine⟨hty p vs H1 q,F1,ρ,ev.grow g,av b (λ u w F' H' ws g' rr=>?_) w⟩;obtain⟨f1,f2,j,z,ez,q1,q2,w⟩:=w;obtain⟨xv,rfl,rt⟩:=jv rr;obtain⟨p',vs',e',q',rl'⟩:=(rv.grow g').vw.b e;cases e';obtain⟨c1,c2,c3,c4⟩:=xY rl' (xX rt f1) f1 f2 ez q1 q2;exact fin p vs' H' xv j q' c1 c2 c3 c4 (w F' H' _ (g.trans g') rfl)
 cases k with
 |true=>
  refine(xW (apos:=ap) (cpos:=cp) xZ yg xV ha hy rfl fo (ky.mpr hl) (bw st) rfl).imp λ σ H Q ⟨F,ρ,ev,w⟩=>⟨F,ρ,ev,av a (λ x w F1 H1 v g rv=>core (r:=xU X.K) (ty:=λ v H=>∃a xs,v=.ref a/\SqT X.K H a xs) ev w g rv (λ p vs H' q=>⟨p,vs,O,q⟩) λ p vs H' y j q c1 c2 c3 c4 q'=>⟨p,vs,y,j,O,O,q,c1,c2,c3,c4,q'⟩) w⟩
 |false=>
  refine(jU (apos:=ap) (cpos:=cp) jz tZ ua tq ha hy rfl fo (ky.mpr hl) (bw st) rfl).imp λ σ H Q ⟨F,ρ,ev,w⟩=>⟨F,ρ,ev,av a (λ x w F1 H1 v g rv=>core (r:=xc X.K) (ty:=tyV X.K "list") ev w g rv (λ p vs H' q=>.inl ⟨O,vs,q⟩) λ p vs H' y j q c1 c2 c3 c4 q'=>⟨p,vs,y,j,O,O,q,c1,c2,c3,c4,q'⟩) w⟩
def Jp(h:PE X e (rE X.K J FT GT c))(he:∀whole,isTrue e X.env whole=(do let v <- whole;standAt e.pos;holding [v] (truthy v))):PT X e (rT X.K J FT GT c) :=
 (Df h he).imp λ σ H Q ⟨F,ρ,ev,w⟩=>⟨F,ρ,ev,av c (λ t w F1 H1 v g r=>by
  obtain⟨b,e,w2⟩:=jt w;subst e;cases r
  exact w2 F1 H1 g) w⟩
def Jq{o:CmpOp}(xo:XOk X J FT GT fs gs)(ha:PE X l (rE X.K J FT GT a))(hb:PE X r (rE X.K J FT GT b))(hs:dY r=true):PT X (.Compare l [o] [r] p) (rT X.K J FT GT (.cmp o a b)) :=
 (Ek (mf xo.units o) ha hb (tV hs)).imp λ σ H Q ⟨F,ρ,ev,w⟩=>⟨F,ρ,ev,av a (λ x w F1 H1 v g1 r1=>⟨F1,ρ,ev.grow g1,av b (λ y w F2 H2 v2 g2 r2=>⟨F,H,F2,x,y,g1.trans g2,r1.grow g2,r2.late g1,iE (λ z w v r=>by
  obtain⟨b,e,w2⟩:=jt w;subst e;cases r
  exact w2 F2 H2 (g1.trans g2)) w⟩) w⟩) w⟩
def Jr{o o':CmpOp}(xo:XOk X J FT GT fs gs)(ha:PE X l (rE X.K J FT GT a))(hb:PE X r (rE X.K J FT GT b))(hc:PE X w' (rE X.K J FT GT c))(hs:dY w'=true):PT X (.Compare l [o,o'] [r,w'] p) (rT X.K J FT GT (.cm2 o o' a b c)) :=
 (Em (mf xo.units o) (mf xo.units o') ha hb hc (xP hs)).imp λ σ H Q ⟨F,ρ,ev,w⟩=>⟨F,ρ,ev,av a (λ x w F1 H1 v g1 r1=>⟨F1,ρ,ev.grow g1,av b (λ y w F2 H2 v2 g2 r2=>⟨F,H,F2,x,y,g1.trans g2,r1.grow g2,r2.late g1,iE (λ z w v3 r3=>by
  obtain⟨k,ek,w2⟩:=jt w;subst ek;cases r3;refine⟨k,O,?_⟩;split at w2
  ·rw[if_pos (by assumption)]
   exact⟨F2,ρ,(ev.grow g1).grow g2,av c (λ z w F4 H4 v4 g4 r4=>⟨F,H,F4,y,z,(g1.trans g2).trans g4,(r2.late g1).grow g4,r4.late (g1.trans g2),iE (λ u w v r=>by
    obtain⟨b,e,w3⟩:=jt w;subst e;cases r
    exact w3 F4 H4 ((g1.trans g2).trans g4)) w⟩) w2⟩
  ·rw[if_neg (by assumption)];exact w2 F2 H2 (g1.trans g2)) w⟩) w⟩) w⟩
def Js(ha:PT X l (rT X.K J FT GT a)):PT X (.UnaryOp .Not l p) (rT X.K J FT GT (.not a)) :=
 (Dm ha).imp λ σ H Q ⟨F,ρ,ev,w⟩=>⟨F,ρ,ev,av a (λ x w=>cG (λ b w F1 H1 g=>w F1 H1 g) w) w⟩
def yh{l r:Expr}{rest:List Expr}(ha:PT X l (rT X.K J FT GT a))(hb:PW X (.BoolOp .And (r::rest) p) (rT X.K J FT GT b)):PW X (.BoolOp .And (l::r::rest) p) (rT X.K J FT GT (.and a b)):=by
 intro wh pins s σ H Q I q;refine Dk ha hb wh pins s σ H Q I ?_;obtain⟨F,ρ,ev,w⟩:=q;refine⟨F,ρ,ev,av a (λ x w=>cG (λ k w2 F1 H1 g1=>?_) w) w⟩;split at w2
 ·rw[if_pos (by assumption)];exact⟨F1,ρ,ev.grow g1,av b (λ y w=>cG (λ k w F2 H2 g2=>w F2 H2 (g1.trans g2)) w) w2⟩
 ·rw[if_neg (by assumption)];exact w2 F1 H1 g1
def yi{l r:Expr}{rest:List Expr}(ha:PT X l (rT X.K J FT GT a))(hb:PW X (.BoolOp .Or (r::rest) p) (rT X.K J FT GT b)):PW X (.BoolOp .Or (l::r::rest) p) (rT X.K J FT GT (.or a b)):=by
 intro wh pins s σ H Q I q;refine Dl ha hb wh pins s σ H Q I ?_;obtain⟨F,ρ,ev,w⟩:=q;refine⟨F,ρ,ev,av a (λ x w=>cG (λ k w2 F1 H1 g1=>?_) w) w⟩;split at w2
 ·rw[if_pos (by assumption)];exact w2 F1 H1 g1
 ·rw[if_neg (by assumption)];exact⟨F1,ρ,ev.grow g1,av b (λ y w=>cG (λ k w F2 H2 g2=>w F2 H2 (g1.trans g2)) w) w2⟩
def yj{lo:Cd}(h:mi lo=true):PO X none (λ σ H Q=>∃F ρ,EV X.K J F H σ ρ/\wE FT GT lo ρ λ t=>oI t λ o=>∀F' H',Grow J F H F' H'->Q o H'):=by
 intro pins s σ H Q I q;obtain⟨F,ρ,ev,w⟩:=q
 have e:lo=.c .non:=by unfold mi at h;split at h<;>first|rfl|cases h
 subst e;exact ED pins s σ H Q I (w F H (.refl ev.w))
def yk{lo:Cd}(he:PE X e (rE X.K J FT GT lo)):PO X (some e) (λ σ H Q=>∃F ρ,EV X.K J F H σ ρ/\wE FT GT lo ρ λ t=>oI t λ o=>∀F' H',Grow J F H F' H'->Q o H'):=by
 intro pins s σ H Q I q;obtain⟨F,ρ,ev,w⟩:=q;rw[evalPart_some];refine thn (he pins s σ H (λ x H1=>(x=.non/\Q none H1)\/∃i,x=.int i/\Q (some i) H1) I ⟨F,ρ,ev,av lo (λ t w F1 H1 v g r=>?_) w⟩) λ u s1 ⟨x,H1,I1,r1,q1⟩=>?_
 ·cases t with
  |non=>cases r;exact .inl ⟨rfl,w F1 H1 g⟩
  |int i=>cases r;exact .inr ⟨i,rfl,w F1 H1 g⟩
  |_=>exact w.elim
 ·rcases q1 with ⟨rfl,q⟩|⟨i,rfl,q⟩
  ·cases r1;exact⟨none,H1,I1,.none,q⟩
  ·obtain⟨tk,rfl⟩:=r1;exact⟨some i,H1,I1,.int _ _,q⟩
end
def Ju(h:xD c=true):c=.nil:=by cases c<;>first|rfl|exact Bool.noConfusion h
def qt(h:jx e=true):∃es k p,e=.Tuple es k p:=by cases e<;>first|exact⟨_,_,_,rfl⟩|exact Bool.noConfusion h
set_option tactic.hygienic true in
def Jv(h:tsE e=true)(whole:Sem Value):isTrue e env whole=(do let v <- whole;standAt e.pos;holding [v] (truthy v)):=by
 cases e<;>first|rfl|(exact Bool.noConfusion h)|skip
 rename_i op _ _
 cases op<;>first|rfl|exact Bool.noConfusion h
section
variable {fs gs:List Str}
def qu:∀ {r:Cd}{N:List Str}{nm:List (Str×NameKind)}{es:List Expr},ckL fs gs r N nm es=true->es.all aO=true:=λ {r}=>by
 induction r with
 |nil=>intro N nm es h;cases es with|nil=>rfl|cons e es=>exact Bool.noConfusion h
 |cons a r _ ih=>
  intro N nm es h
  cases es with
  |nil=>exact Bool.noConfusion h
  |cons e es=>
   obtain⟨h1,h2⟩:=an h;rw[cX,(an h1).1,ih h2];rfl
 |_=>intro N nm es h;exact Bool.noConfusion h
def nX(h:ckI fs gs c k tg N nm it=true):dY it=true:=by
 cases c with
 |cons a r=>
  cases k with
  |seq=>exact(an (an h).1).1
  |str=>exact Bool.noConfusion h
  |_=>exact dZ h λ _ _ _ _ _=>rfl
 |_=>exact Bool.noConfusion h
end
section
variable {J:Hp->Prop}{FT:List PSp}{GT:List TV}{fs gs:List Str}
structure SA (J:Hp->Prop)(FT:List PSp)(GT:List TV)(fs gs:List Str)(c:Cd):Prop where
 e:∀ {X:Cx}{N:List Str}{nm:List (Str×NameKind)}{e:Expr},XOk X J FT GT fs gs->XS X N nm->ck fs gs c N nm e=true->PE X e (rE X.K J FT GT c)
 l:∀ {X:Cx}{N:List Str}{nm:List (Str×NameKind)}{es:List Expr},XOk X J FT GT fs gs->XS X N nm->ckL fs gs c N nm es=true->PA X es (rA X.K J FT GT c)
 i:∀ {k:IK}{X:Cx}{N:List Str}{nm:List (Str×NameKind)}{tg it:Expr},XOk X J FT GT fs gs->XS X N nm->ckI fs gs c k tg N nm it=true->PI X tg it (rW X.K J FT GT k c)
 t:∀ {X:Cx}{N:List Str}{nm:List (Str×NameKind)}{e:Expr},XOk X J FT GT fs gs->XS X N nm->tB' c e=true->ck fs gs c N nm e=true->PT X e (rT X.K J FT GT c)
 w:∀ {X:Cx}{N:List Str}{nm:List (Str×NameKind)}{op:BoolOp}{es:List Expr}{p:Pos},XOk X J FT GT fs gs->XS X N nm->ck fs gs c N nm (.BoolOp op es p)=true->PW X (.BoolOp op es p) (rT X.K J FT GT c)
noncomputable abbrev EF(J:Hp->Prop)(FT:List PSp)(GT:List TV)(fs gs:List Str)(c:Cd):Prop:=∀ {X:Cx}{N:List Str}{nm:List (Str×NameKind)}{e:Expr},XOk X J FT GT fs gs->XS X N nm->ck fs gs c N nm e=true->PE X e (rE X.K J FT GT c)
def SA.val(E:EF J FT GT fs gs c)(t:∀e,tB' c e=tsE e:=by intro;rfl)(l:∀N nm es,ckL fs gs c N nm es=false:=by intros;rfl)(i:∀k tg N nm it,ckI fs gs c k tg N nm it=false:=by intros;rfl)(w:∀N nm op es p,ck fs gs c N nm (.BoolOp op es p)=false:=by intros;rfl):SA J FT GT fs gs c :=
 ⟨E,λ _ _ h=>by rw[l] at h;exact Bool.noConfusion h,λ _ _ h=>by rw[i] at h;exact Bool.noConfusion h,λ xo xs n h=>Jp (E xo xs h) (Jv (by rw[<- t];exact n)),λ _ _ h=>by rw[w] at h;exact Bool.noConfusion h⟩
def SA.tst(E:EF J FT GT fs gs c)(T:∀ {X:Cx}{N:List Str}{nm:List (Str×NameKind)}{e:Expr},XOk X J FT GT fs gs->XS X N nm->ck fs gs c N nm e=true->PT X e (rT X.K J FT GT c))(l:∀N nm es,ckL fs gs c N nm es=false:=by intros;rfl)(i:∀k tg N nm it,ckI fs gs c k tg N nm it=false:=by intros;rfl)(w:∀N nm op es p,ck fs gs c N nm (.BoolOp op es p)=false:=by intros;rfl):SA J FT GT fs gs c :=
 ⟨E,λ _ _ h=>by rw[l] at h;exact Bool.noConfusion h,λ _ _ h=>by rw[i] at h;exact Bool.noConfusion h,λ xo xs _ h=>T xo xs h,λ _ _ h=>by rw[w] at h;exact Bool.noConfusion h⟩
def Jw(h:xE f=true):f=.isI\/f=.isB\/f=.isT\/f=.isL\/f=.isS:=by cases f<;>first|exact Bool.noConfusion h|simp
def sA(J:Hp->Prop)(FT:List PSp)(GT:List TV)(fs gs:List Str)(c:Cd):SA J FT GT fs gs c:=by
 induction c with
 |v i=>exact .val λ xo xs h=>s_v xs h
 |c t=>exact .val λ xo xs h=>s_c h
 |g k=>exact .val λ xo xs h=>s_g xo xs h
 |bin o a b ia ib=>
  refine .val λ {X N nm e} xo xs h=>?_;refine IC h λ l op r p k1=>?_;obtain⟨g1,g2,g3⟩:=a3 k1;cases aC g1;exact II xo (ia.e xo xs g2) (ib.e xo xs g3)
 |neg a ia=>
  refine .val λ {X N nm e} xo xs h=>?_;refine xH h λ op x p k1=>?_;cases aC (an k1).1;exact IM (ia.e xo xs (an k1).2)
 |not a ia=>
  refine .tst (λ {X N nm e} xo xs h=>?_) (λ {X N nm e} xo xs h=>?_)
  all_goals
   refine xH h λ op x p k1=>?_;obtain⟨g1,g2,g3⟩:=a3 k1;cases aC g1
  ·exact IN (ia.e xo xs g3)
  ·exact Js (ia.t xo xs g2 g3)
 |cmp o a b ia ib=>
  refine .tst (λ {X N nm e} xo xs h=>?_) (λ {X N nm e} xo xs h=>?_)
  all_goals
   refine xI h λ l os rs p k1=>?_;refine fO k1 λ op k2=>?_;refine fO k2 λ r k3=>?_;obtain⟨g1,g2,g3,g4⟩:=a4 k3;cases aC g1
  ·exact IJ xo (ia.e xo xs g2) (ib.e xo xs g3) g4
  ·exact Jq xo (ia.e xo xs g2) (ib.e xo xs g3) g4
 |cm2 o o' a b c ia ib ic=>
  refine .tst (λ {X N nm e} xo xs h=>?_) (λ {X N nm e} xo xs h=>?_)
  all_goals
   refine xI h λ l os rs p k1=>?_;refine nU k1 λ op op' k2=>?_;refine nU k2 λ r r' k3=>?_;obtain⟨g1,g2,g3,g4,g5,g6⟩:=a6 k3;cases aC g1;cases aC g2
  ·exact IP xo (ia.e xo xs g3) (ib.e xo xs g4) (ic.e xo xs g5) g6
  ·exact Jr xo (ia.e xo xs g3) (ib.e xo xs g4) (ic.e xo xs g5) g6
 |and a b ia ib=>
  have W:∀ {X:Cx}{N:List Str}{nm:List (Str×NameKind)}{op:BoolOp}{es:List Expr}{p:Pos},XOk X J FT GT fs gs->XS X N nm->ck fs gs (.and a b) N nm (.BoolOp op es p)=true->PW X (.BoolOp op es p) (rT X.K J FT GT (.and a b)):=by
   intro X N nm op es p xo xs h;obtain⟨g,g'⟩:=an h;cases aC g
   rcases es with _|⟨x,_|⟨y,_|⟨z,r⟩⟩⟩<;>try exact Bool.noConfusion g'
   ·obtain⟨h1,h2,h3,h4⟩:=a4 g';exact yh (ia.t xo xs h1 h3) (Di (ib.t xo xs h2 h4))
   ·obtain⟨h1,h3,h4⟩:=a3 g';exact yh (ia.t xo xs h1 h3) (ib.w xo xs h4)
  refine⟨λ {X N nm e} xo xs h=>?_,λ _ _ h=>Bool.noConfusion h,λ _ _ h=>Bool.noConfusion h,λ {X N nm e} xo xs n h=>?_,W⟩
  ·refine xJ h λ op es p g=>?_;obtain⟨g,g'⟩:=an g;cases aC g
   rcases es with _|⟨x,_|⟨y,_|⟨z,r⟩⟩⟩<;>try exact Bool.noConfusion g'
   ·obtain⟨h1,h2,h3,h4⟩:=a4 g';exact xR (ia.e xo xs h3) (vm (ib.e xo xs h4))
   ·obtain⟨h1,h3,h4⟩:=a3 g';exact xR (ia.e xo xs h3) (ib.e xo xs h4)
  ·obtain⟨op,es,p,rfl,g⟩:=xK h;exact(W xo xs h).pt
 |or a b ia ib=>
  have W:∀ {X:Cx}{N:List Str}{nm:List (Str×NameKind)}{op:BoolOp}{es:List Expr}{p:Pos},XOk X J FT GT fs gs->XS X N nm->ck fs gs (.or a b) N nm (.BoolOp op es p)=true->PW X (.BoolOp op es p) (rT X.K J FT GT (.or a b)):=by
   intro X N nm op es p xo xs h;obtain⟨g,g'⟩:=an h;cases aC g
   rcases es with _|⟨x,_|⟨y,_|⟨z,r⟩⟩⟩<;>try exact Bool.noConfusion g'
   ·obtain⟨h1,h2,h3,h4⟩:=a4 g';exact yi (ia.t xo xs h1 h3) (Dj (ib.t xo xs h2 h4))
   ·obtain⟨h1,h3,h4⟩:=a3 g';exact yi (ia.t xo xs h1 h3) (ib.w xo xs h4)
  refine⟨λ {X N nm e} xo xs h=>?_,λ _ _ h=>Bool.noConfusion h,λ _ _ h=>Bool.noConfusion h,λ {X N nm e} xo xs n h=>?_,W⟩
  ·refine xJ h λ op es p g=>?_;obtain⟨g,g'⟩:=an g;cases aC g
   rcases es with _|⟨x,_|⟨y,_|⟨z,r⟩⟩⟩<;>try exact Bool.noConfusion g'
   ·obtain⟨h1,h2,h3,h4⟩:=a4 g';exact xS (ia.e xo xs h3) (vm (ib.e xo xs h4))
   ·obtain⟨h1,h3,h4⟩:=a3 g';exact xS (ia.e xo xs h3) (ib.e xo xs h4)
  ·obtain⟨op,es,p,rfl,g⟩:=xK h;exact(W xo xs h).pt
 |ite c a b ic ia ib=>
  refine .val λ {X N nm e} xo xs h=>?_;refine xL h λ x y z p k1=>?_;obtain⟨g1,g2,g3,g4⟩:=a4 k1;exact IQ (ic.t xo xs g1 g2) (ia.e xo xs g3) (ib.e xo xs g4)
 |nil=>
  refine⟨λ _ _ h=>Bool.noConfusion h,λ {X N nm es} xo xs h=>?_,λ _ _ h=>Bool.noConfusion h,λ _ _ _ h=>Bool.noConfusion h,λ _ _ h=>Bool.noConfusion h⟩
  cases es with
  |nil=>exact tW
  |cons e es=>exact Bool.noConfusion h
 |cons a r ia ir=>
  refine⟨λ _ _ h=>Bool.noConfusion h,λ {X N nm es} xo xs h=>?_,λ {k X N nm tg it} xo xs h=>?_,λ _ _ _ h=>Bool.noConfusion h,λ _ _ h=>Bool.noConfusion h⟩
  ·cases es with
   |nil=>exact Bool.noConfusion h
   |cons e es=>
    obtain⟨h1,h3⟩:=an h;obtain⟨h1,h2⟩:=an h1;exact nW (ia.e xo xs h2) (ir.l xo xs h3) h1
  ·have call:∀ {x:Str}{p:Pos}{e:Expr}{es:List Expr}{pos:Pos},decide (ikN k=some (x,es.length))=true->gl nm x=true->(!ikT k || jx tg)=true->aO e=true->ck fs gs a N nm e=true->ckL fs gs r N nm es=true->PI X tg (.Call (.Name x p) (e::es) [] pos) (rW X.K J FT GT k (.cons a r)):=by
    intro x p e es pos h1 h2 h3 h4 h5 h6;have hk:=aC h1;have he:=ia.e xo xs h5;have hr:=ir.l xo xs h6;have st:=qu h6;have g:=glX xs h2
    have n0:es=[]->r=.nil:=λ z=>by subst z;cases r<;>first|rfl|exact Bool.noConfusion h6
    cases k with
    |seq=>cases hk
    |str=>cases hk
    |rng=>
     simp only[ikN,nY,nZ] at hk;obtain⟨rfl,hk⟩:=hk;cases qv hk.symm;cases n0 rfl;exact Jd xo g h4 he
    |rng2=>cases hk
    |rng3=>cases hk
    |zip c d=>
     simp only[ikN,nY,nZ] at hk;obtain⟨rfl,hk⟩:=hk;obtain⟨tes,tk,tp,rfl⟩:=qt (show jx tg=true by simpa [ikT] using h3)
     match es,hk with
     |[y],_=>exact Jf xo g h4 (by simpa using st) (nW he hr h4)
    |zip3=>
     simp only[ikN,nY,nZ] at hk;obtain⟨rfl,hk⟩:=hk;obtain⟨tes,tk,tp,rfl⟩:=qt (show jx tg=true by simpa [ikT] using h3)
     match es,hk with
     |[y,z],_=>exact Jg xo g h4 (by simp at st;exact st.1) (by simp at st;exact st.2) (nW he hr h4)
    |enum c=>
     cases c<;>try (cases hk;done)
     simp only[ikN,nY,nZ] at hk;obtain⟨rfl,hk⟩:=hk;obtain⟨tes,tk,tp,rfl⟩:=qt (show jx tg=true by simpa [ikT] using h3);cases qv hk.symm;cases n0 rfl;exact Jh xo g h4 he
    |rev c=>
     cases c<;>try (cases hk;done)
     simp only[ikN,nY,nZ] at hk;obtain⟨rfl,hk⟩:=hk;cases qv hk.symm;cases n0 rfl;exact Ji xo g h4 he
   have arg:(dP it λ g as w _=>cz g λ x _=>cC as λ e es=>w.isEmpty&&decide (ikN k=some (x,es.length))&&gl nm x&&(!ikT k || jx tg)&&aO e&&ck fs gs a N nm e&&ckL fs gs r N nm es)=true->PI X tg it (rW X.K J FT GT k (.cons a r)):=λ h=>by
    refine dZ h λ g as w pos k1=>?_;refine cx k1 λ x p k2=>?_;refine tR k2 λ e es k3=>?_;obtain⟨g0,g1,g2,g3,g4,g5,g6⟩:=a7 k3;refine dF g0 ?_;exact call g1 g2 g3 g4 g5 g6
   cases k with
   |seq=>
    obtain⟨h1,h3⟩:=an h;cases Ju (an h1).2;exact xT (ia.e xo xs h3)
   |str=>exact Bool.noConfusion h
   |_=>exact arg h
 |tup l il=>
  refine .val λ {X N nm e} xo xs h=>?_;refine tP h λ es _ _ k1=>?_;exact IR xo (il.l xo xs k1)
 |lst l il=>
  refine .val λ {X N nm e} xo xs h=>?_;refine xM h λ es _ k1=>?_;exact IS xo (il.l xo xs k1)
 |ix a b ia ib=>
  refine .val λ {X N nm e} xo xs h=>?_;refine qh h λ x y p k1=>?_;obtain⟨g1,g2,g3⟩:=a3 k1;exact IL (ia.e xo xs g2) (ib.e xo xs g3) g1
 |sl a lo hi ia il ih=>
  refine .val λ {X N nm e} xo xs h=>?_;refine qh h λ x y p k1=>?_;refine ID k1 λ l u st q k2=>?_;obtain⟨g0,g1,g2,g3⟩:=a4 k2;cases Option.isNone_iff_eq_none.mp g0;refine IT xo (ia.e xo xs g1) ?_ ?_
  ·cases l with
   |none=>exact yj g2
   |some l=>exact yk (il.e xo xs (an g2).1)
  ·cases u with
   |none=>exact yj g3
   |some u=>exact yk (ih.e xo xs (an g3).1)
 |call f l il=>
  refine .val λ {X N nm e} xo xs h=>?_;refine dZ h λ f' as w pos k1=>?_;refine cx k1 λ x p k2=>?_;refine tR k2 λ a es k3=>?_;obtain⟨g0,g1,g2,g3,g4⟩:=a5 k3;refine dF g0 ?_;have st:=qu g4;rw[cX,bF] at st;exact IV xo (aC g1) (glX xs g2) (gF g3).1 (il.l xo xs g4) st.1 st.2
 |bi f l il=>
  refine .val λ {X N nm e} xo xs h=>?_;refine dZ h λ f' as w pos k1=>?_;refine cx k1 λ x p k2=>?_;refine tR k2 λ a es k3=>?_;obtain⟨g0,g1,g2,g4⟩:=a4 k3;refine dF g0 ?_;have st:=qu g4;rw[cX,bF] at st;exact IW xo (aC g1) (glX xs g2) (il.l xo xs g4) st.1 st.2
 |isi f a ia=>
  refine .val λ {X N nm e} xo xs h=>?_;refine dZ h λ f' as w pos k1=>?_;refine cx k1 λ x p k2=>?_;refine nU k2 λ y u k3=>?_;refine cx k3 λ z _ k4=>?_;obtain⟨g0,g1,g2,g3,g4,g5,g6,g7⟩:=a8 k4;refine dF g0 ?_;cases aC g1;exact IY xo (Jw g3) (aC g4) (glX xs g2) (glX xs g5) g6 (ia.e xo xs g7)
 |mxl a b ia ib=>
  refine .val λ {X N nm e} xo xs h=>?_;refine dZ h λ f' as w pos k1=>?_;refine cx k1 λ x p k2=>?_;refine nU k2 λ y z k3=>?_;obtain⟨⟨kx,kv,kp⟩,rfl,k4⟩:=kj k3;obtain⟨u,_,e1,k5⟩:=IA k4;cases e1;obtain⟨g1,g2,g3,g4,g5,g6,g7,g8,g9⟩:=a9 k5;cases aC g1;cases aC g3;cases aC g4;exact IZ xo (glX xs g2) (glX xs g5) g6 g7 (ia.e xo xs g8) (ib.e xo xs g9)
 |trev k a ia=>
  refine .val λ {X N nm e} xo xs h=>?_;refine dZ h λ f' as w pos k1=>?_;refine cx k1 λ x p k2=>?_;refine fO k2 λ u k3=>?_;refine dZ k3 λ f'' as' w' pos' k4=>?_;refine cx k4 λ y p' k5=>?_;refine fO k5 λ z k6=>?_;obtain⟨g0,g0',g1,g2,g3,g4,g5,g6⟩:=a8 k6;refine dF g0 ?_;refine dF g0' ?_;cases aC g1;cases aC g3;exact Ja xo (glX xs g2) (glX xs g4) g5 (ia.e xo xs g6)
 |lrng k a ia=>
  refine .val λ {X N nm e} xo xs h=>?_;refine dZ h λ f' as w pos k1=>?_;refine cx k1 λ x p k2=>?_;refine fO k2 λ u k3=>?_;refine dZ k3 λ f'' as' w' pos' k4=>?_;refine cx k4 λ y p' k5=>?_;refine fO k5 λ z k6=>?_;obtain⟨g0,g0',g1,g2,g3,g4,g5,g6⟩:=a8 k6;refine dF (an g0).1 ?_;refine dF g0' ?_;cases aC g1;cases aC g3;exact Jb (k:=k) (an g0).2 xo (glX xs g2) (glX xs g4) g5 (ia.e xo xs g6)
 |idx i b ib=>
  refine .val λ {X N nm e} xo xs h=>?_;refine dZ h λ f' as w cp k1=>?_;refine qi k1 λ o name ap k2=>?_;refine cx k2 λ x p k3=>?_;refine fO k3 λ y k4=>?_;obtain⟨g0,g1,g2,g3,g4,g5,g6,g7⟩:=a8 k4;refine dF g0 ?_;cases aC g4;exact Jn xs (aC g1) g2 g3 (aC g5) g6 (ib.e xo xs g7)
 |idxE k a b ia ib=>
  refine .val λ {X N nm e} xo xs h=>?_;refine dZ h λ f' as w cp k1=>?_;refine qi k1 λ o name ap k2=>?_;refine xM k2 λ es lp k3=>?_;refine fO k3 λ y k4=>?_;obtain⟨g0,g1,g4,g5,g6,g7⟩:=a6 k4;refine dF g0 ?_;cases aC g1;exact Jo (aC g4) g5 (ia.e xo xs g6) (ib.e xo xs g7)
 |dk k a ia=>
  refine .val λ {X N nm e} xo xs h=>?_;refine qh h λ o y p k1=>?_;refine cx k1 λ x q k2=>?_;obtain⟨g1,g2,g3,g4,g5⟩:=a5 k2;exact IH xo xs (aC g1) g2 g3 g4 (ia.e xo xs g5)
 |comp own fv js tg k it e ii ie=>
  refine .val λ {X N nm x} xo xs h=>?_;obtain⟨elt,gn,sc,p,rfl,k1⟩:=qj h;obtain⟨⟨t,iter,ifs,z⟩,rfl,k2⟩:=kj k1;obtain⟨g0,g1,g2,g3,g4,g5,g6⟩:=a7 k2;cases (show ifs=[] from List.isEmpty_iff.mp g0);cases aC g1;exact Jj xo xs g2 (ii.i xo xs g3) g4 g5 (nX g3) λ Y yo ys=>ie.e yo ys g6
 |compI own fv js tg k it c e ii ic ie=>
  refine .val λ {X N nm x} xo xs h=>?_;obtain⟨elt,gn,sc,p,rfl,k1⟩:=qj h;obtain⟨⟨t,iter,ifs,z⟩,rfl,k2⟩:=kj k1;obtain⟨cnd,e1,k3⟩:=kj k2;cases e1;obtain⟨g1,g2,g3,g4,g5,g6,g7,g8⟩:=a8 k3;cases aC g1;exact Jk xo xs g2 (ii.i xo xs g3) g4 g5 (nX g3) (λ Y yo ys=>ic.t yo ys g6 g7) λ Y yo ys=>ie.e yo ys g8
def sE(c:Cd)(xo:XOk X J FT GT fs gs)(xs:XS X N nm)(h:ck fs gs c N nm e=true):PE X e (rE X.K J FT GT c):=(sA J FT GT fs gs c).e xo xs h
def sL(c:Cd)(xo:XOk X J FT GT fs gs)(xs:XS X N nm)(h:ckL fs gs c N nm es=true):PA X es (rA X.K J FT GT c):=(sA J FT GT fs gs c).l xo xs h
def sI(c:Cd)(k:IK)(xo:XOk X J FT GT fs gs)(xs:XS X N nm)(h:ckI fs gs c k tg N nm it=true):PI X tg it (rW X.K J FT GT k c):=(sA J FT GT fs gs c).i xo xs h
def sT(c:Cd)(xo:XOk X J FT GT fs gs)(xs:XS X N nm)(n:tB' c e=true)(h:ck fs gs c N nm e=true):PT X e (rT X.K J FT GT c):=(sA J FT GT fs gs c).t xo xs n h
end
inductive MM where
 |append|insert|extend (t:Bool)|pop
 deriving DecidableEq
inductive Ct where
 |nil|never|ret (c:Cd)
 |set (i:Nat) (c:Cd) (r:Ct)|sets (is:List Nat) (c:Cd) (r:Ct)|fz (i:Nat) (r:Ct)|ex (c:Cd) (r:Ct)
 |met (m:MM) (i:Nat) (l:Cd) (r:Ct)|put (i:Nat) (c d:Cd) (r:Ct)
 |ite (c:Cd) (a b r:Ct)|«for» (tg:List Nat) (k:IK) (it:Cd) (b r:Ct)|tri (b r:Ct)
 |apI (i j:Nat) (c l e:Cd) (r:Ct)
noncomputable def fzS(ρ:En)(i:Nat):En:=match ρ[i]? with|some (some (.own l))=>ρ.set i (some (.lst l))|_=>ρ
def fzC:Cd->En->En
 |.v i,ρ=>fzS ρ i
 |_,ρ=>ρ
def fzV:Cd->En->En
 |.cons a r,ρ=>fzV r (fzC a ρ)
 |_,ρ=>ρ
noncomputable def itF(b:TV->En->(En->Prop)->Prop):List TV->En->(En->Prop)->Prop
 |[],ρ,K=>K ρ
 |t::r,ρ,K=>b t ρ λ ρ'=>itF b r ρ' K
noncomputable def dG(s:Option (Option TV))(P:List TV->Prop):Prop:=match s with|some (some (.own l))=>P l|_=>False
noncomputable def mtP(m:MM)(l:List TV)(ts:List TV)(K:TV->List TV->Prop):Prop:=match m,ts with
 |.append,[t]=>t.nb=true/\l.length<sizeLine/\K .non (l++[t.fz])
 |.insert,[u,t]=>i1 u λ i=>t.nb=true/\(0<=i/\i<=l.length)/\l.length<sizeLine/\K .non (l.take i.toNat++t.fz::l.drop i.toNat)
 |.extend b,[t]=>t.nb=true/\k1 b t λ m=>l.length+m.length<=sizeLine/\K .non (l++m)
 |.pop,[]=>∃y,l[l.length-1]?=some y/\K y l.dropLast
 |.pop,[u]=>i1 u λ i=>(-(2 ^ 63)<=i/\i<2 ^ 63)/\∃k y,seqIndex? i l.length=some k/\l[k]?=some y/\K y (l.eraseIdx k)
 |_,_=>False
section
variable (FT:List PSp)(GT:List TV)
noncomputable def wS:Ct->En->(En->Prop)->(TV->Prop)->Prop
 |.nil,ρ,nx,_=>nx ρ
 |.never,_,_,_=>False
 |.ret c,ρ,_,rt=>wE FT GT c (fzC c ρ) λ t=>t.nb=true/\rt t.fz
 |.set i c r,ρ,nx,rt=>wE FT GT c (fzC c ρ) λ t=>t.nb=true/\wS r ((fzC c ρ).set i (some t)) nx rt
 |.sets is c r,ρ,nx,rt=>wE FT GT c ρ λ t=>(match t with|.tup _=>stE ρ is t λ ρ'=>wS r ρ' nx rt|_=>False)
 |.fz i r,ρ,nx,rt=>wS r (fzS ρ i) nx rt
 |.ex c r,ρ,nx,rt=>wE FT GT c ρ λ _=>wS r ρ nx rt
 |.met m i l r,ρ,nx,rt=>dG (fzV l ρ)[i]? λ xs=>wL FT GT l (fzV l ρ) λ ts=>mtP m xs ts λ _ ys=>wS r ((fzV l ρ).set i (some (.own ys))) nx rt
 |.put i c d r,ρ,nx,rt=>dG (fzC d ρ)[i]? λ xs=>wE FT GT d (fzC d ρ) λ t=>t.nb=true/\wE FT GT c (fzC d ρ) λ u=>i1 u λ k=>∃n,ixN xs.length k=some n/\wS r ((fzC d ρ).set i (some (.own (xs.set n t.fz)))) nx rt
 |.ite c a b r,ρ,nx,rt=>wE FT GT c ρ λ t=>b1 t λ k=>if k=true then wS a ρ (λ ρ'=>wS r ρ' nx rt) rt else wS b ρ (λ ρ'=>wS r ρ' nx rt) rt
 |.for tg k it b r,ρ,nx,rt=>wL FT GT it (fzV it ρ) λ ts=>ts.all TV.nb=true/\itP k ts λ its=>itF (λ t ρ K=>stE ρ tg t λ ρ'=>wS b ρ' K rt) its (fzV it ρ) λ ρ'=>wS r ρ' nx rt
 |.tri b r,ρ,nx,rt=>wS b ρ (λ ρ'=>wS r ρ' nx rt) rt
 |.apI i j c l e r,ρ,nx,rt=>dG ρ[i]? λ _=>wE FT GT c ρ λ t=>b1 t λ k=>if k=true then
   dG ρ[j]? λ xs=>wL FT GT l ρ λ ts=>mtP .pop xs ts λ y ys=>dG (ρ.set j (some (.own ys)))[i]? λ zs=>zs.length<sizeLine/\wS r ((ρ.set j (some (.own ys))).set i (some (.own (zs++[y])))) nx rt
  else wE FT GT e ρ λ t=>t.nb=true/\dG ρ[i]? λ zs=>zs.length<sizeLine/\wS r (ρ.set i (some (.own (zs++[t.fz])))) nx rt
end
def fP{P P':List TV->Prop}(h:∀l,P l->P' l)(q:dG s P):dG s P':=by
 unfold dG at *;split at q
 ·exact h _ q
 ·exact q.elim
def kz(q:dG s P):∃l,s=some (some (.own l))/\P l:=by
 unfold dG at q;split at q
 ·exact⟨_,O,q⟩
 ·exact q.elim
def oa{K K':TV->List TV->Prop}(h:∀y ys,K y ys->K' y ys)(q:mtP m l ts K):mtP m l ts K':=by
 rcases ts with _|⟨t,_|⟨u,_|⟨w,r⟩⟩⟩
 ·cases m with
  |pop=>obtain⟨y,e,q⟩:=q;exact⟨y,e,h _ _ q⟩
  |_=>exact q.elim
 ·cases m with
  |append=>exact⟨q.1,q.2.1,h _ _ q.2.2⟩
  |extend b=>exact⟨q.1,gR (λ m q=>⟨q.1,h _ _ q.2⟩) q.2⟩
  |pop=>exact gv (λ i ⟨c,k,y,e,f,q⟩=>⟨c,k,y,e,f,h _ _ q⟩) q
  |_=>exact q.elim
 ·cases m with
  |insert=>exact gv (λ i ⟨a,b,c,q⟩=>⟨a,b,c,h _ _ q⟩) q
  |_=>exact q.elim
 ·cases m<;>exact q.elim
section
variable {FT:List PSp}{GT:List TV}
theorem bN:∀(c:Ct) {ρ:En}{nx nx':En->Prop}{rt rt':TV->Prop},(∀ρ,nx ρ->nx' ρ)->(∀t,rt t->rt' t)->wS FT GT c ρ nx rt->wS FT GT c ρ nx' rt'
 |.nil,_,_,_,_,_,h,_,q=>h _ q
 |.never,_,_,_,_,_,_,_,q=>q.elim
 |.ret c,_,_,_,_,_,_,g,q=>av c (λ t q=>⟨q.1,g _ q.2⟩) q
 |.set i c r,_,_,_,_,_,h,g,q=>av c (λ t q=>⟨q.1,bN r h g q.2⟩) q
 | .sets is c r,_,_,_,_,_,h,g,q=>av c (λ t q=>by
   cases t with
   |tup l=>exact gx (λ ρ' q=>bN r h g q) q
   |_=>exact q.elim) q
 |.fz i r,ρ,nx,_,rt,_,h,g,q=>bN r h g (show wS FT GT r (fzS ρ i) nx rt from q)
 |.ex c r,_,_,_,_,_,h,g,q=>av c (λ t q=>bN r h g q) q
 |.met m i l r,_,_,_,_,_,h,g,q=>fP (λ xs q=>cN l (λ ts q=>oa (λ y ys q=>bN r h g q) q) q) q
 |.put i c d r,_,_,_,_,_,h,g,q=>fP (λ xs q=>av d (λ t q=>⟨q.1,av c (λ u q=>gv (λ k ⟨n,e,q⟩=>⟨n,e,bN r h g q⟩) q) q.2⟩) q) q
 | .ite c a b r,_,_,_,_,_,h,g,q=>av c (λ t q=>cG (λ k q=>by
   split at q
   ·rw[if_pos (by assumption)];exact bN a (λ ρ q=>bN r h g q) g q
   ·rw[if_neg (by assumption)];exact bN b (λ ρ q=>bN r h g q) g q) q) q
 |.for tg k it b r,_,nx,nx',rt,rt',h,g,q=>by
   refine cN it (λ ts q=>⟨q.1,jq (λ its q=>?_) q.2⟩) q
   have e:∀(l:List TV) (ρ:En),itF (λ t ρ K=>stE ρ tg t λ ρ'=>wS FT GT b ρ' K rt) l ρ (λ ρ'=>wS FT GT r ρ' nx rt)->itF (λ t ρ K=>stE ρ tg t λ ρ'=>wS FT GT b ρ' K rt') l ρ (λ ρ'=>wS FT GT r ρ' nx' rt'):=by
    intro l
    induction l with
    |nil=>intro ρ q;exact bN r h g q
    |cons t l ih=>
     intro ρ q;have q:stE ρ tg t λ ρ'=>wS FT GT b ρ' (λ ρ''=>itF (λ t ρ K=>stE ρ tg t λ ρ'=>wS FT GT b ρ' K rt) l ρ'' λ ρ'=>wS FT GT r ρ' nx rt) rt:=q;exact gx (λ ρ' q=>bN b (λ ρ'' q=>ih ρ'' q) g q) q
   exact e _ _ q
 |.tri b r,ρ,nx,_,rt,_,h,g,q=>bN b (λ ρ q=>bN r h g q) g (show wS FT GT b ρ (λ ρ'=>wS FT GT r ρ' nx rt) rt from q)
 |.apI i j c l e r,_,_,_,_,_,h,g,q=>fP (λ _ q=>av c (λ t q=>cG (λ k q=>jr (λ q=>fP (λ xs q=>cN l (λ ts q=>oa (λ y ys q=>fP (λ zs q=>⟨q.1,bN r h g q.2⟩) q) q) q) q) (λ q=>av e (λ t q=>⟨q.1,fP (λ zs q=>⟨q.1,bN r h g q.2⟩) q.2⟩) q) q) q) q) q
end
structure ER (K:FG)(J:Hp->Prop)(F0:Fz)(H0:Hp)(PN:List (TV×V))(F:Fz)(H:Hp)(σ:St)(ρ:En):Prop where
 ev:EV K J F H σ ρ
 gr:Grow J F0 H0 F H
 nb:∀(i:Nat) l a,ρ[i]?=some (some (.own l))->σ[i]?=some (some (.ref a))->H0 a=none
 di:∀(i k:Nat) l l' v,ρ[i]?=some (some (.own l))->ρ[k]?=some (some (.own l'))->σ[i]?=some (some v)->σ[k]?=some (some v)->i=k
 pn:∀p∈PN,Rp K F H p.1 p.2
section
variable {K:FG}{J:Hp->Prop}{F0 F F':Fz}{H0 H H':Hp}{σ:St}{ρ:En}{PN:List (TV×V)}
def ER.grow(e:ER K J F0 H0 PN F H σ ρ)(g:Grow J F H F' H'):ER K J F0 H0 PN F' H' σ ρ:=⟨e.ev.grow g,e.gr.trans g,e.nb,e.di,λ p hp=>(e.pn p hp).ke g.ke⟩
def fQ{ρ:En}{i j:Nat}(h:(ρ.set i (some t))[j]?=some (some (.own l))):(i=j/\t=.own l)\/(i≠j/\ρ[j]?=some (some (.own l))):=by
 rw[eh] at h;split at h
 ·rename_i c;split at h
  ·cases h;exact .inl ⟨c,rfl⟩
  ·cases h
 ·rename_i c;exact .inr ⟨c,h⟩
def iM{σ:St}{i j:Nat}(n:i≠j):(σ.set i v)[j]?=σ[j]?:=by rw[eh,if_neg n]
def ER.set{i:Nat}(e:ER K J F0 H0 PN F H σ ρ)(h:Rp K F H t v)(hi:i<σ.length):ER K J F0 H0 PN F H (σ.set i (some v)) (ρ.set i (some t)):=by
 have no:∀l,t≠.own l:=λ l z=>by subst z;exact h.elim
 refine⟨e.ev.set h hi,e.gr,λ j l a h1 h2=>?_,λ j k l l' w h1 h2 h3 h4=>?_,e.pn⟩
 ·rcases fQ h1 with ⟨_,z⟩|⟨n,z⟩
  ·exact absurd z (no l)
  ·rw[iM n] at h2;exact e.nb j l a z h2
 ·rcases fQ h1 with ⟨_,z⟩|⟨n,z⟩
  ·exact absurd z (no l)
  ·rcases fQ h2 with ⟨_,z'⟩|⟨n',z'⟩
   ·exact absurd z' (no l')
   ·rw[iM n] at h3;rw[iM n'] at h4;exact e.di j k l l' w z z' h3 h4
def ER.own{i:Nat}(e:ER K J F0 H0 PN F H σ ρ)(g:Grow J F H F' H')(h:Rr K H F' H' (.own l) v)(hi:i<σ.length):ER K J F0 H0 PN F' H' (σ.set i (some v)) (ρ.set i (some (.own l))):=by
 obtain⟨a,vs,rfl,na,nf,q,r⟩:=h;have na0:H0 a=none:=e.gr.none na
 have old:∀(j:Nat) l',ρ[j]?=some (some (.own l'))->σ[j]?≠some (some (.ref a)):=λ j l' h1 h2=>by
  obtain⟨v,e1,b,ws,rfl,_,qb,_⟩:=e.ev.sl j _ h1;rw[h2] at e1;cases e1;rw[na] at qb;cases qb
 have eg:=e.grow g;refine⟨⟨eg.ev.w,λ j t hj=>?_⟩,eg.gr,λ j l' b h1 h2=>?_,λ j k l1 l2 w h1 h2 h3 h4=>?_,eg.pn⟩
 ·rw[eh] at hj;split at hj
  ·rename_i c;subst c;split at hj
   ·cases hj;exact⟨.ref a,by rw[eh];simp[hi],a,vs,O,nf,q,r⟩
   ·cases hj
  ·rename_i c;obtain⟨w,e1,z⟩:=eg.ev.sl j t hj;exact⟨w,by rw[iM c];exact e1,z⟩
 ·rcases fQ h1 with ⟨rfl,_⟩|⟨n,z⟩
  ·rw[eh] at h2;simp[hi] at h2;subst h2;exact na0
  ·rw[iM n] at h2;exact e.nb j l' b z h2
 ·rcases fQ h1 with ⟨rfl,_⟩|⟨n,z⟩
  ·rcases fQ h2 with ⟨rfl,_⟩|⟨n',z'⟩
   ·rfl
   ·rw[eh] at h3;simp[hi] at h3;subst h3;rw[iM n'] at h4;exact absurd h4 (old k l2 z')
  ·rcases fQ h2 with ⟨rfl,_⟩|⟨n',z'⟩
   ·rw[eh] at h4;simp[hi] at h4;subst h4;rw[iM n] at h3;exact absurd h3 (old j l1 z)
   ·rw[iM n] at h3;rw[iM n'] at h4;exact e.di j k l1 l2 w z z' h3 h4
set_option tactic.hygienic true in
def ER.fz(e:ER K J F0 H0 PN F H σ ρ)(i:Nat):∃F',ER K J F0 H0 PN F' H σ (fzS ρ i)/\∀a,F a->F' a:=by
 unfold fzS;split
 ·rename_i l hl;obtain⟨v,ev,a,vs,rfl,nf,q,r⟩:=e.ev.sl i _ hl;have na:H0 a=none:=e.nb i l a hl ev;have up:Ke K F H (λ b=>F b\/b=a) H:=.up λ _ f=>.inl f;have ilt:i<σ.length:=(bf.mp ev).1;refine⟨λ b=>F b\/b=a,⟨⟨⟨e.ev.w.j,λ b f=>?_⟩,λ j t hj=>?_⟩,e.gr.frz na (by rw[q];simp),λ j l' b h1 h2=>?_,λ j k l1 l2 w h1 h2 h3 h4=>?_,λ p hp=>(e.pn p hp).ke up⟩,λ _ f=>.inl f⟩
  ·rcases f with f|rfl
   ·exact e.ev.w.d b f
   ·rw[q];simp
  ·rw[eh] at hj;split at hj
   ·rename_i c;subst c;split at hj
    ·cases hj;exact⟨.ref a,ev,a,vs,rfl,.inl ⟨.inr rfl,.of q⟩,r.ke up⟩
    ·cases hj
   ·rename_i c;obtain⟨w,e1,z⟩:=e.ev.sl j t hj;refine⟨w,e1,?_⟩
    cases t with
    |own l'=>
     obtain⟨b,ws,rfl,nf',q',r'⟩:=z;refine⟨b,ws,O,λ z=>?_,q',r'.ke up⟩
     rcases z with z|z
     ·exact nf' z
     ·subst z;exact c (e.di i j l l' _ hl hj ev e1)
    |_=>exact Rp.ke up z
  ·rcases fQ h1 with ⟨_,z⟩|⟨n,z⟩
   ·cases z
   ·exact e.nb j l' b z h2
  ·rcases fQ h1 with ⟨_,z⟩|⟨n,z⟩
   ·cases z
   ·rcases fQ h2 with ⟨_,z'⟩|⟨n',z'⟩
    ·cases z'
    ·exact e.di j k l1 l2 w z z' h3 h4
 ·exact⟨F,e,λ _ f=>f⟩
def ER.fzC(e:ER K J F0 H0 PN F H σ ρ)(c:Cd):∃F',ER K J F0 H0 PN F' H σ (fzC c ρ)/\∀a,F a->F' a:=by
 cases c<;>first|exact e.fz _|exact⟨F,e,λ _ f=>f⟩
def ER.fzV(c:Cd):∀ {F:Fz}{ρ:En},ER K J F0 H0 PN F H σ ρ->∃F',ER K J F0 H0 PN F' H σ (fzV c ρ)/\∀a,F a->F' a:=by
 induction c with
 |cons a r _ ih=>
  intro F ρ e;obtain⟨F1,e1,u1⟩:=e.fzC a;obtain⟨F2,e2,u2⟩:=ih e1;exact⟨F2,e2,λ b f=>u2 b (u1 b f)⟩
 |_=>intro F ρ e;exact⟨F,e,λ _ f=>f⟩
def ER.mut(hJ:JS J){i:Nat}(e:ER K J F0 H0 PN F H σ ρ)(h:ρ[i]?=some (some (.own l)))(hs:σ[i]?=some (some (.ref a)))(r:RpL K F H l' ws):ER K J F0 H0 PN F (upd H a (.lst ws)) σ (ρ.set i (some (.own l')))/\Ke K F H F (upd H a (.lst ws)):=by
 obtain⟨v,ev,b,vs,rfl,nf,q,_⟩:=e.ev.sl i _ h;rw[hs] at ev;cases ev;have na:H0 a=none:=e.nb i l a h hs
 have dom:∀b,H b≠none->upd H a (.lst ws) b≠none:=λ b hb=>by
  by_cases c:b=a
  ·subst c;rw[cJ];simp
  ·rw[aG c];exact hb
 have rd:∀b u,(∀vs,u≠.lst vs)->Rd H b u->Rd (upd H a (.lst ws)) b u:=λ b u n h=>by
  rcases h with h|⟨o,h⟩
  ·exact .inl (by rw[aG (λ z=>by subst z;rw[q] at h;cases h;exact n _ rfl)];exact h)
  ·exact .inr ⟨o,by rw[aG (λ z=>by subst z;rw[q] at h;cases h)];exact h⟩
 have ke:Ke K F H F (upd H a (.lst ws)):=⟨λ b vs h=>by
  rcases h with h|h
  ·exact .inl (rd _ _ (λ _ z=>by cases z) h)
  ·exact .inr h,λ b vs h=>h.imp λ f h=>⟨f,by
  have ba:b≠a:=λ z=>by subst z;exact nf f
  rcases h with h|h
  ·refine .inl ?_
   rcases h with h|⟨o,h⟩
   ·exact .inl (by rw[aG ba];exact h)
   ·exact .inr ⟨o,by rw[aG ba];exact h⟩
  ·exact .inr h⟩⟩
 have ilt:i<ρ.length:=(bf.mp h).1;refine⟨⟨⟨⟨hJ.mu H a vs ws q e.ev.w.j,λ b f=>dom b (e.ev.w.d b f)⟩,λ j t hj=>?_⟩,⟨λ b o n hb=>?_,λ b hb=>dom b (e.gr.dm b hb),e.gr.up,e.gr.nw,hJ.mu H a vs ws q e.ev.w.j,λ b f=>dom b (e.ev.w.d b f)⟩,λ j l1 b h1 h2=>?_,λ j k l1 l2 w h1 h2 h3 h4=>?_,λ p hp=>(e.pn p hp).ke ke⟩,ke⟩
 ·rw[eh] at hj;split at hj
  ·rename_i c;subst c;cases hj;exact⟨.ref a,hs,a,ws,O,nf,cJ,r.ke ke⟩
  ·rename_i c;obtain⟨w,e1,z⟩:=e.ev.sl j t hj;refine⟨w,e1,?_⟩
   cases t with
   |own l1=>
    obtain⟨b,us,rfl,nf',q',r'⟩:=z;have ba:b≠a:=λ z=>by subst z;exact c (e.di i j l l1 _ h hj hs e1)
    exact⟨b,us,O,nf',by rw[aG ba];exact q',r'.ke ke⟩
   |_=>exact Rp.ke ke z
 ·rw[aG (λ z=>by subst z;rw[na] at hb;cases hb)];exact e.gr.sm b o n hb
 ·rcases fQ h1 with ⟨rfl,_⟩|⟨n,z⟩
  ·rw[hs] at h2;cases h2;exact na
  ·exact e.nb j l1 b z h2
 ·have f:∀(j:Nat) (l:List TV),(ρ.set i (some (TV.own l')))[j]?=some (some (TV.own l))->∃l,ρ[j]?=some (some (TV.own l)):=λ j l1 h1=>by
   rcases fQ h1 with ⟨rfl,_⟩|⟨n,z⟩
   ·exact⟨l,h⟩
   ·exact⟨l1,z⟩
  obtain⟨m1,z1⟩:=f j l1 h1;obtain⟨m2,z2⟩:=f k l2 h2;exact e.di j k m1 m2 w z1 z2 h3 h4
end
noncomputable def mmN:MM->Str
 |.append=> "append" |.insert=> "insert" |.extend _=> "__name__" |.pop=> "pop"
noncomputable def plE:Expr->Bool
 |.ListComp ..=>false|.SetComp ..=>false|.DictComp ..=>false|.Tuple ..=>false|.List ..=>false|_=>true
noncomputable def lcl(N:List Str)(nm:List (Str×NameKind))(i:Nat)(x:Str):Bool:=decide (N[i]?=some x)&&(decide (nm.lookup x=some .local) || decide (nm.lookup x=some .cell))
noncomputable def ckM(fs gs:List Str)(N:List Str)(nm:List (Str×NameKind))(m:MM)(i:Nat)(l:Cd)(e:Expr):Bool:=dP e λ g es w cp=>nT g λ o name ap=>cz o λ x _=>w.isEmpty&&decide (N[i]?=some x)&&vs nm x&&okN x&&decide (name=mmN m)&&decide (name ≠ "__name__" /\ ap.endLine=cp.line/\es.length<20)&&ckL fs gs l N nm es
noncomputable def qAs(l:List Stmt)(k:List Expr->Expr->Pos->List Stmt->Bool):Bool:=match l with|.Assign x p q::l=>k x p q l|_=>false
@[elab_as_elim] theorem ub{motive:List Stmt->Prop}{l:List Stmt}{k:List Expr->Expr->Pos->List Stmt->Bool}(h:qAs l k=true)(f:∀x p q t,k x p q t=true->motive (.Assign x p q::t)):motive l:=by
 cases l with
 |nil=>exact Bool.noConfusion h
 |cons a t=>cases a<;>first|exact f _ _ _ _ h|exact Bool.noConfusion h
noncomputable def qRe(l:List Stmt)(k:Option Expr->Pos->List Stmt->Bool):Bool:=match l with|.Return x p::l=>k x p l|_=>false
@[elab_as_elim] theorem Jx{motive:List Stmt->Prop}{l:List Stmt}{k:Option Expr->Pos->List Stmt->Bool}(h:qRe l k=true)(f:∀x p t,k x p t=true->motive (.Return x p::t)):motive l:=by
 cases l with
 |nil=>exact Bool.noConfusion h
 |cons a t=>cases a<;>first|exact f _ _ _ h|exact Bool.noConfusion h
noncomputable def qEx(l:List Stmt)(k:Expr->Pos->List Stmt->Bool):Bool:=match l with|.Expr x p::l=>k x p l|_=>false
@[elab_as_elim] theorem uc{motive:List Stmt->Prop}{l:List Stmt}{k:Expr->Pos->List Stmt->Bool}(h:qEx l k=true)(f:∀x p t,k x p t=true->motive (.Expr x p::t)):motive l:=by
 cases l with
 |nil=>exact Bool.noConfusion h
 |cons a t=>cases a<;>first|exact f _ _ _ h|exact Bool.noConfusion h
noncomputable def qIf(l:List Stmt)(k:Expr->List Stmt->List Stmt->Pos->List Stmt->Bool):Bool:=match l with|.If x p q r::l=>k x p q r l|_=>false
@[elab_as_elim] theorem Jy{motive:List Stmt->Prop}{l:List Stmt}{k:Expr->List Stmt->List Stmt->Pos->List Stmt->Bool}(h:qIf l k=true)(f:∀x p q r t,k x p q r t=true->motive (.If x p q r::t)):motive l:=by
 cases l with
 |nil=>exact Bool.noConfusion h
 |cons a t=>cases a<;>first|exact f _ _ _ _ _ h|exact Bool.noConfusion h
noncomputable def qFo(l:List Stmt)(k:Expr->Expr->List Stmt->List Stmt->Pos->List Stmt->Bool):Bool:=match l with|.For x p q r s::l=>k x p q r s l|_=>false
@[elab_as_elim] theorem Jz{motive:List Stmt->Prop}{l:List Stmt}{k:Expr->Expr->List Stmt->List Stmt->Pos->List Stmt->Bool}(h:qFo l k=true)(f:∀x p q r s t,k x p q r s t=true->motive (.For x p q r s::t)):motive l:=by
 cases l with
 |nil=>exact Bool.noConfusion h
 |cons a t=>cases a<;>first|exact f _ _ _ _ _ _ h|exact Bool.noConfusion h
noncomputable def qWh(l:List Stmt)(k:Expr->List Stmt->List Stmt->Pos->List Stmt->Bool):Bool:=match l with|.While x p q r::l=>k x p q r l|_=>false
@[elab_as_elim] theorem Qn{motive:List Stmt->Prop}{l:List Stmt}{k:Expr->List Stmt->List Stmt->Pos->List Stmt->Bool}(h:qWh l k=true)(f:∀x p q r t,k x p q r t=true->motive (.While x p q r::t)):motive l:=by
 cases l with
 |nil=>exact Bool.noConfusion h
 |cons a t=>cases a<;>first|exact f _ _ _ _ _ h|exact Bool.noConfusion h
noncomputable def qTr(l:List Stmt)(k:List Stmt->List ExceptHandler->List Stmt->List Stmt->Pos->List Stmt->Bool):Bool:=match l with|.Try x p q r s::l=>k x p q r s l|_=>false
def JA(h:qTr l k=true):∃x p q r s t,l=.Try x p q r s::t/\k x p q r s t=true:=by
 cases l with
 |nil=>exact Bool.noConfusion h
 |cons a t=>cases a<;>first|exact⟨_,_,_,_,_,_,rfl,h⟩|exact Bool.noConfusion h
section
variable (fs gs:List Str)(N:List Str)(nm:List (Str×NameKind))
noncomputable def bH:Bool->Ct->List Stmt->Bool
 |_,.nil,sts=>sts.isEmpty
 |_,.never,_=>true
 |_,.ret c,sts=>qRe sts λ e _ _=>(match e with|some e=>ck fs gs c N nm e|none=>false)
 |lp,.set i c r,sts=>qAs sts λ ts e _ rest=>c1 ts λ t=>cz t λ x _=>lcl N nm i x&&ck fs gs c N nm e&&bH lp r rest
 |lp,.sets is c r,sts=>qAs sts λ ts e _ rest=>c1 ts λ tg=>ckT true N nm is tg&&jx tg&&plE e&&ck fs gs c N nm e&&bH lp r rest
 |lp,.fz _ r,sts=>bH lp r sts
 |lp,.ex c r,sts=>qEx sts λ e _ rest=>plE e&&ck fs gs c N nm e&&bH lp r rest
 |lp,.met m i l r,sts=>qEx sts λ e _ rest=>ckM fs gs N nm m i l e&&bH lp r rest
 |lp,.put i c d r,sts=>qAs sts λ ts e _ rest=>c1 ts λ t=>nS t λ o y _=>cz o λ x _=>decide (N[i]?=some x)&&vs nm x&&okN x&&ki y&&ck fs gs c N nm y&&ck fs gs d N nm e&&bH lp r rest
 |lp,.ite c a b r,sts=>qIf sts λ t x y _ rest=>tB' c t&&ck fs gs c N nm t&&bH lp a x&&bH lp b y&&bH lp r rest
 |lp,.for tg k it b r,sts=>qFo sts λ t iter body els _ rest=>els.isEmpty&&lp&&ckT true N nm tg t&&ckI fs gs it k t N nm iter&&bH lp b body&&bH lp r rest
 |lp,.tri b r,sts=>qTr sts λ body hs els fi _ rest=>!hs.isEmpty&&els.isEmpty&&fi.isEmpty&&bH false b body&&bH lp r rest
 |lp,.apI i j c l e r,sts=>qEx sts λ q _ rest=>dP q λ g as w cp=>nT g λ o name ap=>cz o λ x _=>c1 as λ u=>cIf u λ t y z _=>w.isEmpty&&decide (N[i]?=some x/\name="append" /\ ap.endLine=cp.line)&&vs nm x&&okN x&&tB' c t&&ck fs gs c N nm t&&ckM fs gs N nm .pop j l y&&ck fs gs e N nm z&&bH lp r rest
end
section
variable {J:Hp->Prop}{FT:List PSp}{GT:List TV}{fs gs:List Str}{N:List Str}{nm:List (Str×NameKind)}{F0:Fz}{H0:Hp}{PN:List (TV×V)}
def PSs.imp{st:List Stmt}{t t':TS}(h:PSs X st t)(i:∀D σ H,t' D σ H->t D σ H):PSs X st t':=λ pins s σ H D I q=>h pins s σ H D I (i D σ H q)
noncomputable def nxR(K:FG)(J:Hp->Prop)(F0:Fz)(H0:Hp)(PN:List (TV×V))(n:Nat)(P:St->Hp->Prop)(ρ:En):Prop:=∀F' H' σ',ER K J F0 H0 PN F' H' σ' ρ->σ'.length=n->P σ' H'
noncomputable def rtR(K:FG)(J:Hp->Prop)(F0:Fz)(H0:Hp)(P:VK)(t:TV):Prop:=∀F' H' v,Grow J F0 H0 F' H'->Rp K F' H' t v->P v H'
noncomputable def rS(K:FG)(J:Hp->Prop)(FT:List PSp)(GT:List TV)(n:Nat)(F0:Fz)(H0:Hp)(PN:List (TV×V))(c:Ct):TS:=λ D σ H=>∃F ρ,ER K J F0 H0 PN F H σ ρ/\σ.length=n/\wS FT GT c ρ (nxR K J F0 H0 PN n D.nx) (rtR K J F0 H0 D.rt)
def ER.rr{K:FG}{i:Nat}(e:ER K J F0 H0 PN F H σ ρ)(g:Grow J F H F' H')(h:Rr K H F' H' t v)(nb:t.nb=true)(hi:i<σ.length):ER K J F0 H0 PN F' H' (σ.set i (some v)) (ρ.set i (some t)):=by
 cases t with
 |own l=>exact e.own g h hi
 |bor l=>cases nb
 |_=>exact(e.grow g).set h hi
def JB{x:Str}(xs:XS X N nm)(hf:∀x,X.env.scope.names.lookup x=some .cell->X.fn x=true)(h:lcl N nm i x=true):X.N[i]?=some x/\Loc X.env.scope x/\(X.fn x=true\/X.env.scope.names.lookup x=some .local)/\i<N.length:=by
 unfold lcl at h;rw[bF,mq] at h;have e:=aC h.1;have lo:Loc X.env.scope x:=by unfold Loc;rw[xs.nm];exact h.2.imp aC aC
 exact⟨by rw[xs.N];exact e,lo,lo.elim .inr λ z=>.inl (hf x z),(bf.mp e).1⟩
def qw(h:plE e=true):swapsWith e t n env=pure false:=by cases e<;>first|rfl|cases h
def JC{own fv:List Str}{js tgs:List Nat}(hJ:JS J)(lt:∀i∈tgs,i<own.length)(h:rE X.K J FT GT (.comp own fv js tgs k it e) σ H Q):lE (rW X.K J FT GT k it) own.length js (tgG X.K tgs) (rE X.K J FT GT e) σ H Q:=by
 obtain⟨F,ρ,ev,w⟩:=h;refine⟨F,ρ,ev,cN it (λ ts w=>jq (λ its w F1 H1 xs Jt g1 rx ok=>?_) w) w⟩;obtain⟨hn,w⟩:=w
 have z:=qr (tc:=λ σ H Q=>Q true H) (te:=rE X.K J FT GT e) hJ g1 rx ok ev lt hn (λ t K'=>stE (cEn own js ρ) tgs t λ ρ'=>wE FT GT e ρ' λ y=>(y.nb=true/\K' [y.fz])) (λ t K K' h q=>gx (λ ρ' q=>av e (λ y q=>⟨q.1,h _ q.2⟩) q) q) w
  (λ t P x F' H' σ' b ev' sl rt R fin=>qm b ev' rt (λ i hi=>by rw[sl];unfold dD;simp;have:=lt i hi;lia) λ σ2 ρ2 p ev2 sl2 keep=>by
   show if true=true then _ else _;rw[if_pos rfl];refine⟨F',ρ2,ev2,av e (λ y ⟨nb,p⟩ F2 H2 v g r=>?_) p⟩;obtain⟨F3,g3,_,_,rp⟩:=r.frz g nb
   exact fin [y.fz] [v] σ2 F3 H2 p (ay _) g3 ⟨v,[],O,rp,O⟩ ((keep _ ev' λ i hi u=>qp (lt i hi) u).grow g3) sl2)
 simpa only[eW] using z
def JD{own fv:List Str}{js tgs:List Nat}(hJ:JS J)(lt:∀i∈tgs,i<own.length)(h:rE X.K J FT GT (.compI own fv js tgs k it c e) σ H Q):jW (rW X.K J FT GT k it) own.length js (tgG X.K tgs) (rT X.K J FT GT c) (rE X.K J FT GT e) σ H Q:=by
 obtain⟨F,ρ,ev,w⟩:=h;refine⟨F,ρ,ev,cN it (λ ts w=>jq (λ its w F1 H1 xs Jt g1 rx ok=>?_) w) w⟩;obtain⟨hn,w⟩:=w
 exact qr (tc:=rT X.K J FT GT c) (te:=rE X.K J FT GT e) hJ g1 rx ok ev lt hn (λ t K'=>stE (cEn own js ρ) tgs t λ ρ'=>wE FT GT c ρ' λ x=>b1 x λ q=>if q=true then wE FT GT e ρ' λ y=>(y.nb=true/\K' [y.fz]) else K' []) (λ t K K' h q=>gx (λ ρ' q=>av c (λ x q=>cG (λ z q=>by
   split at q
   ·rw[if_pos (by assumption)];exact av e (λ y q=>⟨q.1,h _ q.2⟩) q
   ·rw[if_neg (by assumption)];exact h _ q) q) q) q) w
  (λ t P x F' H' σ' b ev' sl rt R fin=>qm b ev' rt (λ i hi=>by rw[sl];unfold dD;simp;have:=lt i hi;lia) λ σ2 ρ2 p ev2 sl2 keep=>by
   have kp:=keep _ ev' λ i hi u=>qp (own:=own) (js:=js) (ρ:=ρ) (lt i hi) u;refine⟨F',ρ2,ev2,av c (λ x w=>cG (λ q w2 F2 H2 g2=>?_) w) p⟩;split at w2
   ·rw[if_pos (by assumption)];refine⟨F2,ρ2,ev2.grow g2,av e (λ y ⟨nb,p⟩ F3 H3 v g r=>?_) w2⟩;obtain⟨F4,g4,_,_,rp⟩:=r.frz g nb;exact fin [y.fz] [v] σ2 F4 H3 p (ay _) (g2.trans g4) ⟨v,[],O,rp,O⟩ ((kp.grow g2).grow g4) sl2
   ·rw[if_neg (by assumption)]
    exact fin [] [] σ2 F2 H2 w2 (bW _) g2 rfl (kp.grow g2) sl2)
theorem JE{i:Nat}(xo:XOk X J FT GT fs gs)(xs:XS X N nm)(hN:X.N.Nodup)(hi:X.N[i]?=some x)(hx:Loc X.env.scope x)(hf:X.fn x=true\/X.env.scope.names.lookup x=some .local)(h:ck fs gs c N nm e=true) :
  PS X (.Assign [.Name x p'] e pos) (lg (rE X.K J FT GT c) (eO i)):=by
 have plain:swapsWith e (some (.Name x p')) pos.line X.env=pure false->PS X (.Assign [.Name x p'] e pos) (lg (rE X.K J FT GT c) (eO i)):=λ hs=>DC hN hi hx (sE c xo xs h) hs hf
 cases e with
 |ListComp elt gens sc lp=>
  cases hb:(X.env.blockKind == .function&&X.env.kindOf x == some .local&&p'.line == (Expr.ListComp elt gens sc lp).pos.line && !(sc.names.any λ(n,k)=>n == x&&(k == .local || k == .cell))) with
  |false=>exact plain (by show(pure _:Sem Bool)=_;rw[<- hb])
  |true=>
   have hsw:swapsWith (.ListComp elt gens sc lp) (some (.Name x p')) pos.line X.env=pure true:=by show(pure _:Sem Bool)=_;rw[<- hb]
   cases c with
   |comp own fv js tgs k it e=>
    obtain⟨_,_,_,_,e1,g⟩:=qj h;cases e1;obtain⟨⟨t,iter,ifs,z⟩,rfl,g'⟩:=kj g;obtain⟨g0,g1,h1,h2,h3,h4,h5⟩:=a7 g';cases (show ifs=[] from List.isEmpty_iff.mp g0);cases aC g1;intro pins s σ H D I q;obtain⟨cl,S⟩:=nV I.ok xs h1;have yx:∀(C:Addr) (ex:List Addr) (s:Shared) (H:Hp),XS (bC X (own++fv) sc cl C ex s H) (own++fv) (cn nm sc.names):=λ C ex s H=>⟨rfl,S.rel⟩;have lt:∀i∈tgs,i<own.length:=λ i hi=>aC (iB.mp h4 i hi);exact GM (g:=tgG X.K tgs) (te:=rE X.K J FT GT e) hN hi hx hf xo.calm (sI it k xo xs h2) S.clos S.cell S.kind S.names S.sub S.has S.len S.cap (λ C ex s H=>(kt (X:=bC X (own++fv) sc cl C ex s H) S.nd xo.calm (yx C ex s H) (λ z=>by cases z) h3).1) (λ C ex s H=>sE e (my xo) (yx C ex s H) h5) hsw (λ x=>mx (nX h2)) pins s σ H D I (JC xo.hJ lt q)
   |compI own fv js tgs k it c e=>
    obtain⟨_,_,_,_,e1,g⟩:=qj h;cases e1;obtain⟨⟨t,iter,ifs,z⟩,rfl,g'⟩:=kj g;obtain⟨cnd,e2,g⟩:=kj g';cases e2;obtain⟨g1,h1,h2,h3,h4,h7,h5,h6⟩:=a8 g;cases aC g1;intro pins s σ H D I q;obtain⟨cl,S⟩:=nV I.ok xs h1;have yx:∀(C:Addr) (ex:List Addr) (s:Shared) (H:Hp),XS (bC X (own++fv) sc cl C ex s H) (own++fv) (cn nm sc.names):=λ C ex s H=>⟨rfl,S.rel⟩;have lt:∀i∈tgs,i<own.length:=λ i hi=>aC (iB.mp h4 i hi);exact HA (g:=tgG X.K tgs) (tc:=rT X.K J FT GT c) (te:=rE X.K J FT GT e) hN hi hx hf xo.calm (sI it k xo xs h2) S.clos S.cell S.kind S.names S.sub S.has S.len S.cap (λ C ex s H=>(kt (X:=bC X (own++fv) sc cl C ex s H) S.nd xo.calm (yx C ex s H) (λ z=>by cases z) h3).1) (λ C ex s H=>sE e (my xo) (yx C ex s H) h6) (λ C ex s H=>sT c (my xo) (yx C ex s H) h7 h5) hsw (λ x=>mx (nX h2)) pins s σ H D I (JD xo.hJ lt q)
   |_=>exact Bool.noConfusion h
 |SetComp=>cases c<;>exact Bool.noConfusion h
 |DictComp=>cases c<;>exact Bool.noConfusion h
 |_=>exact plain rfl
end
section
variable {J:Hp->Prop}{FT:List PSp}{GT:List TV}{fs gs:List Str}{N:List Str}{nm:List (Str×NameKind)}{F0:Fz}{H0:Hp}{PN:List (TV×V)}
noncomputable def rM(K:FG)(J:Hp->Prop)(FT:List PSp)(GT:List TV)(F0:Fz)(H0:Hp)(PN:List (TV×V))(m:MM)(i:Nat)(l:Cd):TE:=λ σ H Q=>∃F ρ,ER K J F0 H0 PN F H σ ρ/\dG ρ[i]? λ xs=>wL FT GT l ρ λ ts=>mtP m xs ts λ y ys=>∀F' H' v,ER K J F0 H0 PN F' H' σ (ρ.set i (some (.own ys)))->Rp K F' H' y v->Q v H'
def ER.at_{K:FG}{i:Nat}(e:ER K J F0 H0 PN F H σ ρ)(h:ρ[i]?=some (some (.own l))):∃a vs,σ[i]?=some (some (.ref a))/\H a=some (.lst vs)/\RpL K F H l vs:=by
 obtain⟨v,e1,a,vs,rfl,_,q,r⟩:=e.ev.sl i _ h;exact⟨a,vs,e1,q,r⟩
def rl2{K:FG}{t u:TV}{vs:List V}(h:RpL K F H [t,u] vs):∃x y,vs=[x,y]/\Rp K F H t x/\Rp K F H u y:=by
 obtain⟨x,r,rfl,h1,y,r',rfl,h2,rfl⟩:=h;exact⟨x,y,O,h1,h2⟩
def rl1{K:FG}{t:TV}{vs:List V}(h:RpL K F H [t] vs):∃x,vs=[x]/\Rp K F H t x:=by
 obtain⟨x,r,rfl,h1,rfl⟩:=h;exact⟨x,O,h1⟩
def RpL.dropLast{K:FG}{vs:List V}(h:RpL K F H l vs):RpL K F H l.dropLast vs.dropLast:=by
 rw[ym,ym,<- h.length];exact h.take _
def RpL.eraseIdx{K:FG}{vs:List V}(h:RpL K F H l vs)(k:Nat):RpL K F H (l.eraseIdx k) (vs.eraseIdx k):=by
 rw[mC,mC];exact(h.take k).append (h.drop _)
theorem JF(hJ:JS J){i:Nat}{Q:VK}(e:ER X.K J F0 H0 PN F H σ ρ)(h:ρ[i]?=some (some (.own l)))(ha:σ[i]?=some (some (.ref a)))(g:Grow J F H F1 H1)(r:RrL X.K H F1 H1 ts ws)
  (w:mtP m l ts λ y ys=>∀F' H' v,ER X.K J F0 H0 PN F' H' σ (ρ.set i (some (.own ys)))->Rp X.K F' H' y v->Q v H') :
  (m=.append/\ny (.ref a) ws H1 Q)\/(m=.insert/\pO (.ref a) ws H1 Q)\/(∃b,m=.extend b/\∃c vs zs,ws=[.ref c]/\SqB X.K b H1 c zs/\H1 a=some (.lst vs)/\vs.length+zs.length<=sizeLine/\Q .non (upd H1 a (.lst (vs++zs))))\/(m=.pop/\pj (.ref a) ws H1 Q)\/(m=.pop/\nA (.ref a) ws H1 Q):=by
 rcases ts with _|⟨t,_|⟨u,_|⟨z,rr⟩⟩⟩
 ·cases m with
  |pop=>
   cases r;obtain⟨y,ey,w⟩:=w;have e1:=e.grow g;obtain⟨b,vs,eb,q,rl⟩:=e1.at_ h;rw[ha] at eb;cases eb;obtain⟨v,ev,rv⟩:=rl.get ey;obtain⟨em,ke⟩:=e1.mut hJ h ha rl.dropLast;exact .inr (.inr (.inr (.inl ⟨O,a,vs,v,O,O,q,by rw[<- rl.length];exact ev,w _ _ _ em (rv.ke ke)⟩)))
  |_=>exact w.elim
 ·cases m with
  |append=>
   obtain⟨nb,lz,w⟩:=w;obtain⟨F2,g2,_,r2⟩:=ko g r (by rw[cX,nb];rfl);obtain⟨x,rfl,rx⟩:=rl1 r2;have e1:=e.grow g2;obtain⟨b,vs,eb,q,rl⟩:=e1.at_ h;rw[ha] at eb;cases eb;obtain⟨em,ke⟩:=e1.mut hJ h ha (rl.append (show RpL X.K F2 H1 [t.fz] [x] from ⟨x,[],rfl,rx,rfl⟩));exact .inl ⟨O,a,vs,x,O,O,q,by rw[<- rl.length];exact lz,w _ _ _ em rfl⟩
  |extend bb=>
   obtain⟨nb,w⟩:=w;obtain⟨mm,em',lz,w⟩:=iK w;have e1:=e.grow g;obtain⟨b,vs,eb,q,rl⟩:=e1.at_ h;rw[ha] at eb;cases eb;obtain⟨x,rfl,rt⟩:=jv r;obtain⟨c,zs,rfl,qc,rz⟩:=rt.vw.b em';obtain⟨em,ke⟩:=e1.mut hJ h ha (rl.append rz);exact .inr (.inr (.inl ⟨bb,O,c,vs,zs,O,qc,q,by rw[<- rl.length,<- rz.length];exact lz,w _ _ _ em rfl⟩))
  |pop=>
   obtain⟨k,rfl,c,n,y,e2,ey,w⟩:=iF w;obtain⟨x,rfl,rt⟩:=jv r;cases rt;have e1:=e.grow g;obtain⟨b,vs,eb,q,rl⟩:=e1.at_ h;rw[ha] at eb;cases eb;obtain⟨v,ev,rv⟩:=rl.get ey;obtain⟨em,ke⟩:=e1.mut hJ h ha (rl.eraseIdx n);exact .inr (.inr (.inr (.inr ⟨O,a,vs,k,n,v,O,O,q,c.1,c.2,by rw[<- rl.length];exact e2,ev,w _ _ _ em (rv.ke ke)⟩)))
  |_=>exact w.elim
 ·cases m with
  |insert=>
   obtain⟨k,rfl,nb,c,lz,w⟩:=iF w;obtain⟨F2,g2,_,r2⟩:=ko g r (by rw[cX,cX,nb];rfl);obtain⟨x,y,rfl,rx,ry⟩:=rl2 r2;cases rx;have e1:=e.grow g2;obtain⟨b,vs,eb,q,rl⟩:=e1.at_ h;rw[ha] at eb;cases eb;obtain⟨em,ke⟩:=e1.mut hJ h ha ((rl.take k.toNat).append (show RpL X.K F2 H1 (u.fz::l.drop k.toNat) (y::vs.drop k.toNat) from ⟨y,_,rfl,ry,rl.drop _⟩));exact .inr (.inl ⟨O,a,vs,k,y,O,O,q,c.1,by rw[<- rl.length];exact c.2,by rw[<- rl.length];exact lz,w _ _ _ em rfl⟩)
  |_=>exact w.elim
 ·cases m<;>exact w.elim
def JG{i:Nat}{p ap cp:Pos}{es:List Expr}(xo:XOk X J FT GT fs gs)(xs:XS X N nm)(h1:N[i]?=some x)(h2:vs nm x=true)(h3:okN x=true)(h0:mmN m ≠ "__name__")(h5:ap.endLine=cp.line)(h6:es.length<20)(h7:ckL fs gs l N nm es=true):PE X (.Call (.Attribute (.Name x p) (mmN m) ap) es [] cp) (rM X.K J FT GT F0 H0 PN m i l):=by
 obtain⟨d1,d2,_⟩:=gF h3;have hv:PE X (.Name x p) (cV i):=iZ (by rw[xs.N];exact h1) (kr xs h2) d1 d2;have hl:=ky.mpr h5;have st:=qu h7;have ha:=sL l xo xs h7
 have rd:∀ {r:V->List V->Hp->VK->Prop}{σ:St}{H:Hp}{Q:VK},rM X.K J FT GT F0 H0 PN m i l σ H Q->(∀ {a ws H1},((m=.append/\ny (.ref a) ws H1 Q)\/(m=.insert/\pO (.ref a) ws H1 Q)\/(∃b,m=.extend b/\∃c vs zs,ws=[.ref c]/\SqB X.K b H1 c zs/\H1 a=some (.lst vs)/\vs.length+zs.length<=sizeLine/\Q .non (upd H1 a (.lst (vs++zs))))\/(m=.pop/\pj (.ref a) ws H1 Q)\/(m=.pop/\nA (.ref a) ws H1 Q))->r (.ref a) ws H1 Q) ->
   ∃a,σ[i]?=some (some (.ref a))/\(tyV X.K "list" (.ref a) H)/\rA X.K J FT GT l σ H λ ws H1=>r (.ref a) ws H1 Q:=λ {r σ H Q} ⟨F,ρ,e,w⟩ hr=>by
  obtain⟨ys,hy,w⟩:=kz w;obtain⟨a,vs,ea,q,_⟩:=e.at_ hy;exact⟨a,ea,.inl ⟨O,vs,.of q⟩,F,ρ,e.ev,cN l (λ ts w F1 H1 ws g r=>hr (JF xo.hJ e hy ea g r w)) w⟩
 have tv:∀ {σ:St}{H:Hp}{P:VK}{a:Addr},σ[i]?=some (some (.ref a))->P (.ref a) H->cV i σ H P:=λ {σ H P a} e p=>by unfold cV;rw[e];exact p
 cases es with
 |nil=>
  cases m with
  |pop=>
   refine(Fe (apos:=ap) (cpos:=cp) jz yn s0a Fh hv rfl hl).imp λ σ H Q q=>?_
   have l0:l=.nil:=by cases l<;>first|rfl|exact Bool.noConfusion h7
   subst l0
   obtain⟨a,ea,ty,F,ρ,ev,w⟩:=rd (r:=λ x ws H Q=>ws=[]->pj x [] H Q) q (λ h z=>by
    subst z
    rcases h with ⟨z,_⟩|⟨z,_⟩|⟨_,z,_⟩|⟨_,h⟩|⟨_,h⟩
    ·cases z
    ·cases z
    ·cases z
    ·exact h
    ·obtain⟨_,_,_,_,_,_,z,_⟩:=h;cases z)
   exact tv ea ⟨ty,w F H [] (.refl ev.w) .nil rfl⟩
  |append=>
    intro pins s σ H Q I q
    have l0:l=.nil:=by cases l<;>first|rfl|exact Bool.noConfusion h7
    subst l0;obtain⟨F,ρ,e,w⟩:=q;obtain⟨_,_,w⟩:=kz w;exact w.elim
  |insert=>
    intro pins s σ H Q I q
    have l0:l=.nil:=by cases l<;>first|rfl|exact Bool.noConfusion h7
    subst l0;obtain⟨F,ρ,e,w⟩:=q;obtain⟨_,_,w⟩:=kz w;exact w.elim
  |extend b=>exact absurd rfl h0
 |cons y es=>
  have sy:aO y=true:=by rw[cX,bF] at st;exact st.1
  have ss:es.all aO=true:=by rw[cX,bF] at st;exact st.2
  cases m with
  |append=>
   refine(jU (apos:=ap) (cpos:=cp) jz yp yq we hv ha rfl (mB st h6) hl (bw sy) (mj ss)).imp λ σ H Q q=>?_
   obtain⟨a,ea,ty,w⟩:=rd (r:=ny) q (λ h=>by
    rcases h with ⟨_,h⟩|⟨z,_⟩|⟨_,z,_⟩|⟨z,_⟩|⟨z,_⟩
    ·exact h
    all_goals cases z)
   exact tv ea ⟨ty,w⟩
  |insert=>
   refine(jU (apos:=ap) (cpos:=cp) jz PySem.F.slot_list_insert PySem.F.type_list_insert Hr hv ha rfl (mB st h6) hl (bw sy) (mj ss)).imp λ σ H Q q=>?_
   obtain⟨a,ea,ty,w⟩:=rd (r:=pO) q (λ h=>by
    rcases h with ⟨z,_⟩|⟨_,h⟩|⟨_,z,_⟩|⟨z,_⟩|⟨z,_⟩
    ·cases z
    ·exact h
    all_goals cases z)
   exact tv ea ⟨ty,w⟩
  |pop=>
   refine(jU (apos:=ap) (cpos:=cp) jz yn s0a GL hv ha rfl (mB st h6) hl (bw sy) (mj ss)).imp λ σ H Q q=>?_
   obtain⟨a,ea,ty,w⟩:=rd (r:=λ x ws H Q=>ws≠[]->nA x ws H Q) q (λ h n=>by
    rcases h with ⟨z,_⟩|⟨z,_⟩|⟨_,z,_⟩|⟨_,h⟩|⟨_,h⟩
    ·cases z
    ·cases z
    ·cases z
    ·obtain⟨_,_,_,_,z,_⟩:=h;exact absurd z n
    ·exact h)
   refine tv ea ⟨ty,?_⟩;obtain⟨F,ρ,ev,w⟩:=w;refine⟨F,ρ,ev,?_⟩
   cases l with
   |cons b r=>exact av b (λ t w=>cN r (λ ts w F' H' vs g rr=>w F' H' vs g rr (λ z=>by subst z;cases rr)) w) w
   |_=>exact Bool.noConfusion h7
  |extend b=>exact absurd rfl h0
def yr(xo:XOk X J FT GT fs gs)(xs:XS X N nm)(h:ckM fs gs N nm m i l e=true):PE X e (rM X.K J FT GT F0 H0 PN m i l)/\plE e=true:=by
 refine dZ h λ g es w cp k1=>?_;refine qi k1 λ o name ap k2=>?_;refine cx k2 λ x p k3=>?_;obtain⟨z0,h1,h2,h3,z1,z2,h7⟩:=a7 k3;refine dF z0 ?_;cases aC z1;obtain⟨h0,h5,h6⟩:=aC z2;exact⟨JG xo xs (aC h1) h2 h3 h0 h5 h6 h7,O⟩
noncomputable def rAI(K:FG)(J:Hp->Prop)(FT:List PSp)(GT:List TV)(F0:Fz)(H0:Hp)(PN:List (TV×V))(i j:Nat)(c l e:Cd):TE:=λ σ H Q=>∃F ρ,ER K J F0 H0 PN F H σ ρ/\dG ρ[i]? λ _=>wE FT GT c ρ λ t=>b1 t λ k=>if k=true then
   dG ρ[j]? λ xs=>wL FT GT l ρ λ ts=>mtP .pop xs ts λ y ys=>dG (ρ.set j (some (.own ys)))[i]? λ zs=>zs.length<sizeLine/\∀F' H',ER K J F0 H0 PN F' H' σ ((ρ.set j (some (.own ys))).set i (some (.own (zs++[y]))))->Q .non H'
  else wE FT GT e ρ λ t=>t.nb=true/\dG ρ[i]? λ zs=>zs.length<sizeLine/\∀F' H',ER K J F0 H0 PN F' H' σ (ρ.set i (some (.own (zs++[t.fz]))))->Q .non H'
def JH{i j:Nat}{p ap cp ip:Pos}(xo:XOk X J FT GT fs gs)(xs:XS X N nm)(h1:N[i]?=some x)(h2:vs nm x=true)(h3:okN x=true)(hl:ap.endLine=cp.line)(h4:tB' c t=true)(h5:ck fs gs c N nm t=true)(h6:ckM fs gs N nm .pop j l y=true)(h7:ck fs gs e N nm z=true):PE X (.Call (.Attribute (.Name x p) "append" ap) [.IfExp t y z ip] [] cp) (rAI X.K J FT GT F0 H0 PN i j c l e):=by
 obtain⟨d1,d2,_⟩:=gF h3;have hv:PE X (.Name x p) (cV i):=iZ (by rw[xs.N];exact h1) (kr xs h2) d1 d2;have fo:=mB (e:=.IfExp t y z ip) (es:=[]) (env:=X.env) (cp:=cp) rfl (show 1<20 by decide);have ha:=cL (vn (pos:=ip) (sT c xo xs h4 h5) (yr (J:=J) (FT:=FT) (GT:=GT) (F0:=F0) (H0:=H0) (PN:=PN) xo xs h6).1 (sE e xo xs h7)) pa_nil rfl;refine(jU (apos:=ap) (cpos:=cp) jz yp yq we hv ha rfl fo (ky.mpr hl) rfl rfl).imp λ σ H Q ⟨F,ρ,er,w⟩=>?_;obtain⟨ls,hy,w⟩:=kz w;obtain⟨a,vs,ea,q,_⟩:=er.at_ hy
 have fin:∀ {ρ':En}{F':Fz}{H':Hp}{zs:List TV}{u:TV}{v:V},ER X.K J F0 H0 PN F' H' σ ρ'->ρ'[i]?=some (some (.own zs))->zs.length<sizeLine->Rp X.K F' H' u v->(∀F' H',ER X.K J F0 H0 PN F' H' σ (ρ'.set i (some (.own (zs++[u]))))->Q .non H')->ny (.ref a) [v] H' Q:=λ {ρ' F' H' zs u v} e1 hz lz rv fn=>by
  obtain⟨b,ws,eb,qb,rl⟩:=e1.at_ hz;rw[ea] at eb;cases eb;obtain⟨em,ke⟩:=e1.mut xo.hJ hz ea (rl.append (show RpL X.K F' H' [u] [v] from ⟨v,[],rfl,rv,rfl⟩));exact⟨a,ws,v,O,O,qb,by rw[<- rl.length];exact lz,fn _ _ em⟩
 unfold tBM cV;rw[ea];refine⟨.inl ⟨O,vs,.of q⟩,F,ρ,er.ev,av c (λ t w=>cG (λ k w F1 H1 g=>?_) w) w⟩;split at w
 ·rw[if_pos (by assumption)];refine⟨F1,ρ,er.grow g,fP (λ xs w=>cN l (λ ts w=>oa (λ y ys w F2 H2 v e2 rv=>?_) w) w) w⟩;obtain⟨zs,hz,lz,w⟩:=kz w;exact fin e2 hz lz rv w
 ·rw[if_neg (by assumption)];refine⟨F1,ρ,(er.grow g).ev,av e (λ t ⟨nb,w⟩ F2 H2 v g2 r2=>?_) w⟩;obtain⟨F3,g3,_,_,rp⟩:=r2.frz g2 nb;obtain⟨zs,hz,lz,w⟩:=kz w;exact fin ((er.grow g).grow g3) hz lz rp w
end
section
variable {J:Hp->Prop}{FT:List PSp}{GT:List TV}{fs gs:List Str}{N:List Str}{nm:List (Str×NameKind)}{F0:Fz}{H0:Hp}
theorem JI{K:PySem.W.Frag}{ts its:List TV}{n:Nat}{D:Ends}{tb:TS}(b:TV->En->(En->Prop)->Prop)(P:En->Prop)
  (e1:ER K J F0 H0 PN F1 H1 σ ρ) (sl:σ.length=n) (rx:RpL K F1 H1 (ts.map TV.fz) xs) (ok:ItOk K J Jt its ts xs) (w:itF b its ρ P) (fin:∀ρ',P ρ'->nxR K J F0 H0 PN n D.nx ρ')
  (st:∀t ρ' F' H' σ' x (Q:En->Prop) (D':Ends),b t ρ' Q->ER K J F0 H0 ((ts.map TV.fz).zip xs++PN) F' H' σ' ρ'->σ'.length=n->Rp K F' H' t x->D'.rt=D.rt->(∀ρ2,Q ρ2->nxR K J F0 H0 ((ts.map TV.fz).zip xs++PN) n D'.nx ρ2)->tgG K tgs x σ' H' λ σ2 H2=>tb D' σ2 H2) :
  ∃W:Nat->Nat->St->Hp->Prop,(∃m,W 0 m σ H1)/\∀i m σ H,W i m σ H ->
   (Jt.stop i H/\D.nx σ H)\/(Jt.go i H/\∃N:St->Hp->Prop,(∀σ' H',N σ' H'->∃m',m'<m/\W (i+1) m' σ' H')/\∀x H',Jt.yld i H x H'->tgG K tgs x σ H' λ σ2 H2=>tb { D with nx:=N,ct:=N,bk:=D.nx } σ2 H2):=by
 have zl:(ts.map TV.fz).length=xs.length:=rx.length
 have pin0:∀p∈(ts.map TV.fz).zip xs,Rp K F1 H1 p.1 p.2:=by
  intro p hp;obtain⟨i,hi⟩:=ud hp;rw[nR] at hi;obtain⟨v,ev,rv⟩:=rx.get hi.1;rw[hi.2] at ev;cases ev;exact rv
 have vw:∀ {F:Fz}{H:Hp}{σ:St}{ρ:En},ER K J F0 H0 ((ts.map TV.fz).zip xs++PN) F H σ ρ->Paired (Vw K F H) ts xs:=λ {F H σ ρ} e=>by
  have f:=e.pn;clear rx ok w fin st pin0 e1
  revert xs
  induction ts with
  |nil=>intro xs zl e f;cases xs with|nil=>exact .nil|cons x xs=>simp at zl
  |cons t ts ih=>
   intro xs zl e f
   cases xs with
   |nil=>simp at zl
   |cons x xs=>
    refine .cons (Rp.vw (f (t.fz,x) on)) (ih (by simpa using zl) ⟨e.ev,e.gr,e.nb,e.di,λ p hp=>f p (by
     rw[aX,kA,nG]
     exact aE _ hp)⟩ λ p hp=>f p (by
     rw[aX,kA,nG]
     exact aE _ hp))
 refine⟨λ i m σ H=>i≤its.length/\m=its.length - i/\∃F ρ,ER K J F0 H0 ((ts.map TV.fz).zip xs++PN) F H σ ρ/\σ.length=n/\itF b (its.drop i) ρ P,
  ⟨_,bW _,rfl,F1,ρ,⟨e1.ev,e1.gr,e1.nb,e1.di,λ p hp=>(cg.mp hp).elim (pin0 p) (e1.pn p)⟩,sl,w⟩,?_⟩
 rintro i m σ H ⟨hi,rfl,F,ρ,e,s,w⟩;have v:=vw e;by_cases c:i<its.length
 ·refine .inr ⟨ok.go F H i e.ev.w v c,λ σ' H'=>∃F ρ,ER K J F0 H0 ((ts.map TV.fz).zip xs++PN) F H' σ' ρ/\σ'.length=n/\itF b (its.drop (i+1)) ρ P,λ σ' H' q=>⟨_,ca,c,O,q⟩,λ x H' y=>?_⟩;obtain⟨t,et,gy,rt⟩:=ok.yld F H i x H' e.ev.w v c y
  have ed:its.drop i=t::its.drop (i+1):=by
   rw[lU c]
   congr 1
   rw[aB c] at et;exact bJ et
  rw[ed] at w;exact st t ρ F H' σ x _ _ w (e.grow gy) s rt rfl λ ρ2 q F2 H2 σ2 e2 s2=>⟨F2,ρ2,e2,s2,q⟩
 ·have ei:i=its.length:=by lia
  subst ei;rw[tY] at w;refine .inl ⟨ok.stop F H e.ev.w v,fin ρ w F H σ ⟨e.ev,e.gr,e.nb,e.di,λ p hp=>e.pn p (cu _ hp)⟩ s⟩
structure YOk (X:Cx)(J:Hp->Prop)(FT:List PSp)(GT:List TV)(fs gs N:List Str)(nm:List (Str×NameKind))(lp:Bool):Prop where
 xo:XOk X J FT GT fs gs
 xs:XS X N nm
 nd:N.Nodup
 fn:∀x,X.env.scope.names.lookup x=some .cell->X.fn x=true
 ps:lp=true->PassesOwn (model X.prog X.w) X.A X.env X.xe
theorem yt{K:FG}{Q:St->Hp->Prop}(h:stE ρ is t P)(e:ER K J F0 H0 PN F H σ ρ)(rt:Rp K F H t v)(hl:∀i∈is,i<σ.length)
  (fin:∀σ' ρ',P ρ'->ER K J F0 H0 PN F H σ' ρ'->σ'.length=σ.length->Q σ' H):tgG K is v σ H Q:=by
 match is,h with
 |[i],h=>exact fin _ _ h (e.set rt (hl i on)) on
 |[i,j],h=>
  cases t with
  |tup l=>
   match l,h with
   |[x,y],h=>
    obtain⟨a,ws,rfl,q,v1,r1,rfl,h1,v2,r2,rfl,h2,rfl⟩:=rt;exact⟨a,_,O,q,O,v1,_,O,v2,_,O,O,fin _ _ h ((e.set h1 (hl i on)).set h2 (by simpa using hl j on)) on⟩
   |[],h=>exact h.elim
   |[_],h=>exact h.elim
   |_::_::_::_,h=>exact h.elim
  |_=>exact h.elim
 |[i,j,k],h=>
  cases t with
  |tup l=>
   match l,h with
   |[x,y,z],h=>
    obtain⟨a,ws,rfl,q,v1,r1,rfl,h1,v2,r2,rfl,h2,v3,r3,rfl,h3,rfl⟩:=rt;exact⟨a,_,O,q,O,v1,_,O,v2,_,O,v3,_,O,O,fin _ _ h (((e.set h1 (hl i on)).set h2 (by simpa using hl j on)).set h3 (by simpa using hl k on)) on⟩
   |[],h=>exact h.elim
   |[_],h=>exact h.elim
   |[_,_],h=>exact h.elim
   |_::_::_::_::_,h=>exact h.elim
  |_=>exact h.elim
 |[],h=>exact h.elim
 |_::_::_::_::_,h=>exact h.elim
end
section
variable {J:Hp->Prop}{FT:List PSp}{GT:List TV}{fs gs:List Str}{N:List Str}{nm:List (Str×NameKind)}{F0:Fz}{H0:Hp}
def JJ{tg e:Expr}(h:plE e=true):swapsWithSole [tg] e n env=pure false:=qw h
def JK:swapsWithSole [.Subscript o i p] e n env=pure false:=by cases e<;>rfl
def JL:swappedStores [.Subscript o i p] e env=pure none:=by cases e<;>rfl
def JM{tg e:Expr}(h:plE e=true):swappedStores [tg] e env=pure none:=by
 cases tg<;>first|rfl|(cases e<;>first|rfl|cases h)
theorem JN(h:ki i=true):∀v,assign (.Subscript o i p) env v=(do
   let ov <- holding [v] (eval o env)
   let iv <- holding [v,ov] (eval i env)
   standAt p
   holding [v,ov,iv] (setItem ov iv v)
   release [v,ov,iv] []):=by
 intro v
 cases i<;>first|rfl|(cases h;done)
theorem sS:∀(c:Ct) {X:Cx}{lp:Bool}{PN:List (TV×V)}{sts:List Stmt},YOk X J FT GT fs gs N nm lp->bH fs gs N nm lp c sts=true->PSs X sts (rS X.K J FT GT N.length F0 H0 PN c)
 |.nil,X,lp,PN,sts,y,h=>by
  refine dF h ?_;exact pss_nil.imp λ D σ H ⟨F,ρ,e,s,w⟩=>w F H σ e s
 |.never,X,lp,PN,sts,y,h=>pss_never.imp λ D σ H ⟨F,ρ,e,s,w⟩=>w.elim
 |.ret c,X,lp,PN,sts,y,h=>by
  refine Jx h λ o _ _ g=>?_
  cases o with
  |none=>exact Bool.noConfusion g
  |some e=>
   refine(ga (oR (sE c y.xo y.xs g)) pss_never).imp λ D σ H ⟨F,ρ,e,s,w⟩=>?_;obtain⟨F',e',_⟩:=e.fzC c;refine⟨F',_,e'.ev,av c (λ t ⟨nb,w⟩ F1 H1 v g r=>?_) w⟩;obtain⟨F2,g2,_,_,rp⟩:=r.frz g nb;exact w F2 H1 v (e'.gr.trans g2) rp
 |.set i c r,X,lp,PN,sts,y,h=>by
  ·refine ub h λ ts e _ rest k1=>?_;refine fO k1 λ t k2=>?_;refine cx k2 λ x _ k3=>?_;obtain⟨h1,h2,h3⟩:=_L.a3 k3;obtain⟨a1,a2,a3,a4⟩:=JB y.xs y.fn h1;refine(ga (JE y.xo y.xs (by rw[y.xs.N];exact y.nd) a1 a2 a3 h2) (sS r (PN:=PN) y h3)).imp λ D σ H ⟨F,ρ,e,s,w⟩=>?_;obtain⟨F',e',_⟩:=e.fzC c;exact⟨F',_,e'.ev,av c (λ t ⟨nb,w⟩ F1 H1 v g r=>⟨F1,_,e'.rr g r nb ca,by rw[cW];exact s,w⟩) w⟩
 |.sets is c r,X,lp,PN,sts,y,h=>by
  ·refine ub h λ ts e _ rest k1=>?_;refine fO k1 λ tg k2=>?_;obtain⟨h1,h2,h3,h4,h5⟩:=a5 k2;obtain⟨pg,lt⟩:=kt (X:=X) (by rw[y.xs.N];exact y.nd) y.xo.calm y.xs (λ _=>y.fn) h1;obtain⟨tes,tk,tp,rfl⟩:=qt h2;refine(ga (vy (sE c y.xo y.xs h4) pg (JJ h3) (JM h3) rfl) (sS r (PN:=PN) y h5)).imp λ D σ H ⟨F,ρ,e,s,w⟩=>?_;refine⟨F,ρ,e.ev,av c (λ t w F1 H1 v g rr=>?_) w⟩
   cases t with
   |tup l=>exact yt w (e.grow g) rr (λ i hi=>by rw[s];exact lt i hi) λ σ' ρ' p e' s'=>⟨F1,ρ',e',s'.trans s,p⟩
   |_=>exact w.elim
 |.fz i r,X,lp,PN,sts,y,h=>by
  refine(sS r (PN:=PN) y (show bH fs gs N nm lp r sts=true from h)).imp λ D σ H ⟨F,ρ,e,s,w⟩=>?_;obtain⟨F',e',_⟩:=e.fz i;exact⟨F',_,e',s,w⟩
 |.ex c r,X,lp,PN,sts,y,h=>by
  ·refine uc h λ e _ rest k1=>?_;obtain⟨h1,h2,h3⟩:=_L.a3 k1;exact(ga (rN (sE c y.xo y.xs h2) (qw h1)) (sS r (PN:=PN) y h3)).imp λ D σ H ⟨F,ρ,e,s,w⟩=>⟨F,ρ,e.ev,av c (λ t w F1 H1 v g rr=>⟨F1,ρ,e.grow g,s,w⟩) w⟩
 |.met m i l r,X,lp,PN,sts,y,h=>by
  ·refine uc h λ e _ rest k1=>?_;obtain⟨h1,h2⟩:=an k1;obtain⟨pe,pl⟩:=yr (F0:=F0) (H0:=H0) (PN:=PN) (J:=J) (FT:=FT) (GT:=GT) y.xo y.xs h1;refine(ga (rN pe (qw pl)) (sS r (PN:=PN) y h2)).imp λ D σ H ⟨F,ρ,e,s,w⟩=>?_;obtain⟨F',e',_⟩:=ER.fzV l e;exact⟨F',_,e',fP (λ xs w=>cN l (λ ts w=>oa (λ y ys w F1 H1 v e1 _=>⟨F1,_,e1,s,w⟩) w) w) w⟩
 |.put i c d r,X,lp,PN,sts,y,h=>by
  ·refine ub h λ ts e _ rest k1=>?_;refine fO k1 λ t k2=>?_;refine qh k2 λ o yy _ k3=>?_;refine cx k3 λ x _ k4=>?_;obtain⟨h1,h2,h3,h4,h5,h6,h7⟩:=a7 k4;replace h1:=aC h1;obtain⟨d1,d2,_⟩:=gF h3;refine(ga (vy (sE d y.xo y.xs h6) (DB (iZ (by rw[y.xs.N];exact h1) (kr y.xs h2) d1 d2) (sE c y.xo y.xs h5) EQ (JN h4)) JK JL rfl) (sS r (PN:=PN) y h7)).imp λ D σ H ⟨F,ρ,e,s,w⟩=>?_;obtain⟨F',e',_⟩:=e.fzC d;obtain⟨xs,hx,w⟩:=kz w;refine⟨F',_,e'.ev,av d (λ t ⟨nb,w⟩ F1 H1 v g rr=>?_) w⟩;obtain⟨F2,g2,_,_,rp⟩:=rr.frz g nb;have e2:=e'.grow g2;obtain⟨a,vs,ea,q,_⟩:=e2.at_ hx;show cV i σ H1 _;unfold cV;rw[ea];refine⟨F2,_,e2.ev,av c (λ u w F3 H3 v3 g3 r3=>?_) w⟩;obtain⟨k,rfl,n,en,w⟩:=iF w;cases r3;have e3:=e2.grow g3;obtain⟨a',vs',ea',q',rl⟩:=e3.at_ hx;rw[ea] at ea';cases ea';obtain⟨em,_⟩:=e3.mut y.xo.hJ hx ea (rl.set (rp.ke g3.ke) n);exact⟨a,vs',k,n,O,O,q',by rw[<- rl.length];exact en,F3,_,em,s,w⟩
 |.ite c a b r,X,lp,PN,sts,y,h=>by
  ·refine Jy h λ t x yy _ rest k1=>?_;obtain⟨h1,h2,h3,h4,h5⟩:=a5 k1;refine(ga (Dy (sT c y.xo y.xs h1 h2) (sS a (PN:=PN) y h3) (sS b (PN:=PN) y h4)) (sS r (PN:=PN) y h5)).imp λ D σ H ⟨F,ρ,e,s,w⟩=>?_;refine⟨F,ρ,e.ev,av c (λ t w=>cG (λ k w F1 H1 g=>?_) w) w⟩;split at w
   ·rw[if_pos (by assumption)];exact⟨F1,ρ,e.grow g,s,bN a (λ ρ' w F' H' σ' e s=>⟨F',ρ',e,s,w⟩) (λ _ h=>h) w⟩
   ·rw[if_neg (by assumption)];exact⟨F1,ρ,e.grow g,s,bN b (λ ρ' w F' H' σ' e s=>⟨F',ρ',e,s,w⟩) (λ _ h=>h) w⟩
 |.for tg k it b r,X,lp,PN,sts,y,h=>by
  ·refine Jz h λ t iter body els _ rest k1=>?_;obtain⟨z0,h0,h1,h2,h3,h4⟩:=a6 k1;refine dF z0 ?_;obtain⟨pg,lt⟩:=kt (X:=X) (by rw[y.xs.N];exact y.nd) y.xo.calm y.xs (λ _=>y.fn) h1;have hb:PSs X _ (λ D σ H=>∃PN,rS X.K J FT GT N.length F0 H0 PN b D σ H):=λ pins s σ H D I ⟨PN,q⟩=>sS b (PN:=PN) y h3 pins s σ H D I q;refine(ga (DM (y.ps h0) y.xo.calm (sI it k y.xo y.xs h2) pg hb (λ x=>mx (nX h2))) (sS r (PN:=PN) y h4)).imp λ D σ H ⟨F,ρ,e,s,w⟩=>?_;obtain⟨F',e',_⟩:=ER.fzV it e;refine⟨F',_,e'.ev,cN it (λ ts ⟨nb,w⟩=>jq (λ its w F1 H1 xs Jt g rx ok=>?_) w) w⟩;obtain⟨F2,g2,_,r2⟩:=ko g rx nb;refine JI (n:=N.length) (tb:=λ D σ H=>∃PN,rS X.K J FT GT N.length F0 H0 PN b D σ H) _ _ (e'.grow g2) s r2 ok w (λ ρ' w F3 H3 σ3 e3 s3=>⟨F3,ρ',e3,s3,w⟩) λ t ρ' F3 H3 σ3 x Q D' bt e3 s3 rt ert fin=>?_;exact yt bt e3 rt (λ i hi=>by rw[s3];exact lt i hi) λ σ4 ρ4 p e4 s4=>⟨_,F3,ρ4,e4,s4.trans s3,bN b (λ ρ5 q=>fin ρ5 q) (λ u hu=>by rw[ert];exact hu) p⟩
 |.apI i j c l e r,X,lp,PN,sts,y,h=>by
  ·refine uc h λ qe _ rest k1=>?_;refine dZ k1 λ g as w cp k2=>?_;refine qi k2 λ o name ap k3=>?_;refine cx k3 λ x _ k4=>?_;refine fO k4 λ u k5=>?_;refine xL k5 λ t yy z _ k6=>?_;obtain⟨z0,z1,h2,h3,h6,h7,h8,h9,h10⟩:=a9 k6;refine dF z0 ?_;obtain⟨h1,rfl,h5⟩:=aC z1;refine(ga (rN (JH (F0:=F0) (H0:=H0) (PN:=PN) (J:=J) (FT:=FT) (GT:=GT) y.xo y.xs h1 h2 h3 h5 h6 h7 h8 h9) (qw rfl)) (sS r (PN:=PN) y h10)).imp λ D σ H ⟨F,ρ,er,s,w⟩=>?_;exact⟨F,ρ,er,fP (λ _ w=>av c (λ t w=>cG (λ k w=>jr (λ w=>fP (λ xs w=>cN l (λ ts w=>oa (λ y ys w=>fP (λ zs w=>⟨w.1,λ F' H' e=>⟨F',_,e,s,w.2⟩⟩) w) w) w) w) (λ w=>av e (λ t w=>⟨w.1,fP (λ zs w=>⟨w.1,λ F' H' e=>⟨F',_,e,s,w.2⟩⟩) w.2⟩) w) w) w) w) w⟩
 |.tri b r,X,lp,PN,sts,y,h=>by
  ·obtain⟨body,hs,els,fi,_,rest,rfl,k1⟩:=JA h;obtain⟨z0,z1,z2,h1,h2⟩:=a5 k1;refine dF z1 ?_;refine dF z2 ?_
   cases hs with
   |nil=>exact Bool.noConfusion z0
   |cons h0 hs=>
   have hb:∀(xe:VS) (pn:LO),PSs (X.more xe pn) _ (rS X.K J FT GT N.length F0 H0 PN b):=λ xe pn=>sS b (X:=X.more xe pn) (PN:=PN) (lp:=false) ⟨⟨y.xo.calm,y.xo.units,y.xo.hJ,y.xo.fns,y.xo.glb,y.xo.dic,y.xo.blt,y.xo.len⟩,⟨y.xs.N,y.xs.nm⟩,y.nd,y.fn,λ z=>by cases z⟩ h1;exact(ga (HB hb) (sS r (PN:=PN) y h2)).imp λ D σ H ⟨F,ρ,e,s,w⟩=>⟨F,ρ,e,s,bN b (λ ρ' w F' H' σ' e s=>⟨F',ρ',e,s,w⟩) (λ _ h=>h) (w)⟩
end
noncomputable def en0(n:Nat)(ts:List TV):En:=ts.map some++List.replicate (n-ts.length) none
section
variable {P:Program}{w:World}{K:FG}{mg:SV}{base:Heap}{J:Hp->Prop}{FT:List PSp}{GT:List TV}{fs gs:List Str}
structure MOk (P:Program)(w:World)(K:FG)(mg:SV)(J:Hp->Prop)(GT:List TV)(gs:List Str):Prop where
 hJ:JS J
 glb:∀(g:Nat) x t,gs[g]?=some x->GT[g]?=some t->t.nb=true->∃v u,mg x=some u/\RelV v u/\∀F H,Rp K F H t v
 dic:∀(g:Nat) x l,gs[g]?=some x->GT[g]?=some (.bor l)->DOk P w K mg x l
 blt:∀x∈BN,mg x=none
def er0{vs:List V}(wd:Wd J F H)(r:RpL K F H ts vs):ER K J F H [] F H (start N vs) (en0 N.length ts):=by
 have get:∀(i:Nat) t,(en0 N.length ts)[i]?=some (some t)->ts[i]?=some t:=λ i t h=>by
  unfold en0 at h;by_cases c:i<ts.length
  ·rw[eR (by simpa using c),aQ] at h
   cases q:ts[i]? with
   |none=>rw[q] at h;cases h
   |some u=>rw[q] at h;cases h;rfl
  ·rw[dn (by simpa using c),lB] at h;split at h<;>cases h
 have sl:∀(i:Nat) t,(en0 N.length ts)[i]?=some (some t)->∃v,(start N vs)[i]?=some (some v)/\Rp K F H t v:=λ i t h=>by
  obtain⟨v,ev,rv⟩:=r.get (get i t h);refine⟨v,?_,rv⟩;unfold start;rw[eR (by simpa using (bf.mp ev).1),aQ,ev];rfl
 refine⟨⟨wd,λ i t h=>let ⟨v,e,q⟩:=sl i t h;⟨v,e,qk q⟩⟩,.refl wd,λ i l a h1 h2=>?_,λ i k l l' v h1 h2 h3 h4=>?_,λ p hp=>by cases hp⟩
 ·obtain⟨v,_,q⟩:=sl i _ h1;exact q.elim
 ·obtain⟨v,_,q⟩:=sl i _ h1;exact q.elim
theorem yv{st:Stmt}(code:Ct)(F:Fun K x qual st f fd)(sc:FnScope N ps (ax st))(m:MOk P w K mg J GT gs)(hl:fs.length=FT.length)
  (fns:∀(f:Nat) x S,fs[f]?=some x->FT[f]?=some S->∃ps,Callee P w K mg base CX0 k x ps (pSp K J S))
  (hck:bH fs gs N (ax st).names true code (bv st)=true) (hlen:∀ts Q,S ts Q->ts.length=ps.length)
  (hw:∀ts Q,S ts Q->wS FT GT code (en0 N.length ts) (λ _=>Q .non) Q):FnOk P w K mg base CX0 (k+1) f fd ps (pSp K J S):=by
 refine F.ok sc (λ vs H Q E ⟨F1,ts,P1,wd,r,s,_⟩=>by rw[<- r.length];exact hlen _ _ s) (λ cdv A outer s H vs Q E hr h=>?_);obtain⟨F1,ts,P1,wd,r,sp,fin⟩:=h
 have nl:vs.length<=N.length:=by
  have z:=bE List.length sc.pre;rw[bd] at z;have:=hlen _ _ sp;rw[<- r.length];lia
 have xo:XOk (dB CX0 P w K mg base N qual (ax st) f cdv A outer s H E).nox J FT GT fs gs:=⟨rfl,by have:=hr.un;show(A.deeper _).units+20<cLine;lia,m.hJ,λ g y S h1 h2=>let ⟨ps,c⟩:=fns g y S h1 h2;⟨k,ps,hr,c⟩,m.glb,m.dic,m.blt,hl⟩;refine⟨_,sS (F0:=F1) (H0:=H) (PN:=[]) code (lp:=true) ⟨xo,⟨O,O⟩,sc.nd,λ _ _=>rfl,λ _=>qy⟩ hck,F1,en0 N.length ts,er0 wd r,?_,?_⟩
 ·unfold start;rw[aN,ao,hZ];show vs.length+(N.length-vs.length)=N.length;lia
 ·exact bN code (λ ρ' q F' H' σ' e _=>fin .non q F' H' .non e.gr rfl) (λ t q F' H' v g r=>fin t q F' H' v g r) (hw ts P1 sp)
end
structure Gl' (K:FG)(x:Str)(st:Stmt)(f:Addr)(fd:FuncData):Prop where
 F:Fun K x x st f fd
 a:W.nsIn K mainGlobals x=some (some (.ref f))
def Gx(K:FG)(x:Str)(st:Stmt):Prop:=∃f fd,Gl' K x st f fd
section
variable {K:FG}{x:Str}{st:Stmt}{f:Addr}{oc:Value}{od an:OA}{osl:AV}{kV doc pm cdv ct:Value}
def gl_ex(a:W.nsIn K mainGlobals x=some (some (.ref f)))(l:K.lookup f=some ⟨oc,od,.func (W.fnOf x x (cQ st) (bv st) (ax st) .none kV doc pm an cdv ct),osl⟩)(c:W.codeIn K cdv x=true)(k:W.keepIn K (.ref f)=true):Gx K x st:=⟨_,_,wg l c k,a⟩
def gx_int(h:W.nsIn K mainGlobals x=some (some (.int i t))):∃t,W.nsIn K mainGlobals x=some (some (.int i t)):=⟨_,h⟩
end
abbrev DR:=Str×List Str×PSp
def dFs(L:List DR)(j:Nat):List Str:=(L.take j).map (·.1)
def dFT(L:List DR)(j:Nat):List PSp:=(L.take j).map (·.2.2)
section
variable {P:Program}{w:World}{K:FG}{mg:SV}{base:Heap}{J:Hp->Prop}{GT:List TV}{gs:List Str}{L:List DR}
noncomputable def Cal(P:Program)(w:World)(K:FG)(mg:SV)(base:Heap)(J:Hp->Prop)(L:List DR)(j:Nat):Prop:=∀x ps S,L[j]?=some (x,ps,S)->Callee P w K mg base CX0 (j+1) x ps (pSp K J S)
noncomputable def Cals(P:Program)(w:World)(K:FG)(mg:SV)(base:Heap)(J:Hp->Prop)(L:List DR)(j:Nat):Prop:=∀i,i<j->Cal P w K mg base J L i
def Cals.z:Cals P w K mg base J L 0:=λ i h=>absurd h (lT _)
def Cals.s(C:Cals P w K mg base J L j)(c:Cal P w K mg base J L j):Cals P w K mg base J L (j+1):=λ i h=>by
 by_cases e:i=j
 ·subst e;exact c
 ·exact C i ca
def Cals.fns(C:Cals P w K mg base J L j):∀(f:Nat) x S,(dFs L j)[f]?=some x->(dFT L j)[f]?=some S->∃ps,Callee P w K mg base CX0 j x ps (pSp K J S):=λ f x S h1 h2=>by
 unfold dFs at h1;unfold dFT at h2;rw[aQ] at h1 h2
 cases q:(L.take j)[f]? with
 |none=>rw[q] at h1;cases h1
 |some d=>
  rw[q] at h1 h2;cases h1;cases h2;have lt:f<j:=by have:=(bf.mp q).1;rw[bd] at this;lia
  rw[qz,if_pos lt] at q;exact⟨_,(C f lt d.1 d.2.1 d.2.2 q).mono ca⟩
def kB(j:Nat):(dFs L j).length=(dFT L j).length:=by unfold dFs dFT;rw[ao,ao]
theorem JO{x:Str}{ps N:List Str}{st:Stmt}{S:PSp}(code:Ct)(C:Cals P w K mg base J L j)(m:MOk P w K mg J GT gs)(hm:∀ {x:Str}{v:Option Value},W.nsIn K mainGlobals x=some v->mg x=v)(e:L[j]?=some (x,ps,S))(g:Gx K x st)(sc:FnScope N ps (ax st))
  (b:∀f fd,Fun K x x st f fd->Binds K fd ps []) (hck:bH (dFs L j) gs N (ax st).names true code (bv st)=true) (hlen:∀ts Q,S ts Q->ts.length=ps.length)
  (hw:∀ts Q,S ts Q->wS (dFT L j) GT code (en0 N.length ts) (λ _=>Q .non) Q):Cals P w K mg base J L (j+1):=by
 refine C.s λ x' ps' S' e'=>?_;rw[e] at e';cases e';obtain⟨f,fd,gf⟩:=g;exact Callee.mk' gf.F (hm gf.a) (b f fd gf.F) (yv code gf.F sc m (kB j) C.fns hck hlen hw)
def scq(s:Scope)(P L:List Str)(h:s.kind=.function/\s.isCoroutine=false/\s.isGenerator=false/\(P++L).Nodup/\(P++L).take P.length=P/\(∀x∈P,s.names.lookup x=some .local\/s.names.lookup x=some .cell)/\∀y∈s.names,y.2≠.free:=by decide +kernel):FnScope (P++L) P s:=⟨h.1,h.2.1,h.2.2.1,h.2.2.2.1,h.2.2.2.2.1,h.2.2.2.2.2.1,h.2.2.2.2.2.2⟩
noncomputable def ue:PSp:=λ ts Q=>∃ns:LI,ts=[.lst (ns.map .int)]/\ns.length<=63/\Q (.bl true)
noncomputable def uf(K:FG)(J:Hp->Prop):Sp:=λ vs H Q _=>∃(a:Addr) (ns:LI),vs=[.ref a]/\SqL K H a (ns.map V.int)/\ns.length<=63/\J H/\∀H',Q (.bl true) H'
def JP(F:FnOk P w K mg base CX0 k f fd ps (pSp K J ue)):FnOk P w K mg base CX0 k f fd ps (uf K J):=F.imp λ vs H Q E ⟨a,ns,e,sq,l,j,q⟩=>by
 subst e
 rcases sq with rd|kk
 ·have ha:H a≠none:=by rcases rd with h|⟨o,h⟩<;>rw[h]<;>simp
  exact⟨λ b=>b=a,[.lst (ns.map .int)],_,⟨j,λ b e=>by rw[show b=a from e];exact ha⟩,⟨_,_,O,⟨a,_,O,.inl ⟨O,.inl rd⟩,RpL.ofInts ns⟩,O⟩,⟨ns,O,l,O⟩,λ t e F' H' v _ r=>by subst e;cases r;exact q H'⟩
 ·exact⟨λ _=>False,[.lst (ns.map .int)],_,⟨j,λ b e=>e.elim⟩,⟨_,_,O,⟨a,_,O,.inr kk,RpL.ofInts ns⟩,O⟩,⟨ns,O,l,O⟩,λ t e F' H' v _ r=>by subst e;cases r;exact q H'⟩
variable {FT:List PSp}
def bO{its:List TV}{Kn:En->Prop}(I:Nat->En->Prop)(h0:I 0 ρ)(st:∀i t ρ,its[i]?=some t->I i ρ->stE ρ tg t λ ρ'=>wS FT GT c ρ' (I (i+1)) rt)(fin:∀ρ,I its.length ρ->Kn ρ):itF (λ t ρ K=>stE ρ tg t λ ρ'=>wS FT GT c ρ' K rt) its ρ Kn:=by
 have go:∀(r:List TV) (i:Nat) (ρ:En),its.drop i=r->i<=its.length->I i ρ->itF (λ t ρ K=>stE ρ tg t λ ρ'=>wS FT GT c ρ' K rt) r ρ Kn:=by
  intro r
  induction r with
  |nil=>
   intro i ρ e li h;have:i=its.length:=by have:=bE List.length e;rw[dX] at this;simp at this;lia
   subst this;exact fin ρ h
  |cons t r ih=>
   intro i ρ e li h;have lt:i<its.length:=by have:=bE List.length e;rw[dX] at this;simp at this;lia
   rw[lU lt] at e
   injection e with e1 e2
   have et:its[i]?=some t:=by rw[aB lt,e1]
   exact gx (λ ρ' q=>bN c (λ ρ'' q=>ih (i+1) ρ'' e2 ca q) (λ _ q=>q) q) (st i t ρ et h)
 exact go its 0 ρ rfl (bW _) h0
end
end _L
namespace _L
open PySem PySem.Spec PyProof.Rows PySem.W PySem.Calls
theorem JQ{K:FG}{qual:Str}{cl:LA}{vs vcs:List V}{H:Hp}{Q:VK}
  (S:LmScope N ps fv scope) (hcl:cl.map (·.1)=fv)
  (hb:∀(pm ctv:Value) (us:LV),us.length=ps.length->bindArgs (kla_fn "<lambda>" qual params body scope cl pm (.ref c') ctv) ⟨us,[]⟩=pure (ps.zip us)) (hl:vs.length=ps.length)
  (L1:H fa=some (fK fa c' qual params body scope cl)) (_L:H c'=some (cR c' qual)) (hc:CelAt H cl vcs)
  (hbody:∀(A:Around) (outer:List Env) (s:Shared),Room k (A.deeper (envX qual scope s.heap.objs.size fa (.ref c') (cellsFrom (s.heap.objs.size+1) scope.names []++cl)))->PE (ji P w K mg base N qual scope fa (.ref c') cl A outer s (minC H cl)) body te)
  (hq:te (start N (vs++vcs)) (minC H cl) (λ v H'=>(∀q∈cl,H' q.2=none)->Q v (resC H H' cl))):jZ P w K mg base (k+1) fa vs H Q:=by
 intro A outer s us hr e0 r;obtain⟨⟨pm,ctv,ho⟩,_⟩:=e0.hok fa _ L1;obtain⟨hcd,_⟩:=e0.hok c' _ _L;have lim:s.heap.NoLimit:=e0.mod.nolimit.keeps λ b o e=>(e0.bs b o e).1
 have hkind:∀y∈ps.zip us,scope.names.lookup y.1=some .local\/(scope.names.lookup y.1=some .cell/\((cellsFrom (s.heap.objs.size+1) scope.names []).lookup y.1).isSome=true):=λ⟨n,v⟩ hy=>by
  rcases S.par n (lw hy).1 with q|q
  ·exact .inl q
  ·exact .inr ⟨q,lx _ _ _ (.inl q)⟩
 refine kla_callFunE hr.depth ho rfl S.co S.gen rfl hcd ?_;rw[hb pm ctv us (by rw[<- r.length];exact hl)];refine aq (wT S.kind hkind λ env he s1 x=>?_);subst he;refine⟨lim.keeps x.toInCall.keep,kla_codeExpr ?_⟩;have I:Inv (ji P w K mg base N qual scope fa (.ref c') cl A outer s (minC H cl)) [] (start N (vs++vcs)) (minC H cl) s1:=wU S hr.hd e0 hl r hcl hc x;refine cP (hbody A outer s (hr.deeper _) [] s1 _ _ _ I hq) (λ u s' hs=>?_) (λ e s' hs=>False.elim hs);obtain⟨v,H',J,rv,q⟩:=hs;have un:Un (frs outer) [] (minC H cl) H' s.heap s'.heap:=J.base
 have nfr:∀q∈cl,q.2 ∉ frs outer:=λ q hq z=>by
  obtain⟨o,v,e⟩:=hc.mem hq;rw[e0.frf _ z] at e;cases e
 have kc:∀q∈cl,∀o,s.heap.get? q.2=some o->s'.heap.get? q.2=some o/\H' q.2=none:=λ q hq o e=>⟨un.keep _ o e (lN hq) (nfr q hq) on,un.free _ o e (lN hq) on⟩
 have there:∀q∈cl,∃o,s.heap.get? q.2=some o:=λ q hq=>by
  obtain⟨o,v,e⟩:=hc.mem hq;exact⟨o,(e0.hok _ _ e).1⟩
 have split:∀b,(∃q∈cl,q.2=b)\/∀q∈cl,q.2≠b:=λ b=>by
  by_cases c:∃q∈cl,q.2=b
  ·exact .inl c
  ·exact .inr λ q hq e=>c ⟨q,hq,e⟩
 refine⟨v,resC H H' cl,J.os,J.bare,⟨λ b o e n hb hx=>un.keep b o e (iA n) hb hx,λ b o e n hb hx=>un.slot b o e (iA n) hb hx,λ b o e n hx=>?_,un.there,λ b xs e=>?_,λ b o u e=>?_,λ b ps e=>?_⟩,λ b o e=>?_,rv,q λ p hp=>let ⟨o,eo⟩:=there p hp;(kc p hp o eo).2⟩
 ·rcases split b with ⟨q,hq,rfl⟩|hn
  ·rw[gQ hq];exact n
  ·rw[dE hn];exact un.free b o e (iA n) hx
 ·rcases split b with ⟨q,hq,rfl⟩|hn
  ·rw[gQ hq];exact e
  ·rw[dE hn];exact un.tups b xs (by rw[dq hn];exact e)
 ·rcases split b with ⟨q,hq,rfl⟩|hn
  ·rw[gQ hq];exact e
  ·rw[dE hn];exact un.frzs b o u (by rw[dq hn];exact e)
 ·rcases split b with ⟨q,hq,rfl⟩|hn
  ·obtain⟨o,v,e2⟩:=hc.mem hq;rw[e] at e2;cases e2
  ·rw[dE hn];exact un.tbls b ps (by rw[dq hn];exact e)
 ·rcases split b with ⟨q,hq,rfl⟩|hn
  ·rw[gQ hq] at e;obtain⟨o2,v2,e2⟩:=hc.mem hq;rw[e] at e2;cases e2;obtain⟨g1,⟨u2,ru,ic⟩,_,st⟩:=e0.hok _ _ e;have k1:=(kc q hq _ g1).1;refine⟨k1,⟨u2,ru,?_⟩,⟨_,k1⟩,st⟩;obtain⟨o3,e3,d3⟩:=ic;rw[g1] at e3;cases e3;exact⟨_,k1,d3⟩
  ·rw[dE hn] at e
   have nf:∀c u,H' c=some u->resC H H' cl c=some u:=λ c u e2=>by
    rcases split c with ⟨q,hq,rfl⟩|hn
    ·obtain⟨o,eo⟩:=there q hq;rw[(kc q hq o eo).2] at e2;cases e2
    ·rw[dE hn];exact e2
   exact(J.hok b o e).stay (λ _ _ _ q=>q) (λ c q=>nf c _ q) λ c xs q=>nf c _ q
theorem JR{K:FG}{cl:LA}{vs vcs:List V}{H:Hp}{Q:VK}
  (S:LmScope N ps fv scope) (hcl:cl.map (·.1)=fv)
  (hb:∀(doc pm ctv:Value) (us:LV),us.length=ps.length->bindArgs (fnX name qual params body scope cl .none .none doc pm none (.ref c') ctv) ⟨us,[]⟩=pure (ps.zip us)) (hl:vs.length=ps.length)
  (L1:H fa=some (eZ fa c' name qual params body scope cl)) (_L:H c'=some (cR c' qual)) (hc:CelAt H cl vcs)
  (hbody:∀(A:Around) (outer:List Env) (s:Shared),Room k (A.deeper (envX qual scope s.heap.objs.size fa (.ref c') (cellsFrom (s.heap.objs.size+1) scope.names []++cl)))->PSs (ji P w K mg base N qual scope fa (.ref c') cl A outer s (minC H cl)) body ts)
  (hq:ts { nx:=λ _ H'=>(∀q∈cl,H' q.2=none)->Q .non (resC H H' cl),rt:=λ v H'=>(∀q∈cl,H' q.2=none)->Q v (resC H H' cl) } (start N (vs++vcs)) (minC H cl)):jZ P w K mg base (k+1) fa vs H Q:=by
 intro A outer s us hr e0 r;obtain⟨⟨doc,pm,ctv,ho⟩,_⟩:=e0.hok fa _ L1;obtain⟨hcd,_⟩:=e0.hok c' _ _L;have lim:s.heap.NoLimit:=e0.mod.nolimit.keeps λ b o e=>(e0.bs b o e).1
 have hkind:∀y∈ps.zip us,scope.names.lookup y.1=some .local\/(scope.names.lookup y.1=some .cell/\((cellsFrom (s.heap.objs.size+1) scope.names []).lookup y.1).isSome=true):=λ⟨n,v⟩ hy=>by
  rcases S.par n (lw hy).1 with q|q
  ·exact .inl q
  ·exact .inr ⟨q,lx _ _ _ (.inl q)⟩
 refine vN hr.depth ho rfl S.co S.gen rfl hcd ?_;rw[hb doc pm ctv us (by rw[<- r.length];exact hl)];refine aq (wT S.kind hkind λ env he s1 x=>?_);subst he;refine⟨lim.keeps x.toInCall.keep,codeAny_func ?_⟩;have I:Inv (ji P w K mg base N qual scope fa (.ref c') cl A outer s (minC H cl)) [] (start N (vs++vcs)) (minC H cl) s1:=wU S hr.hd e0 hl r hcl hc x;refine cP (hbody A outer s (hr.deeper _) [] s1 _ _ _ I hq) (λ fl s' hs=>?_) (λ e s' hs=>False.elim hs);have fin:∀ {v:V}{u:Value}{σ':St}{H':Hp},Inv (ji P w K mg base N qual scope fa (.ref c') cl A outer s (minC H cl)) [] σ' H' s'->RelV v u->((∀q∈cl,H' q.2=none)->Q v (resC H H' cl))->CE outer P w H s Q u s':=?_
 ·cases fl with
  |ret u=>
   obtain⟨v,σ',H',J,rv,q⟩:=hs;exact fin J rv q
  |next=>
   obtain⟨σ',H',J,q⟩:=hs;exact fin (v:=V.non) (u:=Value.none) J rfl q
  |brk=>obtain⟨_,_,_,q⟩:=hs;exact False.elim q
  |cont=>obtain⟨_,_,_,q⟩:=hs;exact False.elim q
 intro v u σ' H' J rv q;have un:Un (frs outer) [] (minC H cl) H' s.heap s'.heap:=J.base
 have nfr:∀q∈cl,q.2 ∉ frs outer:=λ q hq z=>by
  obtain⟨o,v,e⟩:=hc.mem hq;rw[e0.frf _ z] at e;cases e
 have kc:∀q∈cl,∀o,s.heap.get? q.2=some o->s'.heap.get? q.2=some o/\H' q.2=none:=λ q hq o e=>⟨un.keep _ o e (lN hq) (nfr q hq) on,un.free _ o e (lN hq) on⟩
 have there:∀q∈cl,∃o,s.heap.get? q.2=some o:=λ q hq=>by
  obtain⟨o,v,e⟩:=hc.mem hq;exact⟨o,(e0.hok _ _ e).1⟩
 have split:∀b,(∃q∈cl,q.2=b)\/∀q∈cl,q.2≠b:=λ b=>by
  by_cases c:∃q∈cl,q.2=b
  ·exact .inl c
  ·exact .inr λ q hq e=>c ⟨q,hq,e⟩
 refine⟨v,resC H H' cl,J.os,J.bare,⟨λ b o e n hb hx=>un.keep b o e (iA n) hb hx,λ b o e n hb hx=>un.slot b o e (iA n) hb hx,λ b o e n hx=>?_,un.there,λ b xs e=>?_,λ b o u e=>?_,λ b ps e=>?_⟩,λ b o e=>?_,rv,q λ p hp=>let ⟨o,eo⟩:=there p hp;(kc p hp o eo).2⟩
 ·rcases split b with ⟨q,hq,rfl⟩|hn
  ·rw[gQ hq];exact n
  ·rw[dE hn];exact un.free b o e (iA n) hx
 ·rcases split b with ⟨q,hq,rfl⟩|hn
  ·rw[gQ hq];exact e
  ·rw[dE hn];exact un.tups b xs (by rw[dq hn];exact e)
 ·rcases split b with ⟨q,hq,rfl⟩|hn
  ·rw[gQ hq];exact e
  ·rw[dE hn];exact un.frzs b o u (by rw[dq hn];exact e)
 ·rcases split b with ⟨q,hq,rfl⟩|hn
  ·obtain⟨o,v,e2⟩:=hc.mem hq;rw[e] at e2;cases e2
  ·rw[dE hn];exact un.tbls b ps (by rw[dq hn];exact e)
 ·rcases split b with ⟨q,hq,rfl⟩|hn
  ·rw[gQ hq] at e;obtain⟨o2,v2,e2⟩:=hc.mem hq;rw[e] at e2;cases e2;obtain⟨g1,⟨u2,ru,ic⟩,_,st⟩:=e0.hok _ _ e;have k1:=(kc q hq _ g1).1;refine⟨k1,⟨u2,ru,?_⟩,⟨_,k1⟩,st⟩;obtain⟨o3,e3,d3⟩:=ic;rw[g1] at e3;cases e3;exact⟨_,k1,d3⟩
  ·rw[dE hn] at e
   have nf:∀c u,H' c=some u->resC H H' cl c=some u:=λ c u e2=>by
    rcases split c with ⟨q,hq,rfl⟩|hn
    ·obtain⟨o,eo⟩:=there q hq;rw[(kc q hq o eo).2] at e2;cases e2
    ·rw[dE hn];exact e2
   exact(J.hok b o e).stay (λ _ _ _ q=>q) (λ c q=>nf c _ q) λ c xs q=>nf c _ q
noncomputable def TbJ(L:List (Addr×Pos×Str))(H:Hp):Prop:=∀x∈L,TabOk H x.1 x.2.1 x.2.2
def TabOk.sm{H H':Hp}(h:TabOk H T pos qual)(s:∀a o,(∀vs,o≠.lst vs)->(∀b u,o≠.frz b u)->H a=some o->H' a=some o):TabOk H' T pos qual:=by
 obtain⟨ps,e,t,q⟩:=h;refine⟨ps,s _ _ (λ _ z=>nomatch z) (λ _ _ z=>nomatch z) e,t,q.imp id λ⟨c,e1,e2⟩=>⟨c,e1,s _ _ (λ _ z=>nomatch z) (λ _ _ z=>nomatch z) e2⟩⟩
section
variable {K:FG}{L:List (Addr×Pos×Str)}{F F1 F2 F':Fz}{H H1 H2 H':Hp}{cl:LA}{vcs:List V}
def TbJ.sm(h:TbJ L H)(s:∀a o,(∀vs,o≠.lst vs)->(∀b u,o≠.frz b u)->H a=some o->H' a=some o):TbJ L H':=λ x hx=>(h x hx).sm s
def TbJ.js:JS (TbJ L):=⟨λ H p o n h=>h.sm λ a u _ _ e=>by rw[aG (λ z=>by rw[z,n] at e;cases e)];exact e,
 λ H p vs ws n h=>h.sm λ a u k _ e=>by rw[aG (λ z=>by rw[z,n] at e;cases e;exact k _ rfl)];exact e⟩
def yw(cl:LA)(b:Addr):(∃q∈cl,q.2=b)\/∀q∈cl,q.2≠b:=by
 by_cases c:∃q∈cl,q.2=b
 ·exact .inl c
 ·exact .inr λ q hq e=>c ⟨q,hq,e⟩
def ug(hc:CelAt H cl vcs)(h:H a=some o)(n:∀b c v,o≠.frz b (lM c v)):minC H cl a=some o:=by
 rw[dq λ q hq z=>by obtain⟨b,v,e⟩:=hc.mem hq;rw[z,h] at e;exact n _ _ _ (bJ e)];exact h
def Rd.min{u:HO}(hc:CelAt H cl vcs)(n:∀φ,u≠.ext φ)(k:∀b v,u≠.frz b v)(h:Rd H a u):Rd (minC H cl) a u:=by
 rcases h with h|⟨o,h⟩
 ·exact .inl (ug hc h λ _ _ _=>k _ _)
 ·exact .inr ⟨o,ug hc h λ b c v z=>by injection z with _ z;exact n _ z⟩
def qA(hc:CelAt H cl vcs):Ke K F H F (minC H cl):=⟨λ a vs h=>h.imp (λ h=>h.min hc (λ _ z=>nomatch z) (λ _ _ z=>nomatch z)) id,λ a vs h=>h.imp λ f h=>⟨f,h.imp (λ h=>h.min hc (λ _ z=>nomatch z) (λ _ _ z=>nomatch z)) id⟩⟩
def yz(hc:CelAt H cl vcs)(nf:∀q∈cl,¬F q.2)(w:Wd (TbJ L) F H):Wd (TbJ L) F (minC H cl):=⟨w.j.sm λ a o _ k e=>ug hc e λ _ _ _=>k _ _,λ a f=>by
 rw[dq λ q hq z=>nf q hq (z ▸ f)];exact w.d a f⟩
def uh(hz:∀q∈cl,H' q.2=none)(h:H' a≠none):resC H1 H' cl a=H' a:=dE λ q hq z=>h (z ▸ hz q hq)
def Rd.res(hz:∀q∈cl,H' q.2=none)(h:Rd H' a u):Rd (resC H1 H' cl) a u:=by
 rcases h with h|⟨o,h⟩
 ·exact .inl (by rw[uh hz (by rw[h];simp)];exact h)
 ·exact .inr ⟨o,by rw[uh hz (by rw[h];simp)];exact h⟩
def yA(hz:∀q∈cl,H' q.2=none):Ke K F H' F (resC H1 H' cl):=⟨λ a vs h=>h.imp (λ h=>h.res hz) id,λ a vs h=>h.imp λ f h=>⟨f,h.imp (λ h=>h.res hz) id⟩⟩
def Grow.res(hz:∀q∈cl,H' q.2=Option.none)(g:Grow (TbJ L) F1 (minC H1 cl) F2 H'):Grow (TbJ L) F1 H1 F2 (resC H1 H' cl):=by
 have nF:∀a,F2 a->∀q∈cl,q.2≠a:=λ a f q hq z=>g.w.d a f (z ▸ hz q hq);refine⟨λ a o n e=>?_,λ a e=>?_,g.up,λ a f=>?_,⟨g.w.j.sm λ a o _ _ e=>by rw[uh hz (by rw[e];simp)];exact e,λ a f=>by rw[dE (nF a f)];exact g.w.d a f⟩⟩
 ·rcases yw cl a with ⟨q,hq,rfl⟩|hn
  ·rw[gQ hq];exact e
  ·rw[dE hn];exact g.sm a o n (by rw[dq hn];exact e)
 ·rcases yw cl a with ⟨q,hq,rfl⟩|hn
  ·rw[gQ hq];exact e
  ·rw[dE hn];exact g.dm a (by rw[dq hn];exact e)
 ·have:=g.nw a f
  rwa [dq (nF a f)] at this
structure Hand (cl:LA)(vcs:List V)(H1 H2:Hp):Prop where
 fr:∀q∈cl,H1 q.2=none
 at_:CelAt H2 cl vcs
 eq:∀b,(∀q∈cl,q.2≠b)->H2 b=H1 b
def Hand.to(h:Hand cl vcs H1 H2)(e:H1 a=some o):H2 a=some o:=by
 rw[h.eq a λ q hq z=>by have:=h.fr q hq;rw[z,e] at this;cases this];exact e
def Hand.wd(h:Hand cl vcs H1 H2)(w:Wd (TbJ L) F H1):Wd (TbJ L) F H2:=⟨w.j.sm λ a o _ _ e=>h.to e,λ a f=>by
 cases e:H1 a with
 |none=>exact absurd e (w.d a f)
 |some o=>rw[h.to e];simp⟩
def Hand.ke(h:Hand cl vcs H1 H2):Ke K F H1 F H2:=⟨λ a vs q=>q.sm λ a o _ e=>h.to e,λ a vs q=>q.imp λ f q=>⟨f,q.sm λ a o _ e=>h.to e⟩⟩
def Hand.nf(h:Hand cl vcs H1 H2)(w:Wd (TbJ L) F H1)(g:Grow (TbJ L) F H2 F' H'):∀q∈cl,¬F' q.2:=λ q hq f=>by
 rcases g.nw _ f with z|z
 ·exact w.d _ z (h.fr q hq)
 ·obtain⟨o,v,e⟩:=h.at_.mem hq;rw[z] at e;cases e
def Hand.cel(h:Hand cl vcs H1 H2)(g:Grow (TbJ L) F H2 F' H'):CelAt H' cl vcs:=⟨h.at_.len,λ i q e=>let ⟨v,o,e1,e2⟩:=h.at_.at_ i q e;⟨v,o,e1,g.sm _ _ (λ ps z=>nomatch z) e2⟩,h.at_.apart⟩
def Hand.back(h:Hand cl vcs H1 H2)(w:Wd (TbJ L) F H1)(g:Grow (TbJ L) F H2 F' H'):Grow (TbJ L) F H1 F' (minC H' cl):=by
 have nf:=h.nf w g;have ne:∀a,H1 a≠none->∀q∈cl,q.2≠a:=λ a e q hq z=>e (z ▸ h.fr q hq);refine⟨λ a o n e=>?_,λ a e=>?_,g.up,λ a f=>?_,yz (h.cel g) nf g.w⟩
 ·rw[dq (ne a (by rw[e];simp))];exact g.sm a o n (h.to e)
 ·rw[dq (ne a e)];exact g.dm a (by rw[h.eq a (ne a e)];exact e)
 ·rcases g.nw a f with z|z
  ·exact .inl z
  ·refine .inr ?_
   rwa [h.eq a λ q hq e=>nf q hq (e ▸ f)] at z
end
theorem yB(env:Env)(post:List Stmt):∀pre:List Stmt,execs (pre++post) env=(execs pre env >>= λ f=>match f with|.next=>execs post env|f=>pure f)
 |[]=>by
  rw[List.nil_append];unfold execs;simp
 |st::pre=>by
  rw[nG];rw[execs,execs,yB env post pre];simp[bind_assoc]
  congr 1;funext f;cases f<;>simp
def yC(h1:PSs X pre t)(h2:PSs X post u):PSs X (pre++post) (vo t u):=by
 intro pins s σ H D I h;rw[yB];refine af (thn (h1 pins s σ H { D with nx:=u D } I h) λ f s1 q=>?_)
 cases f with
 |next=>obtain⟨σ',H',I',q⟩:=q;exact h2 pins s1 σ' H' D I' q
 |ret v=>exact aq q
 |brk=>exact aq q
 |cont=>exact aq q
noncomputable def frv(l:List (Str×NameKind)):List Str:=((l.filter (·.2 == NameKind.free)).map (·.1)).reverse
theorem ui{env:Env}:∀(l:List (Str×NameKind)) (cs:LA),(∀x,(x,NameKind.free)∈l->∃c,env.cells.lookup x=some c) ->
  ∃cl,(forIn l cs (λ(x:Str × NameKind) (r:LA)=>(match x with
   |(name,kind)=>if (kind == NameKind.free)=true then (do let y <- cellOf env name;pure (ForInStep.yield ((name,y)::r))) else pure (ForInStep.yield r):Sem (ForInStep (LA)))):Sem (LA))=pure (cl++cs) /\
   cl.map (·.1)=frv l/\∀q∈cl,env.cells.lookup q.1=some q.2
 |[],cs,_=>⟨[],rfl,rfl,λ q h=>by cases h⟩
 |(n,k)::l,cs,h=>by
  by_cases hk:k=.free
  ·subst hk;obtain⟨c,hc⟩:=h n on;obtain⟨cl,e,q1,q2⟩:=ui l ((n,c)::cs) λ x hx=>h x (by simp[hx]);refine⟨cl++[(n,c)],?_,?_,λ q hq=>?_⟩
   ·rw[nH];have:cellOf env n=pure c:=by unfold cellOf;rw[hc]
    simp only[this,lL,eW,s2a];rw[eX];exact e
   ·rw[bK,q1];unfold frv;rw[uj on];simp
   ·rcases cg.mp hq with z|z
    ·exact q2 q z
    ·cases bh.mp z;exact hc
  ·obtain⟨cl,e,q1,q2⟩:=ui l cs λ x hx=>h x (by simp[hx]);refine⟨cl,?_,?_,q2⟩
   ·rw[nH];have:(k == NameKind.free)=false:=by simpa using hk
    simp only[this,nI,jb,s2a];exact e
   ·rw[q1];unfold frv;rw[uk (by simpa using hk)]
def yD{scope:Scope}{env:Env}(h:∀x∈frv scope.names,∃c,env.cells.lookup x=some c):∃cl,closureFor scope env=pure cl/\OwnCl env.cells (frv scope.names) cl:=by
 obtain⟨cl,e,q1,q2⟩:=ui (env:=env) scope.names [] λ x hx=>h x (by unfold frv;simp only[um,bG,iX];exact⟨_,⟨hx,on⟩,rfl⟩);refine⟨cl,?_,q1,q2⟩;unfold closureFor;simp only[bind_pure];rw[fG] at e;exact e
def TV.pl:TV->Bool
 |.own _=>false
 |.bor _=>false
 |_=>true
section
variable {P:Program}{w:World}{K:FG}{mg:SV}{base:Heap}{L:List (Addr×Pos×Str)}
def qB{H F' H'}{t:TV}(p:t.pl=true)(h:Rr K H F' H' t v):Rp K F' H' t v:=by
 cases t<;>first|exact h|cases p
def JT{F H}{t:TV}(p:t.pl=true)(h:Sr K F H t v):Rp K F H t v:=by
 cases t<;>first|exact h|cases p
noncomputable def kC(P:Program)(w:World)(K:FG)(mg:SV)(base:Heap)(L:List (Addr×Pos×Str))(k:Nat)(A:TV->List TV->Prop):Sp:=λ vs H Q _=>∃(F:Fz) (t:TV) (its outs:List TV) (sv:V) (fa:Addr),vs=[sv,.ref fa]/\Wd (TbJ L) F H/\Rp K F H t sv/\A t its/\outs.length=its.length/\FnV H fa /\
 (∀(i:Nat) a b F1 H1 p Q',its[i]?=some a->outs[i]?=some b->Grow (TbJ L) F H F1 H1->Rp K F1 H1 a p->(∀F2 H2 v,Grow (TbJ L) F1 H1 F2 H2->Rp K F2 H2 b v->Q' v H2)->jZ P w K mg base k fa [p] H1 Q') /\
 ∀F' H' v,Grow (TbJ L) F H F' H'->Rp K F' H' (.tup [t,.tup outs]) v->Q v H'
variable {FT:List PSp}{GT:List TV}{fs gs:List Str}{F F1:Fz}{Hm H2 H1:Hp}{cl:LA}{vcs:List V}{caps:List TV}{N ps fv:List Str}{fa c':Addr}{name qual:Str}{params:Arguments}{scope:Scope}{k:Nat}{a b:TV}{p:V}{Q:VK}
structure LamIn (K:FG)(L:List (Addr×Pos×Str))(F:Fz)(Hm H2:Hp)(cl:LA)(vcs:List V)(caps:List TV)(F1:Fz)(H1:Hp)(a:TV)(p:V):Prop where
 hd:Hand cl vcs Hm H2
 wd:Wd (TbJ L) F Hm
 cp:RpL K F Hm caps vcs
 gr:Grow (TbJ L) F H2 F1 H1
 ar:Rp K F1 H1 a p
def LamIn.wm(x:LamIn K L F Hm H2 cl vcs caps F1 H1 a p):Wd (TbJ L) F1 (minC H1 cl):=yz (x.hd.cel x.gr) (x.hd.nf x.wd x.gr) x.gr.w
def LamIn.rp(x:LamIn K L F Hm H2 cl vcs caps F1 H1 a p):RpL K F1 (minC H1 cl) (a::caps) (p::vcs) :=
 ⟨p,vcs,rfl,x.ar.ke (qA (x.hd.cel x.gr)),((x.cp.ke x.hd.ke).ke x.gr.ke).ke (qA (x.hd.cel x.gr))⟩
theorem yE{f:Addr}{A:Around}{s:Shared}(m:MOk P w K mg (TbJ L) GT gs)(hl:fs.length=FT.length)(fns:∀(f:Nat) x S,fs[f]?=some x->FT[f]?=some S->∃ps,Callee P w K mg base CX0 k x ps (pSp K (TbJ L) S))
  (hr:Room k (A.deeper (envX qual E s.heap.objs.size f cd (cellsFrom (s.heap.objs.size+1) E.names []++cl)))):XOk (ji P w K mg base N qual E f cd cl A outer s H) (TbJ L) FT GT fs gs :=
 ⟨rfl,by have:=hr.un;show(A.deeper _).units+20<cLine;lia,m.hJ,λ g y S h1 h2=>let ⟨ps,c⟩:=fns g y S h1 h2;⟨k,ps,hr,c⟩,m.glb,m.dic,m.blt,hl⟩
theorem JU(ci:Cd)(m:MOk P w K mg (TbJ L) GT gs)(hl:fs.length=FT.length)(fns:∀(f:Nat) x S,fs[f]?=some x->FT[f]?=some S->∃ps,Callee P w K mg base CX0 k x ps (pSp K (TbJ L) S))
  (S:LmScope N [name] fv scope) (hcl:cl.map (·.1)=fv) (hb:∀(pm ctv:Value) (us:LV),us.length=1->bindArgs (kla_fn "<lambda>" qual params body scope cl pm (.ref c') ctv) ⟨us,[]⟩=pure ([name].zip us))
  (L1:Hm fa=some (fK fa c' qual params body scope cl)) (_L:Hm c'=some (cR c' qual)) (x:LamIn K L F Hm H2 cl vcs caps F1 H1 a p) (cki:ck fs gs ci N scope.names body=true)
  (hw:wE FT GT ci (en0 N.length (a::caps)) λ u=>u=b/\b.pl=true) (q:∀F2 H2 v,Grow (TbJ L) F1 H1 F2 H2->Rp K F2 H2 b v->Q v H2):jZ P w K mg base (k+1) fa [p] H1 Q:=by
 have up:∀ {a o},(∀ps,o≠.tbl ps)->Hm a=some o->H1 a=some o:=λ n e=>x.gr.sm _ _ n (x.hd.to e);refine JQ (vcs:=vcs) S hcl hb rfl (up (λ _ z=>nomatch z) L1) (up (λ _ z=>nomatch z) _L) (x.hd.cel x.gr) (te:=rE K (TbJ L) FT GT ci) (λ A outer s hr=>sE ci (yE m hl fns hr) ⟨O,O⟩ cki) ?_;refine⟨F1,_,(er0 (N:=N) x.wm x.rp).ev,av ci (λ u ⟨e,pl⟩ F' H' v g r hz=>?_) hw⟩;subst e;exact q _ _ v (g.res hz) ((qB pl r).ke (yA hz))
theorem JV(ci:Ct)(m:MOk P w K mg (TbJ L) GT gs)(hl:fs.length=FT.length)(fns:∀(f:Nat) x S,fs[f]?=some x->FT[f]?=some S->∃ps,Callee P w K mg base CX0 k x ps (pSp K (TbJ L) S))
  (S:LmScope N [name] fv scope) (hcl:cl.map (·.1)=fv) (hb:∀(doc pm ctv:Value) (us:LV),us.length=1->bindArgs (fnX nn qual params body scope cl .none .none doc pm none (.ref c') ctv) ⟨us,[]⟩=pure ([name].zip us))
  (L1:Hm fa=some (eZ fa c' nn qual params body scope cl)) (_L:Hm c'=some (cR c' qual)) (x:LamIn K L F Hm H2 cl vcs caps F1 H1 a p) (cki:bH fs gs N scope.names true ci body=true)
  (hw:wS FT GT ci (en0 N.length (a::caps)) (λ _=>False) λ u=>u=b) (q:∀F2 H2 v,Grow (TbJ L) F1 H1 F2 H2->Rp K F2 H2 b v->Q v H2):jZ P w K mg base (k+1) fa [p] H1 Q:=by
 have up:∀ {a o},(∀ps,o≠.tbl ps)->Hm a=some o->H1 a=some o:=λ n e=>x.gr.sm _ _ n (x.hd.to e);refine JR (vcs:=vcs) S hcl hb rfl (up (λ _ z=>nomatch z) L1) (up (λ _ z=>nomatch z) _L) (x.hd.cel x.gr) (ts:=rS K (TbJ L) FT GT N.length F1 (minC H1 cl) [] ci) (λ A outer s hr=>sS (F0:=F1) (H0:=minC H1 cl) (PN:=[]) ci (lp:=true) ⟨yE m hl fns hr,⟨O,O⟩,S.nd,λ x z=>cY z,λ _=>qy⟩ cki) ?_;refine⟨F1,_,er0 (N:=N) x.wm x.rp,?_,bN ci (λ ρ' z=>z.elim) (λ u e F' H' v g r hz=>?_) hw⟩
 ·unfold start;have l1:=x.hd.at_.len;have l2:cl.length=fv.length:=by rw[<- hcl,ao]
  have z:=bE List.length S.pre;rw[bd,aN] at z;rw[aN,ao,hZ];simp only[aN,List.length_cons,List.length_nil] at z ⊢;lia
 ·subst e;exact q _ _ v (g.res hz) (r.ke (yA hz))
end
section
variable {P:Program}{w:World}{K:FG}{mg:SV}{base:Heap}{L:List (Addr×Pos×Str)}{FT FI:List PSp}{GT:List TV}{fs fi gs:List Str}
theorem yF{α β:Type}{f:α->β}:∀ {l:List α}{a b:α},(l.map f).Nodup->a∈l->b∈l->f a=f b->a=b
 |c::l,a,b,n,ha,hb,e=>by
  rw[aX,hW] at n
  rcases aL.mp ha with ea|ia<;>rcases aL.mp hb with eb|ib
  ·rw[ea,eb]
  ·exact absurd (bG.mpr ⟨b,ib,by rw[<- e,ea]⟩) n.1
  ·exact absurd (bG.mpr ⟨a,ia,by rw[e,eb]⟩) n.1
  ·exact yF n.2 ia ib e
def yG{T:Addr}{pos:Pos}{ql:Str}(nd:(L.map (·.1)).Nodup)(m:(T,pos,ql)∈L)(wd:Wd (TbJ L) F H)(t':TabOk H' T pos ql)(up:∀b o,b≠T->H b=some o->H' b=some o):Grow (TbJ L) F H F H':=by
 obtain⟨ps,e,_⟩:=wd.j _ m;obtain⟨ps',e',_⟩:=id t'
 have dm:∀a,H a≠none->H' a≠none:=λ a h=>by
  by_cases z:a=T
  ·subst z;rw[e'];simp
  ·cases q:H a with
   |none=>exact absurd q h
   |some o=>rw[up a o z q];simp
 refine⟨λ a o n h=>up a o (λ z=>by rw[z,show H T=_ from e] at h;cases h;exact n _ rfl) h,dm,λ _ f=>f,λ _ f=>.inl f,⟨λ x hx=>?_,λ a f=>dm a (wd.d a f)⟩⟩;by_cases z:x.1=T
 ·have:x=(T,pos,ql):=yF nd hx m z;subst this;exact t'
 ·obtain⟨qs,h1,h2,h3⟩:=wd.j x hx;exact⟨qs,up _ _ z h1,h2,h3.imp id λ⟨c,q1,q2⟩=>⟨c,q1,up _ _ (λ y=>by rw[y,show H T=_ from e] at q2;cases q2) q2⟩⟩
theorem uo(e:EV K J F H σ ρ):∀ {js:List Nat}{caps:List TV},js.map (λ j=>ρ[j]?)=caps.map (λ t=>some (some t))->caps.all TV.pl=true->∃vcs,js.map (λ j=>σ[j]?)=vcs.map (λ v=>some (some v))/\RpL K F H caps vcs
 |[],[],_,_=>⟨[],rfl,rfl⟩
 |[],_::_,h,_=>by cases h
 |_::_,[],h,_=>by cases h
 |j::js,t::caps,h,pl=>by
  rw[aX,aX] at h
  injection h with h1 h2
  rw[cX,bF] at pl;obtain⟨v,ev,r⟩:=e.sl j t h1;obtain⟨vs,e2,r2⟩:=uo e h2 pl.2;exact⟨v::vs,by rw[aX,aX,ev,e2],v,vs,O,JT pl.1 r,r2⟩
noncomputable def wHO(A:TV->List TV->Prop)(js:List Nat)(f:List TV->TV->Prop)(Q:TV->Prop)(ρ:En)(t:TV):Prop:=∃its outs caps,A t its/\outs.length=its.length/\js.map (λ j=>ρ[j]?)=caps.map (λ t=>some (some t))/\caps.all TV.pl=true/\t.pl=true/\(∀(i:Nat) a b,its[i]?=some a->outs[i]?=some b->f (a::caps) b)/\Q (.tup [t,.tup outs])
variable {x tb at_ ql:Str}{st:Stmt}{f c T:Addr}{fd:FuncData}{N ps pst N':List Str}{js:List Nat}{k kk:Nat}{S:PSp}{A:TV->List TV->Prop}{pre:List Stmt}{e:Expr}{params:Arguments}{scope:Scope}{pos p1 p2 p3 p4:Pos}
structure MkIn (P:Program)(w:World)(K:FG)(mg:SV)(base:Heap)(L:List (Addr×Pos×Str))(FT FI:List PSp)(GT:List TV)(fs fi gs:List Str)(x tb at_ ql:Str)(st:Stmt)(f c T:Addr)(fd:FuncData)(N ps pst N':List Str)(js:List Nat)(k kk:Nat)(A:TV->List TV->Prop)(params:Arguments)(scope:Scope)(pos:Pos):Prop where
 F:Fun K x x st f fd
 cd:fd.code=.ref c
 TF:TabF base mg c T
 mT:(T,pos,ql)∈L
 nd:(L.map (·.1)).Nodup
 sc:FnScope N ps (ax st)
 m:MOk P w K mg (TbJ L) GT gs
 hl:fs.length=FT.length
 fns:∀(f:Nat) x S,fs[f]?=some x->FT[f]?=some S->∃ps,Callee P w K mg base CX0 k x ps (pSp K (TbJ L) S)
 hi:fi.length=FI.length
 fni:∀(f:Nat) x S,fi[f]?=some x->FI[f]?=some S->∃ps,Callee P w K mg base CX0 kk x ps (pSp K (TbJ L) S)
 ho:Callee P w K mg base CX0 k tb pst (kC P w K mg base L (kk+1) A)
 gt:(ax st).names.lookup tb=some .globalImplicit
 ntb:(tb == ("__debug__" : Str))=false
 ls:LmScope N' [at_] (frv scope.names) scope
 hj:js.map (λ j=>N[j]?)=(frv scope.names).map some
 hk:∀n∈frv scope.names,(ax st).names.lookup n=some .cell
 nf:(frv scope.names).Nodup
 df:∀env,defaultsOf params env=([],[])
theorem JW(code:Ct)(ce ci:Cd)(M:MkIn P w K mg base L FT FI GT fs fi gs x tb at_ ql st f c T fd N ps pst N' js k kk A params scope pos)
  (hq:∀n f cd,(envOfC x (ax st) n f cd).qual ++ "<lambda>"=ql)
  (hbd:bv st=pre++[.Return (some (.Call (.Name tb p1) [e,.Lambda params body scope pos] [] p2)) p3]) (hst:aO e=true)
  (hb:∀(cl:LA) (c':Addr) (pm ctv:Value) (us:LV),us.length=1->bindArgs (kla_fn "<lambda>" ql params body scope cl pm (.ref c') ctv) ⟨us,[]⟩=pure ([at_].zip us))
  (ck1:bH fs gs N (ax st).names true code pre=true) (ck2:ck fs gs ce N (ax st).names e=true) (cki:ck fi gs ci N' scope.names body=true) (hlen:∀ts Q,S ts Q->ts.length=ps.length)
  (hw:∀ts Q,S ts Q->wS FT GT code (en0 N.length ts) (λ ρ=>wE FT GT ce ρ λ t=>wHO A js (λ ts b=>wE FI GT ci (en0 N'.length ts) λ u=>u=b/\b.pl=true) Q ρ t) Q):FnOk P w K mg base CX0 (k+1) f fd ps (pSp K (TbJ L) S):=by
 refine M.F.okT M.cd M.sc (λ vs H Q E ⟨F1,ts,P1,wd,r,s,_⟩=>by rw[<- r.length];exact hlen _ _ s) (λ A' outer s H vs Q E hr h=>?_);obtain⟨F1,ts,P1,wd,r,sp,fin⟩:=h
 have nl:vs.length<=N.length:=by
  have z:=bE List.length M.sc.pre;rw[bd] at z;have:=hlen _ _ sp;rw[<- r.length];lia
 have xo:XOk (dB CX0 P w K mg base N x (ax st) f (.ref c) A' outer s H E).nox (TbJ L) FT GT fs gs:=⟨rfl,by have:=hr.un;show(A'.deeper _).units+20<cLine;lia,M.m.hJ,λ g y S h1 h2=>let ⟨ps,c⟩:=M.fns g y S h1 h2;⟨k,ps,hr,c⟩,M.m.glb,M.m.dic,M.m.blt,M.hl⟩;obtain⟨cl,hcl,own⟩:=yD (scope:=scope) (env:=envOfC x (ax st) s.heap.objs.size f (.ref c)) λ y hy=>ly.mp (lx _ _ _ (.inl (M.hk y hy)));have h1:=sS (F0:=F1) (H0:=H) (PN:=[]) code (lp:=true) ⟨xo,⟨rfl,rfl⟩,M.sc.nd,λ _ _=>rfl,λ _=>qy⟩ ck1;have h2:=rK (oR (pos:=p3) (wZ (X:=(dB CX0 P w K mg base N x (ax st) f (.ref c) A' outer s H E).nox) (p:=p1) (pos:=p2) M.ho hr M.gt own M.hj M.hk (λ _ _=>rfl) M.nf (cL (sE ce xo ⟨rfl,rfl⟩ ck2) (cL (Hg (pos:=pos) (body:=body) (hq _ _ _) rfl M.TF (M.df _) hcl own) pa_nil rfl) (bw hst)) M.ntb (bw hst) rfl));rw[hbd];refine⟨_,yC h1 h2,F1,en0 N.length ts,er0 wd r,?_,?_⟩
 ·unfold start;rw[aN,ao,hZ];show vs.length+(N.length-vs.length)=N.length;lia
 refine bN code (λ ρ' q F' H' σ' e _=>?_) (λ t q F' H' v g r=>fin t q F' H' v g r) (hw ts P1 sp);refine⟨F',ρ',e.ev,av ce (λ t ⟨its,outs,caps,hA,ho,hc,pl,tp,hf,hQ⟩ F2 H2 v g rv=>⟨g.w.j _ M.mT,λ fa c' cl1 H3 o1 ffa hfa hc3 t3 up3=>?_⟩) q⟩;cases OwnCl.uniq own o1;obtain⟨vcs,ev,rc⟩:=uo (e.ev.grow g) hc pl;refine⟨vcs,ev,λ cl2 H4 o2 fr hcel eq4=>?_⟩;cases OwnCl.uniq own o2;have g3:=yG M.nd M.mT g.w t3 up3;have hd:Hand cl vcs H3 H4:=⟨fr,hcel,eq4⟩
 exact⟨F2,t,its,outs,v,fa,O,hd.wd g3.w,((qB tp rv).ke g3.ke).ke hd.ke,hA,ho,FnV.lam (hd.to hfa),λ i a b F5 H5 p Q' ei eb g5 ra qq=>JU ci M.m M.hi M.fni M.ls own.1 (hb cl c') hfa hc3 ⟨hd,g3.w,rc.ke g3.ke,g5,ra⟩ cki (hf i a b ei eb) qq,
  λ F6 H6 v6 g6 r6=>fin _ hQ _ _ _ (e.gr.trans (g.trans (g3.trans (hd.back g3.w g6)))) (r6.ke (qA (hd.cel g6)))⟩
def EV.off{i:Nat}(e:EV K J F H σ ρ)(h:ρ[i]?=some none):EV K J F H (σ.set i (some v)) ρ:=⟨e.w,λ j t q=>by
 obtain⟨u,eu,r⟩:=e.sl j t q;refine⟨u,?_,r⟩;rw[iY (λ z=>by subst z;rw[h] at q;cases q)]
 exact eu⟩
theorem JX{i0:Nat}(code:Ct)(ce:Cd)(ci:Ct)(M:MkIn P w K mg base L FT FI GT fs fi gs x tb at_ ql st f c T fd N ps pst N' js k kk A params scope pos)
  (hq:∀n f cd,qualnameIn (envOfC x (ax st) n f cd) nn nn=ql)
  (hbd:bv st=pre++[.FunctionDef nn params body [] none [] scope none nn pos,.Return (some (.Call (.Name tb p1) [e,.Name nn p4] [] p2)) p3]) (hst:aO e=true) (hi0:N[i0]?=some nn) (hnn:(ax st).names.lookup nn=some .local) (nd1:(nn == ("__debug__" : Str))=false) (nd2:(nn == ("__classdict__" : Str))=false)
  (d0:params.defaults=[]) (d1:params.kw_defaults=[]) (ha:∀env,annTrees params none env=[])
  (hb:∀(cl:LA) (c':Addr) (doc pm ctv:Value) (us:LV),us.length=1->bindArgs (fnX nn ql params body scope cl .none .none doc pm none (.ref c') ctv) ⟨us,[]⟩=pure ([at_].zip us))
  (ck1:bH fs gs N (ax st).names true code pre=true) (ck2:ck fs gs ce N (ax st).names e=true) (cki:bH fi gs N' scope.names true ci body=true) (hlen:∀ts Q,S ts Q->ts.length=ps.length) (hji:∀j∈js,j≠i0)
  (hw:∀ts Q,S ts Q->wS FT GT code (en0 N.length ts) (λ ρ=>ρ[i0]?=some none/\wE FT GT ce ρ λ t=>wHO A js (λ ts b=>wS FI GT ci (en0 N'.length ts) (λ _=>False) λ u=>u=b) Q ρ t) Q):FnOk P w K mg base CX0 (k+1) f fd ps (pSp K (TbJ L) S):=by
 refine M.F.okT M.cd M.sc (λ vs H Q E ⟨F1,ts,P1,wd,r,s,_⟩=>by rw[<- r.length];exact hlen _ _ s) (λ A' outer s H vs Q E hr h=>?_);obtain⟨F1,ts,P1,wd,r,sp,fin⟩:=h
 have nl:vs.length<=N.length:=by
  have z:=bE List.length M.sc.pre;rw[bd] at z;have:=hlen _ _ sp;rw[<- r.length];lia
 have xo:XOk (dB CX0 P w K mg base N x (ax st) f (.ref c) A' outer s H E).nox (TbJ L) FT GT fs gs:=⟨rfl,by have:=hr.un;show(A'.deeper _).units+20<cLine;lia,M.m.hJ,λ g y S h1 h2=>let ⟨ps,c⟩:=M.fns g y S h1 h2;⟨k,ps,hr,c⟩,M.m.glb,M.m.dic,M.m.blt,M.hl⟩;obtain⟨cl,hcl,own⟩:=yD (scope:=scope) (env:=envOfC x (ax st) s.heap.objs.size f (.ref c)) λ y hy=>ly.mp (lx _ _ _ (.inl (M.hk y hy)));have h1:=sS (F0:=F1) (H0:=H) (PN:=[]) code (lp:=true) ⟨xo,⟨rfl,rfl⟩,M.sc.nd,λ _ _=>rfl,λ _=>qy⟩ ck1;have h0:=Hn (X:=(dB CX0 P w K mg base N x (ax st) f (.ref c) A' outer s H E).nox) (i:=i0) (body:=body) (pos:=pos) M.sc.nd hi0 (.inl hnn) (hq _ _ _) rfl M.TF hcl own d0 d1 (ha _) (.inr hnn);have h2:=rK (oR (pos:=p3) (wZ (X:=(dB CX0 P w K mg base N x (ax st) f (.ref c) A' outer s H E).nox) (p:=p1) (pos:=p2) M.ho hr M.gt own M.hj M.hk (λ _ _=>rfl) M.nf (cL (sE ce xo ⟨rfl,rfl⟩ ck2) (cL (iZ (pos:=p4) hi0 (.inl hnn) nd1 nd2) pa_nil rfl) (bw hst)) M.ntb (bw hst) rfl));rw[hbd];refine⟨_,yC h1 (ga h0 h2),F1,en0 N.length ts,er0 wd r,?_,?_⟩
 ·unfold start;rw[aN,ao,hZ];show vs.length+(N.length-vs.length)=N.length;lia
 refine bN code (λ ρ' ⟨hn,q⟩ F' H' σ' e sl=>?_) (λ t q F' H' v g r=>fin t q F' H' v g r) (hw ts P1 sp);refine⟨e.ev.w.j _ M.mT,λ fa c' cl1 H3 o1 ffa hfa hc3 t3 up3=>?_⟩;cases OwnCl.uniq own o1;have g3:=yG M.nd M.mT e.ev.w t3 up3;have e3:EV K (TbJ L) F' H3 (σ'.set i0 (some (.ref fa))) ρ':=(e.ev.grow g3).off hn;have il:i0<σ'.length:=by rw[sl];exact(bf.mp hi0).1
 have hi3:(σ'.set i0 (some (V.ref fa)))[i0]?=some (some (V.ref fa)):=by rw[hE il]
 refine⟨F',ρ',e3,av ce (λ t ⟨its,outs,caps,hA,ho,hc,pl,tp,hf,hQ⟩ F2 H2 v g rv=>?_) q⟩;show cV i0 _ _ _;unfold cV;rw[hi3];obtain⟨vcs,ev,rc⟩:=uo (e3.grow g) hc pl;refine⟨vcs,ev,λ cl2 H4 o2 fr hcel eq4=>?_⟩;cases OwnCl.uniq own o2;have hd:Hand cl vcs H2 H4:=⟨fr,hcel,eq4⟩;have hfa2:=g.sm _ _ (λ _ z=>by cases z) hfa;have hc2:=g.sm _ _ (λ _ z=>by cases z) hc3
 exact⟨F2,t,its,outs,v,fa,O,hd.wd g.w,(qB tp rv).ke hd.ke,hA,ho,FnV.dfn (hd.to hfa2),λ i a b F5 H5 p Q' ei eb g5 ra qq=>JV ci M.m M.hi M.fni M.ls own.1 (hb cl c') hfa2 hc2 ⟨hd,g.w,rc,g5,ra⟩ cki (hf i a b ei eb) qq,
  λ F6 H6 v6 g6 r6=>fin _ hQ _ _ _ (e.gr.trans (g3.trans (g.trans (hd.back g.w g6)))) (r6.ke (qA (hd.cel g6)))⟩
end
section
variable {P:Program}{w:World}{K:FG}{mg:SV}{base:Heap}{L:List (Addr×Pos×Str)}{FT:List PSp}{GT:List TV}{fs gs:List Str}
structure HoIn (P:Program)(w:World)(K:FG)(mg:SV)(base:Heap)(L:List (Addr×Pos×Str))(k:Nat)(A:TV->List TV->Prop)(F:Fz)(H:Hp)(t:TV)(its outs:List TV)(sv:V)(fa:Addr):Prop where
 wd:Wd (TbJ L) F H
 r:Rp K F H t sv
 a:A t its
 l:outs.length=its.length
 f:FnV H fa
 c:∀(i:Nat) a b F1 H1 p Q',its[i]?=some a->outs[i]?=some b->Grow (TbJ L) F H F1 H1->Rp K F1 H1 a p->(∀F2 H2 v,Grow (TbJ L) F1 H1 F2 H2->Rp K F2 H2 b v->Q' v H2)->jZ P w K mg base k fa [p] H1 Q'
def FnV.grow(f:FnV H fa)(g:Grow J F H F' H'):FnV H' fa:=let ⟨φ,e,q⟩:=f;⟨φ,g.sm _ _ (λ _ z=>nomatch z) e,q⟩
variable {X:Cx}{N:List Str}{nm:List (Str×NameKind)}{kk fA:Nat}{A:TV->List TV->Prop}{SA:PSp}
noncomputable def rHC(X:Cx)(L:List (Addr×Pos×Str))(kk:Nat)(A:TV->List TV->Prop):TE:=λ σ H Q=>∃F t its outs sv fa,σ=[some sv,some (.ref fa)]/\HoIn X.prog X.w X.K X.mg X.base L kk A F H t its outs sv fa/\∀F' H' v,Grow (TbJ L) F H F' H'->Rr X.K H F' H' (.own outs) v->Q v H'
theorem JY{at_ nf:Str}{iter:Expr}(xo:XOk X (TbJ L) FT GT fs gs)(xs:XS X N nm)(hr:Room kk X.A)(hS:ckS N nm sc [at_] [nf] [1]=true)(hi:PI X (.Name at_ p6) iter (rW X.K (TbJ L) FT GT .seq (.cons (.call fA (.cons (.v 0) .nil)) .nil)))(hns:dY iter=true)
  (eA:FT[fA]?=some SA) (hA:∀t its,A t its->t.pl=true/\its.length<sizeLine/\SA [t] λ u=>u=.lst its)
  (hT:ckT false ([at_]++[nf]) (cn nm sc.names) [0] (.Name at_ p6)=true) (k1:ck fs gs (.v 0) ([at_]++[nf]) (cn nm sc.names) (.Name at_ p4)=true) (k2:ck fs gs (.v 1) ([at_]++[nf]) (cn nm sc.names) (.Name nf p3)=true) :
  PE X (.ListComp (.Call (.Name nf p3) [.Name at_ p4] [] p5) [⟨.Name at_ p6,iter,[],0⟩] sc pos) (rHC X L kk A):=by
 intro pins s σ H Q I h;obtain⟨cl,S⟩:=nV I.ok xs hS;have yx:∀(C:Addr) (ex:List Addr) (s:Shared) (H:Hp),XS (bC X ([at_]++[nf]) sc cl C ex s H) ([at_]++[nf]) (cn nm sc.names):=λ C ex s H=>⟨rfl,S.rel⟩;have k2':=gD.mp k2;obtain⟨n1,n2⟩:=gD.mp k2'.1;obtain⟨d1,d2,_⟩:=gF k2'.2
 refine wo (g:=tgG X.K [0]) (te:=wV X.prog X.w X.K X.mg X.base kk 1 (oX (cV 0) rX)) xo.calm hi S.clos S.cell S.kind S.names S.sub S.has S.len S.cap (λ C ex s H=>(kt (X:=bC X ([at_]++[nf]) sc cl C ex s H) S.nd xo.calm (yx C ex s H) (λ z=>by cases z) hT).1)
  (λ C ex s H=>He (X:=bC X ([at_]++[nf]) sc cl C ex s H) (i:=1) hr rfl (kr (yx C ex s H) n2) (cL (iZ (i:=0) rfl (kr (yx C ex s H) (gD.mp (gD.mp k1).1).2) (gF (gD.mp k1).2).1 (gF (gD.mp k1).2).2.1) pa_nil rfl) d1 d2 rfl rfl) (λ x=>mx hns) pins s σ H Q I ?_
 obtain⟨F,t,its,outs,sv,fa,rfl,hI,q⟩:=h;obtain⟨tp,il,sa⟩:=hA _ _ hI.a;refine⟨F,[some t,none],⟨hI.wd,λ i u e=>?_⟩,?_⟩
 ·match i,e with
  |0,e=>cases e;exact⟨sv,rfl,qk hI.r⟩
  |1,e=>cases e
  |i+2,e=>cases e
 have key:∀K:List TV->Prop,(∃P,(∃S,FT[fA]?=some S/\S ([t].map .fz) P)/\∀u,P u->([t].all TV.nb=false->LF u)/\K [u])->wL FT GT (.cons (.call fA (.cons (.v 0) .nil)) .nil) [some t,none] K:=λ K h=>by cases t<;>first|exact h|cases tp
 have fz:t.fz=t:=by cases t<;>first|rfl|cases tp
 have nb:[t].all TV.nb=true:=by cases t<;>first|rfl|cases tp
 refine key _ ⟨λ u=>u=.lst its,⟨SA,eA,by rw[aX,fz];exact sa⟩,λ u e=>⟨λ z=>(by rw[nb] at z;cases z),?_⟩⟩;subst e;refine λ F1 H1 xs Jt g1 rx ok=>?_;refine⟨λ i m ys σ' H'=>i<=its.length/\m=its.length-i/\∃F' y,Grow (TbJ L) F1 H1 F' H'/\σ'=[y,some (.ref fa)]/\RpL X.K F' H' (outs.take i) ys,⟨_,bW _,O,F1,none,.refl g1.w,O,O⟩,?_⟩;rintro i m ys σ' H' ⟨hi,rfl,F',y,g',rfl,rz⟩;have vw:Paired (Vw X.K F' H') [TV.lst its] xs:=Paired.mapP (rx.grow g') λ _ _ r=>r.vw;have zl:ys.length=min i outs.length:=by rw[<- rz.length,bd]
 by_cases c:i<its.length
 ·refine .inr ⟨ok.go F' H' i g'.w vw c,by have:=hI.l;lia,λ zs' σ2 H2=>∃F2 y,Grow (TbJ L) F1 H1 F2 H2/\σ2=[y,some (.ref fa)]/\RpL X.K F2 H2 (outs.take (i+1)) zs',λ zs' σ2 H2 ⟨F2,y,q⟩=>⟨_,ca,c,O,F2,y,q⟩,λ x H2 yl=>?_⟩;obtain⟨a,et,gy,rt⟩:=ok.yld F' H' i x H2 g'.w vw c yl;have lo:i<outs.length:=by have:=hI.l;lia
  have gg:=(g1.trans g').trans gy;refine⟨fa,O,hI.f.grow gg,hI.f.grow gg,hI.c i a _ F' H2 x _ et (aB lo) gg rt λ F2 H3 v g2 r2=>⟨F2,_,(g'.trans gy).trans g2,O,?_⟩⟩;rw[fR,aB lo];exact(rz.ke (gy.trans g2).ke).append ⟨v,[],O,r2,O⟩
 ·have e:i=its.length:=by lia
  subst e;rw[gP (by have:=hI.l;lia)] at rz;exact .inl ⟨ok.stop F' H' g'.w vw,gz xo.hJ (g1.trans g') rz q⟩
variable {sd nf at_ aa:Str}{st:Stmt}{f:Addr}{fd:FuncData}{k:Nat}{p1 p2 p3 p4 p5 p6 p7 p8 p9 p10 p11 p12 pos:Pos}{x1:Nat}{sc:Scope}
theorem JZ(F:Fun K x x st f fd)(sc0:FnScope [sd,nf] [sd,nf] (ax st))(m:MOk P w K mg (TbJ L) GT gs)(hl:fs.length=FT.length)
  (fns:∀(f:Nat) x S,fs[f]?=some x->FT[f]?=some S->∃ps,Callee P w K mg base CX0 k x ps (pSp K (TbJ L) S)) (kl:kk<=k)
  (hbd:bv st=[.Return (some (.Tuple [.Name sd p1,.Call (.Name "tuple" p2) [.ListComp (.Call (.Name nf p3) [.Name at_ p4] [] p5) [⟨.Name at_ p6,.Call (.Name aa p7) [.Name sd p8] [] p9,[],0⟩] sc pos] [] p10] x1 p11)) p12])
  (eA:FT[fA]?=some SA) (hA:∀t its,A t its->t.pl=true/\its.length<sizeLine/\SA [t] λ u=>u=.lst its)
  (hS:ckS [sd,nf] (ax st).names sc [at_] [nf] [1]=true) (hT:ckT false ([at_]++[nf]) (cn (ax st).names sc.names) [0] (.Name at_ p6)=true) (k1:ck fs gs (.v 0) ([at_]++[nf]) (cn (ax st).names sc.names) (.Name at_ p4)=true) (k2:ck fs gs (.v 1) ([at_]++[nf]) (cn (ax st).names sc.names) (.Name nf p3)=true)
  (k3:ck fs gs (.call fA (.cons (.v 0) .nil)) [sd,nf] (ax st).names (.Call (.Name aa p7) [.Name sd p8] [] p9)=true) (k4:ck fs gs (.v 0) [sd,nf] (ax st).names (.Name sd p1)=true) (k5:gl (ax st).names "tuple"=true):FnOk P w K mg base CX0 (k+1) f fd [sd,nf] (kC P w K mg base L kk A):=by
 refine F.ok sc0 (λ vs H Q E ⟨F1,t,its,outs,sv,fa,e,_⟩=>by rw[e];rfl) (λ cdv A' outer s H vs Q E hr h=>?_);obtain⟨F1,t,its,outs,sv,fa,rfl,wd,rt,hAt,lo,fv,hc,fin⟩:=h;have xo:XOk (dB CX0 P w K mg base [sd,nf] x (ax st) f cdv A' outer s H E).nox (TbJ L) FT GT fs gs:=⟨rfl,by have:=hr.un;show(A'.deeper _).units+20<cLine;lia,m.hJ,λ g y S h1 h2=>let ⟨ps,c⟩:=fns g y S h1 h2;⟨k,ps,hr,c⟩,m.glb,m.dic,m.blt,hl⟩;obtain⟨tp,il,sa⟩:=hA _ _ hAt;have hi:PI (dB CX0 P w K mg base [sd,nf] x (ax st) f cdv A' outer s H E).nox (.Name at_ p6) (.Call (.Name aa p7) [.Name sd p8] [] p9) (rW K (TbJ L) FT GT .seq (.cons (.call fA (.cons (.v 0) .nil)) .nil)):=xT (sE _ xo ⟨rfl,rfl⟩ k3);have hC:=JY (pos:=pos) (p5:=p5) xo ⟨rfl,rfl⟩ (hr.mono kl) hS hi rfl eA hA hT k1 k2;have hB:=pc (p:=p2) (pos:=p10) (iG xo.hJ xo.calm .tuple on) (glX (X:=(dB CX0 P w K mg base [sd,nf] x (ax st) f cdv A' outer s H E).nox) ⟨rfl,rfl⟩ k5) (m.blt "tuple" fu) (by decide +kernel) (cL hC pa_nil rfl) fu fu rfl rfl;have hD:=rK (oR (pos:=p12) (vI (x1:=x1) (pos:=p11) (cL (sE (.v 0) xo ⟨rfl,rfl⟩ k4) (cL hB pa_nil rfl) rfl)));rw[hbd];refine⟨_,hD,F1,[some t,none],⟨wd,λ i u e=>?_⟩,?_⟩
 ·match i,e with
  |0,e=>cases e;exact⟨sv,rfl,qk rt⟩
  |1,e=>cases e
  |i+2,e=>cases e
 have key:∀K:TV->Prop,K t->wE FT GT (.v 0) [some t,none] K:=λ K h=>by cases t<;>first|exact h|cases tp
 refine key _ λ F2 H2 v g r=>⟨F2,t,its,outs,sv,fa,O,⟨g.w,rt.ke g.ke,hAt,lo,fv.grow g,λ i a b F3 H3 p Q' e1 e2 g3=>hc i a b F3 H3 p Q' e1 e2 (g.trans g3)⟩,λ F3 H3 v3 g3 r3=>⟨F2,H2,F3,[.own outs],g3,.cons r3 .nil,λ F4 H4 v4 g4 r4=>⟨dN (aP (n:=2) fu),λ p hp=>?_⟩⟩⟩;refine fin F4 _ _ ((g.trans g4).trans (.new m.hJ g4.w _ hp)) ⟨p,_,O,.of cJ,?_⟩;exact RpL.ke (Grow.new m.hJ g4.w _ hp).ke ⟨v,_,O,(qB tp r).ke g4.ke,v4,_,O,r4,O⟩
end
abbrev Cd.a1(a:Cd):Cd:=.cons a .nil
abbrev Cd.a2(a b:Cd):Cd:=.cons a (.cons b .nil)
abbrev Cd.a3(a b c:Cd):Cd:=.cons a (.cons b (.cons c .nil))
abbrev Cd.n(i:Int):Cd:=.c (.int i)
abbrev Cd.w(x:Str):Cd:=.c (.str x)
abbrev Cd.eq(a b:Cd):Cd:=.cmp .Eq a b
abbrev dr(x:Str)(ps:List Str)(S:PSp):DR:=(x,ps,S)
structure HoR where
 tb:Str
 e:Expr
 l:Expr
 p1:Pos
 p2:Pos
 p3:Pos
noncomputable def hoR(st:Stmt):HoR:=match (bv st).getLast? with
 |some (.Return (some (.Call (.Name tb p1) [e,l] [] p2)) p3)=>⟨tb,e,l,p1,p2,p3⟩
 |_=>⟨"",.Name "" ⟨0,0,0,0⟩,.Name "" ⟨0,0,0,0⟩,⟨0,0,0,0⟩,⟨0,0,0,0⟩,⟨0,0,0,0⟩⟩
structure LmR where
 a:Arguments
 b:Expr
 s:Scope
 p:Pos
noncomputable def lmR(st:Stmt):LmR:=match (hoR st).l with
 |.Lambda a b s p=>⟨a,b,s,p⟩
 |_=>⟨cQ (.Pass ⟨0,0,0,0⟩),.Name "" ⟨0,0,0,0⟩,ax (.Pass ⟨0,0,0,0⟩),⟨0,0,0,0⟩⟩
noncomputable def inR(st:Stmt):Stmt:=(bv st).dropLast.getLast?.getD (.Pass ⟨0,0,0,0⟩)
noncomputable def inP(st:Stmt):Pos:=match inR st with|.FunctionDef _ _ _ _ _ _ _ _ _ p=>p|_=>⟨0,0,0,0⟩
noncomputable def inQ(st:Stmt):Pos:=match (hoR st).l with|.Name _ p=>p|_=>⟨0,0,0,0⟩
def lsq(sc:Scope)(N:List Str)(a:Str)(h:sc.kind=.function/\sc.isCoroutine=false/\sc.isGenerator=false/\N.Nodup/\N.take (a::frv sc.names).length=a::frv sc.names/\(sc.names.lookup a=some .local\/sc.names.lookup a=some .cell)/\(∀x∈frv sc.names,sc.names.lookup x=some .free)/\(∀y∈sc.names,y.2=.free->y.1∈frv sc.names)/\∀x∈frv sc.names,∀y∈sc.names,y.2=.cell->y.1≠x:=by decide +kernel):LmScope N [a] (frv sc.names) sc :=
 ⟨h.1,h.2.1,h.2.2.1,h.2.2.2.1,h.2.2.2.2.1,λ x hx=>by rw[bh.mp hx];exact h.2.2.2.2.2.1,h.2.2.2.2.2.2.1,h.2.2.2.2.2.2.2.1,h.2.2.2.2.2.2.2.2⟩
section
variable {P:Program}{w:World}{K:FG}{mg:SV}{base:Heap}{J:Hp->Prop}{GT:List TV}{gs:List Str}{D:List DR}{L:List (Addr×Pos×Str)}
theorem Cals.fn{x:Str}{ps:List Str}{st:Stmt}{S:PSp}(C:Cals P w K mg base J D j)(hm:∀ {x:Str}{v:Option Value},W.nsIn K mainGlobals x=some v->mg x=v)(e:D[j]?=some (x,ps,S))(g:Gl' K x st f fd)
  (b:∀f fd,Fun K x x st f fd->Binds K fd ps []) (ok:FnOk P w K mg base CX0 (j+1) f fd ps (pSp K J S)):Cals P w K mg base J D (j+1):=by
 refine C.s λ x' ps' S' e'=>?_;rw[e] at e';cases e';exact Callee.mk' g.F (hm g.a) (b f fd g.F) ok
def Cals.to{i j:Nat}(C:Cals P w K mg base J D j)(h:i<=j):Cals P w K mg base J D i:=λ n hn=>C n (bM hn h)
noncomputable def scB(s:Scope)(ps N:List Str):Bool:=decide (s.kind=.function/\s.isCoroutine=false/\s.isGenerator=false/\N.Nodup/\N.take ps.length=ps/\(∀x∈ps,s.names.lookup x=some .local\/s.names.lookup x=some .cell)/\∀y∈s.names,y.2≠.free)
def qC(h:scB s ps N=true):FnScope N ps s:=let h:=aC h;⟨h.1,h.2.1,h.2.2.1,h.2.2.2.1,h.2.2.2.2.1,h.2.2.2.2.2.1,h.2.2.2.2.2.2⟩
structure GlT' (K:FG)(x:Str)(st:Stmt)(f:Addr)(fd:FuncData)(c T:Addr):Prop extends Gl' K x st f fd where
 hc:fd.code=.ref c
 tb:W.tabIn K x=some (c,T)
theorem Ka{jj j:Nat}{x at_ ql:Str}{st:Stmt}{N ps pst N':List Str}{js:List Nat}{S:PSp}(code:Ct)(ce ci:Cd)(C:Cals P w K mg base (TbJ L) D j)(m:MOk P w K mg (TbJ L) GT gs)(hm:∀ {x:Str}{v:Option Value},W.nsIn K mainGlobals x=some v->mg x=v)(e:D[j]?=some (x,ps,S))(g:GlT' K x st f fd c T)(TF:TabF base mg c T)(mT:(T,(lmR st).p,ql)∈L)(nd:(L.map (·.1)).Nodup)
  (sc:FnScope N ps (ax st)) (b:∀f fd,Fun K x x st f fd->Binds K fd ps []) (ho:Callee P w K mg base CX0 j (hoR st).tb pst (kC P w K mg base L (jj+1) A)) (jl:jj<=j) (ls:LmScope N' [at_] (frv (lmR st).s.names) (lmR st).s)
  (hj:(ax st).names.lookup (hoR st).tb=some .globalImplicit/\((hoR st).tb == ("__debug__" : Str))=false/\js.map (λ j=>N[j]?)=(frv (lmR st).s.names).map some/\(∀n∈frv (lmR st).s.names,(ax st).names.lookup n=some .cell)/\(frv (lmR st).s.names).Nodup/\aO (hoR st).e=true)
  (df:∀env,defaultsOf (lmR st).a env=([],[])) (hq:∀n f cd,(envOfC x (ax st) n f cd).qual ++ "<lambda>"=ql) (hbd:bv st=(bv st).dropLast++[.Return (some (.Call (.Name (hoR st).tb (hoR st).p1) [(hoR st).e,.Lambda (lmR st).a (lmR st).b (lmR st).s (lmR st).p] [] (hoR st).p2)) (hoR st).p3])
  (hb:∀(cl:LA) (c':Addr) (pm ctv:Value) (us:LV),us.length=1->bindArgs (kla_fn "<lambda>" ql (lmR st).a (lmR st).b (lmR st).s cl pm (.ref c') ctv) ⟨us,[]⟩=pure ([at_].zip us))
  (hck:(bH (dFs D j) gs N (ax st).names true code (bv st).dropLast&&ck (dFs D j) gs ce N (ax st).names (hoR st).e&&ck (dFs D jj) gs ci N' (lmR st).s.names (lmR st).b)=true) (hlen:∀ts Q,S ts Q->ts.length=ps.length)
  (hw:∀ts Q,S ts Q->wS (dFT D j) GT code (en0 N.length ts) (λ ρ=>wE (dFT D j) GT ce ρ λ t=>wHO A js (λ ts b=>wE (dFT D jj) GT ci (en0 N'.length ts) λ u=>u=b/\b.pl=true) Q ρ t) Q):Cals P w K mg base (TbJ L) D (j+1):=by
 rw[bF,bF] at hck;exact C.fn hm e g.toGl' b (JW code ce ci ⟨g.F,g.hc,TF,mT,nd,sc,m,kB j,C.fns,kB jj,(C.to jl).fns,ho,hj.1,hj.2.1,ls,hj.2.2.1,hj.2.2.2.1,hj.2.2.2.2.1,df⟩ hq hbd hj.2.2.2.2.2 hb hck.1.1 hck.1.2 hck.2 hlen hw)
theorem Kb{jj j i0:Nat}{x at_ ql nn:Str}{st:Stmt}{N ps pst N':List Str}{js:List Nat}{S:PSp}(code:Ct)(ce:Cd)(ci:Ct)(C:Cals P w K mg base (TbJ L) D j)(m:MOk P w K mg (TbJ L) GT gs)(hm:∀ {x:Str}{v:Option Value},W.nsIn K mainGlobals x=some v->mg x=v)(e:D[j]?=some (x,ps,S))(g:GlT' K x st f fd c T)(TF:TabF base mg c T)(mT:(T,inP st,ql)∈L)(nd:(L.map (·.1)).Nodup)
  (sc:FnScope N ps (ax st)) (b:∀f fd,Fun K x x st f fd->Binds K fd ps []) (ho:Callee P w K mg base CX0 j (hoR st).tb pst (kC P w K mg base L (jj+1) A)) (jl:jj<=j) (ls:LmScope N' [at_] (frv (ax (inR st)).names) (ax (inR st)))
  (hj:(ax st).names.lookup (hoR st).tb=some .globalImplicit/\((hoR st).tb == ("__debug__" : Str))=false/\js.map (λ j=>N[j]?)=(frv (ax (inR st)).names).map some/\(∀n∈frv (ax (inR st)).names,(ax st).names.lookup n=some .cell)/\(frv (ax (inR st)).names).Nodup/\aO (hoR st).e=true)
  (hn:N[i0]?=some nn/\(ax st).names.lookup nn=some .local/\(nn == ("__debug__" : Str))=false/\(nn == ("__classdict__" : Str))=false/\∀j∈js,j≠i0) (d0:(cQ (inR st)).defaults=[]) (d1:(cQ (inR st)).kw_defaults=[]) (ha:∀env,annTrees (cQ (inR st)) none env=[])
  (df:∀env,defaultsOf (cQ (inR st)) env=([],[])) (hq:∀n f cd,qualnameIn (envOfC x (ax st) n f cd) nn nn=ql) (hbd:bv st=(bv st).dropLast.dropLast++[.FunctionDef nn (cQ (inR st)) (bv (inR st)) [] none [] (ax (inR st)) none nn (inP st),.Return (some (.Call (.Name (hoR st).tb (hoR st).p1) [(hoR st).e,.Name nn (inQ st)] [] (hoR st).p2)) (hoR st).p3])
  (hb:∀(cl:LA) (c':Addr) (doc pm ctv:Value) (us:LV),us.length=1->bindArgs (fnX nn ql (cQ (inR st)) (bv (inR st)) (ax (inR st)) cl .none .none doc pm none (.ref c') ctv) ⟨us,[]⟩=pure ([at_].zip us))
  (hck:(bH (dFs D j) gs N (ax st).names true code (bv st).dropLast.dropLast&&ck (dFs D j) gs ce N (ax st).names (hoR st).e&&bH (dFs D jj) gs N' (ax (inR st)).names true ci (bv (inR st)))=true) (hlen:∀ts Q,S ts Q->ts.length=ps.length)
  (hw:∀ts Q,S ts Q->wS (dFT D j) GT code (en0 N.length ts) (λ ρ=>ρ[i0]?=some none/\wE (dFT D j) GT ce ρ λ t=>wHO A js (λ ts b=>wS (dFT D jj) GT ci (en0 N'.length ts) (λ _=>False) λ u=>u=b) Q ρ t) Q):Cals P w K mg base (TbJ L) D (j+1):=by
 rw[bF,bF] at hck;exact C.fn hm e g.toGl' b (JX code ce ci ⟨g.F,g.hc,TF,mT,nd,sc,m,kB j,C.fns,kB jj,(C.to jl).fns,ho,hj.1,hj.2.1,ls,hj.2.2.1,hj.2.2.2.1,hj.2.2.2.2.1,df⟩ hq hbd hj.2.2.2.2.2 hn.1 hn.2.1 hn.2.2.1 hn.2.2.2.1 d0 d1 ha hb hck.1.1 hck.1.2 hck.2 hlen hn.2.2.2.2 hw)
end
abbrev V0:Cd:=.v 0
abbrev V1:Cd:=.v 1
abbrev V2:Cd:=.v 2
abbrev V3:Cd:=.v 3
abbrev V4:Cd:=.v 4
abbrev V5:Cd:=.v 5
abbrev V6:Cd:=.v 6
abbrev V7:Cd:=.v 7
abbrev V8:Cd:=.v 8
abbrev V9:Cd:=.v 9
abbrev V10:Cd:=.v 10
abbrev V11:Cd:=.v 11
abbrev N0:Cd:=.c (.int 0)
abbrev N1:Cd:=.c (.int 1)
abbrev N2:Cd:=.c (.int 2)
abbrev N3:Cd:=.c (.int 3)
abbrev N4:Cd:=.c (.int 4)
abbrev N5:Cd:=.c (.int 5)
abbrev N6:Cd:=.c (.int 6)
abbrev N7:Cd:=.c (.int 7)
abbrev N8:Cd:=.c (.int 8)
abbrev N9:Cd:=.c (.int 9)
abbrev N10:Cd:=.c (.int 10)
abbrev N11:Cd:=.c (.int 11)
abbrev Cd.x(i:Nat)(j:Int):Cd:=.ix (.v i) (.c (.int j))
abbrev Cd.c1(f:Nat)(a:Cd):Cd:=.call f (.a1 a)
abbrev Cd.c2(f:Nat)(a b:Cd):Cd:=.call f (.a2 a b)
abbrev Cd.c3(f:Nat)(a b c:Cd):Cd:=.call f (.a3 a b c)
abbrev Cd.ln(a:Cd):Cd:=.bi .len (.a1 a)
abbrev Cd.b1(f:BI)(a:Cd):Cd:=.bi f (.a1 a)
abbrev Cd.b2(f:BI)(a b:Cd):Cd:=.bi f (.a2 a b)
abbrev Cd.st(a b:Cd):Cd:=.sl a (.c .non) b
abbrev Cd.sf(a b:Cd):Cd:=.sl a b (.c .non)
abbrev Cd.es(a:Cd)(x:Str):Cd:=.cmp .Eq a (.c (.str x))
abbrev Cd.t0:Cd:=.tup .nil
abbrev Cd.l0:Cd:=.lst .nil
abbrev Cd.t1(a:Cd):Cd:=.tup (.a1 a)
abbrev Cd.t2(a b:Cd):Cd:=.tup (.a2 a b)
abbrev Cd.t3(a b c:Cd):Cd:=.tup (.a3 a b c)
abbrev Ct.nv(c:Cd)(r:Ct):Ct:=.ite c .never .nil r
abbrev Ct.r(c x:Cd)(r:Ct):Ct:=.ite c (.ret x) .nil r
abbrev Ct.i(c:Cd)(a r:Ct):Ct:=.ite c a .nil r
abbrev Cd.ad(a b:Cd):Cd:=.bin .Add a b
abbrev Cd.sb(a b:Cd):Cd:=.bin .Sub a b
abbrev Cd.ml(a b:Cd):Cd:=.bin .Mult a b
abbrev Cd.dv(a b:Cd):Cd:=.bin .FloorDiv a b
abbrev Cd.md(a b:Cd):Cd:=.bin .Mod a b
abbrev Cd.lt(a b:Cd):Cd:=.cmp .Lt a b
abbrev Cd.gt(a b:Cd):Cd:=.cmp .Gt a b
abbrev Cd.ne(a b:Cd):Cd:=.cmp .NotEq a b
abbrev Cd.ge(a b:Cd):Cd:=.cmp .GtE a b
noncomputable def uq:Nat->(LV->Prop)->Prop
 |0,Q=>Q []
 |n+1,Q=>∀u,uq n λ l=>Q (u::l)
theorem yH:∀ {n:Nat}{Q:LV->Prop},uq n Q->∀us:LV,us.length=n->Q us
 |0,_,h,us,e=>by rw[qv e];exact h
 |_+1,_,h,_::us,e=>yH (h _) us (Nat.succ.inj e)
structure CM (P:Program)(w:World)(K:FG)(mg:SV)(base:Heap)(J:Hp->Prop)(GT:List TV)(gs:List Str)(D:List DR)(j:Nat):Prop where
 c:Cals P w K mg base J D j
 m:MOk P w K mg J GT gs
 hm:∀ {x:Str}{v:Option Value},W.nsIn K mainGlobals x=some v->mg x=v
noncomputable abbrev ZX'(D:List DR)(GT:List TV)(gs:List Str)(j:Nat)(st:Stmt)(N:List Str)(n p:Nat)(S:PSp)(c:Ct):Prop:=(bH (dFs D j) gs N (ax st).names true c (bv st)&&scB (ax st) (N.take p) N&&decide (p<=N.length/\N.length=n))=true/\∀ts Q,S ts Q->ts.length=p/\wS (dFT D j) GT c (en0 n ts) (λ _=>Q .non) Q
noncomputable def lsB(sc:Scope)(N:List Str)(a:Str):Bool:=decide (sc.kind=.function/\sc.isCoroutine=false/\sc.isGenerator=false/\N.Nodup/\N.take (a::frv sc.names).length=a::frv sc.names/\(sc.names.lookup a=some .local\/sc.names.lookup a=some .cell)/\(∀x∈frv sc.names,sc.names.lookup x=some .free)/\(∀y∈sc.names,y.2=.free->y.1∈frv sc.names)/\∀x∈frv sc.names,∀y∈sc.names,y.2=.cell->y.1≠x)
noncomputable def mkB(st:Stmt)(sc:Scope)(N N':List Str)(js:List Nat)(n n2 p:Nat):Bool:=scB (ax st) (N.take p) N&&lsB sc N' (N'.headD "")&&decide ((p<=N.length/\N.length=n/\N'.length=n2)/\(ax st).names.lookup (hoR st).tb=some .globalImplicit/\((hoR st).tb == ("__debug__" : Str))=false/\js.map (λ j=>N[j]?)=(frv sc.names).map some/\(∀n∈frv sc.names,(ax st).names.lookup n=some .cell)/\(frv sc.names).Nodup/\aO (hoR st).e=true)
noncomputable abbrev ZL'(D:List DR)(GT:List TV)(gs:List Str)(A:TV->List TV->Prop)(jj j:Nat)(st:Stmt)(N N':List Str)(js:List Nat)(n n2 p:Nat)(S:PSp)(c:Ct)(e i:Cd):Prop:=(bH (dFs D j) gs N (ax st).names true c (bv st).dropLast&&ck (dFs D j) gs e N (ax st).names (hoR st).e&&ck (dFs D jj) gs i N' (lmR st).s.names (lmR st).b&&mkB st (lmR st).s N N' js n n2 p)=true/\∀ts Q,S ts Q->ts.length=p/\wS (dFT D j) GT c (en0 n ts) (λ ρ=>wE (dFT D j) GT e ρ λ t=>wHO A js (λ ts b=>wE (dFT D jj) GT i (en0 n2 ts) λ u=>u=b/\b.pl=true) Q ρ t) Q
noncomputable abbrev ZD'(D:List DR)(GT:List TV)(gs:List Str)(A:TV->List TV->Prop)(jj j:Nat)(st:Stmt)(N N':List Str)(js:List Nat)(n n2 p i0:Nat)(S:PSp)(c:Ct)(e:Cd)(i:Ct):Prop:=(bH (dFs D j) gs N (ax st).names true c (bv st).dropLast.dropLast&&ck (dFs D j) gs e N (ax st).names (hoR st).e&&bH (dFs D jj) gs N' (ax (inR st)).names true i (bv (inR st))&&mkB st (ax (inR st)) N N' js n n2 p)=true/\∀ts Q,S ts Q->ts.length=p/\wS (dFT D j) GT c (en0 n ts) (λ ρ=>ρ[i0]?=some none/\wE (dFT D j) GT e ρ λ t=>wHO A js (λ ts b=>wS (dFT D jj) GT i (en0 n2 ts) (λ _=>False) λ u=>u=b) Q ρ t) Q
section
variable {P:Program}{w:World}{K:FG}{mg:SV}{base:Heap}{J:Hp->Prop}{GT:List TV}{gs:List Str}{D:List DR}{L:List (Addr×Pos×Str)}{j jj kk n n2 p i0:Nat}{x ql nn:Str}{N N' pst:List Str}{js:List Nat}{st:Stmt}{S:PSp}{code:Ct}{A:TV->List TV->Prop}{f c T:Addr}{fd:FuncData}
noncomputable abbrev Bds(x:Str)(st:Stmt)(ps:List Str)(p:Nat):Prop:=uq p λ us=>∀(kV doc pm:Value) (an:OA) (cdv ct:Value),bindArgs (W.fnOf x x (cQ st) (bv st) (ax st) .none kV doc pm an cdv ct) ⟨us,[]⟩=pure (ps.zip us)
def Bds.ok(h:Bds x st (N.take p) p)(l:p<=N.length)(f:Addr)(fd:FuncData)(F:Fun K x x st f fd):Binds K fd (N.take p) []:=F.binds λ kV doc pm an cdv ct us hl=>yH h us (by rw[hl,bd,iC l]) kV doc pm an cdv ct
def CM.d(C:CM P w K mg base J GT gs D j)(g:Gx K x st)(z:ZX' D GT gs j st N n p S code)(e:D[j]?=some (x,N.take p,S):=by rfl)(b:Bds x st (N.take p) p:=by repeat' (first|rfl|(refine λ _=>?_))):CM P w K mg base J GT gs D (j+1):=by
 obtain⟨z1,z2⟩:=z;simp only[bF,gG] at z1;obtain⟨⟨k1,k2⟩,k3,rfl⟩:=z1;exact⟨JO code C.c C.m C.hm e g (qC k2) (b.ok k3) k1 (λ ts Q h=>by rw[(z2 ts Q h).1,bd,iC k3]) λ ts Q h=>(z2 ts Q h).2,C.m,C.hm⟩
def CM.law(C:CM P w K mg base J GT gs D j)(g:Gl' K x st f fd)(z:ZX' D GT gs j st N n p ue code):FnOk P w K mg base CX0 (j+1) f fd (N.take p) (uf K J):=by
 obtain⟨z1,z2⟩:=z;simp only[bF,gG] at z1;obtain⟨⟨k1,k2⟩,k3,rfl⟩:=z1;exact JP (yv code g.F (qC k2) C.m (kB j) C.c.fns k1 (λ ts Q h=>by rw[(z2 ts Q h).1,bd,iC k3]) λ ts Q h=>(z2 ts Q h).2)
def yI(h:lsB sc N a=true):LmScope N [a] (frv sc.names) sc:=lsq sc N a (aC h)
theorem CM.l(C:CM P w K mg base (TbJ L) GT gs D j)(t:GlT' K x st f fd c T)(TF:TabF base mg c T)(mT:(T,(lmR st).p,ql)∈L)(nd:(L.map (·.1)).Nodup)(ho:Callee P w K mg base CX0 kk (hoR st).tb pst (kC P w K mg base L (jj+1) A))(z:ZL' D GT gs A jj j st N N' js n n2 p S code e i)
  (q:D[j]?=some (x,N.take p,S):=by rfl) (b:Bds x st (N.take p) p:=by repeat' (first|rfl|(refine λ _=>?_))) (jl:jj<=j/\kk<=j:=by decide) (df:∀env,defaultsOf (lmR st).a env=([],[]):=by intro;rfl) (hq:∀n f cd,(envOfC x (ax st) n f cd).qual ++ "<lambda>"=ql:=by intros;rfl)
  (hbd:bv st=(bv st).dropLast++[.Return (some (.Call (.Name (hoR st).tb (hoR st).p1) [(hoR st).e,.Lambda (lmR st).a (lmR st).b (lmR st).s (lmR st).p] [] (hoR st).p2)) (hoR st).p3]:=by kernel_rfl)
  (hb:∀(cl:LA) (c':Addr) (pm ctv u:Value),bindArgs (kla_fn "<lambda>" ql (lmR st).a (lmR st).b (lmR st).s cl pm (.ref c') ctv) ⟨[u],[]⟩=pure [(N'.headD "",u)]:=by intros;rfl):CM P w K mg base (TbJ L) GT gs D (j+1):=by
 obtain⟨z1,z2⟩:=z;simp only[mkB,bF,gG] at z1;obtain⟨⟨⟨k1,k2⟩,k3⟩,⟨k4,k5⟩,⟨k6,rfl,rfl⟩,k7⟩:=z1;exact⟨Ka code e i C.c C.m C.hm q t TF mT nd (qC k4) (b.ok k6) (ho.mono jl.2) jl.1 (yI k5) k7 df hq hbd (λ cl c' pm ctv us hl=>by match us,hl with|[u],_=>exact hb cl c' pm ctv u) (by rw[k1,k2,k3];rfl) (λ ts Q h=>by rw[(z2 ts Q h).1,bd,iC k6]) (λ ts Q h=>(z2 ts Q h).2),C.m,C.hm⟩
theorem CM.k(C:CM P w K mg base (TbJ L) GT gs D j)(t:GlT' K x st f fd c T)(TF:TabF base mg c T)(mT:(T,inP st,ql)∈L)(nd:(L.map (·.1)).Nodup)(ho:Callee P w K mg base CX0 kk (hoR st).tb pst (kC P w K mg base L (jj+1) A))(nn:Str)(z:ZD' D GT gs A jj j st N N' js n n2 p i0 S code e i)
  (hn:N[i0]?=some nn/\(ax st).names.lookup nn=some .local/\(nn == ("__debug__" : Str))=false/\(nn == ("__classdict__" : Str))=false/\∀j∈js,j≠i0:=by decide +kernel)
  (q:D[j]?=some (x,N.take p,S):=by rfl) (b:Bds x st (N.take p) p:=by repeat' (first|rfl|(refine λ _=>?_))) (jl:jj<=j/\kk<=j:=by decide) (d0:(cQ (inR st)).defaults=[]:=by rfl) (d1:(cQ (inR st)).kw_defaults=[]:=by rfl) (ha:∀env,annTrees (cQ (inR st)) none env=[]:=by intro;rfl) (df:∀env,defaultsOf (cQ (inR st)) env=([],[]):=by intro;rfl) (hq:∀n f cd,qualnameIn (envOfC x (ax st) n f cd) nn nn=ql:=by intros;rfl)
  (hbd:bv st=(bv st).dropLast.dropLast++[.FunctionDef nn (cQ (inR st)) (bv (inR st)) [] none [] (ax (inR st)) none nn (inP st),.Return (some (.Call (.Name (hoR st).tb (hoR st).p1) [(hoR st).e,.Name nn (inQ st)] [] (hoR st).p2)) (hoR st).p3]:=by kernel_rfl)
  (hb:∀(cl:LA) (c':Addr) (doc pm ctv u:Value),bindArgs (fnX nn ql (cQ (inR st)) (bv (inR st)) (ax (inR st)) cl .none .none doc pm none (.ref c') ctv) ⟨[u],[]⟩=pure [(N'.headD "",u)]:=by intros;rfl):CM P w K mg base (TbJ L) GT gs D (j+1):=by
 obtain⟨z1,z2⟩:=z;simp only[mkB,bF,gG] at z1;obtain⟨⟨⟨k1,k2⟩,k3⟩,⟨k4,k5⟩,⟨k6,rfl,rfl⟩,k7⟩:=z1;exact⟨Kb code e i C.c C.m C.hm q t TF mT nd (qC k4) (b.ok k6) (ho.mono jl.2) jl.1 (yI k5) k7 hn d0 d1 ha df hq hbd (λ cl c' doc pm ctv us hl=>by match us,hl with|[u],_=>exact hb cl c' doc pm ctv u) (by rw[k1,k2,k3];rfl) (λ ts Q h=>by rw[(z2 ts Q h).1,bd,iC k6]) (λ ts Q h=>(z2 ts Q h).2),C.m,C.hm⟩
end
end _L
namespace _M
open PySem _L PyProof.Rows
noncomputable def formsL:List (Str×List (Str×Int)):=[("in",[("sides",1)]),("num",[("number",1)]),("count",[("small",2),("sides",1)]),("each",[("word",1),("step",2)]),("pair",[("word",1),("step",2),("step",3)]),("pick",[("step",1),("step",2),("step",3)]),("turn",[("step",1),("sides",2)]),("flip",[("step",1),("small",2)]),("cut",[("step",1),("small",2),("small",3),("small",4),("small",5)]),("spread",[("step",1),("small",2),("small",3)]),("lay",[("step",1),("sides",2)]),("join",[("step",1),("step",2),("small",3)]),("fetch",[("step",1),("step",2)]),("fold",[("word",1),("step",2),("small",3)]),("run",[("word",1),("step",2),("small",3)])]
noncomputable def ur(K:FG):List (Str×Int)->List V->Prop
 |[],[]=>True
 |f::fs,x::xs=>(∃a,x=.ref a/\KTup K a [.str f.1,.int f.2])/\ur K fs xs
 |_,_=>False
noncomputable def ut(K:FG):List (Str×List (Str×Int))->LA->Prop
 |[],[]=>True
 |f::fs,p::ps=>(p.1=f.1/\∃xs,KTup K p.2 xs/\ur K f.2 xs)/\ut K fs ps
 |_,_=>False
noncomputable def yJ(P:Program)(w:World)(K:FG)(d:Addr):Prop:=∃kvs,KTab P w K d kvs/\ut K formsL kvs
def og{K:FG}{sl:AV}(h:K.lookup a=some ⟨.type "tuple",none,.seq its n,sl⟩)(z:its.size<=sizeLine)(v:Vals xs its.toList):KTup K a xs:=⟨_,its,n,h,rfl,rfl,rfl,z,v⟩
def ae(ns:LI):Int:=ns.foldl (λ a b=>a*b) 1
def kD{ns:LI}{i:Nat}(h:ns[i]?=some x):ae (ns.take (i+1))=ae (ns.take i)*x:=by
 unfold ae;rw[fR,h,List.foldl_append];rfl
def aD(ns:LI):Prop:=∀n∈ns,0<=n/\n<1000000000000000000
def ah(n:Int):Int:=if n=0 then 1 else n
def yK(h:aD ns):aD (ns.map ah):=by
 intro n hn;obtain⟨m,hm,rfl⟩:=bG.mp hn;have:=h m hm;unfold ah;split<;>lia
def stP(ns:LI)(j:Nat):Int:=ae (ns.reverse.take j)
def stL(ns:LI)(i:Nat):LI:=(List.range i).map (stP ns)
def uu(ns:LI)(i:Nat):stL ns (i+1)=stL ns i++[stP ns i]:=by
 unfold stL;rw[oh,bK];rfl
def yL{ns:LI}{i:Nat}(hi:i<ns.length)(h:ns[ns.length-1-i]?=some m):stP ns (i+1)=stP ns i*m:=by
 unfold stP;exact kD (by rw[jY hi];exact h)
def bP(ns:LI):Prop:=6<ns.length\/512<ae (ns.map ah)
noncomputable def bD(ns ms:LI):Prop:=ms.length=ns.length/\∀(i:Nat) m n,ms[i]?=some m->ns[i]?=some n->0<=m/\m<n
def eG(ms ss:LI):Int:=(List.zipWith (λ a b=>a*b) ms ss).sum
noncomputable def lfI(ns:LI)(place:Int):Nat->Int
 |0=>place
 |i+1=>lfI ns place i/ns.reverse.getD i 1
noncomputable def dgI(ns:LI)(place:Int)(i:Nat):Int:=lfI ns place i%ns.reverse.getD i 1
noncomputable def dgL(ns:LI)(place:Int)(i:Nat):LI:=(List.range i).map (dgI ns place)
def yM(ns:LI)(p:Int)(i:Nat):dgL ns p (i+1)=dgL ns p i++[dgI ns p i]:=by
 unfold dgL;rw[oh,bK];rfl
def qD{ns:LI}{i:Nat}(hi:i<ns.length)(h:ns[ns.length-1-i]?=some m):ns.reverse.getD i 1=m:=by
 rw[aR,jY hi,h];rfl
def qE(xs:LI)(y:Int):ae (xs++[y])=ae xs*y:=by unfold ae;rw[List.foldl_append];rfl
def Kc(xs:LI):∀a:Int,xs.foldl (λ a b=>a*b) a=a*ae xs:=by
 induction xs with
 |nil=>intro a;show a=a*1;rw[s0t]
 |cons x xs ih=>intro a;show xs.foldl (λ a b=>a*b) (a*x)=a*(xs.foldl (λ a b=>a*b) (1*x));rw[ih,ih (1*x),mD,kE]
def bz(x:Int)(xs:LI):ae (x::xs)=x*ae xs:=by
 show xs.foldl (λ a b=>a*b) (1*x)=_;rw[Kc,mD]
def Kd(ns:LI):ae ns.reverse=ae ns:=by
 induction ns with
 |nil=>rfl
 |cons x xs ih=>rw[iq,qE,bz,ih,gH]
def uv(h:ae ns≠0):∀n∈ns,n≠0:=by
 induction ns with
 |nil=>intro n hn;cases hn
 |cons x xs ih=>
  rw[bz] at h;intro n hn
  rcases aL.mp hn with rfl|hn
  ·intro z;rw[z,Int.zero_mul] at h;exact h rfl
  ·exact ih (λ z=>h (by rw[z,Int.mul_zero])) n hn
def yN(ns:LI):stP ns ns.length=ae ns:=by
 unfold stP;rw[<- iI,cy,Kd]
def iN{ns:LI}(h:∀n∈ns,0<=n):0<=ae ns:=by
 induction ns with
 |nil=>decide
 |cons x xs ih=>rw[bz];exact oj (h x (bo ..)) (ih λ n hn=>h n (aE _ hn))
def yO(h:aD ns)(i:Nat):0<=stP ns i:=iN λ n hn=>(h n (um.mp (jA hn))).1
noncomputable def jB(ns:LI)(pl:Int):Nat->Int
 |0=>0
 |i+1=>jB ns pl i+dgI ns pl i*stP ns i
def uw(ns:LI){i:Nat}(hi:i<ns.length):∃m,ns[ns.length-1-i]?=some m/\m∈ns:=by
 have z:ns.length-1-i<ns.length:=by omega
 exact⟨ns[ns.length-1-i],aB z,jo z⟩
theorem yP{ns:LI}:∀i,i<=ns.length->jB ns pl i+stP ns i*lfI ns pl i=pl
 |0,_=>by show 0+1*pl=pl;lia
 |i+1,h=>by
  obtain⟨m,hm,_⟩:=uw ns (i:=i) ca;have ih:=yP (ns:=ns) (pl:=pl) i ca;rw[yL ca hm];show jB ns pl i+dgI ns pl i*stP ns i+stP ns i*m*(lfI ns pl i/_)=pl;have rg:=qD ca hm;unfold dgI;rw[rg];have e:=Int.mul_ediv_add_emod (lfI ns pl i) m;have e2:stP ns i*m*(lfI ns pl i/m)=stP ns i*(m*(lfI ns pl i/m)):=kE ..;have e3:stP ns i*(m*(lfI ns pl i/m))+stP ns i*(lfI ns pl i%m)=stP ns i*lfI ns pl i:=by rw[<- Int.mul_add,e]
  have e4:lfI ns pl i%m*stP ns i=stP ns i*(lfI ns pl i%m):=gH ..;lia
theorem yQ{pl:Int}(h:aD ns)(h0:0<=pl):∀i,i<=ns.length->0<=lfI ns pl i
 |0,_=>h0
 |i+1,hi=>by
  obtain⟨m,hm,mm⟩:=uw ns (i:=i) ca;show 0<=lfI ns pl i/_;rw[qD ca hm];exact s0b (yQ h h0 i ca) (h m mm).1
def yR{ns:LI}(nz:∀n∈ns,n≠0)(h:aD ns){i:Nat}(hi:i<ns.length)(hm:ns[ns.length-1-i]?=some m):0<=dgI ns pl i/\dgI ns pl i<m:=by
 unfold dgI;rw[qD hi hm];have mm:=aA hm;have m0:=(h m mm).1;have mz:=nz m mm;exact⟨du _ mz,dH _ ca⟩
theorem yS{ns:LI}(nz:∀n∈ns,n≠0)(h:aD ns):∀i,i<=ns.length->0<=jB ns pl i
 |0,_=>jm _
 |i+1,hi=>by
  obtain⟨m,hm,_⟩:=uw ns (i:=i) ca;have a1:=yS (pl:=pl) nz h i ca;have a2:=oj (yR (pl:=pl) nz h ca hm).1 (yO h i);show 0<=jB ns pl i+_;lia
def Kf{pl:Int}(h:aD ns)(h0:0<=pl)(h1:pl<ae ns):jB ns pl ns.length=pl:=by
 have nz:=uv (ns:=ns) ca;have e:=yP (ns:=ns) (pl:=pl) ns.length (ay _);have t:=yS (pl:=pl) nz h ns.length (ay _);have l:=yQ h h0 ns.length (ay _)
 have z:lfI ns pl ns.length=0:=by
  refine Decidable.byContradiction λ nl=>?_;have g:=gS (show 1<=lfI ns pl ns.length by lia) (yO h ns.length);rw[yN] at g e;lia
 rw[z,Int.mul_zero] at e;lia
def Kg{ns:LI}{k:Nat}(hk:k<ns.length):(dgL ns pl ns.length).reverse[k]?=some (dgI ns pl (ns.length-1-k)):=by
 have l:(dgL ns pl ns.length).length=ns.length:=by rw[dgL,ao,bQ]
 have z:ns.length-1-k<ns.length:=ca;rw[jY (by rw[l];exact hk),l,dgL,aQ,iH z];rfl
theorem yT(ns:LI)(pl:Int):∀n,eG (dgL ns pl n).reverse (stL ns n).reverse=jB ns pl n
 |0=>rfl
 |n+1=>by
  rw[yM,uu,jC,jC];show dgI ns pl n*stP ns n+eG (dgL ns pl n).reverse (stL ns n).reverse=jB ns pl n+dgI ns pl n*stP ns n;rw[yT ns pl n,Int.add_comm]
def Kh{ns:LI}(nz:∀n∈ns,n≠0)(h:aD ns):bD ns (dgL ns pl ns.length).reverse:=by
 refine⟨by rw[iI,dgL,ao,bQ],λ i m n hm hn=>?_⟩;have hi:=(bf.mp hn).1;rw[Kg hi] at hm;cases hm;exact yR nz h ca (by rw[show ns.length-1-(ns.length-1-i)=i by lia];exact hn)
def kF(ns:LI)(k:Nat):Int:=ns.getD k 0
noncomputable def fit(ns:LI):Prop:=(∀n∈ns,0<=n/\n<=512)/\ns.length<=6/\1<=ae (ns.map ah)/\ae (ns.map ah)<=512
noncomputable def grow(ns:LI)(free:Int)(i:Nat):Prop:=(∀n∈ns,0<=n/\n<=512)/\ns.length=i/\1<=free/\free<=512/\1<=ae (ns.map ah)/\free*ae (ns.map ah)<=512
def off(ns:LI)(side:Int):Prop:=side<0\/(ns.length:Int)<=side
noncomputable def bad(ns:LI)(side first many step:Int):Prop:=first<0\/many<0\/step<1\/(0<many/\ns.getD side.toNat 0<=first+(many-1)*step)
def cZ(h:¬off ns side):∃k:Nat,side=k/\k<ns.length:=by
 unfold off at h;exact⟨side.toNat,ca,ca⟩
instance (ns:LI):Decidable (bP ns):=by unfold bP;infer_instance
def agr(x y:LI):Prop:=∀k:Nat,k<x.length->k<y.length->x[k]?=y[k]?
def Ki(x:LI):agr x x:=λ _ _ _=>rfl
def yU(h:agr x y):agr y x:=λ k a b=>(h k b a).symm
def uy{x y:LI}(h:x.length<=y.length):agr x y ↔ y.take x.length=x:=by
 constructor
 ·intro a;apply lV;intro k;by_cases c:k<x.length
  ·rw[ng c];exact(a k c ca).symm
  ·rw[gu (by rw[bd];lia),gu ca]
 ·intro e k hx hy;have z:=bE (λ l=>l[k]?) e;simp only[ng hx] at z;exact z.symm
noncomputable def bZ(x y:LI):Prop:=if y.length<x.length then x.take y.length=y else y.take x.length=x
def au(x y:LI):LI:=if y.length<x.length then x else y
def yV(x y:LI):bZ x y ↔ agr x y:=by
 unfold bZ;split
 ·rename_i h;exact(uy ca).symm.trans ⟨yU,yU⟩
 ·rename_i h;exact(uy ca).symm
def Kj(h:agr x y)(l:x.length=y.length):x=y:=by
 have z:=(uy (x:=x) (y:=y) ca).mp h;rw[l,cy] at z;exact z.symm
noncomputable def tups(H:Hp)(ps:List Addr)(L:LL):Prop:=ps.length=L.length/\∀(i:Nat) p m,ps[i]?=some p->L[i]?=some m->H p=some (.tup (m.map V.int))
def sm(ns:LI):Prop:=∀n∈ns,0<=n/\n<=1000000
def fc(h:sm ns):aD ns:=λ n hn=>by have:=h n hn;lia
def yW{v:Int}(h:sm ns)(h0:0<=v)(h1:v<=1000000):sm (ns.set k v):=λ n hn=>by
 rcases mE hn with z|z
 ·exact h n z
 ·lia
noncomputable def aZ(ns ms:LI)(side:Int):LI:=ns.set side.toNat (ns.getD side.toNat 0+ms.getD side.toNat 0)
def yX{ns ms:LI}(l:ns.length=ms.length):ns.eraseIdx k=ms.eraseIdx k ↔ ∀i:Nat,i≠k->ns[i]?=ms[i]?:=by
 constructor
 ·intro e i ne;by_cases c:i<k
  ·have z:=bE (λ l=>l[i]?) e;simp only[kG,if_pos c] at z;exact z
  ·have z:=bE (λ l=>l[i-1]?) e;simp only[kG,if_neg (show ¬i-1<k by lia),show i-1+1=i by lia] at z;exact z
 ·intro h;apply lV;intro i;rw[kG,kG];split
  ·exact h i ca
  ·exact h (i+1) ca
def yY{n k:Nat}(h:k<n):ixN n (k:Int)=some k:=by unfold ixN;rw[if_pos ca];simp;lia
def getD_mem{ns:LI}{k:Nat}(h:k<ns.length):ns.getD k 0∈ns:=by rw[aR,aB h];exact jo h
def atD(ns:LI)(p:Int):LI:=(dgL ns p ns.length).reverse
def dw(ns:LI)(p:Int):(atD ns p).length=ns.length:=by simp[atD,dgL]
theorem yZ(ns:LI)(n p:Int):∀i,lfI (ns++[n]) p (i+1)=lfI ns (p/n) i
 |0=>by
  show p/(ns++[n]).reverse.getD 0 1=p/n;rw[jC];rfl
 |i+1=>by
  show lfI (ns++[n]) p (i+1)/(ns++[n]).reverse.getD (i+1) 1=lfI ns (p/n) i/ns.reverse.getD i 1;rw[yZ ns n p i,jC];rfl
def Kk(ns:LI)(n p:Int)(i:Nat):dgI (ns++[n]) p (i+1)=dgI ns (p/n) i:=by
 unfold dgI;rw[yZ,jC];rfl
def Kl(ns:LI)(n p:Int):dgI (ns++[n]) p 0=p%n:=by
 show p%(ns++[n]).reverse.getD 0 1=p%n;rw[jC];rfl
def qF(ns:LI)(n p:Int):atD (ns++[n]) p=atD ns (p/n)++[p%n]:=by
 unfold atD dgL;rw[aN,dO,tF,aX,iq,Kl,br]
 congr 2
 exact jy λ i _=>Kk ns n p i
def zb{p B n:Int}(hn:0<n):p/(B*n)=p/n/B:=by
 rw[gH,Int.ediv_mul,if_neg ca,Int.add_zero]
def Km{p B n:Int}(hn:0<n):p%(B*n)/n=p/n%B:=by
 have e:p%(B*n)=p+n*(-(B*(p/(B*n)))):=by
  rw[s1v,s1j,Int.mul_neg]
  congr 2
  rw[<- kE,gH n B]
 rw[e,s0c _ _ ca,s1v (p/n) B,<- zb hn,s1j]
def qG(a:LI):∀b:LI,ae (a++b)=ae a*ae b:=by
 induction a with
 |nil=>intro b;show ae b=1*ae b;rw[mD]
 |cons x a ih=>intro b;rw[nG,bz,bz,ih,kE]
def Ko{α:Type}{P:List α->Prop}(h0:P [])(h1:∀l x,P l->P (l++[x]))(l:List α):P l:=by
 have:∀l:List α,P l.reverse:=λ l=>by
  induction l with
  |nil=>exact h0
  |cons x l ih=>rw[iq];exact h1 _ _ ih
 rw[<- List.reverse_reverse l];exact this _
def uz(a:LI)(b:LI):(∀n∈b,0<n)->∀p:Int,atD (a++b) p=atD a (p/ae b)++atD b (p%ae b):=by
 refine Ko (P:=λ b=>(∀n∈b,0<n)->∀p:Int,atD (a++b) p=atD a (p/ae b)++atD b (p%ae b)) ?_ ?_ b
 ·intro _ p;show atD (a++[]) p=atD a (p/1)++[];rw[fG,fG,s1o]
 ·intro b n ih h p;have hn:0<n:=h n on;rw[<- eX,qF,ih (λ m hm=>h m (by simp[hm])),qF,qE,zb hn,Km hn,eX,Int.emod_emod_of_dvd p ⟨ae b,gH _ _⟩]
def mF{ns:LI}(h:∀n∈ns,0<n):0<ae ns:=by
 induction ns with
 |nil=>decide
 |cons x xs ih=>rw[bz];exact Int.mul_pos (h x (bo ..)) (ih λ n hn=>h n (aE _ hn))
noncomputable def bR(ns:LI):LL:=(List.range (ae ns).toNat).map λ p:Nat=>atD ns (p:Int)
theorem ze(n:Nat):∀P:Nat,List.range (P*n)=(List.range P).flatMap λ q=>(List.range n).map λ k=>q*n+k
 |0=>by simp
 |P+1=>by
  rw[Nat.succ_mul,List.range_add,ze n P,oh,qH];simp
theorem zi{α β:Type}{f g:α->List β}:∀ {l:List α},(∀a∈l,f a=g a)->l.flatMap f=l.flatMap g
 |[],_=>rfl
 |a::l,h=>by rw[qI,qI,h a bo,zi λ b hb=>h b (aE _ hb)]
def Kp{ns:LI}{n:Int}(h0:∀m∈ns,0<=m)(hn:0<=n):bR (ns++[n])=(bR ns).flatMap λ t=>(List.range n.toNat).map λ k:Nat=>t++[(k:Int)]:=by
 unfold bR;have pn:=iN h0;rw[qE,show(ae ns*n).toNat=(ae ns).toNat*n.toNat from Int.toNat_mul pn hn,ze,List.map_flatMap,List.flatMap_map];refine zi λ q _=>?_;rw[br];refine jy λ k hk=>?_;have kn:(k:Int)<n:=by have:=fq.mp hk;lia
 show atD (ns++[n]) ((q*n.toNat+k:Nat):Int)=atD ns (q:Int)++[(k:Int)]
 have e:((q*n.toNat+k:Nat):Int)=(k:Int)+n*(q:Int):=by
  rw[Int.natCast_add,Int.natCast_mul,show((n.toNat:Nat):Int)=n by lia,Int.add_comm,gH]
 rw[qF,e,s0c _ _ ca,Int.add_mul_emod_self_left,zk ca kn,Int.emod_eq_of_lt ca kn,Int.zero_add]
def uA(ns:LI):(bR ns).length=(ae ns).toNat:=by simp[bR]
def Kq{i:Nat}(h:i<(ae ns).toNat):(bR ns)[i]?=some (atD ns (i:Int)):=by
 unfold bR;rw[aQ,iH h];rfl
def plH(ns ms:LI):Int:=eG ms (stL ns ns.length).reverse
def kH{p:Int}(h:aD ns)(h0:0<=p)(h1:p<ae ns):plH ns (atD ns p)=p:=by
 unfold plH atD;rw[yT,Kf h h0 h1]
def oo{p:Int}(h:aD ns)(h0:0<=p)(h1:p<ae ns):∀n∈ns,0<n:=λ n hn=>by
 have a:=uv (ns:=ns) ca n hn;have b:=h n hn;lia
def dJ{p:Int}(h:aD ns)(h0:0<=p)(h1:p<ae ns):bD ns (atD ns p):=Kh (λ n hn=>by have:=oo h h0 h1 n hn;lia) h
def zm(n:Int)(ns:LI){j:Nat}(h:j<=ns.length):stP (n::ns) j=stP ns j:=by
 unfold stP;rw[iq,qJ (by simpa using h)]
def uB(n:Int)(ns:LI):(stL (n::ns) (n::ns).length).reverse=ae ns::(stL ns ns.length).reverse:=by
 rw[List.length_cons,uu,jC,zm n ns (ay _),yN];show ae ns::(stL (n::ns) ns.length).reverse=_
 congr 2
 unfold stL;exact jy λ j hj=>zm n ns (dN (fq.mp hj))
def kI(n m:Int)(ns ms:LI):plH (n::ns) (m::ms)=m*ae ns+plH ns ms:=by
 unfold plH;rw[uB];show(List.zipWith _ (m::ms) (ae ns::_)).sum=_;rw[mG,List.sum_cons];rfl
def Kr(ns:LI)(n:Int):(stL (ns++[n]) (ns++[n]).length).reverse=((stL ns ns.length).reverse.map λ s=>s*n)++[1]:=by
 unfold stL;rw[aN,dO,tF,aX,iq,br,<- oq,<- oq,br]
 congr 1
 refine jy λ j _=>?_;show ae ((ns++[n]).reverse.take (j+1))=ae (ns.reverse.take j)*n;rw[jC];show ae (n::ns.reverse.take j)=_;rw[bz,gH]
theorem zn(n:Int):∀(ms ss:LI),eG ms (ss.map λ s=>s*n)=eG ms ss*n
 |[],_=>by simp[eG]
 |_::_,[]=>by simp[eG]
 |m::ms,s::ss=>by
  show m*(s*n)+eG ms (ss.map λ s=>s*n)=(m*s+eG ms ss)*n;rw[zn n ms ss,Int.add_mul,kE]
theorem zq(m:Int):∀ {ms ss:LI},ms.length=ss.length->eG (ms++[m]) (ss++[1])=eG ms ss+m
 |[],[],_=>by simp[eG]
 |[],_::_,h=>by simp at h
 |_::_,[],h=>by simp at h
 |a::ms,s::ss,h=>by
  show a*s+eG (ms++[m]) (ss++[1])=a*s+eG ms ss+m;rw[zq m (by simpa using h),Int.add_assoc]
def Ks{ns ms:LI}(n m:Int)(h:ms.length=ns.length):plH (ns++[n]) (ms++[m])=plH ns ms*n+m:=by
 unfold plH;rw[Kr,zq m (by simp[stL,h]),zn]
def Kt{ns ms:LI}{i:Nat}(hl:ms.length=ns.length)(hn:ns[i]?=some n)(hm:ms[i]?=some m):plH (ns.take (i+1)) (ms.take (i+1))=plH (ns.take i) (ms.take i)*n+m:=by
 rw[fR,fR,hn,hm];exact Ks n m (by rw[bd,bd,hl])
theorem gU:∀ {ns ms:LI},bD ns ms->0<=plH ns ms/\plH ns ms<ae ns
 |[],[],_=>by decide
 |[],_::_,h=>by have:=h.1;simp at this
 |_::_,[],h=>by have:=h.1;simp at this
 |n::ns,m::ms,h=>by
  have g:bD ns ms:=⟨by have:=h.1;simpa using this,λ i a b e1 e2=>h.2 (i+1) a b (by simpa using e1) (by simpa using e2)⟩;have ih:=gU g;have m0:=h.2 0 m n rfl rfl;rw[kI,bz];have e:n*ae ns=m*ae ns+(n-m)*ae ns:=by rw[<- Int.add_mul];congr 1;lia
  have e2:ae ns<=(n-m)*ae ns:=by
   have:1*ae ns<=(n-m)*ae ns:=gW ca ca;lia
  have e3:0<=m*ae ns:=oj m0.1 ca;lia
def zr{n m:Int}(h:bD ns ms)(h0:0≤m)(h1:m < n):bD (n::ns) (m::ms):=⟨by simp[h.1],λ i a b e1 e2=>by
 cases i with
 |zero=>cases (bJ e1);cases (bJ e2);exact⟨h0,h1⟩
 |succ i=>exact h.2 i a b (by simpa using e1) (by simpa using e2)⟩
noncomputable def mH(n:Int):Int:=if n%17=5 then [(-9223372036854775808:Int),9223372036854775807,-1,4611686018427387904].getD (n/17%4).toNat 0 else (n+9223372036854775808)%18446744073709551616-9223372036854775808
theorem bS:∀ {ns:LI},(∀n∈ns,0<=n)->0<=ae ns/\ae ns<=ae (ns.map ah)
 |[],_=>by decide
 |n::ns,h=>by
  obtain⟨i0,i1⟩:=bS (ns:=ns) λ m hm=>h m (aE _ hm);have n0:=h n bo;rw[aX,bz,bz];have o:n<=ah n/\0<=ah n:=by unfold ah;split<;>lia
  exact⟨oj n0 i0,s0s o.1 i1 i0 o.2⟩
def Ku(h:aD a)(g:aD b):aD (a++b):=λ n hn=>(cg.mp hn).elim (h n) (g n)
def zu{i a b:Int}(hb:0<b)(i0:0<=i)(h:i<a*b):0<=i/b/\i/b<a:=⟨s0b i0 ca,Int.ediv_lt_of_lt_mul hb h⟩
def Kv{ns:LI}(h:∀n∈ns,0<=n)(i:Nat):ae (ns.take i)<=ae (ns.map ah):=by
 have a:=bS (ns:=ns.take i) λ n hn=>h n (jA hn);have e:ns.map ah=(ns.take i).map ah++(ns.drop i).map ah:=by rw[<- bK,jD]
 have b:1<=ae ((ns.drop i).map ah):=by
  have:=mF (ns:=(ns.drop i).map ah) λ n hn=>by
   obtain⟨m,hm,rfl⟩:=bG.mp hn;have:=h m (kJ hm);unfold ah;split<;>lia
  lia
 rw[e,qG];have:=gS b (show 0<=ae ((ns.take i).map ah) by lia);lia
def fT{ns:LI}{k:Nat}(hk:k<ns.length):ns[k]?=some (ns.getD k 0):=by rw[aR,aB hk];rfl
noncomputable def cD(n:Int):Int:=(n+9223372036854775808)%18446744073709551616-9223372036854775808
def kK(x y:Int):Int:=if y=0 then 0 else cD (Int.fdiv x y)
def kL(x y:Int):Int:=if y=0 then x else Int.fmod x y
noncomputable def aW(w:Str)(x y:Int):Int :=
 if w="add" then cD (x+y) else if w="sub" then cD (x-y) else if w="mul" then cD (x*y) else if w="quo" then kK x y else if w="rest" then kL x y
 else if w="max" then (if x<y then y else x) else if w="min" then (if y<x then y else x) else if w="less" then (if x<y then 1 else 0) else if w="like" then (if x=y then 1 else 0)
 else if w="and" then Builtin.bitAnd x y else if w="or" then Builtin.bitOr x y else Builtin.bitXor x y
def zw(x y:Int):aW "add" x y=(cD (x+y)):=by unfold aW;rw[if_pos rfl]
def zx(x y:Int):aW "sub" x y=(cD (x-y)):=by unfold aW;rw[if_neg (by decide +kernel),if_pos rfl]
def zy(x y:Int):aW "mul" x y=(cD (x*y)):=by unfold aW;rw[if_neg (by decide +kernel),if_neg (by decide +kernel),if_pos rfl]
def zz(x y:Int):aW "quo" x y=(kK x y):=by unfold aW;rw[if_neg (by decide +kernel),if_neg (by decide +kernel),if_neg (by decide +kernel),if_pos rfl]
def zA(x y:Int):aW "rest" x y=(kL x y):=by unfold aW;rw[if_neg (by decide +kernel),if_neg (by decide +kernel),if_neg (by decide +kernel),if_neg (by decide +kernel),if_pos rfl]
def zB(x y:Int):aW "max" x y=(if x<y then y else x):=by unfold aW;rw[if_neg (by decide +kernel),if_neg (by decide +kernel),if_neg (by decide +kernel),if_neg (by decide +kernel),if_neg (by decide +kernel),if_pos rfl]
def zD(x y:Int):aW "min" x y=(if y<x then y else x):=by unfold aW;rw[if_neg (by decide +kernel),if_neg (by decide +kernel),if_neg (by decide +kernel),if_neg (by decide +kernel),if_neg (by decide +kernel),if_neg (by decide +kernel),if_pos rfl]
def zE(x y:Int):aW "less" x y=(if x<y then 1 else 0):=by unfold aW;rw[if_neg (by decide +kernel),if_neg (by decide +kernel),if_neg (by decide +kernel),if_neg (by decide +kernel),if_neg (by decide +kernel),if_neg (by decide +kernel),if_neg (by decide +kernel),if_pos rfl]
def zF(x y:Int):aW "like" x y=(if x=y then 1 else 0):=by unfold aW;rw[if_neg (by decide +kernel),if_neg (by decide +kernel),if_neg (by decide +kernel),if_neg (by decide +kernel),if_neg (by decide +kernel),if_neg (by decide +kernel),if_neg (by decide +kernel),if_neg (by decide +kernel),if_pos rfl]
def zG(x y:Int):aW "and" x y=(Builtin.bitAnd x y):=by unfold aW;rw[if_neg (by decide +kernel),if_neg (by decide +kernel),if_neg (by decide +kernel),if_neg (by decide +kernel),if_neg (by decide +kernel),if_neg (by decide +kernel),if_neg (by decide +kernel),if_neg (by decide +kernel),if_neg (by decide +kernel),if_pos rfl]
def zH(x y:Int):aW "or" x y=(Builtin.bitOr x y):=by unfold aW;rw[if_neg (by decide +kernel),if_neg (by decide +kernel),if_neg (by decide +kernel),if_neg (by decide +kernel),if_neg (by decide +kernel),if_neg (by decide +kernel),if_neg (by decide +kernel),if_neg (by decide +kernel),if_neg (by decide +kernel),if_neg (by decide +kernel),if_pos rfl]
def zI(x y:Int):aW "xor" x y=(Builtin.bitXor x y):=by unfold aW;rw[if_neg (by decide +kernel),if_neg (by decide +kernel),if_neg (by decide +kernel),if_neg (by decide +kernel),if_neg (by decide +kernel),if_neg (by decide +kernel),if_neg (by decide +kernel),if_neg (by decide +kernel),if_neg (by decide +kernel),if_neg (by decide +kernel),if_neg (by decide +kernel)]
noncomputable abbrev tw:List Str:=["add","sub","mul","quo","rest","max","min","less","like","and","or","xor"]
noncomputable def inB(x:Int):Prop:=-9223372036854775808<=x/\x<9223372036854775808
def zJ(n:Int):inB (mH n):=by
 unfold mH inB;split
 ·have h:n/17%4=0\/n/17%4=1\/n/17%4=2\/n/17%4=3:=by lia
  rcases h with h|h|h|h<;>rw[h]<;>exact⟨fu,fu⟩
 ·lia
def uC(x:Int):Int:=if x<0 then -x else x
noncomputable def eH(w:Str)(x:Int):Int:=if w="neg" then cD (-x) else if w="abs" then cD (uC x) else if w="sign" then (if x<0 then -1 else if 0<x then 1 else 0) else if x=0 then 1 else 0
def jE:List Str:=["neg","abs","sign","not"]
noncomputable def fU:List Str:=["add","sub","mul","quo","rest","max","min","less","like","and","or","xor"]
noncomputable def bx(ns cs ms:LI)(i:Nat):Int:=cs.getD (plH ns ((atD ms (i:Int)).take ns.length)).toNat 0
noncomputable def cO(ns cs ms:LI):LI:=(List.range (ae ms).toNat).map (bx ns cs ms)
def jF(ns cs ms:LI):(cO ns cs ms).length=(ae ms).toNat:=by unfold cO;rw[ao,bQ]
def zK(k:Nat)(g:bD ns ms):bD (ns.take k) (ms.take k):=by
 obtain⟨l,g⟩:=g;refine⟨by rw[bd,bd,l],λ i m n em en=>?_⟩;rw[qz] at em en;split at em
 ·rename_i c;rw[if_pos c] at en;exact g i m n em en
 ·cases em
def zM(h:inB x):cD x=x:=by unfold inB at h;unfold cD;lia
def Kw(x:Int):((if 0<x then 1 else 0)-if x<0 then 1 else 0:Int)=if x<0 then -1 else if 0<x then 1 else 0:=by split<;>split<;>lia
def qK(h:bZ x y):(au x y).take x.length=x/\(au x y).take y.length=y:=by
 unfold bZ at h;unfold au;split at h
 ·rename_i c;rw[if_pos c];exact⟨cy,h⟩
 ·rename_i c;rw[if_neg c];exact⟨h,cy⟩
def Kx(x y:LI):au x y=x\/au x y=y:=by unfold au;split<;>simp
def iO{P:LI->Prop}(hx:P x)(hy:P y):P (au x y):=(Kx x y).elim (λ e=>by rw[e];exact hx) (λ e=>by rw[e];exact hy)
def zN{ns cs ms:LI}(h:∀c∈cs,inB c):∀x∈cO ns cs ms,inB x:=λ x hx=>by
 unfold cO at hx;obtain⟨i,_,rfl⟩:=bG.mp hx;unfold bx;rw[aR]
 cases e:cs[(plH ns ((atD ms (i:Int)).take ns.length)).toNat]? with
 |none=>exact⟨fu,fu⟩
 |some c=>exact h c (aA e)
noncomputable def prC(w:Str)(ns cs ms ds P:LI):LI:=List.zipWith (aW w) (cO ns cs P) (cO ms ds P)
noncomputable def pkC(ks es ns cs ms ds P:LI):LI:=(List.range (ae P).toNat).map λ i=>if bx ks es P i≠0 then bx ns cs P i else bx ms ds P i
def zO(h1:bZ ks ns)(h2:bZ (au ks ns) ms):(au (au ks ns) ms).take ks.length=ks/\(au (au ks ns) ms).take ns.length=ns/\(au (au ks ns) ms).take ms.length=ms:=by
 obtain⟨a,b⟩:=qK h1;obtain⟨c,d⟩:=qK h2;have l1:ks.length<=(au ks ns).length:=by unfold au;split<;>lia
 have l2:ns.length<=(au ks ns).length:=by unfold au;split<;>lia
 generalize au ks ns=Q at *;generalize au Q ms=P at *;refine⟨?_,?_,d⟩
 ·have e:(P.take Q.length).take ks.length=P.take ks.length:=by rw[List.take_take,iC l1]
  rw[<- e,c,a]
 ·have e:(P.take Q.length).take ns.length=P.take ns.length:=by rw[List.take_take,iC l2]
  rw[<- e,c,b]
noncomputable def uD(what:Int)(w:Str)(n0 c0 n1 c1 n2 c2 P:LI)(i:Nat):Int:=if what=0 then eH w (bx n0 c0 P i) else if what=1 then aW w (bx n0 c0 P i) (bx n1 c1 P i) else if what=3\/¬bx n2 c2 P i=0 then bx n0 c0 P i else bx n1 c1 P i
noncomputable def uE(what:Int)(w:Str)(n0 c0 n1 c1 n2 c2 P:LI):LI:=(List.range (ae P).toNat).map (uD what w n0 c0 n1 c1 n2 c2 P)
def ou{ns cs ms:LI}(h:∀c∈cs,inB c):inB (bx ns cs ms i):=by
 unfold bx;rw[aR]
 cases e:cs[(plH ns ((atD ms (i:Int)).take ns.length)).toNat]? with
 |none=>exact⟨fu,fu⟩
 |some c=>exact h c (aA e)
theorem zP{α β γ δ:Type}(f:β->γ->δ)(g:α->β)(h:α->γ):∀l:List α,List.zipWith f (l.map g) (l.map h)=l.map λ x=>f (g x) (h x)
 |[]=>rfl
 |a::l=>by rw[aX,aX,mG,zP f g h l,aX]
def Ky{n0 c0 n1 c1 n2 c2 P:LI}:prC w n0 c0 n1 c1 P=uE 1 w n0 c0 n1 c1 n2 c2 P:=by
 unfold prC cO uE;rw[zP];exact jy λ i _=>by unfold uD;rw[if_neg fu,if_pos rfl]
abbrev fw:List Str:=["add","mul","max","min","and","or","xor"]
def isF(w:Str):Prop:=w∈fw
noncomputable def bc(w:Str):Int:=if w="mul" then 1 else if w="max" then -9223372036854775808 else if w="min" then 9223372036854775807 else if w="and" then -1 else 0
def zQ:bc "add"=0:=by unfold bc;rw[if_neg (by decide +kernel),if_neg (by decide +kernel),if_neg (by decide +kernel),if_neg (by decide +kernel)]
def zR:bc "mul"=1:=by unfold bc;rw[if_pos rfl]
def zU:bc "max"=-9223372036854775808:=by unfold bc;rw[if_neg (by decide +kernel),if_pos rfl]
def zV:bc "min"=9223372036854775807:=by unfold bc;rw[if_neg (by decide +kernel),if_neg (by decide +kernel),if_pos rfl]
def zW:bc "and"=-1:=by unfold bc;rw[if_neg (by decide +kernel),if_neg (by decide +kernel),if_neg (by decide +kernel),if_pos rfl]
def zX:bc "or"=0:=by unfold bc;rw[if_neg (by decide +kernel),if_neg (by decide +kernel),if_neg (by decide +kernel),if_neg (by decide +kernel)]
def zY:bc "xor"=0:=by unfold bc;rw[if_neg (by decide +kernel),if_neg (by decide +kernel),if_neg (by decide +kernel),if_neg (by decide +kernel)]
noncomputable def kinds:List Str:=["in","num","count","each","pair","pick","turn","flip","cut","spread","lay","join","fetch","fold","run"]
def uF(i:Nat):Str:=kinds.getD i ""
noncomputable def Kz(fs:List (Str×Int)):LI:=fs.filterMap λ f=>if f.1=("step" : Str) then some f.2 else none
def zZ(i:Nat):LI:=Kz ((formsL.getD i ("",[])).2)
def fV(n:Nat)(os:LI):Prop:=os.Perm (upL n)
def up_mem{n:Nat}{x:Int}:x∈upL n ↔ 0<=x/\x<n:=by
 unfold upL;constructor
 ·intro h;obtain⟨i,hi,rfl⟩:=bG.mp h;have:=fq.mp hi;lia
 ·intro h;exact bG.mpr ⟨x.toNat,fq.mpr ca,ca⟩
def fg(n:Nat):(upL n).length=n:=by simp[upL]
def KA(n:Nat):(upL n).Pairwise (·<=·):=by
 unfold upL;rw[List.pairwise_map];exact List.Pairwise.imp (λ h=>by lia) (List.pairwise_lt_range (n:=n))
def KC(n:Nat):(upL n).Nodup:=by
 unfold upL;exact List.Pairwise.map _ (λ a b (h:a≠b)=>by lia) List.nodup_range
theorem Aa:∀ {l1 l2:LI},l1.Perm l2->l1.Pairwise (·<=·)->l2.Pairwise (·<=·)->l1=l2
 |[],l2,p,_,_=>(List.nil_perm.mp p).symm
 |a::l1,l2,p,h1,h2=>by
  cases l2 with
  |nil=>exact List.perm_nil.mp p
  |cons b l2=>
   obtain⟨a1,a2⟩:=nL.mp h1;obtain⟨b1,b2⟩:=nL.mp h2
   have ab:a<=b:=by
    rcases aL.mp (p.symm.subset (bo ..)) with e|e
    ·lia
    ·exact a1 b e
   have ba:b<=a:=by
    rcases aL.mp (p.subset (bo ..)) with e|e
    ·lia
    ·exact b1 a e
   have e:a=b:=ca;subst e;rw[Aa (List.perm_cons a |>.mp p) a2 b2]
def KD{os ss:LI}(p:ss.Perm os)(s:ss.Pairwise (·<=·)):ss=upL n ↔ fV n os :=
 ⟨λ e=>p.symm.trans (by rw[e]),λ t=>Aa (p.trans t) s (KA n)⟩
def bT(ns os:LI):LI:=os.map λ k=>ns.getD k.toNat 0
def aY(ns:LI)(k:Nat)(m:Int):LI:=ns.take k++[m]++ns.drop k
def jG(ns:LI)(side:Int):Prop:=side<0\/(ns.length:Int)<side
def qL(ns:LI)(k:Nat)(m:Int):(aY ns k m).length=ns.length+1:=by
 unfold aY;simp only[aN,bd,dX,List.length_cons,List.length_nil];lia
def KE{m:Int}(h:aD ns)(h0:0<=m)(h1:m<1000000):aD (aY ns k m):=λ n hn=>by
 unfold aY at hn
 rcases cg.mp hn with hn|hn
 ·rcases cg.mp hn with hn|hn
  ·exact h n (jA hn)
  ·cases bh.mp hn;lia
 ·exact h n (kJ hn)
def mK{ns:LI}{k:Nat}(h:k<ns.length):ns.getD k 0∈ns:=by rw[aR,aB h];exact jo h
def jH{n:Int}(h:0<=n):1<=ah n:=by unfold ah;split<;>lia
def uG{n:Int}(h:0<=n):(if n > 1 then n else 1)=ah n:=by unfold ah;split<;>split<;>lia
def qM{ns:LI}(h:∀n∈ns,0<=n):1<=ae (ns.map ah):=by
 induction ns with
 |nil=>decide
 |cons n ns ih=>
  rw[aX,bz];have a:=jH (h n bo);have b:=ih λ m hm=>h m (aE _ hm);exact kM fu (s0s a b fu ca)
def div_one{r d:Int}(h1:1<=d)(h2:d<=r):1<=r/d:=by
 have:=Int.ediv_le_ediv (a:=d) (b:=r) (c:=d) ca h2;rw[Int.ediv_self ca] at this;exact this
def KF{ss:LI}{k:Nat}{x:Int}(kl:k<ss.length):ss.take k++[x]++ss.drop (k+1)=ss.set k x:=by
 rw[uH,if_pos kl,eX];rfl
def da(h:fit ns):aD ns:=λ n hn=>by have:=h.1 n hn;exact⟨this.1,ca⟩
def qN(h:fit ns):¬bP ns:=λ b=>b.elim (λ z=>by have:=h.2.1;lia) (λ z=>by have:=h.2.2.2;lia)
def Ab{cs:LI}{n:Nat}(h:cs.length=n):(List.range n).map (λ i=>cs.getD i 0)=cs:=by
 subst h;apply lV;intro k;by_cases c:k<cs.length
 ·rw[aQ,iH c];exact(fT c).symm
 ·rw[gu (by simp;lia),gu ca]
def oy{a b:LI}(h:a.Perm b):ae a=ae b:=by
 induction h with
 |nil=>rfl
 |cons x _ ih=>rw[bz,bz,ih]
 |swap x y l=>rw[bz,bz,bz,bz,<- kE,<- kE,gH x y]
 |trans _ _ h1 h2=>rw[h1,h2]
def Ac{ns os:LI}(t:fV ns.length os):(bT ns os).Perm ns:=by
 have e:(upL ns.length).map (λ k:Int=>ns.getD k.toNat 0)=ns:=by
  unfold upL;rw[br];exact Ab rfl
 have:=t.map (λ k:Int=>ns.getD k.toNat 0);rw[e] at this;exact this
inductive Stp where
 |inp (ms:LI)
 |num (n:Int)
 |count (ms:LI) (k:Int)
 |each (w:Str) (a:Nat)
 |pair (w:Str) (a b:Nat)
 |pick (a b c:Nat)
 |turn (a:Nat) (os:LI)
 |flip (a:Nat) (side:Int)
 |cut (a:Nat) (side f m g:Int)
 |spread (a:Nat) (side m:Int)
 |lay (a:Nat) (ms:LI)
 |join (a b:Nat) (side:Int)
 |fetch (a b:Nat)
 |fold (w:Str) (a:Nat) (side:Int)
 |run (w:Str) (a:Nat) (side:Int)
noncomputable def aK(mo:Int)(ns:LI):Prop:=(∀n∈ns,0<=n/\n<=mo)/\ns.length<=6/\1<=ae (ns.map ah)/\ae (ns.map ah)<=mo
def cq(mo:Int):Prop:=2<=mo/\mo<=512
def bU{mo:Int}(h:aK mo ns)(m:cq mo):fit ns:=⟨λ n hn=>by have:=h.1 n hn;have:=m.2;lia,h.2.1,h.2.2.1,kM h.2.2.2 m.2⟩
def qO{mo:Int}(m:cq mo):aK mo []:=⟨(λ n hn=>nomatch hn),fu,fu,by have:=m.1;show(1:Int)<=mo;lia⟩
def uI{mo n:Int}(h:aK mo ns)(l:ns.length<6)(n0:0<=n)(hn:n<=mo/ae (ns.map ah)):aK mo (ns++[n]):=by
 have p:=h.2.2.1;have e:ae ((ns++[n]).map ah)=ae (ns.map ah)*ah n:=by rw[bK];exact qE _ _
 have o1:=jH n0;have d1:1<=mo/ae (ns.map ah):=div_one p h.2.2.2;have le:mo/ae (ns.map ah)<=mo:=uJ _ (by have:=h.2.2.2;lia);have m2:ae (ns.map ah)*(mo/ae (ns.map ah))<=mo:=s0m ca;generalize mo/ae (ns.map ah)=q at *;have o2:ah n<=q:=by unfold ah;split<;>lia
 have m1:=gS o2 (show 0<=ae (ns.map ah) by lia);refine⟨λ k hk=>?_,by rw[aN,dO];lia,?_,?_⟩
 ·rcases cg.mp hk with z|z
  ·exact h.1 k z
  ·cases bh.mp z;lia
 ·rw[e];exact kM fu (s0s p o1 fu ca)
 ·rw[e];lia
noncomputable def OkS(Ss:LL)(S:LI):Stp->Prop
 |.inp ms=>S=ms/\¬bP ms
 |.num n=>S=[]/\inB n
 |.count ms k=>S=ms/\¬bP ms/\¬off ms k
 |.each w a=>Ss[a]?=some S/\w∈jE
 |.pair w a b=>∃A B,Ss[a]?=some A/\Ss[b]?=some B/\w∈fU/\bZ A B/\S=au A B
 |.pick a b c=>∃A B C,Ss[a]?=some A/\Ss[b]?=some B/\Ss[c]?=some C/\bZ A B/\bZ (au A B) C/\S=au (au A B) C
 |.turn a os=>∃A,Ss[a]?=some A/\fV A.length os/\S=bT A os
 |.flip a side=>Ss[a]?=some S/\¬off S side
 |.cut a side f m g=>∃A,Ss[a]?=some A/\¬off A side/\¬bad A side f m g/\m<=512/\S=A.set side.toNat m
 |.spread a side m=>∃A,Ss[a]?=some A/\¬jG A side/\¬m<0/\m<=512/\¬bP (aY A side.toNat m)/\S=aY A side.toNat m
 |.lay a ms=>∃A,Ss[a]?=some A/\¬bP ms/\ae A=ae ms/\S=ms
 |.join a b side=>∃A B,Ss[a]?=some A/\Ss[b]?=some B/\A.length=B.length/\¬off A side/\A.eraseIdx side.toNat=B.eraseIdx side.toNat/\¬bP (aZ A B side)/\S=aZ A B side
 |.fetch a b=>∃n r B,Ss[a]?=some (n::r)/\n≠0/\Ss[b]?=some B/\¬bP (B++r)/\S=B++r
 |.fold w a side=>∃A,Ss[a]?=some A/\isF w/\¬off A side/\S=A.eraseIdx side.toNat
 |.run w a side=>Ss[a]?=some S/\isF w/\¬off S side
def cH{mo:Int}(h:aK mo ns):∀n∈ns,0<=n:=λ n hn=>(h.1 n hn).1
def KG{n m:Int}(h:n<=m)(h1:1<=m):ah n<=m:=by unfold ah;split<;>lia
def KH{mo:Int}(h:aK mo ns)(m:cq mo):aK mo [ae ns]:=by
 have p:=bS (cH h);have b:=h.2.2.2;have o:=jH p.1;have e:ae ([ae ns].map ah)=ah (ae ns):=by show ae [ah (ae ns)]=_;rw[bz];exact s0t _
 refine⟨λ n hn=>?_,nr (bW _),by rw[e];exact o,by rw[e];exact KG ca (by have:=m.1;lia)⟩;cases bh.mp hn;lia
def KJ{mo:Int}(h:aK mo ns)(m:cq mo)(l:ns.length<6):aK mo (1::ns):=by
 have e:ae ((1::ns).map ah)=ae (ns.map ah):=by rw[aX,bz];exact mD _
 refine⟨λ n hn=>?_,by rw[List.length_cons];lia,by rw[e];exact h.2.2.1,by rw[e];exact h.2.2.2⟩
 rcases aL.mp hn with z|z
 ·have:=m.1;lia
 ·exact h.1 n z
def KL{mo:Int}(h:aK mo ns)(m:cq mo)(c:ae ns%2=0):aK mo [ae ns/2,2]/\ae [ae ns/2,2]=ae ns:=by
 have p:=bS (cH h);have b:=h.2.2.2;have m1:=m.1;have e:ae ([ae ns/2,2].map ah)=ah (ae ns/2)*2:=by show ae [ah (ae ns/2),2]=_;rw[bz,bz];show _*(2*1)=_;rfl
 have e2:ae [ae ns/2,2]=ae ns/2*2:=by rw[bz,bz];show _*(2*1)=_;rfl
 generalize ae ns=P at *;have o:1<=ah (P/2)/\ah (P/2)*2<=mo:=by unfold ah;split<;>lia
 refine⟨⟨λ n hn=>?_,nr (nr (bW _)),by rw[e];lia,by rw[e];exact o.2⟩,by rw[e2];lia⟩
 rcases aL.mp hn with z|z
 ·lia
 ·cases bh.mp z;lia
def KM{mo:Int}(h:aK mo ns):aK mo ns.reverse/\ae ns.reverse=ae ns:=by
 have p:=List.reverse_perm ns;have e:=oy (p.map ah);exact⟨⟨λ n hn=>h.1 n (um.mp hn),by rw[iI];exact h.2.1,by rw[e];exact h.2.2.1,by rw[e];exact h.2.2.2⟩,oy p⟩
def eJ{mo:Int}(h:aK mo ns)(m:cq mo):aD ns:=λ n hn=>by have:=h.1 n hn;have:=m.2;exact⟨ca,ca⟩
noncomputable def kN(ns:LI)(d:Int):LI:=if d%4=1 then [ae ns] else if d%4=2/\ns.length<6 then 1::ns else if d%4=3/\ae ns%2=0 then [ae ns/2,2] else ns.reverse
def KN{mo:Int}(h:aK mo ns)(m:cq mo):aK mo (kN ns d)/\ae (kN ns d)=ae ns:=by
 unfold kN;by_cases c1:d%4=1
 ·rw[if_pos c1];exact⟨KH h m,by rw[bz];exact s0t _⟩
 rw[if_neg c1];by_cases c2:d%4=2/\ns.length<6
 ·rw[if_pos c2];exact⟨KJ h m c2.2,by rw[bz];exact mD _⟩
 rw[if_neg c2];by_cases c3:d%4=3/\ae ns%2=0
 ·rw[if_pos c3];exact KL h m c3.2
 rw[if_neg c3];exact KM h
noncomputable def fW(A B:LI)(k:Nat):LI:=if A.length=B.length/\A.eraseIdx k=B.eraseIdx k then aZ A B k else []
def KO(i:Nat):upL (i+1)=upL i++[(i:Int)]:=by unfold upL;rw[oh,bK];rfl
def KP{os:LI}(h:os.Perm (upL i)):(os.take j++(i:Int)::os.drop j).Perm (upL (i+1)):=by
 rw[KO];refine List.Perm.trans List.perm_middle ?_;rw[jD];exact(h.cons _).trans (Ad _ _).symm
def KQ{mo:Int}{ns os:LI}(h:aK mo ns)(t:fV ns.length os):aK mo (bT ns os):=by
 have p:=Ac t;have e:=oy (p.map ah);exact⟨λ n hn=>h.1 n (p.subset hn),by rw[p.length_eq];exact h.2.1,by rw[e];exact h.2.2.1,by rw[e];exact h.2.2.2⟩
def KR{mo:Int}{A B:LI}(p:A.Perm B)(h:aK mo B):aK mo A:=by
 have e:=oy (p.map ah);exact⟨λ n hn=>h.1 n (p.subset hn),by rw[p.length_eq];exact h.2.1,by rw[e];exact h.2.2.1,by rw[e];exact h.2.2.2⟩
def KS{mo x:Int}(h:aK mo A)(l:A.length<6)(x0:0<=x)(x1:x<=mo/ae (A.map ah)):aK mo (aY A k x):=by
 refine KR ?_ (uI h l x0 x1);unfold aY;rw[eX];refine List.Perm.trans List.perm_middle ?_;show(x::(A.take k++A.drop k)).Perm _;rw[jD];exact(Ad _ _).symm
def jI(x:Int)(xs:LI):ae ((x::xs).map ah)=ah x*ae (xs.map ah):=by rw[aX];exact bz _ _
def KU{ns:LI}(h:∀n∈ns,0<=n):∀n∈ns,n<=ae (ns.map ah):=by
 induction ns with
 |nil=>exact λ n hn=>nomatch hn
 |cons x xs ih=>
  intro n hn;have hx:=h x (bo ..);have ht:∀n∈xs,0<=n:=λ n hn=>h n (aE _ hn);have p:=qM ht;have o:=jH hx;rw[jI]
  rcases aL.mp hn with e|hn
  ·rw[e];have le:x<=ah x:=by unfold ah;split<;>lia
   have:=gS p (show 0<=ah x by lia);lia
  ·have:=ih ht n hn;have:=gW o (show 0<=ae (xs.map ah) by lia);lia
def KW{ns:LI}(h:∀n∈ns,0<=n):∀ {k:Nat}{m:Int},0<=m->m<=ns.getD k 0->ae ((ns.set k m).map ah)<=ae (ns.map ah):=by
 induction ns with
 |nil=>intro k m _ _;rw[List.set_nil];exact jm _
 |cons x xs ih=>
  intro k m m0 m1;have hx:=h x (bo ..);have ht:∀n∈xs,0<=n:=λ n hn=>h n (aE _ hn);have p:=qM ht
  cases k with
  |zero=>
   have m1:m<=x:=m1;show ae ((m::xs).map ah)<=_;rw[jI,jI];exact gW (by unfold ah;split<;>split<;>lia) ca
  |succ k=>
   have m1:m<=xs.getD k 0:=m1;show ae ((x::xs.set k m).map ah)<=_;rw[jI,jI];exact gS (ih ht m0 m1) (by have:=jH hx;lia)
def KY{ns:LI}(h:∀n∈ns,0<=n):∀ {k:Nat},ae ((ns.eraseIdx k).map ah)<=ae (ns.map ah):=by
 induction ns with
 |nil=>intro k;rw[List.eraseIdx_nil];exact jm _
 |cons x xs ih=>
  intro k;have hx:=h x (bo ..);have ht:∀n∈xs,0<=n:=λ n hn=>h n (aE _ hn);have p:=qM ht
  cases k with
  |zero=>
   show ae (xs.map ah)<=_;rw[jI];have:=gW (jH hx) (show 0<=ae (xs.map ah) by lia);lia
  |succ k=>
   show ae ((x::xs.eraseIdx k).map ah)<=_;rw[jI,jI];exact gS (ih ht) (by have:=jH hx;lia)
def uK{mo:Int}{ns:LI}(nn:∀n∈ns,0<=n)(l:ns.length<=6)(w:ae (ns.map ah)<=mo):aK mo ns:=⟨λ n hn=>⟨nn n hn,kM (KU nn n hn) w⟩,l,qM nn,w⟩
def KZ{mo m:Int}(h:aK mo A)(m0:0<=m)(m1:m<=A.getD k 0):aK mo (A.set k m):=uK (λ n hn=>by rcases mE hn with z|z;exact cH h n z;rw[z];exact m0) (by rw[cW];exact h.2.1) (kM (KW (cH h) m0 m1) h.2.2.2)
def La{mo:Int}(h:aK mo A):aK mo (A.eraseIdx k):=uK (λ n hn=>cH h n (Ae hn)) (dg (List.length_eraseIdx_le ..) h.2.1) (kM (KY (cH h)) h.2.2.2)
def Lb{n f g e:Int}(n0:0<=n)(f0:0<=f)(g1:1<=g)(e0:0<=e):0<=(if (n-1-f).fdiv g+1-e > 0 then (n-1-f).fdiv g+1-e else 0)/\(if (n-1-f).fdiv g+1-e > 0 then (n-1-f).fdiv g+1-e else 0)<=n/\¬(0<(if (n-1-f).fdiv g+1-e > 0 then (n-1-f).fdiv g+1-e else 0)/\n<=f+((if (n-1-f).fdiv g+1-e > 0 then (n-1-f).fdiv g+1-e else 0)-1)*g):=by
 rw[mW _ ca];have q1:g*((n-1-f)/g)<=n-1-f:=s0m ca;generalize (n-1-f)/g=q at *;split
 ·rename_i c;have a1:=gW (show q+1-e-1<=q by lia) (show 0<=g by lia);rw[gH q g] at a1;have a2:=gS g1 (show 0<=q+1-e-1 by lia);generalize (q+1-e-1)*g=z at *;exact⟨ca,ca,λ y=>by lia⟩
 ·exact⟨ca,n0,λ y=>by lia⟩
def Af(A:LI):bZ A A:=(yV A A).mpr (Ki A)
def Ag(h:bZ x y)(l:y.length<=x.length):au x y=x:=by
 unfold au;split
 ·rfl
 ·exact(Kj ((yV x y).mp h) ca).symm
def Ah{x y:LI}(l:x.length<y.length):au x y=y:=by unfold au;rw[if_neg ca]
def Ai{P:LI->Prop}(h:P x)(h2:P y):P (au x y):=by unfold au;split<;>assumption
def gJ{k:Int}{n:Nat}(h:k∈upL n):∃a:Nat,k=a/\a<n:=⟨k.toNat,(iJ (up_mem.mp h).1).symm,by have:=up_mem.mp h;lia⟩
def Aj{a n:Nat}(h:a<n):(a:Int)∈upL n:=up_mem.mpr ⟨rR _,Int.ofNat_lt.mpr h⟩
noncomputable def jJ(mo:Int)(ds:List Stp)(Ss:LL):Prop:=ds.length=Ss.length/\(∀S∈Ss,aK mo S)/\∀(i:Nat) (d:Stp) (S:LI),ds[i]?=some d->Ss[i]?=some S->OkS (Ss.take i) S d
def Ak{mo:Int}(h:jJ mo ds Ss)(o:OkS Ss S d)(f:aK mo S):jJ mo (ds++[d]) (Ss++[S]):=by
 refine⟨by rw[aN,aN,h.1];rfl,λ T hT=>?_,λ i d' S' e1 e2=>?_⟩
 ·rcases cg.mp hT with z|z
  ·exact h.2.1 T z
  ·cases bh.mp z;exact f
 ·by_cases c:i<ds.length
  ·rw[eR c] at e1;have c':i<Ss.length:=by rw[<- h.1];exact c
   rw[eR c'] at e2;rw[qJ (dN c')];exact h.2.2 i d' S' e1 e2
  ·have jl:=(bf.mp e1).1;rw[aN,dO] at jl;have je:i=ds.length:=ca;rw[je,dn (ay _),iP] at e1;rw[je,h.1,dn (ay _),iP] at e2;cases e1;cases e2;rw[je,h.1,qJ (ay _),cy];exact o
def Al(mo:Int):jJ mo [] []:=⟨rfl,(λ _ h=>nomatch h),(λ _ _ _ h=>nomatch h)⟩
def Ao(h:¬fW A B k=[]):A.length=B.length/\A.eraseIdx k=B.eraseIdx k/\fW A B k=aZ A B k:=by
 unfold fW at h ⊢;split
 ·rename_i c;exact⟨c.1,c.2,rfl⟩
 ·rename_i c;rw[if_neg c] at h;exact absurd rfl h
def Ap{ns:LI}{m:Int}(h:∀n∈ns,0<=n/\n<=m)(m0:0<=m)(k:Nat):0<=ns.getD k 0/\ns.getD k 0<=m:=by
 by_cases c:k<ns.length
 ·exact h _ (mK c)
 ·rw[aR,gu ca];exact⟨jm _,m0⟩
noncomputable def Md(kd:Int)(A:LI)(k:Nat)(Ss Ms:LL):Prop:=(kd=11/\Ms=Ss.map (λ B=>fW A B k))\/(kd=12/\0<A.getD 0 0/\Ms=Ss.map (λ B=>B++A.drop 1))\/(¬kd=11/\¬0<A.getD 0 0/\Ms=[[]])
def Lc(h:Md kd A k Ss Ms)(l:Ss.length<=40):Ms.length<=40:=by
 rcases h with ⟨_,rfl⟩|⟨_,_,rfl⟩|⟨_,_,rfl⟩
 ·rw[ao];exact l
 ·rw[ao];exact l
 ·exact nr (bW _)
def Ld{kd mo:Int}(h:Md kd A k Ss Ms)(fA:aK mo A)(fS:∀S∈Ss,aK mo S)(m:cq mo):∀M∈Ms,∀n∈M,0<=n/\n<=1024:=by
 have m2:=m.2;have m1:=m.1
 rcases h with ⟨_,rfl⟩|⟨_,_,rfl⟩|⟨_,_,rfl⟩
 ·intro M hM n hn;obtain⟨B,hB,rfl⟩:=bG.mp hM;by_cases c:fW A B k=[]
  ·rw[c] at hn;exact nomatch hn
  ·rw[(Ao c).2.2] at hn;unfold aZ at hn
   rcases mE hn with z|z
   ·have:=fA.1 n z;lia
   ·have a1:=Ap fA.1 (show 0<=mo by lia) (k:Int).toNat
    have a2:=Ap (fS B hB).1 (show 0<=mo by lia) (k:Int).toNat
    lia
 ·intro M hM n hn;obtain⟨B,hB,rfl⟩:=bG.mp hM
  rcases cg.mp hn with z|z
  ·have:=(fS B hB).1 n z;lia
  ·have:=fA.1 n (kJ z);lia
 ·intro M hM n hn;cases bh.mp hM;exact nomatch hn
def Le{M:LI}(h:∀n∈M,0<=n/\n<=1024):aD M:=λ n hn=>by have:=h n hn;exact⟨this.1,ca⟩
def Lf{M:LI}{mo:Int}(m:cq mo)(l:M.length<=6)(w:ae (M.map ah)<=mo):¬bP M:=λ z=>z.elim ca (by have:=m.2;lia)
def Lg{Ss:LL}{M:Int}(h:M∈Ss.map (λ S=>(S.length:Int)))(h0:0<M):∃S∈Ss,0<S.length:=by
 obtain⟨S,hS,rfl⟩:=bG.mp h;exact⟨S,hS,ca⟩
noncomputable def kdN:Stp->Nat
 |.inp ..=>0|.num ..=>1|.count ..=>2|.each ..=>3|.pair ..=>4|.pick ..=>5|.turn ..=>6|.flip ..=>7|.cut ..=>8|.spread ..=>9|.lay ..=>10|.join ..=>11|.fetch ..=>12|.fold ..=>13|.run ..=>14
noncomputable def gX:Stp->List Nat
 |.inp ..=>[]|.num ..=>[]|.count ..=>[]
 |.each _ a=>[a]|.pair _ a b=>[a,b]|.pick a b c=>[a,b,c]
 |.turn a _=>[a]|.flip a _=>[a]|.cut a ..=>[a]|.spread a ..=>[a]|.lay a _=>[a]
 |.join a b _=>[a,b]|.fetch a b=>[a,b]|.fold _ a _=>[a]|.run _ a _=>[a]
noncomputable def Aq:Stp->Prop
 |.each w _=>w∈jE|.pair w _ _=>w∈fU|.fold w _ _=>isF w|.run w _ _=>isF w|_=>True
def uL(h:OkS Ss S d):Aq d:=by
 cases d with
 |each w a=>exact h.2
 |pair w a b=>obtain⟨A,B,_,_,z,_⟩:=h;exact z
 |fold w a s=>obtain⟨A,_,z,_⟩:=h;exact z
 |run w a s=>exact h.2.1
 |_=>trivial
def As(h:OkS Ss S d):∀a∈gX d,a<Ss.length:=by
 have g:∀ {a:Nat}{A:LI},Ss[a]?=some A->a<Ss.length:=λ e=>(bf.mp e).1;intro x hx
 cases d with
 |inp ms=>exact nomatch hx
 |num n=>exact nomatch hx
 |count ms k=>exact nomatch hx
 |each w a=>cases bh.mp hx;exact g h.1
 |pair w a b=>
  obtain⟨A,B,e1,e2,_⟩:=h
  rcases aL.mp hx with z|z
  ·rw[z];exact g e1
  ·cases bh.mp z;exact g e2
 |pick a b c=>
  obtain⟨A,B,C,e1,e2,e3,_⟩:=h
  rcases aL.mp hx with z|z
  ·rw[z];exact g e1
  rcases aL.mp z with z|z
  ·rw[z];exact g e2
  ·cases bh.mp z;exact g e3
 |turn a os=>obtain⟨A,e1,_⟩:=h;cases bh.mp hx;exact g e1
 |flip a s=>cases bh.mp hx;exact g h.1
 |cut a s f m gg=>obtain⟨A,e1,_⟩:=h;cases bh.mp hx;exact g e1
 |spread a s m=>obtain⟨A,e1,_⟩:=h;cases bh.mp hx;exact g e1
 |lay a ms=>obtain⟨A,e1,_⟩:=h;cases bh.mp hx;exact g e1
 |join a b s=>
  obtain⟨A,B,e1,e2,_⟩:=h
  rcases aL.mp hx with z|z
  ·rw[z];exact g e1
  ·cases bh.mp z;exact g e2
 |fetch a b=>
  obtain⟨n,r,B,e1,_,e2,_⟩:=h
  rcases aL.mp hx with z|z
  ·rw[z];exact g e1
  ·cases bh.mp z;exact g e2
 |fold w a s=>obtain⟨A,e1,_⟩:=h;cases bh.mp hx;exact g e1
 |run w a s=>cases bh.mp hx;exact g h.1
def Lh(d:Stp):(gX d).length<=3:=by cases d<;>exact Nat.le_of_sub_eq_zero rfl
noncomputable def oz(mo:Int)(ds:List Stp)(Ss:LL)(os:LI):Prop:=cq mo/\jJ mo ds Ss/\0<ds.length/\ds.length<=40/\0<os.length/\os.length<=8/\∀o∈os,0<=o/\o<(ds.length:Int)
def kO(h:fit A):sm A:=λ n hn=>by have:=h.1 n hn;exact⟨ca,ca⟩
def Au(k:Nat)(g:bD ns ms):bD (ns.eraseIdx k) (ms.eraseIdx k):=by
 obtain⟨l,g⟩:=g;refine⟨by rw[oA,oA,l],λ i m n em en=>?_⟩;rw[kG] at em en;split at em
 ·rename_i c;rw[if_pos c] at en;exact g i m n em en
 ·rename_i c;rw[if_neg c] at en;exact g (i+1) m n em en
def Av{ns:LI}{k:Nat}(h:k<=ns.length):(aY ns k m).eraseIdx k=ns:=by
 unfold aY;rw[eX,List.eraseIdx_append_of_length_le (by rw[bd];lia),bd,iC h,iP];show ns.take k++ns.drop k=ns;exact jD _ _
def kP{ns ms at_:LI}{k:Nat}{y w:Int}(g:bD ns at_)(l:ms.length=ns.length)(e:∀j,j≠k->ms[j]?=ns[j]?)(hw:ms[k]?=some w)(h0:0<=y)(h1:y<w):bD ms (at_.set k y):=by
 refine⟨by rw[cW,l];exact g.1,λ i m n em en=>?_⟩;by_cases c:i=k
 ·subst c;have il:=(bf.mp em).1;rw[cW] at il;rw[hE il] at em;rw[hw] at en;cases em;cases en;exact⟨h0,h1⟩
 ·rw[iY (λ z=>c z.symm)] at em;rw[e i c] at en;exact g.2 i m n em en
def jK(w:Str):inB (bc w):=by
 unfold bc inB
 repeat' split
 all_goals lia
def Aw{w:Str}(h:w∈fw):w∈tw:=by
 simp only[fw,tw,aL,bX,bY] at *
 rcases h with h|h|h|h|h|h|h<;>simp[h]
def Li(x:Int){y:Int}(hy:y<0):y<Int.fmod x y/\Int.fmod x y<=0:=by
 have h1:Int.fmod x y=-(Int.fmod (-x) (-y)):=by
  rw[s1w,s1w,Int.neg_fdiv_neg,Int.neg_mul];omega
 have h2:=Ax (-x) (show 0 < -y by omega);have h3:=s1k (-x) (show 0 < -y by omega);omega
def Lj(x:Int){y:Int}(hy:y≠0):(0<y->0<=Int.fmod x y/\Int.fmod x y<y)/\(y<0->y<Int.fmod x y/\Int.fmod x y<=0) :=
 ⟨λ h=>⟨Ax x h,s1k x h⟩,λ h=>Li x h⟩
def kQ(n:Int):inB (cD n):=by unfold cD inB;lia
def Lk:inB (kK x y):=by
 unfold kK;split
 ·exact⟨fu,fu⟩
 ·exact kQ _
def Ll(hx:inB x)(hy:inB y):inB (kL x y):=by
 unfold kL;unfold inB at *;split
 ·exact hx
 ·rename_i h;have r:=Lj x h
  rcases(show 0<y\/y<0 by omega) with p|p
  ·have:=r.1 p;omega
  ·have:=r.2 p;omega
section
variable {band:Int->Int->Int}
variable (hv:∀x y,band x y=2*band (x/2) (y/2)+(if x%2=1/\y%2=1 then 1 else 0))
include hv
theorem Lm(h00:band 0 0=0)(h01:band 0 (-1)=0)(h10:band (-1) 0=0)(h11:band (-1) (-1)=-1)(n:Nat):∀x y:Int,-2 ^ n<=x->x<2 ^ n->-2 ^ n<=y->y<2 ^ n ->
  (-2 ^ n<=band x y/\band x y<2 ^ n)/\(-2 ^ n<=x+y-band x y/\x+y-band x y<2 ^ n)/\(-2 ^ n<=x+y-2*band x y/\x+y-2*band x y<2 ^ n):=by
 induction n with
 |zero=>
  intro x y a b c d;simp at a b c d;have hx:x=0\/x=-1:=by omega
  have hy:y=0\/y=-1:=by omega
  rcases hx with hx|hx<;>rcases hy with hy|hy<;>subst hx<;>subst hy<;>simp[h00,h01,h10,h11]
 |succ n ih=>
  intro x y a b c d;rw[Int.pow_succ] at *;have h:=ih (x/2) (y/2) (by omega) (by omega) (by omega) (by omega);have e:=hv x y;split at e<;>omega
end
def qP{w:Str}(hw:w∈(["max","min","less","like"]:List Str))(hx:inB x)(hy:inB y):w∈tw/\inB (aW w x y):=by
 simp only[aL,bX,bY] at hw;unfold inB at *
 rcases hw with rfl|rfl|rfl|rfl
 ·refine⟨by simp[tw],?_⟩;rw[zB];split<;>omega
 ·refine⟨by simp[tw],?_⟩;rw[zD];split<;>omega
 ·refine⟨by simp[tw],?_⟩;rw[zE];split<;>omega
 ·refine⟨by simp[tw],?_⟩;rw[zF];split<;>omega
def uM(hx:inB x)(hy:inB y):inB (Builtin.bitAnd x y)/\inB (Builtin.bitOr x y)/\inB (Builtin.bitXor x y):=by
 have h:=Lm W.kbt_halves fu fu fu fu 63 x y;unfold inB at *;rw[bitOr_and,bitXor_and];have e:(2:Int) ^ 63=9223372036854775808:=fu;rw[e] at h;exact h hx.1 ca hy.1 ca
def uN{w:Str}(hw:w∈tw)(hx:inB x)(hy:inB y):inB (aW w x y):=by
 simp only[tw,aL,bX,bY] at hw
 rcases hw with rfl|rfl|rfl|rfl|rfl|rfl|rfl|rfl|rfl|rfl|rfl|rfl
 ·rw[zw];exact kQ _
 ·rw[zx];exact kQ _
 ·rw[zy];exact kQ _
 ·rw[zz];exact Lk
 ·rw[zA];exact Ll hx hy
 ·exact(qP on hx hy).2
 ·exact(qP on hx hy).2
 ·exact(qP on hx hy).2
 ·exact(qP on hx hy).2
 ·rw[zG];exact(uM hx hy).1
 ·rw[zH];exact(uM hx hy).2.1
 ·rw[zI];exact(uM hx hy).2.2
def vH{A:LI}{k:Nat}(hk:k<=A.length)(i:Nat):(aY A k y)[i]?=if i<k then A[i]? else if i=k then some y else A[i-1]?:=by
 unfold aY;have tl:(A.take k).length=k:=by rw[bd];lia
 split
 ·rename_i h;rw[eX,eR ca,qz,if_pos h]
 ·rename_i h;rw[eX,dn ca,tl];split
  ·rename_i e;subst e;rw[iP];rfl
  ·rename_i e;obtain⟨m,hm⟩:∃m,i-k=m+1:=⟨i-k-1,ca⟩;rw[hm];show(A.drop k)[m]?=_;rw[List.getElem?_drop];congr 1;lia
def Ay{ns A:LI}{k:Nat}{y:Int}(hk:k<ns.length)(g:bD (ns.eraseIdx k) A)(h0:0<=y)(h1:y<ns.getD k 0):bD ns (aY A k y):=by
 obtain⟨l,g⟩:=g;have el:(ns.eraseIdx k).length=ns.length-1:=by rw[oA,if_pos hk]
 have kl:k<=A.length:=ca;refine⟨by rw[qL];lia,λ i m n em en=>?_⟩;rw[vH kl] at em;split at em
 ·rename_i c;exact g i m n em (by rw[kG,if_pos c];exact en)
 ·split at em
  ·rename_i c e;subst e;cases em;rw[fT hk] at en;cases en;exact⟨h0,h1⟩
  ·rename_i c e;refine g (i-1) m n em ?_;rw[kG,if_neg ca,show i-1+1=i by lia];exact en
theorem Az:∀ {ns:LI}{k:Nat},(∀n∈ns,0<=n)->ae ((ns.eraseIdx k).map ah)<=ae (ns.map ah)
 |[],_,_=>by simp
 |n::ns,0,h=>by
  have n0:=h n bo;have p:=bS λ m hm=>h m (aE _ hm);show ae (ns.map ah)<=_;rw[aX,bz];have:1*ae (ns.map ah)<=ah n*ae (ns.map ah):=gW (by unfold ah;split<;>lia) ca;lia
 |n::ns,k+1,h=>by
  have n0:=h n bo;have ih:=Az (ns:=ns) (k:=k) (λ m hm=>h m (aE _ hm));show ae ((n::ns.eraseIdx k).map ah)<=_;rw[aX,aX,bz,bz];exact gS ih (by unfold ah;split<;>lia)
theorem AA:∀ {ns:LI}{k:Nat},k<ns.length->(stL ns ns.length).reverse[k]?=some (ae (ns.drop (k+1)))
 |[],_,h=>by simp at h
 |n::ns,0,_=>by rw[uB];rfl
 |n::ns,k+1,h=>by rw[uB];exact AA (ns:=ns) (k:=k) (by simpa using h)
theorem AB:∀ {ns ms:LI}{k:Nat}{y:Int},ms.length=ns.length->k<ns.length->plH ns (ms.set k y)=plH ns ms+(y-ms.getD k 0)*ae (ns.drop (k+1))
 |[],_,_,_,_,h=>by simp at h
 |_::_,[],_,_,h,_=>by simp at h
 |n::ns,m::ms,0,y,hl,_=>by
  show plH (n::ns) (y::ms)=plH (n::ns) (m::ms)+(y-m)*ae ns;rw[kI,kI,Int.sub_mul];lia
 |n::ns,m::ms,k+1,y,hl,h=>by
  show plH (n::ns) (m::ms.set k y)=plH (n::ns) (m::ms)+(y-ms.getD k 0)*ae (ns.drop (k+1));rw[kI,kI,AB (ns:=ns) (ms:=ms) (by simpa using hl) (by simpa using h)];lia
def Ln{ns:LI}{k:Nat}(hk:k<ns.length)(h:∀n∈ns,0<n):(atD ns p).getD k 0=p/ae (ns.drop (k+1))%ns.getD k 0:=by
 have e1:=uz (ns.take (k+1)) (ns.drop (k+1)) (λ n hn=>h n (kJ hn)) p;rw[jD,fR,fT hk] at e1;have e2:=qF (ns.take k) (ns.getD k 0) (p/ae (ns.drop (k+1)));rw[show(some (ns.getD k 0)).toList=[ns.getD k 0] from rfl,e2] at e1;have tl:(atD (ns.take k) (p/ae (ns.drop (k+1))/ns.getD k 0)).length=k:=by rw[dw,bd];lia
 rw[e1,eX,aR,dn ca,tl,iP];rfl
noncomputable def cI(w:Str)(b st n:Int)(cs:LI):Nat->LI
 |0=>[]
 |j+1=>cI w b st n cs j++[aW w (if (j:Int)/st%n=0 then b else (cI w b st n cs j).getD ((j:Int)-st).toNat 0) (cs.getD j 0)]
theorem kR(w:Str)(b st n:Int)(cs:LI):∀j,(cI w b st n cs j).length=j
 |0=>rfl
 |j+1=>by show(_++[_]).length=_;rw[aN,kR w b st n cs j];rfl
theorem uO(w:Str)(b st n:Int)(cs:LI){i x:Nat}(hx:x<i):∀ {j:Nat},i<=j->(cI w b st n cs j).getD x 0=(cI w b st n cs i).getD x 0
 |0,h=>by lia
 |j+1,h=>by
  by_cases e:i=j+1
  ·rw[e]
  ·have ih:=uO w b st n cs hx (j:=j) ca;rw[<- ih];show(_++[_]).getD x 0=_;rw[aR,eR (by rw[kR];lia)];rfl
def Lo{b st n:Int}{i N:Nat}(h:i<N)(s0:0<st):(cI w b st n cs N).getD i 0=aW w (if (i:Int)/st%n=0 then b else (cI w b st n cs N).getD ((i:Int)-st).toNat 0) (cs.getD i 0):=by
 have e:(cI w b st n cs (i+1)).getD i 0=aW w (if (i:Int)/st%n=0 then b else (cI w b st n cs i).getD ((i:Int)-st).toNat 0) (cs.getD i 0):=by
  show(_++[_]).getD i 0=_;rw[aR,dn (by rw[kR];lia),kR,iP];rfl
 rw[uO w b st n cs (i:=i+1) ca h,e];split
 ·rfl
 ·rename_i c;by_cases i0:i=0
  ·subst i0;exact absurd (by show(0:Int)/st%n=0;rw[Int.zero_ediv,Int.zero_emod]) c
  ·rw[uO w b st n cs (i:=i) (j:=N) ca ca]
theorem qQ{w:Str}{b st n:Int}{cs:LI}(hw:w∈fw)(hb:inB b)(hc:∀c∈cs,inB c):∀ {j:Nat},j<=cs.length->∀c∈cI w b st n cs j,inB c
 |0,_,c,h=>nomatch h
 |j+1,hj,c,h=>by
  have ih:=qQ (b:=b) (st:=st) (n:=n) hw hb hc (j:=j) ca
  rcases cg.mp h with h|h
  ·exact ih c h
  ·cases bh.mp h;refine uN (Aw hw) ?_ (hc _ (getD_mem ca));split
   ·exact hb
   ·by_cases l:((j:Int)-st).toNat<(cI w b st n cs j).length
    ·exact ih _ (getD_mem l)
    ·rw[aR,gu ca];exact⟨fu,fu⟩
noncomputable def mL(w:Str)(b:Int)(ns cs:LI)(k:Nat)(A:LI):Nat->Int
 |0=>b
 |j+1=>aW w (mL w b ns cs k A j) (cs.getD (plH ns (aY A k (j:Int))).toNat 0)
theorem qR{w:Str}{ns cs A:LI}(hw:w∈fw)(hb:inB b)(hc:∀c∈cs,inB c):∀j,inB (mL w b ns cs k A j)
 |0=>hb
 |j+1=>by
  refine uN (Aw hw) (qR hw hb hc j) ?_;by_cases l:(plH ns (aY A k (j:Int))).toNat<cs.length
  ·exact hc _ (getD_mem l)
  ·rw[aR,gu ca];exact⟨fu,fu⟩
noncomputable def jL(w:Str)(ns cs:LI)(k:Nat):LI:=(List.range (ae (ns.eraseIdx k)).toNat).map λ i:Nat=>mL w (bc w) ns cs k (atD (ns.eraseIdx k) (i:Int)) (ns.getD k 0).toNat
noncomputable def fj(w:Str)(ns cs:LI)(k:Nat):LI:=cI w (bc w) (ae (ns.drop (k+1))) (ns.getD k 0) cs cs.length
theorem uP:∀ {ns:LI}{k:Nat}{v:Int},(∀n∈ns,0<=n)->0<=v->v<=ns.getD k 0->ae ((ns.set k v).map ah)<=ae (ns.map ah)
 |[],_,_,_,_,_=>by simp
 |n::ns,0,v,h,h0,h1=>by
  have n0:=h n bo;have h1:v<=n:=h1;show ae ((v::ns).map ah)<=_;rw[aX,aX,bz,bz];have p:=bS λ m hm=>h m (aE _ hm);exact gW (by unfold ah;split<;>split<;>lia) ca
 |n::ns,k+1,v,h,h0,h1=>by
  have n0:=h n bo;have ih:=uP (ns:=ns) (k:=k) (λ m hm=>h m (aE _ hm)) h0 h1;show ae ((n::ns.set k v).map ah)<=_;rw[aX,aX,bz,bz];exact gS ih (by unfold ah;split<;>lia)
noncomputable def jM(ns cs ms ds:LI)(k:Nat)(at_:LI):Int:=if at_.getD k 0<ns.getD k 0 then cs.getD (plH ns at_).toNat 0 else ds.getD (plH ms (at_.set k (at_.getD k 0-ns.getD k 0))).toNat 0
noncomputable def qS(ns cs:LI)(k:Nat)(m:Int)(i:Nat):Int:=cs.getD (plH ns ((atD (aY ns k m) (i:Int)).eraseIdx k)).toNat 0
def oB{os:LI}(t:fV n os):os.length=n:=by rw[t.length_eq,fg]
def qT{os:LI}(t:fV n os){s:Nat}(h:s<n):(s:Int)∈os:=t.mem_iff.mpr (up_mem.mpr ca)
noncomputable def dQ(os A:LI):LI:=(List.range os.length).map λ s:Nat=>A.getD (os.idxOf (s:Int)) 0
def AC{ns os A:LI}(t:fV ns.length os)(g:bD (bT ns os) A):bD ns (dQ os A):=by
 have ol:=oB t;have tl:(bT ns os).length=os.length:=ao ..;refine⟨by unfold dQ;rw[ao,bQ,ol],λ i m n em en=>?_⟩;have il:=(bf.mp en).1;have xl:=uQ.mpr (qT t il);unfold dQ at em;rw[aQ,iH ca] at em
 have e2:(bT ns os)[os.idxOf (i:Int)]?=some n:=by
  unfold bT;rw[aQ,aB xl,s1l xl];show some (ns.getD ((i:Int)).toNat 0)=_;rw[Int.toNat_natCast,aR,en];rfl
 have al:=g.1;exact g.2 (os.idxOf (i:Int)) m n (by rw[fT ca];exact em) e2
noncomputable def fX(os A:LI)(i:Nat):LI:=(List.range os.length).map λ j:Nat=>if (j:Int)∈os.take i then A.getD (os.idxOf (j:Int)) 0 else A.getD j 0
def AD(os A:LI)(i:Nat):(fX os A i).length=os.length:=by unfold fX;rw[ao,bQ]
def Lp{os A:LI}(h:A.length=os.length):fX os A 0=A:=by
 unfold fX;simp only[List.take_zero,bX,jb];exact Ab h
def Lq{os A:LI}(t:fV n os):fX os A os.length=dQ os A:=by
 unfold fX dQ;refine jy λ j hj=>?_;have jl:=fq.mp hj;rw[oB t] at jl;rw[cy,if_pos (qT t jl)]
def Lr{os A:LI}{i:Nat}(t:fV n os)(h:i<os.length):(fX os A i).set (os.getD i 0).toNat (A.getD i 0)=fX os A (i+1):=by
 have nd:os.Nodup:=t.nodup_iff.mpr (KC n);have oi:=up_mem.mp (t.subset (getD_mem h));have ol:=oB t;have tk:os.take (i+1)=os.take i++[os.getD i 0]:=by rw[fR,fT h];rfl
 apply lV;intro j;rw[eh,AD];by_cases c:(os.getD i 0).toNat=j
 ·rw[if_pos c,if_pos ca];unfold fX;rw[aQ,iH ca];have ej:(j:Int)=os.getD i 0:=ca
  have ix:os.idxOf (os.getD i 0)=i:=by
   rw[aR,aB h];exact nd.idxOf_getElem i h
  show _=some (if (j:Int)∈os.take (i+1) then A.getD (os.idxOf (j:Int)) 0 else A.getD j 0);rw[tk,if_pos (by rw[ej];simp),ej,ix]
 ·rw[if_neg c];unfold fX;by_cases jl:j<os.length
  ·rw[aQ,aQ,iH jl];show some (if (j:Int)∈os.take i then A.getD (os.idxOf (j:Int)) 0 else A.getD j 0)=some (if (j:Int)∈os.take (i+1) then A.getD (os.idxOf (j:Int)) 0 else A.getD j 0);have ne:¬(j:Int)=os.getD i 0:=λ z=>c ca
   have iff':(j:Int)∈os.take (i+1) ↔ (j:Int)∈os.take i:=by
    rw[tk,cg,bh];exact⟨λ z=>z.elim id λ z=>absurd z ne,.inl⟩
   by_cases m:(j:Int)∈os.take i
   ·rw[if_pos m,if_pos (iff'.mpr m)]
   ·rw[if_neg m,if_neg (λ z=>m (iff'.mp z))]
  ·rw[gu (by simp;lia),gu (by simp;lia)]
noncomputable def cE(ns cs S:LI)(F:LI->LI):LI:=(List.range (ae S).toNat).map λ i:Nat=>cs.getD (plH ns (F (atD S (i:Int)))).toNat 0
noncomputable def iQ(ns:LI)(k:Nat)(A:LI):LI:=A.set k (ns.getD k 0-1-A.getD k 0)
def iR(k:Nat)(f g:Int)(A:LI):LI:=A.set k (f+A.getD k 0*g)
def AE{ns A:LI}{k:Nat}(hk:k<ns.length)(g:bD ns A):bD ns (iQ ns k A):=by
 have al:=g.1;have ab:=g.2 k _ _ (fT ca) (fT hk);exact kP g rfl (λ _ _=>rfl) (fT hk) ca ca
def AF{ns A:LI}{k:Nat}(hk:k<ns.length)(nb:¬bad ns k f m s)(g:bD (ns.set k m) A):bD ns (iR k f s A):=by
 unfold bad at nb;simp only[Int.toNat_natCast] at nb;have al:=g.1;rw[cW] at al;have ab:=g.2 k _ _ (fT ca) (hE hk);have z1:A.getD k 0*s<=(m-1)*s:=gW ca ca;have z2:0<=A.getD k 0*s:=oj ab.1 ca;exact kP g (cW ..).symm (λ j hj=>by rw[iY (λ z=>hj z.symm)]) (fT hk) ca ca
def AG{ns:LI}(h0:0<=ns.getD k 0)(nb:¬bad ns k f m s):0<=m/\m<=ns.getD k 0:=by
 unfold bad at nb;simp only[Int.toNat_natCast] at nb;by_cases c:0<m
 ·have z1:(m-1)*1<=(m-1)*s:=gS (by omega) (by omega);omega
 ·omega
noncomputable def Lu(what:Int)(ns os:LI)(side f m g:Int)(S:LI)(F:LI->LI):Prop:=(what=0/\fV ns.length os/\S=bT ns os/\F=dQ os)\/(what=1/\¬off ns side/\S=ns/\F=iQ ns side.toNat)\/(what=2/\¬off ns side/\¬bad ns side f m g/\S=ns.set side.toNat m/\F=iR side.toNat f g)
def Lv{ns os:LI}(hm:sm ns)(h:Lu what ns os side f m g S F):sm S/\S.length=ns.length/\ae (S.map ah)<=ae (ns.map ah):=by
 rcases h with ⟨_,t,rfl,rfl⟩|⟨_,o,rfl,rfl⟩|⟨_,o,b,rfl,rfl⟩
 ·have p:=Ac t;exact⟨λ n hn=>hm n (p.subset hn),p.length_eq,Int.le_of_eq (oy (p.map ah))⟩
 ·exact⟨hm,O,jm _⟩
 ·obtain⟨k,rfl,hk⟩:=cZ o;have nk:=hm _ (getD_mem hk);obtain⟨c0,c1⟩:=AG (k:=k) nk.1 b;simp only[Int.toNat_natCast];exact⟨yW hm c0 ca,cW ..,uP (λ n hn=>(hm n hn).1) c0 c1⟩
noncomputable def oC(n:Int)(r cs ds:LI)(i:Nat):Int:=cs.getD ((ds.getD ((i:Int)/ae r).toNat 0)%n*ae r+(i:Int)%ae r).toNat 0
noncomputable def uR(ns:LI)(side:Int):LI:=(List.range (ae ns).toNat).map λ i:Nat=>(atD ns (i:Int)).getD side.toNat 0
def oD(h:isF w):w∈fU:=(show ∀x∈fw,x∈fU by decide +kernel) w h
abbrev Tb:=List Int×LI
def gT(Ts:List Tb)(a:Nat):Tb:=Ts.getD a ([],[])
def aU{Ts:List Tb}{a:Nat}(h:Ts[a]?=some A):gT Ts a=A:=by unfold gT;rw[aR,h];rfl
noncomputable def TbG(mo:Int)(T:Tb):Prop:=aK mo T.1/\(T.2.length:Int)=ae T.1/\∀c∈T.2,inB c
noncomputable def bB(Ts:List Tb):Stp->LI
 |.inp _=>[]
 |.num n=>[cD n]
 |.count ms k=>uR ms k
 |.each w a=>(gT Ts a).2.map (eH w)
 |.pair w a b=>prC w (gT Ts a).1 (gT Ts a).2 (gT Ts b).1 (gT Ts b).2 (au (gT Ts a).1 (gT Ts b).1)
 |.pick a b c=>pkC (gT Ts a).1 (gT Ts a).2 (gT Ts b).1 (gT Ts b).2 (gT Ts c).1 (gT Ts c).2 (au (au (gT Ts a).1 (gT Ts b).1) (gT Ts c).1)
 |.turn a os=>cE (gT Ts a).1 (gT Ts a).2 (bT (gT Ts a).1 os) (dQ os)
 |.flip a s=>cE (gT Ts a).1 (gT Ts a).2 (gT Ts a).1 (iQ (gT Ts a).1 s.toNat)
 |.cut a s f m g=>cE (gT Ts a).1 (gT Ts a).2 ((gT Ts a).1.set s.toNat m) (iR s.toNat f g)
 |.spread a s m=>(List.range (ae (aY (gT Ts a).1 s.toNat m)).toNat).map (qS (gT Ts a).1 (gT Ts a).2 s.toNat m)
 |.lay a _=>(gT Ts a).2
 |.join a b s=>(List.range (ae (aZ (gT Ts a).1 (gT Ts b).1 s)).toNat).map λ i:Nat=>jM (gT Ts a).1 (gT Ts a).2 (gT Ts b).1 (gT Ts b).2 s.toNat (atD (aZ (gT Ts a).1 (gT Ts b).1 s) (i:Int))
 |.fetch a b=>(List.range (ae ((gT Ts b).1++(gT Ts a).1.tail)).toNat).map (oC ((gT Ts a).1.headD 0) (gT Ts a).1.tail (gT Ts a).2 (gT Ts b).2)
 |.fold w a s=>jL w (gT Ts a).1 (gT Ts a).2 s.toNat
 |.run w a s=>fj w (gT Ts a).1 (gT Ts a).2 s.toNat
def gK{cs:LI}(h:∀c∈cs,inB c)(i:Nat):inB (cs.getD i 0):=by
 rw[aR]
 cases e:cs[i]? with
 |none=>exact⟨fu,fu⟩
 |some c=>exact h c (aA e)
def Lw(w:Str)(x:Int):inB (eH w x):=by
 unfold eH;split
 ·exact kQ _
 ·split
  ·exact kQ _
  ·split
   ·split
    ·exact⟨fu,fu⟩
    ·split<;>exact⟨fu,fu⟩
   ·split<;>exact⟨fu,fu⟩
def iT{mo:Int}(fs:aK mo S){f:Nat->Int}(h:∀i:Nat,(i:Int)<ae S->inB (f i)):TbG mo (S,(List.range (ae S).toNat).map f):=by
 have p0:=iN (cH fs);refine⟨fs,by show(((List.range (ae S).toNat).map f).length:Int)=ae S;rw[ao,bQ];lia,λ c hc=>?_⟩;obtain⟨i,hi,rfl⟩:=bG.mp hc;exact h i (by have:=fq.mp hi;lia)
def dy{Ts:List Tb}{a:Nat}(h:(Ts.map (·.1))[a]?=some A):∃C,Ts[a]?=some (A,C):=by
 rw[aQ] at h;obtain⟨T,e,rfl⟩:=mM.mp h;exact⟨T.2,e⟩
def Lx{w:Str}(h:w∈fU):w∈tw:=(show ∀x∈fU,x∈tw by decide +kernel) w h
def Ly{mo:Int}{Ts:List Tb}(hG:∀T∈Ts,TbG mo T)(m:cq mo)(ok:OkS (Ts.map (·.1)) S d)(fs:aK mo S)(ni:∀ms,d≠.inp ms):TbG mo (S,bB Ts d):=by
 have gm:∀ {a:Nat}{T:Tb},Ts[a]?=some T->TbG mo T:=λ e=>hG _ (aA e)
 cases d with
 |inp ms=>exact absurd rfl (ni ms)
 |num n=>obtain⟨rfl,_⟩:=ok;exact⟨fs,rfl,λ c hc=>by cases bh.mp hc;exact kQ _⟩
 |count ms k=>
  obtain⟨rfl,_,_⟩:=ok;refine iT fs λ i hi=>?_;have g:=dJ (eJ fs m) (rR i) hi
  have b:∀c∈atD S (i:Int),inB c:=λ c hc=>by
   obtain⟨j,hj⟩:=ud hc;have jl:=(bf.mp hj).1;have jS:j<S.length:=by rw[<- g.1];exact jl
   have z:=g.2 j c S[j] hj (aB jS);have y:=fs.1 S[j] (jo jS);have:=m.2;exact⟨ca,ca⟩
  exact gK b _
 |each w a=>
  obtain⟨C,e⟩:=dy ok.1;have g:=gm e;show TbG mo (S,(gT Ts a).2.map (eH w));rw[aU e];exact⟨fs,by show((C.map (eH w)).length:Int)=_;rw[ao];exact g.2.1,λ c hc=>by obtain⟨x,_,rfl⟩:=bG.mp hc;exact Lw _ _⟩
 |pair w a b=>
  obtain⟨A,B,ea,eb,hw,po,rfl⟩:=ok;obtain⟨C,e⟩:=dy ea;obtain⟨C',e'⟩:=dy eb;have p0:=iN (cH fs);show TbG mo (_,prC w (gT Ts a).1 (gT Ts a).2 (gT Ts b).1 (gT Ts b).2 (au (gT Ts a).1 (gT Ts b).1));rw[aU e,aU e'];refine⟨fs,by show((prC w A C B C' (au A B)).length:Int)=ae (au A B);unfold prC;rw[kh,jF,jF,s1u];lia,λ c hc=>?_⟩;obtain⟨i,hi⟩:=ud hc;have hi:(List.zipWith (aW w) (cO A C (au A B)) (cO B C' (au A B)))[i]?=some c:=hi;rw[nQ] at hi
  cases e1:(cO A C (au A B))[i]? with
  |none=>rw[e1] at hi;cases hi
  |some x=>
   cases e2:(cO B C' (au A B))[i]? with
   |none=>rw[e1,e2] at hi;cases hi
   |some y=>
    rw[e1,e2] at hi;cases hi;exact uN (Lx hw) (zN (gm e).2.2 x (aA e1)) (zN (gm e').2.2 y (aA e2))
 |pick a b c=>
  obtain⟨A,B,C,ea,eb,ec,po,po2,rfl⟩:=ok;obtain⟨A',e⟩:=dy ea;obtain⟨B',e'⟩:=dy eb;obtain⟨C',e2⟩:=dy ec;show TbG mo (_,pkC (gT Ts a).1 (gT Ts a).2 (gT Ts b).1 (gT Ts b).2 (gT Ts c).1 (gT Ts c).2 (au (au (gT Ts a).1 (gT Ts b).1) (gT Ts c).1));rw[aU e,aU e',aU e2];refine iT fs λ i hi=>?_;split
  ·exact ou (gm e').2.2
  ·exact ou (gm e2).2.2
 |turn a os=>
  obtain⟨A,ea,tk,rfl⟩:=ok;obtain⟨C,e⟩:=dy ea;show TbG mo (_,cE (gT Ts a).1 (gT Ts a).2 (bT (gT Ts a).1 os) (dQ os));rw[aU e];exact iT fs λ i hi=>gK (gm e).2.2 _
 |flip a s=>
  obtain⟨C,e⟩:=dy ok.1;show TbG mo (_,cE (gT Ts a).1 (gT Ts a).2 (gT Ts a).1 (iQ (gT Ts a).1 s.toNat));rw[aU e];exact iT fs λ i hi=>gK (gm e).2.2 _
 |cut a s f m' g=>
  obtain⟨A,ea,_,_,_,rfl⟩:=ok;obtain⟨C,e⟩:=dy ea;show TbG mo (_,cE (gT Ts a).1 (gT Ts a).2 ((gT Ts a).1.set s.toNat m') (iR s.toNat f g));rw[aU e];exact iT fs λ i hi=>gK (gm e).2.2 _
 |spread a s m'=>
  obtain⟨A,ea,_,_,_,_,rfl⟩:=ok;obtain⟨C,e⟩:=dy ea;show TbG mo (_,(List.range (ae (aY (gT Ts a).1 s.toNat m')).toNat).map (qS (gT Ts a).1 (gT Ts a).2 s.toNat m'));rw[aU e];exact iT fs λ i hi=>gK (gm e).2.2 _
 |lay a ms=>
  obtain⟨A,ea,_,pe,rfl⟩:=ok;obtain⟨C,e⟩:=dy ea;show TbG mo (_,(gT Ts a).2);rw[aU e];exact⟨fs,(gm e).2.1.trans pe,(gm e).2.2⟩
 |join a b s=>
  obtain⟨A,B,ea,eb,_,_,_,_,rfl⟩:=ok;obtain⟨C,e⟩:=dy ea;obtain⟨C',e'⟩:=dy eb;show TbG mo (_,(List.range (ae (aZ (gT Ts a).1 (gT Ts b).1 s)).toNat).map λ i:Nat=>jM (gT Ts a).1 (gT Ts a).2 (gT Ts b).1 (gT Ts b).2 s.toNat (atD (aZ (gT Ts a).1 (gT Ts b).1 s) (i:Int)));rw[aU e,aU e'];refine iT fs λ i hi=>?_;unfold jM;split
  ·exact gK (gm e).2.2 _
  ·exact gK (gm e').2.2 _
 |fetch a b=>
  obtain⟨n,r,B,ea,_,eb,_,rfl⟩:=ok;obtain⟨C,e⟩:=dy ea;obtain⟨C',e'⟩:=dy eb;show TbG mo (_,(List.range (ae ((gT Ts b).1++(gT Ts a).1.tail)).toNat).map (oC ((gT Ts a).1.headD 0) (gT Ts a).1.tail (gT Ts a).2 (gT Ts b).2));rw[aU e,aU e'];exact iT fs λ i hi=>gK (gm e).2.2 _
 |fold w a s=>
  obtain⟨A,ea,hw,_,rfl⟩:=ok;obtain⟨C,e⟩:=dy ea;show TbG mo (_,jL w (gT Ts a).1 (gT Ts a).2 s.toNat);rw[aU e];exact iT fs λ i hi=>qR hw (jK _) (gm e).2.2 _
 |run w a s=>
  obtain⟨ea,hw,_⟩:=ok;obtain⟨C,e⟩:=dy ea;show TbG mo (_,fj w (gT Ts a).1 (gT Ts a).2 s.toNat);rw[aU e];exact⟨fs,by show((fj w S C s.toNat).length:Int)=ae S;unfold fj;rw[kR];exact(gm e).2.1,qQ hw (jK _) (gm e).2.2 (ay _)⟩
def qU:Stp->Option (LI)
 |.inp ms=>some ms
 |_=>none
def bj(ds:List Stp):LL:=ds.filterMap qU
def kS{ds:List Stp}{i:Nat}(e:ds[i]?=some d):bj (ds.take (i+1))=bj (ds.take i)++(qU d).toList:=by
 unfold bj;rw[fR,e,s0d];cases h:qU d<;>simp[h]
def oE:kdN d=0->∃ms,d=.inp ms:=by
 cases d with
 |inp ms=>exact λ _=>⟨ms,rfl⟩
 |_=>exact λ h=>absurd h (jN rfl)
def uS(h:¬kdN d=0):qU d=none:=by
 cases d with
 |inp ms=>exact absurd rfl h
 |_=>rfl
def AH(ds:List Stp):(bj ds).length<=ds.length:=List.length_filterMap_le _ _
noncomputable def bp(ds:List Stp)(Ss:LL)(Is:List Tb):Nat->List Tb
 |0=>[]
 | i+1=>bp ds Ss Is i++[match ds[i]? with
  |some (.inp _)=>Is.getD (bj (ds.take i)).length ([],[])
  |some d=>(Ss.getD i [],bB (bp ds Ss Is i) d)
  |none=>([],[])]
theorem iU(ds:List Stp)(Ss:LL)(Is:List Tb):∀i,(bp ds Ss Is i).length=i
 |0=>rfl
 |i+1=>by unfold bp;rw[aN,iU ds Ss Is i];rfl
def uT{ds:List Stp}{Is:List Tb}{i:Nat}(e:ds[i]?=some (.inp ms))(h:Is[(bj (ds.take i)).length]?=some T):bp ds Ss Is (i+1)=bp ds Ss Is i++[T]:=by
 conv=>lhs;unfold bp
 rw[e];show _++[Is.getD (bj (ds.take i)).length ([],[])]=_;rw[aR,h];rfl
def uU{ds:List Stp}{Ss:LL}{i:Nat}(e:ds[i]?=some d)(ni:∀ms,d≠.inp ms)(h:Ss[i]?=some S):bp ds Ss Is (i+1)=bp ds Ss Is i++[(S,bB (bp ds Ss Is i) d)]:=by
 conv=>lhs;unfold bp
 rw[e]
 cases d with
 |inp ms=>exact absurd rfl (ni ms)
 |_=>show _++[(Ss.getD i [],_)]=_;rw[aR,h];rfl
def uV{ds:List Stp}{i:Nat}(e:ds[i]?=some (.inp ms)):(bj ds)[(bj (ds.take i)).length]?=some ms:=by
 have il:=(bf.mp e).1;have h1:bj ds=bj (ds.take (i+1))++bj (ds.drop (i+1)):=by unfold bj;rw[<- s0d,jD]
 rw[h1,kS e,eX,dn (ay _),iP];rfl
theorem uW{mo:Int}{Is:List Tb}(m:cq mo)(gl:jJ mo ds Ss)(eI:Is.map (·.1)=bj ds)(gI:∀T∈Is,TbG mo T):∀i,i<=ds.length->(bp ds Ss Is i).map (·.1)=Ss.take i/\∀T∈bp ds Ss Is i,TbG mo T
 |0,_=>⟨rfl,λ _ h=>nomatch h⟩
 |i+1,hi=>by
  obtain⟨h1,h2⟩:=uW m gl eI gI i ca;have e:ds[i]?=some ds[i]:=aB hi;have iS:i<Ss.length:=by rw[<- gl.1];exact hi
  have eS:Ss[i]?=some Ss[i]:=aB iS;generalize ds[i]=d at e;generalize Ss[i]=S at eS;have ok:=gl.2.2 i d S e eS;have fs:=gl.2.1 S (aA eS);by_cases c:kdN d=0
  ·obtain⟨ms,rfl⟩:=oE c;have a:=uV e;rw[<- eI,aQ] at a;obtain⟨T,eT,rfl⟩:=mM.mp a;have z:=ok.1;rw[uT e eT];refine⟨by rw[bK,h1,fR,eS,z];rfl,λ T' hT=>?_⟩
   rcases cg.mp hT with y|y
   ·exact h2 T' y
   ·cases bh.mp y;exact gI _ (aA eT)
  ·have ni:∀ms,d≠.inp ms:=λ ms z=>c (by rw[z];rfl);rw[uU e ni eS];refine⟨by rw[bK,h1,fR,eS];rfl,λ T' hT=>?_⟩
   rcases cg.mp hT with y|y
   ·exact h2 T' y
   ·cases bh.mp y;exact Ly h2 m (by rw[h1];exact ok) fs ni
theorem AI(ds:List Stp)(Ss:LL)(Is:List Tb)(i:Nat):∀j,(bp ds Ss Is (i+j)).take i=bp ds Ss Is i
 |0=>by rw[Nat.add_zero];exact gP (by rw[iU];exact ay _)
 |j+1=>by
  have h:=AI ds Ss Is i j;rw[<- Nat.add_assoc]
  conv=>lhs;unfold bp
  rw[qJ (by rw[iU];lia)];exact h
def qV{k n:Nat}(h:k<n):(bp ds Ss Is n)[k]?=(bp ds Ss Is (k+1))[k]?:=by
 obtain⟨j,rfl⟩:∃j,n=k+1+j:=⟨n-(k+1),by omega⟩;rw[<- AI ds Ss Is (k+1) j,ng (jd k)]
def Lz{ds:List Stp}{Is:List Tb}{k:Nat}(e:ds[k]?=some (.inp ms))(h:Is[(bj (ds.take k)).length]?=some T):(bp ds Ss Is ds.length)[k]?=some T:=by
 rw[qV (bf.mp e).1,uT e h,dn (by rw[iU];exact ay _),iU,iP];rfl
def LB{ds:List Stp}{Ss:LL}{k:Nat}(e:ds[k]?=some d)(ni:∀ms,d≠.inp ms)(h:Ss[k]?=some S):(bp ds Ss Is ds.length)[k]?=some (S,bB (bp ds Ss Is k) d):=by
 rw[qV (bf.mp e).1,uU e ni h,dn (by rw[iU];exact ay _),iU,iP];rfl
noncomputable def mN(f:Nat->Nat):Stp->Stp
 |.inp ms=>.inp ms
 |.num n=>.num n
 |.count ms k=>.count ms k
 |.each w a=>.each w (f a)
 |.pair w a b=>.pair w (f a) (f b)
 |.pick a b c=>.pick (f a) (f b) (f c)
 |.turn a os=>.turn (f a) os
 |.flip a s=>.flip (f a) s
 |.cut a s g m h=>.cut (f a) s g m h
 |.spread a s m=>.spread (f a) s m
 |.lay a ms=>.lay (f a) ms
 |.join a b s=>.join (f a) (f b) s
 |.fetch a b=>.fetch (f a) (f b)
 |.fold w a s=>.fold w (f a) s
 |.run w a s=>.run w (f a) s
def LC{Ss Zs:LL}{f:Nat->Nat}(h:OkS Ss S d)(g:∀a∈gX d,∀A,Ss[a]?=some A->Zs[f a]?=some A):OkS Zs S (mN f d):=by
 cases d with
 |inp|num|count=>exact h
 |each|flip|run=>exact⟨g _ (.head _) _ h.1,h.2⟩
 |turn|cut|spread|lay|fold=>obtain⟨A,e,r⟩:=h;exact⟨A,g _ (.head _) _ e,r⟩
 |pair|join=>obtain⟨A,B,e1,e2,r⟩:=h;exact⟨A,B,g _ (.head _) _ e1,g _ (.tail _ (.head _)) _ e2,r⟩
 |fetch=>obtain⟨n,r,B,e1,n0,e2,z⟩:=h;exact⟨n,r,B,g _ (.head _) _ e1,n0,g _ (.tail _ (.head _)) _ e2,z⟩
 |pick=>obtain⟨A,B,C,e1,e2,e3,r⟩:=h;exact⟨A,B,C,g _ (.head _) _ e1,g _ (.tail _ (.head _)) _ e2,g _ (.tail _ (.tail _ (.head _))) _ e3,r⟩
def LD{f:Nat->Nat}{d:Stp}(g:∀a∈gX d,gT Us (f a)=gT Ts a):bB Us (mN f d)=bB Ts d:=by
 cases d with
 |inp|num|count=>rfl
 |pair|join|fetch=>simp only[mN,bB];rw[g _ (.head _),g _ (.tail _ (.head _))]
 |pick=>simp only[mN,bB];rw[g _ (.head _),g _ (.tail _ (.head _)),g _ (.tail _ (.tail _ (.head _)))]
 |_=>simp only[mN,bB];rw[g _ (.head _)]
end _M
structure PySem.W.Fast:Prop where(tw7189220019618298508 tw13569685154605006942 tw9865782306641567847 tw17340382322733837374 tw1702403947002099689 tw14041204465892935075 tw7070698314610341160 tw10575656072923137173 tw9662145088217542551 tw2169848986780942370 tw12834919548580353496 tw14773275802595199933 tw1191230459651566917 tw16977139606417304300 tw780831634507626337 tw11430070072620060920 tw11096890099279113381 tw9653511204170416612 tw3882520782501742897 tw8903010584617778171 tw6838117713006513546 tw9894394456257046991 tw9838560944935124804 tw3681247757843033135 tw9139070988767988099 tw18002441895270213886 tw16320365805758167192 tw15264196691935348617 tw14224277617075646788 tw11755882095100272896 tw4570522813654791825 tw13890735096282582736 tw3727044342196241816 tw7704045681424742926 tw17321430304898809961 tw7922665748441341264 tw14118625662334409413 tw14320041760285212265 tw2837424405905907081 tw12257183143643981286 tw1525414068184081068 tw14102755771796164834 tw17262737284448222652 tw4941494088729988131 tw14987440249907044152 tw17853240430193133925 tw17189864444499182581 tw4658574449355909278 tw5319323842474877043 tw5601359786013444893 tw15137995053514312836 tw14603474272607017473 tw3016639109048314855 tw10002277920622971457 tw13585002594720775539 tw2560463143621713612 tw6744635057535175072 tw9546612680342343080 tw6383739651682484687 tw9942263510437322842 tw14910006277082234096 tw12345135440769371737 tw12429957444170590818 tw9672240603151198902 tw4212823419777808086 tw2359729004331985678 tw6046926867978258486 tw12518484036242463499 tw9307012996907169946 tw6439416271225730254 tw2816480181150702449 tw11569648558744127571 tw16352258849569491350 tw7436725105162937620 tw546409410441335397 tw7212227488688687308 tw8264223818967930436 tw17846980497639820206 tw11093682766469029982 tw13148032987651747306 tw3956886914314649720 tw6381779510116804541 tw4896476584514754116 tw62155332456565673 tw10861516451409442048 tw15506111799565040453 tw18191317039970502011 tw15771467819060996636 tw13769575612357794618 tw11348682070582000028 tw9651873001082739997 tw7798397833054819019 tw3149502374182129482 tw18004118289794465189 tw8325991876621921284 tw4522284886939287614 tw891021241408164217 tw8429280233413586046 tw6981018858641674304 tw5877777025419260880 tw11681466646944338831 tw7660323025417107966 tw13893449488076186222 tw17126774229671264821 tw8730674181392774769 tw13177494459474674914 tw17382789336693979971 tw10848022759161468152 tw10961222479173147254 tw14528483006882639895 tw4226007841608956767 tw16777523959264787836 tw11920212325495781746 tw18080505846276178509 tw2875052420810117412 tw11682644906166239086 tw14094805583799696751 tw7842646230593518267 tw10598972029716331178 tw2042017368907764172 tw2549633748432151036 tw16615829948680696118 tw7338278722573520204 tw12481837728229889629 tw9766068657449422990 tw15795372542717738219 tw3456695809087544063 tw17731120301569865461 tw12980248500003904372 tw17923854409886776773 tw16177966631713920861 tw1427615090385206197 tw12930381948326332892 tw13583573134200189377 tw6667562511030848918 tw5231151574697343875 tw1963869587596295917 tw5387874380065906783 tw3185607182955177377 tw12156862316956280859 tw15831309817062557986 tw2359446371910599580 tw17438290517631154453 tw6712987461848613749 tw15255791016281445648 tw10972894022739158762 tw10803616309003246466 tw10734726964952152025 tw1399812605482642366 tw1619010086311092869 tw13509453123817419566 tw3741942312549967512 tw4632294658997806721 tw1022157554904943657 tw3947181860803060799 tw17026449446815342878 tw11562295230276296446 tw8472563109971169783 tw17428993293472900562 tw3886848612335448581 tw8680695504004621632 tw12342802856657279765 tw11519780660376703628 tw13278756723303576263 tw13117185677128687098 tw14401059592193795091 tw3188943999896651786 tw13304133954103995610 tw10651510795439446367 tw11862277578913445099 tw7128040395093680799 tw15014439523483945287 tw11689395676905401987 tw810498013067970460 tw11063594138043050064 tw962584014519966196 tw897843786237503256 tw7587774678914392691 tw8735634821564641517 tw1699033549099758999 tw8990136497101569155 tw152391300303585494 tw810341088545621976 tw15356573079003499385 tw6318320120087332408 tw16974348103901396997 tw13053749567557416056 tw6460747769839632870 tw14722331127155351682 tw1732436704890969285 tw16900903957666424830 tw15448340724003355755 tw10512933539379705781 tw14028739685863917416 tw7709513839648036754 tw14373756637093747997 tw495127419325430021 tw7105938748965806037 tw10993636262717566429 tw497480984621178913 tw17939217742110157319 tw3432887753745895925 tw14234214742012817835 tw3135229337854587961 tw14237099708188965897 tw6639177627660613606 tw15034933223380835704 tw10288657900294643047 tw7963577732760761474 tw3248488695482151258 tw11511217454880707024 tw14612753718555487841 tw18333838660286448595 tw5924560728018212329 tw8402430925437046938 tw6379355030027909515 tw12504569148617686974 tw17565504868135909054 tw8156138450156754924 tw7895509173686970093 tw7094709777888770222 tw17547305869310464922 tw2774217753001055031 tw2853239510187821045 tw564028269395304441 tw15241959437666612405 tw8356524458076635450 tw16446354685250016668 tw4824060191778098672 tw2975028756671871195 tw17323653857602647246 tw8870976151974499413 tw9383756015422812554 tw14029292662701024582 tw860883703599225480 tw8175275996440724512 tw18194004468931723962 tw10987648000518936216 tw6835367562403975905 tw16806726837159916129 tw1854294491344639737 tw13107904355292439054 tw16589701704482782002 tw14258900294090986373 tw11662707712734953797 tw14242300369743626226 tw7621781432507370515 tw15210179886247568715 tw11617197261852157859 tw13747901196032783641 tw5508179442365632645 tw10067225418412141760 tw7052785983281231559 tw10919212258241643310 tw6617627033963694578 tw385224011603428695 tw10932643953872275404 tw7630000006480777837 tw13199938366362460579 tw12367891036595768659 tw2515939348568636395 tw11495661169253509907 tw18078203689008182083 tw5171248815813984751 tw13608248072649809973 tw17126343835312842229 tw9918012034452314023 tw1273911443717024938 tw6079839164666748327 tw15235725910942555719 tw4012770190237168071 tw12619665369269212144 tw3959437041336838815 tw10883704744645497153 tw13277927965109345044 tw16325850492670511016 tw781056651060102445 tw5681950960942614367 tw5513105250348578635 tw4685166558420588365 tw12431809349210807548 tw5264067220006292124 tw16803571860024196897:True)
namespace _M
open PySem _L PyProof.Rows
noncomputable def top(i:Nat):Stmt:=PySem.Challenge.pw_sideloom_k36_whole_each_cell.main.body.getD i (.Pass ⟨0,0,0,0⟩)
def tI(ns:LI):TV:=.tup (ns.map .int)
def lI(ns:LI):TV:=.lst (ns.map .int)
def iV{ns:LI}{i:Nat}(h:(ns.map TV.int)[i]?=some t):∃n,t=.int n/\ns[i]?=some n:=by
 rw[aQ] at h
 cases q:ns[i]? with
 |none=>rw[q] at h;cases h
 |some n=>rw[q] at h;cases h;exact⟨n,rfl,rfl⟩
noncomputable def ats(t:TV)(its:List TV):Prop:=∃ns,t=tI ns/\aD ns/\ns.length<=63/\ae ns<=512/\its=(List.range (ae ns).toNat).map λ i:Nat=>tI (atD ns (i:Int))
def ag(ns:LI):(ns.map TV.int).length=ns.length:=ao ..
def p64:mV 2 64:=⟨fu,fu,fu⟩
def p63:mV 2 63:=⟨fu,fu,fu⟩
def eK{i j:Int}(h0:-18446744073709551616<j)(h1:j<18446744073709551616):IntMulOk i j:=CMul.ok (.inr ⟨ca,ca⟩)
def kU{i j:Int}(h0:-18446744073709551616<i)(h1:i<18446744073709551616):IntMulOk i j:=CMul.ok (.inl ⟨ca,ca⟩)
def s2{a b:Prop}{P:Bool}(h1:P=true->a)(h2:P=false->b):if P=true then a else b:=by
 cases P
 ·exact h2 rfl
 ·exact h1 rfl
def sF{a b:Prop}{P:Bool}(h:P=false)(k:b):if P=true then a else b:=by rw[h];exact k
def sT{a b:Prop}{P:Bool}(h:P=true)(k:a):if P=true then a else b:=by rw[h];exact k
def cl{FT:List PSp}{f:Nat}{ts:List TV}{K:TV->Prop}(e:FT[f]?=some S)(h:S (ts.map .fz) K)(n:ts.all TV.nb=true):∃P,(∃S,FT[f]?=some S/\S (ts.map .fz) P)/\∀t,P t->(ts.all TV.nb=false->LF t)/\K t:=⟨K,⟨S,e,h⟩,λ t k=>⟨λ z=>(by rw[n] at z;cases z),k⟩⟩
theorem dL{GT:List TV}{α:Type}(f g:α->TV):∀(l:List α) {Kn:List TV->Prop},(∀a∈l,stE ρ tg (f a) λ ρ'=>wE FT GT e ρ' λ y=>y.nb=true/\y.fz=g a)->Kn (l.map g)->cmF (λ t K'=>stE ρ tg t λ ρ'=>wE FT GT e ρ' λ y=>(y.nb=true/\K' [y.fz])) (l.map f) Kn
 |[],_,_,k=>k
 |a::l,Kn,h,k=>gx (λ ρ' q=>av e (λ y ⟨n,z⟩=>⟨n,by rw[z];exact dL f g l (λ b hb=>h b (by simp[hb])) k⟩) q) (h a on)
def AJ{ns:LI}{i:Nat}(h:((ns.map TV.int).reverse)[i]?=some t):i<ns.length/\∃n,t=.int n/\ns[ns.length-1-i]?=some n:=by
 have hl:=(bf.mp h).1;rw[iI,ag] at hl;rw[jY (by rw[ag];exact hl),ag] at h;exact⟨hl,iV h⟩
def LG{ns ms:LI}{i:Nat}(h:(List.zipWith (λ x y=>TV.tup [x,y]) (ns.map TV.int) (ms.map TV.int))[i]?=some t):∃n m,t=.tup [.int n,.int m]/\ns[i]?=some n/\ms[i]?=some m:=by
 rw[nQ,aQ,aQ] at h
 cases a:ns[i]? with
 |none=>rw[a] at h;cases h
 |some n=>
  cases b:ms[i]? with
  |none=>rw[a,b] at h;cases h
  |some m=>rw[a,b] at h;cases h;exact⟨n,m,rfl,rfl,rfl⟩
def LH{n:Int}(h:(!decide (n=0))=true):ah n=n:=by unfold ah;rw[if_neg (by simpa using h)]
def LJ{n:Int}(h:(!decide (n=0))=false):ah n=1:=by unfold ah;rw[if_pos (by simpa using h)]
def neF{a b:Int}(h:a=b):(!_L.eqT (TV.int a).fz (TV.int b).fz)=false:=by subst h;show(!decide (a=a))=false;rw[cY rfl];rfl
def oF{GT:List TV}{α:Type}{l:List α}{f:α->TV}{its:List TV}(h0:its=l.map f)(g:α->TV){Kn:List TV->Prop}(h:∀a∈l,stE ρ tg (f a) λ ρ'=>wE FT GT e ρ' λ y=>y.nb=true/\y.fz=g a)(k:Kn (l.map g)):cmF (λ t K'=>stE ρ tg t λ ρ'=>wE FT GT e ρ' λ y=>(y.nb=true/\K' [y.fz])) its Kn:=h0 ▸ dL f g l h k
def AK(ms ss:LI):List.zipWith (λ x y=>TV.tup [x,y]) (ms.map TV.int) (ss.map TV.int)=(ms.zip ss).map λ p=>TV.tup [.int p.1,.int p.2]:=by
 induction ms generalizing ss with
 |nil=>rfl
 |cons a ms ih=>cases ss with
  |nil=>rfl
  |cons b ss=>rw[aX,aX,mG,ih,kA,aX]
def LK(ms ss:LI):((ms.zip ss).map λ p:Int×Int=>TV.int (p.1*p.2))=(List.zipWith (λ a b=>a*b) ms ss).map TV.int:=by
 induction ms generalizing ss with
 |nil=>rfl
 |cons a ms ih=>cases ss with
  |nil=>rfl
  |cons b ss=>rw[kA,aX,mG,aX,ih]
def uX{cs:LI}{i c:Int}(h:0<=i)(e:cs[i.toNat]?=some c):atI (cs.map TV.int) i=some (.int c):=by
 have z:=ik (xs:=cs.map TV.int) (j:=i.toNat) (v:=.int c) (by rw[aQ,e];rfl)
 rwa [show((i.toNat:Nat):Int)=i by lia] at z
def bg{ns:LI}{k:Nat}(h:k<ns.length):atI (ns.map TV.int) (k:Int)=some (.int (ns.getD k 0)):=ik (by rw[aQ,aB h,aR,aB h];rfl)
def bL{n i:Nat}(h:((List.range n).map f)[i]?=some a):i<n/\a=f i:=by
 have hi:=(bf.mp h).1;rw[ao,bQ] at hi;rw[aQ,iH hi] at h;exact⟨hi,(bJ h).symm⟩
def uY{i:Nat}(h:((cE ns cs S F).map TV.int)[i]?=some b):b=.int (cs.getD (plH ns (F (atD S (i:Int)))).toNat 0):=by
 unfold cE at h;rw[br] at h;exact(bL h).2
def sE{a b:Prop}{x y:Str}(h1:x=y->a)(h2:x≠y->b):if _L.eqT (TV.str x).fz (TV.str y).fz=true then a else b:=by
 by_cases h:x=y
 ·rw[if_pos (show _L.eqT (TV.str x).fz (TV.str y).fz=true from cY h)];exact h1 h
 ·rw[if_neg (by rw[show _L.eqT (TV.str x).fz (TV.str y).fz=decide (x=y) from rfl];simpa using h)];exact h2 h
def sN{a b:Prop}{x y:Int}(h1:x=y->a)(h2:x≠y->b):if _L.eqT (TV.int x).fz (TV.int y).fz=true then a else b:=by
 by_cases h:x=y
 ·rw[if_pos (show _L.eqT (TV.int x).fz (TV.int y).fz=true from cY h)];exact h1 h
 ·rw[if_neg (by rw[show _L.eqT (TV.int x).fz (TV.int y).fz=decide (x=y) from rfl];simpa using h)];exact h2 h
def s3{a b:Prop}{P:Prop} [Decidable P] (h1:P->a)(h2:¬P->b):if decide P=true then a else b:=by
 by_cases h:P
 ·rw[if_pos (cY h)];exact h1 h
 ·rw[if_neg (by simpa using h)];exact h2 h
theorem uZ:∀(l m:LI),_L.eqTL (l.map TV.int) (m.map TV.int)=decide (l=m)
 |[],[]=>rfl
 |[],_::_=>rfl
 |_::_,[]=>rfl
 |x::xs,y::ys=>by
  rw[aX,aX,_L.eqTL_c,uZ xs ys,show _L.eqT (TV.int x) (TV.int y)=decide (x=y) from rfl,<- Bool.decide_and];exact rV.mpr (by rw[List.cons.injEq])
def oG(l m:LI):_L.eqT (TV.tup (l.map TV.int)) (TV.tup (m.map TV.int))=decide (l=m):=uZ l m
def LM(l m:LI):_L.eqT (TV.lst (l.map TV.int)) (TV.lst (m.map TV.int))=decide (l=m):=uZ l m
def dpI(ns:LI):∀x∈ns.map TV.int,_L.dp 8 x:=λ x hx=>by obtain⟨n,_,rfl⟩:=bG.mp hx;trivial
def dpT(ns:LI):_L.dp 9 (TV.tup (ns.map TV.int)):=dpI ns
def dpL(ns:LI):_L.dp 9 (TV.lst (ns.map TV.int)):=dpI ns
def oH{ns:LI}{o:Int}(h0:0<=o)(h1:o<ns.length):atI (ns.map TV.int) o=some (.int (ns.getD o.toNat 0)):=by
 have z:=bg (ns:=ns) (k:=o.toNat) ca
 rwa [show((o.toNat:Nat):Int)=o by lia] at z
def qW(x:Int):aM x y=Int.fdiv x y:=by unfold aM;split<;>first|rfl|exact(mW _ ca).symm
def LN(x:Int):aH x y=Int.fmod x y:=by unfold aH;split<;>first|rfl|exact(vz _ ca).symm
noncomputable def stI:Stp->List TV
 |.inp ms=>[.str "in",tI ms]
 |.num n=>[.str "num",.int n]
 |.count ms k=>[.str "count",tI ms,.int k]
 |.each w a=>[.str "each",.str w,.int a]
 |.pair w a b=>[.str "pair",.str w,.int a,.int b]
 |.pick a b c=>[.str "pick",.int a,.int b,.int c]
 |.turn a os=>[.str "turn",.int a,tI os]
 |.flip a side=>[.str "flip",.int a,.int side]
 |.cut a side f m g=>[.str "cut",.int a,.int side,.int f,.int m,.int g]
 |.spread a side m=>[.str "spread",.int a,.int side,.int m]
 |.lay a ms=>[.str "lay",.int a,tI ms]
 |.join a b side=>[.str "join",.int a,.int b,.int side]
 |.fetch a b=>[.str "fetch",.int a,.int b]
 |.fold w a side=>[.str "fold",.str w,.int a,.int side]
 |.run w a side=>[.str "run",.str w,.int a,.int side]
def stT(d:Stp):TV:=.tup (stI d)
def fl2:∀x∈[TV.str "fold",TV.str "run"],flT x=true:=fu
def LP(f:Int->Int->Int)(ms ss:LI):((ms.zip ss).map λ p:Int×Int=>TV.int (f p.1 p.2))=(List.zipWith f ms ss).map TV.int:=by
 induction ms generalizing ss with
 |nil=>rfl
 |cons a ms ih=>cases ss with
  |nil=>rfl
  |cons b ss=>rw[kA,aX,mG,aX,ih]
def AL{ns cs P:LI}(h:∀c∈cs,inB c){c:Int}(hc:c∈cO ns cs P):inB c:=by
 unfold cO at hc;obtain⟨i,_,rfl⟩:=bG.mp hc;unfold bx;rw[aR]
 cases q:cs[(plH ns ((atD P (i:Int)).take ns.length)).toNat]? with
 |none=>exact⟨fu,fu⟩
 |some x=>exact h x (aA q)
def aF{α:Type}{f:α->TV}{Ss:List α}{a:Nat}{A:α}(e:Ss[a]?=some A):atI (Ss.map f) (a:Int)=some (f A):=ik (by rw[aQ,e];rfl)
def clB{FT:List PSp}{f:Nat}{ts:List TV}{K:TV->Prop}(e:FT[f]?=some S)(h:S (ts.map .fz) λ t=>LF t/\K t):∃P,(∃S,FT[f]?=some S/\S (ts.map .fz) P)/\∀t,P t->(ts.all TV.nb=false->LF t)/\K t:=⟨_,⟨S,e,h⟩,λ t k=>⟨λ _=>k.1,k.2⟩⟩
def sl3{n:Nat}(h:n<=3):n<sizeLine:=aP ca
def LFI(ns:LI):LF (tI ns):=by unfold tI;simp only[LF];intro x hx;obtain⟨n,_,rfl⟩:=bG.mp hx;simp[LF]
def qX{α:Type}{f:α->TV}{l:List α}{i:Nat}(h:(l.map f)[i]?=some t):∃a,t=f a/\l[i]?=some a:=by
 rw[aQ] at h;obtain⟨a,ea,rfl⟩:=mM.mp h;exact⟨a,O,ea⟩
def LF2(S:LI):LF (.tup [tI S,.non]):=by
 simp only[LF];intro x hx;simp only[aL,bX,bY] at hx
 rcases hx with rfl|rfl
 ·exact LFI S
 ·simp[LF]
def tbT(T:Tb):TV:=.tup [tI T.1,tI T.2]
def LQ{cs:LI}{i:Nat}(h:((cs.map TV.int).mapIdx λ i x=>TV.tup [.int (i:Nat),x])[i]?=some t):∃c,t=.tup [.int (i:Nat),.int c]/\cs[i]?=some c:=by
 rw[s0l,aQ] at h
 cases q:cs[i]? with
 |none=>rw[q] at h;cases h
 |some c=>rw[q] at h;cases h;exact⟨c,rfl,rfl⟩
def bI{Ts:List Tb}{a:Nat}(h:(Ts.map (·.1))[a]?=some A):∃C,Ts[a]?=some (A,C):=by
 rw[aQ] at h;obtain⟨T,eT,rfl⟩:=mM.mp h;exact⟨T.2,eT⟩
def neT{a b:Int}(h:a≠b):(!_L.eqT (TV.int a).fz (TV.int b).fz)=true:=by rw[show _L.eqT (TV.int a).fz (TV.int b).fz=decide (a=b) from rfl];simp[h]
def z3I(f g h:Nat->Int)(n:Nat):z3 (((List.range n).map f).map TV.int) (((List.range n).map g).map TV.int) (((List.range n).map h).map TV.int)=(List.range n).map λ i=>TV.tup [.int (f i),.int (g i),.int (h i)]:=by
 apply lV;intro i;unfold z3;rw[nQ];by_cases c:i<n
 ·have e:((((List.range n).map g).map TV.int).zip (((List.range n).map h).map TV.int))[i]?=some (TV.int (g i),TV.int (h i)):=by
   rw[nR];simp[c]
  rw[e];simp[c]
 ·simp[c]
theorem jO{GT:List TV}{α:Type}(f g:α->TV)(p:α->Bool):∀(l:List α) {its:List TV}{Kn:List TV->Prop},its=l.map f->(∀a∈l,stE ρ tg (f a) λ ρ'=>wE FT GT c ρ' λ x=>x=.bl (p a)/\(p a=true->wE FT GT e ρ' λ y=>y.nb=true/\y.fz=g a))->Kn ((l.filter p).map g)->cmF (λ t K'=>stE ρ tg t λ ρ'=>wE FT GT c ρ' λ x=>b1 x λ q=>if q=true then wE FT GT e ρ' λ y=>(y.nb=true/\K' [y.fz]) else K' []) its Kn
 |[],_,_,h0,_,k=>by subst h0;exact k
 |a::l,_,Kn,h0,h,k=>by
  subst h0;show stE ρ tg (f a) λ ρ'=>wE FT GT c ρ' λ x=>b1 x λ q=>if q=true then wE FT GT e ρ' (λ y=>y.nb=true/\cmF _ (l.map f) λ ys=>Kn ([y.fz]++ys)) else cmF _ (l.map f) λ ys=>Kn ([]++ys);refine gx (λ ρ' q=>av c (λ x ⟨e1,q⟩=>?_) q) (h a on);subst e1;have hr:=λ b hb=>h b (aE a hb);show if p a=true then _ else _;by_cases z:p a=true
  ·rw[if_pos z];rw[uj z,aX] at k;exact av e (λ y ⟨n,w⟩=>⟨n,by rw[w];exact jO f g p l rfl hr k⟩) (q z)
  ·rw[if_neg z];rw[uk z] at k;exact jO f g p l rfl hr k
theorem AM{α β:Type}(f:α->TV)(g:β->TV):∀(l:List α) (m:List β),List.zipWith (λ x y=>TV.tup [x,y]) (l.map f) (m.map g)=(l.zip m).map λ p=>TV.tup [f p.1,g p.2]
 |[],_=>rfl
 |_::_,[]=>rfl
 |a::l,b::m=>by rw[aX,aX,mG,AM f g l m,kA,aX]
theorem AN:∀ {ds:List Stp}{Ss:LL},ds.length=Ss.length->(∀(i:Nat) ms S,ds[i]?=some (.inp ms)->Ss[i]?=some S->S=ms)->(((ds.zip Ss).filter λ p=>decide (kdN p.1=0)).map λ p=>tI p.2)=(bj ds).map tI
 |[],_,_,_=>rfl
 |_::_,[],h,_=>by cases h
 |d::ds,S::Ss,h,k=>by
  have ih:=AN (ds:=ds) (Ss:=Ss) (by simpa using h) λ i ms S e1 e2=>k (i+1) ms S (by simpa using e1) (by simpa using e2);rw[kA];unfold bj at ih ⊢
  cases d with
  |inp ms=>rw[uj rfl,aX,ih,k 0 ms S rfl rfl];rfl
  |_=>rw[uk (λ z=>Bool.noConfusion (show false=true from z)),ih];rfl
def dpS(Ss:LL):_L.dp 9 (TV.lst (Ss.map tI)):=by
 intro x hx;obtain⟨S,_,rfl⟩:=bG.mp hx;unfold tI;intro y hy;obtain⟨n,_,rfl⟩:=bG.mp hy;trivial
def p62:mV 2 62:=⟨fu,fu,fu⟩
def LR{i:Int}(h0:0<=i)(h1:i<4):atI [TV.int (-(2 ^ (63:Int).toNat)),TV.int (2 ^ (63:Int).toNat-1),TV.int (-1),TV.int (2 ^ (62:Int).toNat)] i=some (.int ([(-9223372036854775808:Int),9223372036854775807,-1,4611686018427387904].getD i.toNat 0)):=by
 have:i=0\/i=1\/i=2\/i=3:=ca
 rcases this with rfl|rfl|rfl|rfl<;>rfl
def bu{n:Nat}(h:n<=1000):n<=sizeLine:=dN (aP h)
def g0L:0<=sizeLine:=bu fu
def g1L:1<=sizeLine:=bu fu
def g2L:2<=sizeLine:=bu fu
def g3L:3<=sizeLine:=bu fu
def g4L:4<=sizeLine:=bu fu
def g6L:6<=sizeLine:=bu fu
def g7L:7<=sizeLine:=bu fu
def LS:12<=sizeLine:=bu fu
def qY(ns:LI)(a b:Option Int):ai (ns.map TV.int) a b=((ns.drop (_H.sIx ns.length 0 a)).take (_H.sIx ns.length ns.length b-_H.sIx ns.length 0 a)).map TV.int:=by
 unfold ai;rw[ao,List.map_take,List.map_drop]
def dR(ns:LI)(k:Nat):ai (ns.map TV.int) none (some (k:Int))=(ns.take k).map TV.int:=by
 rw[qY];simp only[_H.sIx,List.drop_zero,Nat.sub_zero];rw[if_neg ca,Int.toNat_natCast,Nat.min_def];split
 ·rfl
 ·rw[gP ca,gP ca]
def fk(ns:LI)(k:Nat):ai (ns.map TV.int) (some (k:Int)) none=(ns.drop k).map TV.int:=by
 rw[qY];simp only[_H.sIx];rw[if_neg ca,Int.toNat_natCast,Nat.min_def];split
 ·rw[gP (by rw[dX];lia)]
 ·rw[tY,List.drop_of_length_le ca];simp
noncomputable def LU(i:Nat):LI:=[[],[],[],[2],[2,3],[1,2,3],[1],[1],[1],[1],[1],[1,2],[1,2],[2],[2]].getD i []
def LW:∀i,i<15->zZ i=LU i:=by decide +kernel
def mdT(d:Stp)(S:LI):TV:=.tup [stT d,tI S]
def cr{i j:Int}(h:0<j):aH i j=i%j:=if_pos h
def qZ{i j:Int}(h:0<j):aM i j=i/j:=if_pos h
def LX(k:Int)(h0:0<=k)(h1:k<7):∃x:Int,atI [TV.int 2,TV.int 3,TV.int 1,TV.int 4,TV.int 2,TV.int 3,TV.int 0] k=some (.int x)/\0<=x:=by
 have:k=0\/k=1\/k=2\/k=3\/k=4\/k=5\/k=6:=ca
 rcases this with rfl|rfl|rfl|rfl|rfl|rfl|rfl<;>exact⟨_,rfl,fu⟩
def vc(ws:List Str){k:Int}(h0:0<=k)(h1:k<(ws.length:Int)):∃w,atI (ws.map TV.str) k=some (.str w)/\w∈ws:=by
 have l:k.toNat<ws.length:=ca;refine⟨ws[k.toNat],?_,jo l⟩;have z:=ik (xs:=ws.map TV.str) (j:=k.toNat) (v:=.str ws[k.toNat]) (by rw[aQ,aB l];rfl)
 rwa [iJ h0] at z
def mO(ms:LI):_L.eqT (TV.tup (ms.map TV.int)).fz (TV.tup []).fz=decide (ms=[]):=oG ms []
def LY(d:Stp):LF (stT d):=by
 unfold stT;simp only[LF];intro x hx
 cases d<;>simp only[stI,aL,bX,bY] at hx<;>(try rcases hx with rfl|rfl|rfl|rfl|rfl|rfl)<;>(try rcases hx with rfl|rfl|rfl|rfl|rfl)<;>(try rcases hx with rfl|rfl|rfl|rfl)<;>(try rcases hx with rfl|rfl|rfl)<;>(try rcases hx with rfl|rfl)<;>first|exact LFI _|simp[LF]
def rb(d:Stp)(S:LI):LF (mdT d S):=by
 unfold mdT;simp only[LF];intro x hx;simp only[aL,bX,bY] at hx
 rcases hx with rfl|rfl
 ·exact LY d
 ·exact LFI S
def re(n:Nat):((List.range (((n:Nat):Int)).toNat).map λ i:Nat=>TV.int (i:Nat))=(upL n).map TV.int:=by unfold upL;rw[br];rfl
def mxT(h:bZ A B):TV.tup (if (A.map TV.int).length<(B.map TV.int).length then B.map TV.int else A.map TV.int)=tI (au A B):=by
 rw[ag,ag];by_cases c:A.length<B.length
 ·rw[if_pos c,Ah c];rfl
 ·rw[if_neg c,Ag h ca];rfl
noncomputable def pB(Ss:LL)(A:LI)(k:Int):Bool:=@decide (bZ A (Ss.getD k.toNat [])) (Classical.propDecidable _)
def rf:pB Ss A k=true ↔ bZ A (Ss.getD k.toNat []):=by unfold pB;exact @decide_eq_true_iff _ (Classical.propDecidable _)
def AO{a b:Bool}{p:Prop}(h1:a=true ↔ p)(h2:b=true ↔ p):a=b:=by
 cases a<;>cases b<;>simp_all
def fY{Ss:LL}{a:Nat}(h:a<Ss.length):Ss[a]?=some (Ss.getD a []):=by rw[aR,aB h];rfl
def or3{G N:Prop}{e1 e2 e3:Bool}(g:(e1=true\/e2=true/\e3=true)->G)(n:e1=false->N):if e1=true then G else True/\(if e2=true then (if e3=true then G else N) else N):=by
 cases e1
 ·refine⟨pv,?_⟩;cases e2
  ·exact n rfl
  ·cases e3
   ·exact n rfl
   ·exact g (.inr ⟨O,O⟩)
 ·exact g (.inl rfl)
def AQ{A:LI}{k:Nat}:(ai (A.map TV.int) none (some (k:Int))++[TV.int x])++ai (A.map TV.int) (some (k:Int)) none=(aY A k x).map TV.int:=by rw[dR,fk];unfold aY;simp
def oJ{A:LI}{k:Nat}(kl:k<A.length):(ai (A.map TV.int) none (some (k:Int))++[TV.int x])++ai (A.map TV.int) (some ((k:Int)+1)) none=(A.set k x).map TV.int:=by
 rw[show(k:Int)+1=((k+1:Nat):Int) by lia,dR,fk,<- KF kl];simp
def db{A:LI}(h:A.length<=6):(ai (A.map TV.int) a b).length<=6:=by
 rw[qY,ag,bd,dX];lia
def rh{GT:List TV}(P:En->Prop)(h:wS FT GT (.ite c a b .nil) ρ P rt)(k:∀ρ',P ρ'->wS FT GT r ρ' nx rt):wS FT GT (.ite c a b r) ρ nx rt :=
 av c (λ t q=>cG (λ _ q=>jr (λ q=>bN a (λ ρ' p=>k ρ' p) (λ _ h=>h) q) (λ q=>bN b (λ ρ' p=>k ρ' p) (λ _ h=>h) q) q) q) h
def AR{A:LI}(h:0<A.length):atI (A.map TV.int) 0=some (.int (A.getD 0 0)):=bg (k:=0) h
def LZ{os:LI}{s:Int}(h:s∈os):(os.map TV.int)[os.idxOf s]?=some (.int s)/\∀(m:Nat) (z:TV),m<os.idxOf s->(os.map TV.int)[m]?=some z->_L.eqT z (.int s)=false:=by
 have xl:=uQ.mpr h;refine⟨by rw[aQ,aB xl,s1l xl];rfl,λ m z hm ez=>?_⟩;obtain⟨n,rfl,hn⟩:=iV ez;obtain⟨ml,en⟩:=bf.mp hn;have y:=ne_of_lt_idxOf hm ml;rw[en] at y;show decide (n=s)=false;simpa using y
def flI(ns:LI):∀z∈ns.map TV.int,flT z=true:=λ z hz=>by obtain⟨n,_,rfl⟩:=bG.mp hz;rfl
def eqI(n:Int):_L.eqT (.int n) (.int n)=true:=cY rfl
def Ma(S C:LI):LF (.tup [tI S,tI C]):=by
 simp only[LF];intro x hx;simp only[aL,bX,bY] at hx
 rcases hx with rfl|rfl<;>exact LFI _
def Mb(k:Int)(h0:0<=k)(h1:k<6):∃x:Int,atI [TV.int 1,TV.int 2,TV.int 3,TV.int 2,TV.int 1,TV.int 8] k=some (.int x)/\1<=x/\x<=8:=by
 have:k=0\/k=1\/k=2\/k=3\/k=4\/k=5:=ca
 rcases this with rfl|rfl|rfl|rfl|rfl|rfl<;>exact⟨_,rfl,fu,fu⟩
def Mc{α:Type}{x:α}{l:List α}:seqIndex? 0 (x::l).length=some 0:=by simp[seqIndex?]
def AS(d:Stp):(∃ms,d=.inp ms)\/∀ms,d≠.inp ms:=by cases d<;>first|exact .inl ⟨_,rfl⟩|exact .inr λ ms z=>by cases z
def Me(ns:LI)(lo hi:Nat):∃ms:LI,ai (ns.map TV.int) (some (lo:Int)) (some (hi:Int))=ms.map TV.int/\ms.length<=hi-lo/\ms.length<=ns.length:=by
 refine⟨_,qY ns _ _,?_,?_⟩
 ·rw[bd,dX];simp only[_H.sIx];rw[if_neg (by omega),if_neg (by omega),Int.toNat_natCast,Int.toNat_natCast];omega
 ·rw[bd,dX];omega
def AT(d:Stp):atI (stI d) 0=some (.str (uF (kdN d))):=by cases d<;>rfl
def AU(d:Stp):_L.eqT (TV.str (uF (kdN d))).fz (TV.str "in").fz=decide (kdN d=0):=by cases d<;>rfl
def AW(T:Tb):_L.dp 9 (tbT T):=by
 unfold tbT;intro x hx;simp only[aL,bX,bY] at hx
 rcases hx with rfl|rfl<;>(unfold tI;intro y hy;obtain⟨n,_,rfl⟩:=bG.mp hy;trivial)
def plT{ns ms:LI}{i:Nat}(hl:ms.length=ns.length)(e1:ns[i]?=some n)(e2:ms[i]?=some m):plH (ns.take (i+1)) (ms.take (i+1))=plH (ns.take i) (ms.take i)*n+m:=Kt hl e1 e2
noncomputable def AX(n:Int):Int:=(n+9223372036854775808)%18446744073709551616-9223372036854775808
def Mf(n:Int):AX n=cD n:=by unfold AX cD;lia
def dU:∀x∈[TV.str "add",TV.str "sub",TV.str "mul"],flT x=true:=fu
def iW:∀x∈[TV.str "quo",TV.str "rest"],flT x=true:=fu
def kW:∀x∈[TV.str "less",TV.str "like"],flT x=true:=fu
def oK:∀x∈[TV.str "max",TV.str "min"],flT x=true:=fu
def vd:∀x∈[TV.str "and",TV.str "or",TV.str "xor"],flT x=true:=fu
def ve{P:Nat->TV->Prop}:∀(m:Nat) (z:TV),m<0->P m z:=λ m _ h=>absurd h (lT m)
def AY(p:Prop) [Decidable p]:(if decide p=true then (1:Int) else 0)=if p then 1 else 0:=by simp only[gG]
noncomputable def Mg:Stp->LI->LI->LI
 |.turn _ os,_,ms=>dQ os ms
 |.flip _ s,A,ms=>iQ A s.toNat ms
 |.cut _ s f _ g,_,ms=>iR s.toNat f g ms
 |.spread _ s _,_,ms=>ms.eraseIdx s.toNat
 |_,_,ms=>ms
noncomputable def Mh:Stp->Prop
 |.turn ..=>True|.flip ..=>True|.cut ..=>True|.spread ..=>True|_=>False
def erT{A:LI}{k:Nat}:ai (A.map TV.int) none (some (k:Int))++ai (A.map TV.int) (some ((k:Int)+1)) none=(A.eraseIdx k).map TV.int:=by rw[show(k:Int)+1=((k+1:Nat):Int) by lia,dR,fk,mC,bK]
noncomputable def Mi:Stp->Prop
 |.lay ..=>True|.join ..=>True|.fetch ..=>True|_=>False
def vf{C:LI}{x:Int}{i:Nat}(e:x=i)(h:i<C.length):atI (C.map TV.int) x=some (.int (C.getD i 0)):=by subst e;exact bg h
def mP{C:LI}{x:Int}(h:0<=x)(l:x<(C.length:Int)):atI (C.map TV.int) x=some (.int (C.getD x.toNat 0)):=vf ca ca
def gY{f:Nat->Int}{n i:Nat}(h:i<n):((List.range n).map f).getD i 0=f i:=by rw[aR,aQ,iH h];rfl
def Mj:Stp->Prop
 |.fold ..=>True|.run ..=>True|_=>False
def AZ(h:isF w):∃(j:Nat) (z:TV),[TV.str "add",.str "mul",.str "max",.str "min",.str "and",.str "or",.str "xor"][j]?=some z/\_L.eqT z (.str w)=true/\(∀(m:Nat) (z:TV),m<j->[TV.str "add",.str "mul",.str "max",.str "min",.str "and",.str "or",.str "xor"][m]?=some z->_L.eqT z (.str w)=false)/\atI [TV.int 0,.int 1,.int (-9223372036854775808),.int 9223372036854775807,.int (-1),.int 0,.int 0] (j:Int)=some (.int (bc w)):=by
 unfold isF at h;simp only[fw,aL,bX,bY] at h
 rcases h with rfl|rfl|rfl|rfl|rfl|rfl|rfl
 ·exact⟨0,_,O,O,ve,by rw[zQ];rfl⟩
 ·exact⟨1,_,O,O,(λ m z hm e=>by match m,hm,e with|0,_,e=>cases e;rfl),by rw[zR];rfl⟩
 ·exact⟨2,_,O,O,(λ m z hm e=>by match m,hm,e with|0,_,e=>cases e;rfl|1,_,e=>cases e;rfl),by rw[zU];rfl⟩
 ·exact⟨3,_,O,O,(λ m z hm e=>by match m,hm,e with|0,_,e=>cases e;rfl|1,_,e=>cases e;rfl|2,_,e=>cases e;rfl),by rw[zV];rfl⟩
 ·exact⟨4,_,O,O,(λ m z hm e=>by match m,hm,e with|0,_,e=>cases e;rfl|1,_,e=>cases e;rfl|2,_,e=>cases e;rfl|3,_,e=>cases e;rfl),by rw[zW];rfl⟩
 ·exact⟨5,_,O,O,(λ m z hm e=>by match m,hm,e with|0,_,e=>cases e;rfl|1,_,e=>cases e;rfl|2,_,e=>cases e;rfl|3,_,e=>cases e;rfl|4,_,e=>cases e;rfl),by rw[zX];rfl⟩
 ·exact⟨6,_,O,O,(λ m z hm e=>by match m,hm,e with|0,_,e=>cases e;rfl|1,_,e=>cases e;rfl|2,_,e=>cases e;rfl|3,_,e=>cases e;rfl|4,_,e=>cases e;rfl|5,_,e=>cases e;rfl),by rw[zY];rfl⟩
def Ba:∀x∈[TV.str "add",.str "mul",.str "max",.str "min",.str "and",.str "or",.str "xor"],flT x=true:=fu
def Ml{A P:LI}{i:Nat}(hp:P.take A.length=A)(sd:aD P)(il:(i:Int)<ae P):bD A ((atD P (i:Int)).take A.length):=by
 have z:=zK A.length (dJ (p:=i) sd ca il)
 rwa [hp] at z
def Mm{i:Nat}(il:(i:Int)<ae P):(prC w A C B D P).getD i 0=aW w (bx A C P i) (bx B D P i):=by
 rw[Ky (n2:=[]) (c2:=[])];unfold uE;rw[gY ca];unfold uD;rw[if_neg fu,if_pos rfl]
def Mn{i:Nat}(sd:aD S)(il:(i:Int)<ae S):bx S C S i=C.getD i 0:=by
 unfold bx;rw[gP (by rw[dw];exact ay _),kH sd ca il,Int.toNat_natCast]
def Mp{f:Int->Int}{C:LI}{i:Nat}(h:i<C.length):(C.map f).getD i 0=f (C.getD i 0):=by
 rw[aR,aR,aQ,aB h];rfl
def Mq(h:fit S)(g:bD S At):∀c∈At,inB c:=λ c hc=>by
 obtain⟨j,hj,e⟩:=List.getElem_of_mem hc;have jl:j<S.length:=by have:=g.1;lia
 have z:=g.2 j c S[j] (by rw[aB hj,e]) (aB jl);have y:=h.1 _ (jo jl);unfold inB;lia
def oM:∀x∈[TV.str "turn",.str "flip",.str "cut",.str "spread"],flT x=true:=fu
def Mr:∀x∈[TV.str "fold",.str "run"],flT x=true:=fu
def Bb(d:Stp):mN (λ a=>a) d=d:=by cases d<;>rfl
def Mt{l:LI}{n:Nat}(h:l.length=n):(List.range n).map (λ i:Nat=>TV.int (l.getD i 0))=l.map TV.int:=by
 subst h;apply List.ext_getElem
 ·simp
 ·intro i h1 h2;simp only[ao,bQ] at h1;simp[List.getElem_map,h1]
def zp0:PSp:=λ ts Q=>∃n,ts=[.int n]/\Q (.int (cD n))
noncomputable def zc0:Ct:=(.ret (.ad (.md (.sb V0 (.g 0)) (.bin .Pow N2 (.n 64))) (.g 0)))
noncomputable def zp1:PSp:=λ ts Q=>∃n:Int,ts=[.int n]/\Q (.int (if n<0 then -1 else if 0<n then 1 else 0))
noncomputable def zc1:Ct:=(.r (.lt V0 N0) (.neg N1) (.ret (.ite (.gt V0 N0) N1 N0)))
noncomputable def zp2:PSp:=λ ts Q=>∃x y:Int,ts=[.int x,.int y]/\inB x/\inB y/\Q (.int (kK x y))
def zc2:Ct:=(.r (.eq V1 N0) N0 (.ret (.c1 0 (.dv V0 V1))))
noncomputable def zp3:PSp:=λ ts Q=>∃x y:Int,ts=[.int x,.int y]/\Q (.int (kL x y))
def zc3:Ct:=(.ret (.ite (.eq V1 N0) V0 (.md V0 V1)))
noncomputable def zp4:PSp:=λ ts Q=>∃(w:Str) (x:Int),ts=[.str w,.int x]/\w∈jE/\Q (.int (eH w x))
noncomputable def zc4:Ct:=(.r (.es V0 "neg") (.c1 0 (.neg V1)) (.r (.es V0 "abs") (.c1 0 (.b1 .abs V1)) (.r (.es V0 "sign") (.c1 1 V1) (.r (.es V0 "not") (.ite (.eq V1 N0) N1 N0) .never))))
noncomputable def zp5:PSp:=λ ts Q=>∃(w:Str) (x y:Int),ts=[.str w,.int x,.int y]/\inB x/\inB y/\w∈fU/\Q (.int (aW w x y))
noncomputable def zc5:Ct:=(.r (.es V0 "add") (.c1 0 (.ad V1 V2)) (.r (.es V0 "sub") (.c1 0 (.sb V1 V2)) (.r (.es V0 "mul") (.c1 0 (.ml V1 V2)) (.r (.es V0 "quo") (.c2 2 V1 V2) (.r (.es V0 "rest") (.c2 3 V1 V2) (.r (.es V0 "max") (.b2 .max V1 V2) (.r (.es V0 "min") (.b2 .min V1 V2) (.r (.es V0 "less") (.ite (.lt V1 V2) N1 N0) (.r (.es V0 "like") (.ite (.eq V1 V2) N1 N0) (.r (.es V0 "and") (.bin .BitAnd V1 V2) (.r (.es V0 "or") (.bin .BitOr V1 V2) (.r (.es V0 "xor") (.bin .BitXor V1 V2) .never))))))))))))
noncomputable def zp6:PSp:=λ ts Q=>∃(w:Str),ts=[.str w]/\isF w/\Q (.int (bc w))
noncomputable def zc6:Ct:=(.r (.cmp .In V0 (.t3 (.w "add") (.w "or") (.w "xor"))) N0 (.r (.es V0 "mul") N1 (.r (.es V0 "max") (.g 0) (.r (.es V0 "min") (.g 1) (.r (.es V0 "and") (.neg N1) .never)))))
noncomputable def zp7:PSp:=λ ts Q=>∃i:Nat,i<15/\ts=[.str (uF i)]/\Q (.lst ((zZ i).map .int))
noncomputable def zc7:Ct:=(.ret (.compI ["kind","place"] [] [] [0,1] .seq (.a1 (.dk 6 V0)) (.es V0 "step") V1))
noncomputable def zp8:PSp:=λ ts Q=>∃d:Stp,ts=[stT d]/\Q (tI ((gX d).map λ a:Nat=>(a:Int)))
noncomputable def zc8:Ct:=(.ret (.b1 .tuple (.comp ["place"] ["step"] [0] [0] .seq (.a1 (.c1 7 (.x 0 0))) (.ix V1 V0))))
noncomputable def zp9:PSp:=λ ts Q=>∃(t:TV),ts=[t]/\∃ns,(t=tI ns\/t=lI ns)/\aD ns/\Q (.int (ae ns))
noncomputable def zc9:Ct:=(.set 1 N1 (.for [2] .seq (.a1 V0) (.set 1 (.ml V1 V2) .nil) (.ret V1)))
noncomputable def Bc:PSp:=λ ts Q=>∃ns,ts=[tI ns]/\aD ns/\ns.length<=63/\Q (.int (ae (ns.map ah)))
noncomputable def Mu:Ct:=(.ret (.c1 9 (.comp ["side"] [] [] [0] .seq (.a1 V0) (.ite (.ne V0 N0) V0 N1))))
noncomputable def Bd:PSp:=λ ts Q=>∃ns,ts=[tI ns]/\aD ns/\ns.length<=63/\¬bP ns/\Q (tI ns)
noncomputable def Mv:Ct:=(.nv (.gt (.ln V0) (.g 2)) (.nv (.gt (.c1 10 V0) (.g 3)) (.ret V0)))
noncomputable def Be:PSp:=λ ts Q=>∃ns,ts=[tI ns]/\aD ns/\ns.length<=63/\Q (tI (stL ns ns.length).reverse)
noncomputable def Mw:Ct:=(.set 1 .l0 (.set 2 N1 (.for [3] (.rev true) (.a1 V0) (.met .append 1 (.a1 V2) (.set 2 (.ml V2 V3) .nil)) (.ret (.trev false V1)))))
noncomputable def Bf:PSp:=λ ts Q=>∃(ns ms:LI),ts=[tI ns,tI ms]/\aD ns/\ns.length<=63/\bD ns ms/\Q (.int (plH ns ms))
noncomputable def Mx:Ct:=(.nv (.ne (.ln V1) (.ln V0)) (.for [2,3] (.zip true true) (.a2 V0 V1) (.nv (.or (.lt V3 N0) (.ge V3 V2)) .nil) (.ret (.b1 .sum (.comp ["coordinate","stride"] [] [] [0,1] (.zip true true) (.a2 V1 (.c1 12 V0)) (.ml V0 V1))))))
noncomputable def Bg:PSp:=λ ts Q=>∃(ns:LI) (pl:Int),ts=[tI ns,.int pl]/\aD ns/\ns.length<=63/\0<=pl/\pl<ae ns/\Q (tI (atD ns pl))
noncomputable def Mz:Ct:=(.nv (.or (.lt V1 N0) (.ge V1 (.c1 9 V0))) (.set 2 .l0 (.set 3 V1 (.for [4] (.rev true) (.a1 V0) (.met .append 2 (.a1 (.md V3 V4)) (.set 3 (.dv V3 V4) .nil)) (.ret (.trev false V2))))))
noncomputable def rj:PSp:=λ ts Q=>∃ns,ts=[tI ns]/\aD ns/\ns.length<=63/\ae ns<=512/\Q (.lst ((List.range (ae ns).toNat).map λ i:Nat=>tI (atD ns (i:Int))))
noncomputable def MA:Ct:=(.ret (.comp ["place"] ["sides"] [0] [0] .rng (.a1 (.c1 9 V0)) (.c2 14 V1 V0)))
noncomputable def Bh:PSp:=λ ts Q=>∃(ns:LI) (k:Nat) (m:Int),ts=[tI ns,.int k,.int m]/\ns.length<=63/\k<ns.length/\Q (tI (ns.set k m))
noncomputable def MB:Ct:=(.ret (.ad (.ad (.st V0 V1) (.t1 V2)) (.sf V0 (.ad V1 N1))))
noncomputable def Bi:PSp:=λ ts Q=>∃(ns:LI) (k:Nat) (m:Int),ts=[tI ns,.int k,.int m]/\ns.length<=63/\Q (tI (aY ns k m))
def MC:Ct:=(.ret (.ad (.ad (.st V0 V1) (.t1 V2)) (.sf V0 V1)))
noncomputable def Bj:PSp:=λ ts Q=>∃(ns:LI) (k:Nat),ts=[tI ns,.int k]/\ns.length<=63/\k<ns.length/\Q (tI (ns.eraseIdx k))
def MD:Ct:=(.ret (.ad (.st V0 V1) (.sf V0 (.ad V1 N1))))
noncomputable def Bk:PSp:=λ ts Q=>∃(ns:LI) (side:Int),ts=[tI ns,.int side]/\¬off ns side/\Q .non
def ME:Ct:=(.nv (.or (.lt V1 N0) (.ge V1 (.ln V0))) .nil)
noncomputable def Bl:PSp:=λ ts Q=>∃(ns os:LI),ts=[tI ns,tI os]/\ns.length<=20/\os.length<=20/\fV ns.length os/\Q (tI (bT ns os))
noncomputable def MF:Ct:=(.nv (.ne (.b1 .sorted V1) (.lrng false (.ln V0))) (.ret (.b1 .tuple (.comp ["side"] ["sides"] [0] [0] .seq (.a1 V1) (.ix V1 V0)))))
noncomputable def Bm:PSp:=λ ts Q=>∃(ns:LI) (side:Int),ts=[tI ns,.int side]/\¬off ns side/\Q (tI ns)
def MG:Ct:=(.ex (.c2 19 V0 V1) (.ret V0))
noncomputable def Bn:PSp:=λ ts Q=>∃(ns:LI) (side first many step:Int),ts=[tI ns,.int side,.int first,.int many,.int step]/\ns.length<=63/\-100<many/\many<1000000/\¬off ns side/\¬bad ns side first many step/\Q (tI (ns.set side.toNat many))
noncomputable def MH:Ct:=(.ex (.c2 19 V0 V1) (.nv (.or (.lt V2 N0) (.or (.lt V3 N0) (.lt V4 N1))) (.nv (.and (.gt V3 N0) (.ge (.ad V2 (.ml (.sb V3 N1) V4)) (.ix V0 V1))) (.ret (.c3 16 V0 V1 V3)))))
noncomputable def Bo:PSp:=λ ts Q=>∃(ns:LI) (side many:Int),ts=[tI ns,.int side,.int many]/\aD ns/\ns.length<=20/\many<1000000/\¬jG ns side/\¬many<0/\¬bP (aY ns side.toNat many)/\Q (tI (aY ns side.toNat many))
noncomputable def MI:Ct:=(.nv (.or (.lt V1 N0) (.gt V1 (.ln V0))) (.nv (.lt V2 N0) (.ret (.c1 11 (.c3 17 V0 V1 V2)))))
noncomputable def Bp:PSp:=λ ts Q=>∃(ns ms:LI),ts=[tI ns,tI ms]/\aD ns/\aD ms/\ms.length<=20/\¬bP ms/\ae ns=ae ms/\Q (tI ms)
noncomputable def MJ:Ct:=(.ex (.c1 11 V1) (.nv (.ne (.c1 9 V0) (.c1 9 V1)) (.ret V1)))
noncomputable def Bq:PSp:=λ ts Q=>∃(ns ms:LI) (side:Int),ts=[tI ns,tI ms,.int side]/\sm ns/\sm ms/\ns.length<=20/\ns.length=ms.length/\¬off ns side/\ns.eraseIdx side.toNat=ms.eraseIdx side.toNat/\¬bP (aZ ns ms side)/\Q (tI (aZ ns ms side))
noncomputable def MK:Ct:=(.nv (.ne (.ln V0) (.ln V1)) (.ex (.c2 19 V0 V2) (.nv (.ne (.c2 18 V0 V2) (.c2 18 V1 V2)) (.ret (.c1 11 (.c3 16 V0 V2 (.ad (.ix V0 V2) (.ix V1 V2))))))))
noncomputable def Br:PSp:=λ ts Q=>∃(ns ms:LI),ts=[tI ns,tI ms]/\ms.take ns.length=ns/\Q (tI ms)
def ML:Ct:=(.nv (.ne (.st V1 (.ln V0)) V0) (.ret V1))
noncomputable def Bs:PSp:=λ ts Q=>∃(ns ms:LI),ts=[tI ns,tI ms]/\bZ ns ms/\Q (tI (au ns ms))
noncomputable def MN:Ct:=(.r (.gt (.ln V0) (.ln V1)) (.c2 26 V1 V0) (.ret (.c2 26 V0 V1)))
noncomputable def Bt:PSp:=λ ts Q=>∃(ns ms ks:LI),ts=[tI ns,tI ms,tI ks]/\bZ ns ms/\bZ (au ns ms) ks/\Q (tI (au (au ns ms) ks))
def MO:Ct:=(.ret (.c2 27 (.c2 27 V0 V1) V2))
noncomputable def Bu:PSp:=λ ts Q=>∃(n:Int) (r ms:LI),ts=[tI (n::r),tI ms]/\aD (n::r)/\aD ms/\r.length<20/\ms.length<=20/\n≠0/\¬bP (ms++r)/\Q (tI (ms++r))
noncomputable def MP:Ct:=(.nv (.eq (.ln V0) N0) (.nv (.eq (.x 0 0) N0) (.ret (.c1 11 (.ad V1 (.sf V0 N1))))))
noncomputable def Bv:PSp:=λ ts Q=>∃(ns:LI) (side:Int),ts=[tI ns,.int side]/\ns.length<=63/\¬off ns side/\Q (tI (ns.eraseIdx side.toNat))
def MQ:Ct:=(.ex (.c2 19 V0 V1) (.ret (.c2 18 V0 V1)))
noncomputable def Bw:PSp:=λ ts Q=>∃(ns:LI) (side:Int),ts=[tI ns,.int side]/\aD ns/\ns.length<=20/\¬bP ns/\¬off ns side/\Q (tI ns)
def MR:Ct:=(.ex (.c1 11 V0) (.ex (.c2 19 V0 V1) (.ret V0)))
def Bx:PSp:=λ ts Q=>∃d:Stp,ts=[stT d]/\Aq d/\Q .non
noncomputable def MS:Ct:=(.i (.es (.x 0 0) "each") (.ex (.c2 4 (.x 0 1) N0) .nil) (.i (.es (.x 0 0) "pair") (.ex (.c3 5 (.x 0 1) N0 N0) .nil) (.i (.cmp .In (.x 0 0) (.t2 (.w "fold") (.w "run"))) (.ex (.c1 6 (.x 0 1)) .nil) .nil)))
noncomputable def By:PSp:=λ ts Q=>∃(d:Stp) (S:LI) (Ss:LL),ts=[stT d]/\kdN d<3/\OkS Ss S d/\fit S/\Q (tI S)
noncomputable def MT:Ct:=(.r (.es (.x 0 0) "in") (.c1 11 (.x 0 1)) (.r (.es (.x 0 0) "count") (.c2 31 (.x 0 1) (.x 0 2)) (.ret .t0)))
noncomputable def Bz:PSp:=λ ts Q=>∃(d:Stp) (S A:LI) (Ss:LL) (a:Nat),ts=[stT d,tI A]/\gX d=[a]/\Ss[a]?=some A/\fit A/\OkS Ss S d/\fit S/\Q (tI S)
noncomputable def MU:Ct:=(.set 2 (.x 0 0) (.r (.es V2 "turn") (.c2 20 V1 (.x 0 2)) (.r (.es V2 "flip") (.c2 21 V1 (.x 0 2)) (.r (.es V2 "cut") (.call 22 (.cons V1 (.cons (.x 0 2) (.cons (.x 0 3) (.cons (.x 0 4) (.cons (.x 0 5) .nil)))))) (.r (.es V2 "spread") (.c3 23 V1 (.x 0 2) (.x 0 3)) (.r (.es V2 "lay") (.c2 24 V1 (.x 0 2)) (.r (.es V2 "fold") (.c2 30 V1 (.x 0 3)) (.r (.es V2 "run") (.c2 21 V1 (.x 0 3)) (.ret V1)))))))))
noncomputable def BA:PSp:=λ ts Q=>∃(t:TV) (d:Stp) (S:LI) (Ss:LL),ts=[stT d,t]/\t=.lst (Ss.map tI)/\(∀T∈Ss,fit T)/\OkS Ss S d/\fit S/\Q (tI S)
noncomputable def MV:Ct:=(.ex (.c1 32 V0) (.set 2 (.comp ["number"] ["sides"] [1] [0] .seq (.a1 (.c1 8 V0)) (.ix V1 V0)) (.set 3 (.x 0 0) (.r (.eq (.ln V2) N0) (.c1 33 V0) (.r (.eq (.ln V2) N1) (.c2 34 V0 (.x 2 0)) (.r (.es V3 "pair") (.c2 27 (.x 2 0) (.x 2 1)) (.r (.es V3 "join") (.c3 25 (.x 2 0) (.x 2 1) (.x 0 3)) (.r (.es V3 "fetch") (.c2 29 (.x 2 0) (.x 2 1)) (.ret (.c3 28 (.x 2 0) (.x 2 1) (.x 2 2)))))))))))
noncomputable def BB:PSp:=λ ts Q=>∃(t:TV) (d:Stp) (S:LI) (Ss:LL),ts=[stT d,t]/\t=.lst (Ss.map tI)/\(∀T∈Ss,fit T)/\Ss.length<40/\OkS Ss S d/\fit S/\Q (.tup [tI S,.non])
noncomputable def MW:Ct:=(.set 2 (.ln V1) (.r (.ge V2 (.g 4)) (.t2 (.c .non) (.w "many")) (.r (.b1 .any (.comp ["number"] ["k"] [2] [0] .seq (.a1 (.c1 8 V0)) (.or (.lt V0 N0) (.ge V0 V1)))) (.t2 (.c .non) (.w "name")) (.tri (.ret (.t2 (.c2 35 V0 V1) (.c .non))) .nil))))
noncomputable def BC:PSp:=λ ts Q=>∃(ds:List Stp) (Ss:LL) (os:LI) (mo:Int),ts=[.tup [.tup (ds.map stT),tI os]]/\oz mo ds Ss os/\Q (.tup [.tup (Ss.map tI),.non])
noncomputable def MX:Ct:=(.set 1 (.x 0 0) (.set 2 (.x 0 1) (.set 3 .l0 (.for [4] .seq (.a1 V1) (.set 5 (.c2 36 V4 V3) (.r (.cmp .IsNot (.x 5 1) (.c .non)) (.t2 (.b1 .tuple V3) (.t2 (.ln V3) (.x 5 1))) (.met .append 3 (.a1 (.x 5 0)) .nil))) (.r (.or (.not (.cm2 .LtE .LtE N1 (.ln V2) (.g 5))) (.b1 .any (.comp ["out"] ["steps"] [1] [0] .seq (.a1 V2) (.or (.lt V0 N0) (.ge V0 (.ln V1)))))) (.t2 (.b1 .tuple V3) (.t2 (.ln V1) (.w "out"))) (.ret (.t2 (.b1 .tuple V3) (.c .non))))))))
noncomputable def BD:PSp:=λ ts Q=>∃(ds:List Stp) (Ss:LL) (os:LI) (mo:Int),ts=[.tup [.tup (ds.map stT),tI os]]/\oz mo ds Ss os/\Q (.tup (Ss.map tI))
noncomputable def MY:Ct:=(.set 1 (.c1 37 V0) (.set 2 (.x 1 1) (.nv (.cmp .IsNot V2 (.c .non)) (.ret (.x 1 0)))))
noncomputable def BE:PSp:=λ ts Q=>∃(t:TV) (ns cs:LI),ts=[tI ns,t]/\(t=tI cs\/t=lI cs)/\aD ns/\ns.length<=63/\cs.length<=900/\¬bP ns/\(cs.length:Int)=ae ns/\Q (.tup [tI ns,tI (cs.map cD)])
noncomputable def MZ:Ct:=(.ex (.c1 11 V0) (.nv (.ne (.ln V1) (.c1 9 V0)) (.ret (.t2 V0 (.b1 .tuple (.comp ["cell"] [] [] [0] .seq (.a1 V1) (.c1 0 V0)))))))
noncomputable def BF:PSp:=λ ts Q=>∃(ns cs ms:LI),ts=[.tup [tI ns,tI cs],tI ms]/\aD ns/\ns.length<=63/\bD ns ms/\(cs.length:Int)=ae ns/\Q (.int (cs.getD (plH ns ms).toNat 0))
def Na:Ct:=(.ret (.ix (.x 0 1) (.c2 13 (.x 0 0) V1)))
noncomputable def BG:PSp:=λ ts Q=>∃n:Int,ts=[.int n]/\Q (.tup [tI [],tI [cD n]])
def Nb:Ct:=(.ret (.c2 39 .t0 (.t1 V0)))
def BH:PSp:=λ _ _=>False
def Nc:Ct:=.never
noncomputable def BJ:PSp:=λ ts Q=>∃(w:Str) (ns cs:LI) (side:Int),ts=[.str w,.tup [tI ns,tI cs],.int side]/\sm ns/\ns.length<=20/\ae (ns.map ah)<=512/\(cs.length:Int)=ae ns/\(∀c∈cs,inB c)/\isF w/\¬off ns side/\Q (.tup [tI (ns.eraseIdx side.toNat),tI (jL w ns cs side.toNat)])
noncomputable def Nd:Ct:=(.set 3 (.c1 6 V0) (.set 4 (.c2 30 (.x 1 0) V2) (.set 5 (.ix (.x 1 0) V2) .nil)))
def Nf:Cd:=V4
noncomputable def Ng:Ct:=(.set 6 V5 (.for [7] .rng (.a1 V4) (.set 6 (.c3 5 V1 V6 (.c2 40 V2 (.c3 17 V0 V3 V7))) .nil) (.ret V6)))
noncomputable def BK:PSp:=λ ts Q=>∃(w:Str) (ns cs:LI) (side:Int),ts=[.str w,.tup [tI ns,tI cs],.int side]/\sm ns/\ns.length<=20/\ae (ns.map ah)<=512/\(cs.length:Int)=ae ns/\(∀c∈cs,inB c)/\isF w/\¬off ns side/\Q (.tup [tI ns,tI (fj w ns cs side.toNat)])
noncomputable def Nh:Ct:=(.set 3 (.c1 6 V0) (.set 4 (.x 1 0) (.ex (.c2 19 V4 V2) (.set 5 (.ix (.c1 12 V4) V2) (.set 6 .l0 (.for [7,8] (.enum true) (.a1 (.x 1 1)) (.set 9 (.eq (.md (.dv V7 V5) (.ix V4 V2)) N0) (.set 10 (.ite V9 V3 (.ix V6 (.sb V7 V5))) (.met .append 6 (.a1 (.c3 5 V0 V10 V8)) .nil))) (.ret (.t2 V4 (.b1 .tuple V6)))))))))
noncomputable def BL:PSp:=λ ts Q=>∃(ns cs ms:LI),ts=[.tup [tI ns,tI cs],tI ms]/\aD ns/\aD ms/\ns.length<=20/\ms.length<=20/\(cs.length:Int)=ae ns/\ae ms<=512/\ms.take ns.length=ns/\Q (.tup [tI ms,tI (cO ns cs ms)])
def Ni:Ct:=(.set 2 (.ln (.x 0 0)) .nil)
def Nj:Cd:=(.c2 26 (.x 0 0) V1)
def Nk:Cd:=(.c2 40 V1 (.st V0 V2))
noncomputable def BM:PSp:=λ ts Q=>∃(w:Str) (ns cs:LI),ts=[.str w,.tup [tI ns,tI cs]]/\cs.length<=900/\w∈jE/\Q (.tup [tI ns,tI (cs.map (eH w))])
noncomputable def Nl:Ct:=(.ex (.c2 4 V0 N0) (.ret (.t2 (.x 1 0) (.b1 .tuple (.comp ["x"] ["word"] [0] [0] .seq (.a1 (.x 1 1)) (.c2 4 V1 V0))))))
noncomputable def BO:PSp:=λ ts Q=>∃(w:Str) (ns cs ms ds:LI),ts=[.str w,.tup [tI ns,tI cs],.tup [tI ms,tI ds]]/\aD ns/\aD ms/\ns.length<=20/\ms.length<=20/\(cs.length:Int)=ae ns/\(ds.length:Int)=ae ms/\ae ns<=512/\ae ms<=512/\(∀c∈cs,inB c)/\(∀c∈ds,inB c)/\w∈fU/\bZ ns ms/\Q (.tup [tI (au ns ms),tI (prC w ns cs ms ds (au ns ms))])
noncomputable def Nm:Ct:=(.ex (.c3 5 V0 N0 N0) (.set 3 (.c2 27 (.x 1 0) (.x 2 0)) (.set 4 (.ix (.c2 45 V1 V3) N1) (.set 5 (.ix (.c2 45 V2 V3) N1) (.ret (.t2 V3 (.b1 .tuple (.comp ["x","y"] ["word"] [0] [0,1] (.zip true true) (.a2 V4 V5) (.c3 5 V2 V0 V1)))))))))
noncomputable def BP:PSp:=λ ts Q=>∃(ks es ns cs ms ds:LI),ts=[.tup [tI ks,tI es],.tup [tI ns,tI cs],.tup [tI ms,tI ds]]/\aD ks/\aD ns/\aD ms/\ks.length<=20/\ns.length<=20/\ms.length<=20/\(es.length:Int)=ae ks/\(cs.length:Int)=ae ns/\(ds.length:Int)=ae ms/\ae ks<=512/\ae ns<=512/\ae ms<=512/\bZ ks ns/\bZ (au ks ns) ms/\Q (.tup [tI (au (au ks ns) ms),tI (pkC ks es ns cs ms ds (au (au ks ns) ms))])
noncomputable def Nn:Ct:=(.set 3 (.c3 28 (.x 0 0) (.x 1 0) (.x 2 0)) (.set 4 (.ix (.c2 45 V0 V3) N1) (.set 5 (.ix (.c2 45 V1 V3) N1) (.set 6 (.ix (.c2 45 V2 V3) N1) (.ret (.t2 V3 (.b1 .tuple (.comp ["mark","x","y"] [] [] [0,1,2] .zip3 (.a3 V4 V5 V6) (.ite (.ne V0 N0) V1 V2)))))))))
noncomputable def BQ:PSp:=λ ts Q=>∃(n:Int) (r cs ms ds:LI),ts=[.tup [tI (n::r),tI cs],.tup [tI ms,tI ds]]/\aD (n::r)/\aD ms/\r.length<20/\ms.length<=20/\(cs.length:Int)=ae (n::r)/\(ds.length:Int)=ae ms/\n≠0/\¬bP (ms++r)/\Q (.tup [tI (ms++r),tI ((List.range (ae (ms++r)).toNat).map (oC n r cs ds))])
noncomputable def No:Ct:=(.set 2 (.c2 29 (.x 0 0) (.x 1 0)) (.set 3 (.ix (.x 0 0) N0) (.set 4 (.ln (.x 1 0)) .nil)))
def Np:Cd:=V2
noncomputable def Nq:Ct:=(.set 5 (.md (.c2 40 V2 (.st V0 V3)) V4) (.fz 5 (.ret (.c2 40 V1 (.ad (.t1 V5) (.sf V0 V3))))))
noncomputable def BR:PSp:=λ ts Q=>∃(ns:LI) (side:Int),ts=[tI ns,.int side]/\aD ns/\ns.length<=20/\¬bP ns/\¬off ns side/\Q (.tup [tI ns,tI ((List.range (ae ns).toNat).map λ i:Nat=>(atD ns (i:Int)).getD side.toNat 0)])
def Nr:Ct:=.nil
def Nt:Cd:=(.c2 31 V0 V1)
def Nu:Cd:=(.ix V0 V1)
noncomputable def BS:PSp:=λ ts Q=>∃(ns cs os:LI),ts=[.tup [tI ns,tI cs],tI os]/\sm ns/\ns.length<=20/\os.length<=20/\ae (ns.map ah)<=512/\(cs.length:Int)=ae ns/\fV ns.length os/\Q (.tup [tI (bT ns os),tI (cE ns cs (bT ns os) (dQ os))])
noncomputable def Nv:Ct:=(.set 2 (.c2 20 (.x 0 0) V1) (.set 3 (.comp ["side"] ["order"] [1] [0] .rng (.a1 (.ln V1)) (.idx 1 V0)) (.fz 3 .nil)))
def Nw:Cd:=V2
noncomputable def Nx:Cd:=(.c2 40 V1 (.b1 .tuple (.comp ["place"] ["at"] [0] [0] .seq (.a1 V2) (.ix V1 V0))))
noncomputable def BU:PSp:=λ ts Q=>∃(ns cs:LI) (side:Int),ts=[.tup [tI ns,tI cs],.int side]/\sm ns/\ns.length<=20/\ae (ns.map ah)<=512/\(cs.length:Int)=ae ns/\¬off ns side/\Q (.tup [tI ns,tI (cE ns cs ns (iQ ns side.toNat))])
def Ny:Ct:=(.set 2 (.c2 21 (.x 0 0) V1) .nil)
def Nz:Cd:=V2
noncomputable def NA:Cd:=(.c2 40 V1 (.c3 16 V0 V3 (.sb (.sb (.ix V2 V3) N1) (.ix V0 V3))))
noncomputable def BV:PSp:=λ ts Q=>∃(ns cs:LI) (side f m g:Int),ts=[.tup [tI ns,tI cs],.int side,.int f,.int m,.int g]/\sm ns/\ns.length<=20/\ae (ns.map ah)<=512/\(cs.length:Int)=ae ns/\-100<m/\m<1000000/\¬off ns side/\¬bad ns side f m g/\Q (.tup [tI (ns.set side.toNat m),tI (cE ns cs (ns.set side.toNat m) (iR side.toNat f g))])
noncomputable def NB:Ct:=(.set 5 (.call 22 (.cons (.x 0 0) (.cons V1 (.cons V2 (.cons V3 (.cons V4 .nil)))))) .nil)
def NC:Cd:=V5
noncomputable def ND:Cd:=(.c2 40 V1 (.c3 16 V0 V3 (.ad V4 (.ml (.ix V0 V3) V2))))
noncomputable def BW:PSp:=λ ts Q=>∃(ns cs:LI) (side many:Int),ts=[.tup [tI ns,tI cs],.int side,.int many]/\aD ns/\ns.length<=20/\(cs.length:Int)=ae ns/\many<1000000/\¬jG ns side/\¬many<0/\¬bP (aY ns side.toNat many)/\Q (.tup [tI (aY ns side.toNat many),tI ((List.range (ae (aY ns side.toNat many)).toNat).map (qS ns cs side.toNat many))])
def NE:Ct:=(.set 3 (.c3 23 (.x 0 0) V1 V2) .nil)
def NF:Cd:=V3
def NG:Cd:=(.c2 40 V1 (.c2 18 V0 V2))
noncomputable def BX:PSp:=λ ts Q=>∃(ns cs ms:LI),ts=[.tup [tI ns,tI cs],tI ms]/\aD ns/\aD ms/\ms.length<=20/\¬bP ms/\ae ns=ae ms/\Q (.tup [tI ms,tI cs])
def NH:Ct:=(.ret (.t2 (.c2 24 (.x 0 0) V1) (.x 0 1)))
noncomputable def BY:PSp:=λ ts Q=>∃(ns cs ms ds:LI) (side:Int),ts=[.tup [tI ns,tI cs],.tup [tI ms,tI ds],.int side]/\sm ns/\sm ms/\ns.length<=20/\(cs.length:Int)=ae ns/\(ds.length:Int)=ae ms/\ns.length=ms.length/\¬off ns side/\ns.eraseIdx side.toNat=ms.eraseIdx side.toNat/\¬bP (aZ ns ms side)/\Q (.tup [tI (aZ ns ms side),tI ((List.range (ae (aZ ns ms side)).toNat).map λ i:Nat=>jM ns cs ms ds side.toNat (atD (aZ ns ms side) (i:Int)))])
noncomputable def NI:Ct:=(.set 3 (.c3 25 (.x 0 0) (.x 1 0) V2) (.set 4 (.ix (.x 0 0) V2) .nil))
def NJ:Cd:=V3
noncomputable def NK:Ct:=(.r (.lt (.ix V0 V2) V4) (.c2 40 V1 V0) (.ret (.c2 40 V3 (.c3 16 V0 V2 (.sb (.ix V0 V2) V4)))))
noncomputable def BZ:PSp:=λ ts Q=>∃(d:Stp) (S:LI) (A:Tb) (Ts:List Tb) (a:Nat) (mo:Int),ts=[stT d,tbT A]/\gX d=[a]/\Ts[a]?=some A/\TbG mo A/\cq mo/\OkS (Ts.map (·.1)) S d/\aK mo S/\Q (.tup [tI S,tI (bB Ts d)])
noncomputable def NL:Ct:=(.set 2 (.x 0 0) (.r (.es V2 "each") (.c2 46 (.x 0 1) V1) (.r (.es V2 "turn") (.c2 51 V1 (.x 0 2)) (.r (.es V2 "flip") (.c2 52 V1 (.x 0 2)) (.r (.es V2 "cut") (.call 53 (.cons V1 (.cons (.x 0 2) (.cons (.x 0 3) (.cons (.x 0 4) (.cons (.x 0 5) .nil)))))) (.r (.es V2 "spread") (.c3 54 V1 (.x 0 2) (.x 0 3)) (.r (.es V2 "lay") (.c2 55 V1 (.x 0 2)) (.r (.es V2 "fold") (.c3 43 (.x 0 1) V1 (.x 0 3)) (.ret (.c3 44 (.x 0 1) V1 (.x 0 3)))))))))))
noncomputable def Ca:PSp:=λ ts Q=>∃(t:TV) (d:Stp) (S:LI) (Ts:List Tb) (mo:Int),ts=[stT d,t]/\t=.lst (Ts.map tbT)/\(∀ms,d≠.inp ms)/\(∀T∈Ts,TbG mo T)/\cq mo/\OkS (Ts.map (·.1)) S d/\aK mo S/\Q (.tup [tI S,tI (bB Ts d)])
noncomputable def NM:Ct:=(.set 2 (.x 0 0) (.set 3 (.comp ["number"] ["tabs"] [1] [0] .seq (.a1 (.c1 8 V0)) (.ix V1 V0)) (.r (.es V2 "num") (.c1 41 (.x 0 1)) (.r (.es V2 "count") (.c2 50 (.x 0 1) (.x 0 2)) (.r (.es V2 "pair") (.c3 47 (.x 0 1) (.x 3 0) (.x 3 1)) (.r (.es V2 "pick") (.c3 48 (.x 3 0) (.x 3 1) (.x 3 2)) (.r (.es V2 "join") (.c3 56 (.x 3 0) (.x 3 1) (.x 0 3)) (.r (.es V2 "fetch") (.c2 49 (.x 3 0) (.x 3 1)) (.ret (.c2 57 V0 (.x 3 0)))))))))))
noncomputable def Cb:PSp:=λ ts Q=>∃(ds:List Stp) (Ss:LL) (os:LI) (mo:Int) (Is:List Tb),ts=[.tup [.tup (ds.map stT),tI os],.tup (Is.map tbT)]/\oz mo ds Ss os/\Is.map (·.1)=bj ds/\Q (.tup (Ss.map tI))
noncomputable def NN:Ct:=(.set 2 (.c1 38 V0) (.set 3 (.compI ["step","told"] [] [] [0,1] (.zip true true) (.a2 (.x 0 0) V2) (.es (.x 0 0) "in") V1) (.nv (.ne (.comp ["tab"] [] [] [0] .seq (.a1 V1) (.x 0 0)) V3) (.ret V2))))
noncomputable def Cc:PSp:=λ ts Q=>∃(ds:List Stp) (Ss:LL) (os:LI) (mo:Int) (Is:List Tb),ts=[.tup [.tup (ds.map stT),tI os],.tup (Is.map tbT)]/\oz mo ds Ss os/\Is.map (·.1)=bj ds/\(∀T∈Is,TbG mo T)/\Q (.tup ((bp ds Ss Is ds.length).map tbT))
noncomputable def NO:Ct:=(.ex (.c2 59 V0 V1) (.set 2 (.b1 .list V1) (.set 3 .l0 (.for [4] .seq (.a1 (.x 0 0)) (.apI 3 2 (.es (.x 4 0) "in") (.a1 N0) (.c2 58 V4 V3) .nil) (.ret (.b1 .tuple V3))))))
def Ce:PSp:=λ ts Q=>∃n:Int,ts=[.int n]/\Q (.bl true)
def NP:Ct:=(.ret (.and (.isi .isI V0) (.not (.isi .isB V0))))
noncomputable def Cf:PSp:=λ ts Q=>∃(ns:LI) (k:Nat),ts=[lI ns,.int k]/\Q (.int (kF ns k))
def NQ:Ct:=(.r (.lt V1 (.ln V0)) (.ix V0 V1) (.ret N0))
noncomputable def Cg:PSp:=λ ts Q=>∃(t:TV) (ns:LI),ts=[tI ns,t]/\(t=tI ns\/t=lI ns)/\ns.length<=512/\Q (.bl true)
noncomputable def NR:Ct:=(.r (.or (.not (.isi .isT V0)) (.ne (.ln V0) (.ln V1))) (.c (.bl false)) (.for [2] .rng (.a1 (.ln V1)) (.r (.or (.not (.c1 61 (.ix V0 V2))) (.ne (.ix V0 V2) (.ix V1 V2))) (.c (.bl false)) .nil) (.ret (.c (.bl true)))))
noncomputable def Ch:PSp:=λ ts Q=>∃(t:TV) (ns:LI),ts=[t]/\(t=tI ns\/t=lI ns)/\aD ns/\Q (.int (ae ns))
noncomputable def NS:Ct:=(.set 1 N1 (.for [2] .seq (.a1 V0) (.set 1 (.ml V1 V2) .nil) (.ret V1)))
noncomputable def Ci:PSp:=λ ts Q=>∃ns:LI,ts=[tI ns]/\aD ns/\ns.length<=500/\Q (.int (ae (ns.map ah)))
noncomputable def NT:Ct:=(.ret (.c1 64 (.comp ["length"] [] [] [0] .seq (.a1 V0) (.b2 .max N1 V0))))
def Cj:PSp:=λ ts Q=>∃n:Int,ts=[.int n]/\Q (.int (mH n))
noncomputable def NU:Ct:=(.r (.eq (.md V0 (.n 17)) N5) (.ix (.lst (.cons (.neg (.bin .Pow N2 (.n 63))) (.cons (.sb (.bin .Pow N2 (.n 63)) N1) (.cons (.neg N1) (.cons (.bin .Pow N2 (.n 62)) .nil))))) (.md (.dv V0 (.n 17)) N4)) (.ret (.sb (.md (.ad V0 (.bin .Pow N2 (.n 63))) (.bin .Pow N2 (.n 64))) (.bin .Pow N2 (.n 63)))))
noncomputable def Ck:PSp:=λ ts Q=>∃(ks:LI) (d:Int),ts=[lI ks,.int d]/\0<ks.length/\ks.length<1000000/\∀k∈ks,Q (.int k)
noncomputable def NV:Ct:=(.r (.eq (.md V1 N3) N0) (.ix V0 (.md (.dv V1 N3) (.ln V0))) (.ret (.ix V0 (.sb (.sb (.ln V0) N1) (.md (.dv V1 N3) (.b2 .min N3 (.ln V0)))))))
noncomputable def Cm:PSp:=λ ts Q=>∃kd n cell mo:Int,ts=[.int kd,.int n,.int cell,.int mo]/\cq mo/\∀d S,(∀Ss,OkS Ss S d)->aK mo S->Q (mdT d S)
noncomputable def NW:Ct:=(.r (.eq V0 N1) (.t2 (.t2 (.w "num") (.c1 66 V2)) .t0) (.set 4 .t0 (.set 5 (.dv V1 (.n 15)) (.for [6] .rng (.a1 (.md V5 N5)) (.set 5 (.dv V5 N5) (.set 7 (.dv V3 (.c1 65 V4)) (.set 8 (.b2 .min (.ix (.lst (.cons N2 (.cons N3 (.cons N1 (.cons N4 (.cons N2 (.cons N3 (.cons N0 .nil)))))))) (.md V5 N7)) V7) (.i (.eq (.md V5 N11) N10) (.set 8 V7 .nil) (.set 4 (.ad V4 (.t1 V8)) .nil))))) (.i (.eq V0 N0) (.fz 4 (.ret (.t2 (.t2 (.w "in") V4) V4))) (.i (.eq V4 .t0) (.set 4 (.t1 (.b2 .min N3 V3)) .nil) (.fz 4 (.ret (.t2 (.t3 (.w "count") V4 (.md (.dv V1 (.n 15)) (.ln V4))) V4)))))))))
noncomputable def Cn:PSp:=λ ts Q=>∃(ns ms:LI),ts=[tI ns,tI ms]/\∀b,(b=true ↔ bZ ns ms)->Q (.bl b)
noncomputable def NX:Ct:=(.set 2 (.b2 .min (.ln V0) (.ln V1)) (.ret (.eq (.st V0 V2) (.st V1 V2))))
noncomputable def Co:PSp:=λ ts Q=>∃(kd d0 d1 d2 mo:Int) (Ss:LL),ts=[.int kd,lI [d0,d1,d2],.lst (Ss.map tI)]/\0<Ss.length/\Ss.length<=40/\(∀S∈Ss,aK mo S)/\∀d S,OkS Ss S d->aK mo S->Q (mdT d S)
noncomputable def NY:Ct:=(.set 3 (.lrng false (.ln V2)) (.set 4 (.c2 67 V3 (.x 1 0)) (.r (.eq V0 N3) (.t2 (.t3 (.w "each") (.ix (.lst (.cons (.w "neg") (.cons (.w "abs") (.cons (.w "sign") (.cons (.w "not") .nil))))) (.md (.x 1 2) N4)) V4) (.ix V2 V4)) (.set 5 (.compI ["k"] ["sides","a"] [2,4] [0] .seq (.a1 V3) (.c2 69 (.ix V1 V2) (.ix V1 V0)) V0) (.set 6 (.c2 67 V5 (.x 1 1)) (.set 7 (.mxl (.ix V2 V4) (.ix V2 V6)) (.i (.eq V0 N4) (.set 8 (.lst (.cons (.w "add") (.cons (.w "sub") (.cons (.w "mul") (.cons (.w "quo") (.cons (.w "rest") (.cons (.w "max") (.cons (.w "min") (.cons (.w "less") (.cons (.w "like") (.cons (.w "and") (.cons (.w "or") (.cons (.w "xor") .nil))))))))))))) (.ret (.t2 (.tup (.cons (.w "pair") (.cons (.ix V8 (.md (.x 1 2) (.n 12))) (.cons V4 (.cons V6 .nil))))) V7))) (.set 5 (.compI ["k"] ["sides","b"] [2,6] [0] .seq (.a1 V5) (.c2 69 (.ix V1 V2) (.ix V1 V0)) V0) (.set 9 (.c2 67 V5 (.x 1 2)) (.ret (.t2 (.tup (.cons (.w "pick") (.cons V4 (.cons V6 (.cons V9 .nil))))) (.mxl V7 (.ix V2 V9)))))))))))))
noncomputable def Cp:PSp:=λ ts Q=>∃(ns:LI) (d mo:Int),ts=[tI ns,.int d]/\aK mo ns/\cq mo/\Q (tI (kN ns d))
noncomputable def NZ:Ct:=(.set 2 (.c1 64 V0) (.r (.eq (.md V1 N4) N1) (.t1 V2) (.r (.and (.eq (.md V1 N4) N2) (.lt (.ln V0) N6)) (.ad (.t1 N1) V0) (.r (.and (.eq (.md V1 N4) N3) (.eq (.md V2 N2) N0)) (.t2 (.dv V2 N2) N2) (.ret (.trev true V0))))))
noncomputable def Cq:PSp:=λ ts Q=>∃(kd d0 d1 d2 mo:Int) (a:Nat) (A:LI) (Ss:LL),ts=[.int kd,lI [d0,d1,d2],.int a,tI A,.int mo]/\Ss[a]?=some A/\aK mo A/\cq mo/\∀d S,OkS Ss S d->aK mo S->Q (mdT d S)
noncomputable def Oa:Ct:=(.i (.eq V0 N6) (.set 5 .l0 (.set 6 (.x 1 2) (.for [7] .rng (.a1 (.ln V3)) (.met .insert 5 (.a2 (.md V6 (.ad V7 N1)) V7) (.set 6 (.dv V6 (.ad V7 N1)) .nil)) (.ret (.t2 (.t3 (.w "turn") V2 (.b1 .tuple V5)) (.b1 .tuple (.comp ["k"] ["own"] [3] [0] .seq (.a1 V5) (.ix V1 V0)))))))) (.r (.eq V0 N10) (.t2 (.t3 (.w "lay") V2 (.c2 71 V3 (.x 1 2))) (.c2 71 V3 (.x 1 2))) (.i (.or (.eq V3 .t0) (.and (.eq V0 N9) (.lt (.ln V3) N6))) (.set 8 (.md (.x 1 1) (.ad (.ln V3) N1)) (.set 9 (.ad N1 (.md (.x 1 2) (.b2 .min N4 (.dv V4 (.c1 65 V3))))) (.i (.eq (.md (.x 1 2) N9) N8) (.set 9 N0 .nil) (.fz 9 (.fz 8 (.ret (.t2 (.tup (.cons (.w "spread") (.cons V2 (.cons V8 (.cons V9 .nil))))) (.ad (.ad (.st V3 V8) (.t1 V9)) (.sf V3 V8))))))))) (.set 10 (.md (.x 1 1) (.ln V3)) (.i (.ne V0 N8) (.fz 10 (.ret (.t2 (.t3 (.w "flip") V2 V10) V3))) (.set 11 (.ad N1 (.md (.x 1 2) N3)) (.set 12 (.md (.dv (.x 1 2) N3) (.b2 .max N1 (.ix V3 V10))) (.set 13 (.b2 .max N0 (.sb (.ad (.dv (.sb (.sb (.ix V3 V10) N1) (.v 12)) V11) N1) (.md (.dv (.x 1 2) (.n 300)) N3))) (.fz 11 (.fz 12 (.fz 10 (.ret (.t2 (.tup (.cons (.w "cut") (.cons V2 (.cons V10 (.cons (.v 12) (.cons (.v 13) (.cons V11 .nil))))))) (.ad (.ad (.st V3 V10) (.t1 (.v 13))) (.sf V3 (.ad V10 N1))))))))))))))))
noncomputable def Cs:PSp:=λ ts Q=>∃(A B:LI) (k:Nat),ts=[tI A,tI B,.int k]/\k<A.length/\A.length<=6/\B.length<=6/\Q (tI (fW A B k))
noncomputable def Ob:Ct:=(.r (.or (.ne (.ln V0) (.ln V1)) (.ne (.ad (.st V0 V2) (.sf V0 (.ad V2 N1))) (.ad (.st V1 V2) (.sf V1 (.ad V2 N1))))) .t0 (.ret (.ad (.ad (.st V0 V2) (.t1 (.ad (.ix V0 V2) (.ix V1 V2)))) (.sf V0 (.ad V2 N1)))))
noncomputable def Cu:PSp:=λ ts Q=>∃(kd d0 d1 d2 mo:Int) (Ss:LL),ts=[.int kd,lI [d0,d1,d2],.lst (Ss.map tI),.int mo]/\(∃S∈Ss,0<S.length)/\11<=kd/\kd<=14/\Ss.length<=40/\(∀S∈Ss,aK mo S)/\cq mo/\∀d S,OkS Ss S d->aK mo S->Q (mdT d S)
noncomputable def Oc:Ct:=(.set 4 (.compI ["k"] ["sides"] [2] [0] .rng (.a1 (.ln V2)) (.ne (.ix V1 V0) .t0) V0) (.set 5 (.c2 67 V4 (.x 1 0)) (.set 6 (.ix V2 V5) (.set 7 (.md (.x 1 1) (.ln V6)) (.set 8 (.lst (.cons (.w "add") (.cons (.w "mul") (.cons (.w "max") (.cons (.w "min") (.cons (.w "and") (.cons (.w "or") (.cons (.w "xor") .nil)))))))) (.i (.eq V0 (.n 13)) (.fz 7 (.ret (.t2 (.tup (.cons (.w "fold") (.cons (.ix V8 (.md (.x 1 2) N7)) (.cons V5 (.cons V7 .nil))))) (.ad (.st V6 V7) (.sf V6 (.ad V7 N1)))))) (.i (.eq V0 (.n 14)) (.fz 7 (.ret (.t2 (.tup (.cons (.w "run") (.cons (.ix V8 (.md (.x 1 2) N7)) (.cons V5 (.cons V7 .nil))))) V6))) (.set 9 (.lst (.a1 .t0)) (.ite (.eq V0 N11) (.set 9 (.comp ["other"] ["own","side"] [6,7] [0] .seq (.a1 V2) (.c3 73 V1 V0 V2)) .nil) (.i (.gt (.x 6 0) N0) (.set 9 (.comp ["other"] ["own"] [6] [0] .seq (.a1 V2) (.ad V0 (.sf V1 N1))) .nil) .nil) (.set 10 (.compI ["k"] ["kind","made","own"] [0,9,6] [0] .rng (.a1 (.ln V9)) (.or (.and (.eq V1 (.n 12)) (.gt (.x 3 0) N0)) (.ne (.ix V2 V0) .t0)) V0) (.set 10 (.compI ["k"] ["most","made"] [3,9] [0] .seq (.a1 V10) (.and (.cmp .LtE (.ln (.ix V2 V0)) N6) (.cmp .LtE (.c1 65 (.ix V2 V0)) V1)) V0) (.i (.eq (.ln V10) N0) (.fz 7 (.ret (.t2 (.t3 (.w "flip") V5 V7) V6))) (.set 11 (.c2 67 V10 (.x 1 2)) (.i (.eq V0 N11) (.fz 7 (.ret (.t2 (.tup (.cons (.w "join") (.cons V5 (.cons V11 (.cons V7 .nil))))) (.ix V9 V11)))) (.ret (.t2 (.t3 (.w "fetch") V5 V11) (.ix V9 V11)))))))))))))))))
noncomputable def Cv:PSp:=λ ts Q=>∃(cell mo:Int) (Ss:LL),ts=[.int cell,.lst (Ss.map tI),.int mo]/\Ss.length<=40/\(∀S∈Ss,aK mo S)/\cq mo/\∀d S,OkS Ss S d->aK mo S->Q (mdT d S)
noncomputable def Od:Ct:=(.set 3 (.md (.ml V0 (.n 48271)) (.n 2147483647)) (.set 4 (.md V3 (.n 15)) (.set 5 (.lst (.a3 (.md (.dv V3 (.n 15)) (.n 120)) (.md (.dv V3 (.n 1800)) (.n 120)) (.dv V3 (.n 216000)))) (.r (.or (.eq (.ln V1) N0) (.lt V4 N3)) (.call 68 (.cons (.md V4 N3) (.cons V3 (.cons V0 (.cons V2 .nil))))) (.r (.lt V4 N6) (.c3 70 V4 V5 V1) (.r (.and (.gt V4 N10) (.gt (.b1 .max (.comp ["own"] [] [] [0] .seq (.a1 V1) (.ln V0))) N0)) (.call 74 (.cons V4 (.cons V5 (.cons V1 (.cons V2 .nil))))) (.set 6 (.c2 67 (.lrng false (.ln V1)) (.x 5 0)) (.ret (.call 72 (.cons (.b2 .min V4 (.sb N10 (.b1 .int (.gt V4 N10)))) (.cons V5 (.cons V6 (.cons (.ix V1 V6) (.cons V2 .nil))))))))))))))
noncomputable def Cw:PSp:=λ ts Q=>∃(cs:LI) (mo:Int),ts=[lI cs,.int mo]/\cs.length<=40/\cq mo/\∀ds Ss os,oz mo ds Ss os->Q (.tup [.tup (ds.map stT),tI os,.lst (Ss.map tI)])
noncomputable def Oe:Ct:=(.set 2 .l0 (.set 3 .l0 (.for [4] .seq (.a1 V0) (.set 5 (.c3 75 V4 V3 V1) (.met .append 2 (.a1 (.x 5 0)) (.met .append 3 (.a1 (.x 5 1)) .nil))) (.i (.eq (.ln V2) N0) (.met .append 2 (.a1 (.t2 (.w "num") N0)) (.met .append 3 (.a1 .t0) .nil)) (.set 6 .l0 (.set 7 (.md (.ml (.b1 .sum V0) (.n 16807)) (.n 2147483647)) (.for [8] .rng (.a1 (.ix (.lst (.cons N1 (.cons N2 (.cons N3 (.cons N2 (.cons N1 (.cons N8 .nil))))))) (.md V7 N6))) (.set 7 (.md (.ad (.ml V7 (.n 48271)) N11) (.n 2147483647)) (.met .append 6 (.a1 (.md (.dv V7 (.n 16)) (.ln V2))) .nil)) (.put 6 (.md V7 (.ln V6)) (.sb (.ln V2) N1) (.fz 3 (.ret (.t3 (.b1 .tuple V2) (.b1 .tuple V6) V3)))))))))))
noncomputable def Cy:PSp:=λ ts Q=>∃(cs:LI) (ds:List Stp) (Ss:LL) (mo:Int),ts=[lI cs,.tup (ds.map stT)]/\cs.length<=63/\jJ mo ds Ss/\cq mo/\ds.length<=40/\∀Is:List Tb,Is.map (·.1)=bj ds->(∀T∈Is,TbG mo T)->Q (.tup (Is.map tbT))
noncomputable def Of:Ct:=(.set 2 .l0 (.set 3 N0 (.for [4] .seq (.a1 V1) (.i (.es (.x 4 0) "in") (.set 5 .l0 (.for [6] .rng (.a1 (.c1 64 (.x 4 1))) (.set 7 (.dv V3 (.b2 .max N1 (.ln V0))) (.set 8 (.ad (.ml (.ml V7 V7) (.n 6700417)) (.ml V7 V3)) (.i (.gt (.ln V0) N0) (.set 8 (.ad V8 (.ix V0 (.md V3 (.ln V0)))) .nil) (.met .append 5 (.a1 (.c1 66 V8)) (.set 3 (.ad V3 N1) .nil))))) (.met .append 2 (.a1 (.t2 (.x 4 1) (.b1 .tuple V5))) .nil))) .nil) (.ret (.b1 .tuple V2)))))
noncomputable def Cz:PSp:=λ ts Q=>∃(ns ms:LI),ts=[tI ns,tI ms]/\aD ns/\ns.length<=20/\ms.length=ns.length/\Q (.int (plH ns ms))
noncomputable def Og:Ct:=(.set 2 N0 (.for [3] .rng (.a1 (.ln V0)) (.set 2 (.ad (.ml V2 (.ix V0 V3)) (.ix V1 V3)) .nil) (.ret V2)))
noncomputable def CA:PSp:=λ ts Q=>∃(S C:LI),ts=[.tup [tI S,tI C],tI S]/\fit S/\(C.length:Int)=ae S/\(∀c∈C,inB c)/\Q (.bl true)
noncomputable def Oh:Ct:=(.r (.or (.not (.isi .isT V0)) (.or (.ne (.ln V0) N2) (.not (.c2 63 (.x 0 0) V1)))) (.c (.bl false)) (.r (.or (.not (.isi .isT (.x 0 1))) (.ne (.ln (.x 0 1)) (.c1 64 V1))) (.c (.bl false)) (.for [2] .seq (.a1 (.x 0 1)) (.r (.or (.not (.c1 61 V2)) (.or (.lt V2 (.neg (.bin .Pow N2 (.n 63)))) (.gt V2 (.sb (.bin .Pow N2 (.n 63)) N1)))) (.c (.bl false)) .nil) (.ret (.c (.bl true))))))
def CB:PSp:=λ ts Q=>∃n:Int,ts=[.int n]/\Q (.int (cD n))
noncomputable def Oi:Ct:=(.ret (.sb (.md (.ad V0 (.bin .Pow N2 (.n 63))) (.bin .Pow N2 (.n 64))) (.bin .Pow N2 (.n 63))))
noncomputable def CC:PSp:=λ ts Q=>∃(w:Str) (x:Int),ts=[.str w,.int x]/\w∈jE/\inB x/\Q (.int (eH w x))
noncomputable def Oj:Ct:=(.r (.es V0 "not") (.b1 .int (.eq V1 N0)) (.r (.es V0 "sign") (.sb (.b1 .int (.gt V1 N0)) (.b1 .int (.lt V1 N0))) (.r (.or (.es V0 "neg") (.lt V1 N0)) (.c1 80 (.neg V1)) (.ret V1))))
noncomputable def CD:PSp:=λ ts Q=>∃(w:Str) (x y:Int),ts=[.str w,.int x,.int y]/\w∈fU/\inB x/\inB y/\Q (.int (aW w x y))
noncomputable def Ol:Ct:=(.r (.cmp .In V0 (.t3 (.w "add") (.w "sub") (.w "mul"))) (.c1 80 (.ix (.lst (.a3 (.ad V1 V2) (.sb V1 V2) (.ml V1 V2))) (.idxE false (.lst (.a3 (.w "add") (.w "sub") (.w "mul"))) V0))) (.i (.cmp .In V0 (.t2 (.w "quo") (.w "rest"))) (.r (.eq V2 N0) (.ix (.lst (.a2 N0 V1)) (.b1 .int (.es V0 "rest"))) (.ret (.ix (.lst (.a2 (.c1 80 (.dv V1 V2)) (.sb V1 (.ml (.dv V1 V2) V2)))) (.b1 .int (.es V0 "rest"))))) (.r (.cmp .In V0 (.t2 (.w "less") (.w "like"))) (.ix (.lst (.a2 (.b1 .int (.lt V1 V2)) (.b1 .int (.eq V1 V2)))) (.b1 .int (.es V0 "like"))) (.r (.cmp .In V0 (.t2 (.w "max") (.w "min"))) (.ix (.lst (.a2 (.b2 .max V1 V2) (.b2 .min V1 V2))) (.b1 .int (.es V0 "min"))) (.ret (.ix (.lst (.a3 (.bin .BitAnd V1 V2) (.bin .BitOr V1 V2) (.bin .BitXor V1 V2))) (.idxE false (.lst (.a3 (.w "and") (.w "or") (.w "xor"))) V0)))))))
noncomputable def CF:PSp:=λ ts Q=>∃ns:LI,ts=[tI ns]/\aD ns/\ns.length<=20/\(∀i,ae (ns.take i)<=512)/\Q (.lst ((bR ns).map tI))
noncomputable def Om:Ct:=(.set 1 (.lst (.a1 .t0)) (.for [2] .seq (.a1 V0) (.set 3 .l0 (.for [4] .seq (.a1 V1) (.for [5] .rng (.a1 V2) (.met .append 3 (.a1 (.ad V4 (.t1 V5))) .nil) .nil) (.set 1 V3 .nil))) (.ret V1)))
noncomputable def CG:PSp:=λ ts Q=>∃(A C ms:LI),ts=[.tup [tI A,tI C],tI ms]/\aD A/\A.length<=20/\A.length<=ms.length/\0<=plH A (ms.take A.length)/\(plH A (ms.take A.length)).toNat<C.length/\Q (.int (C.getD (plH A (ms.take A.length)).toNat 0))
noncomputable def On:Ct:=(.ret (.ix (.x 0 1) (.c2 78 (.x 0 0) (.st V1 (.ln (.x 0 0))))))
noncomputable def CH:PSp:=λ ts Q=>∃(d:Stp) (A S ms:LI) (Ss:LL),ts=[stT d,tI ms,tI A]/\Mh d/\OkS Ss S d/\Ss[(gX d).headD 0]?=some A/\A.length<=6/\S.length<=6/\ms.length=S.length/\(∀c∈ms,inB c)/\Q (tI (Mg d A ms))
noncomputable def Oo:Ct:=(.set 3 (.x 0 2) (.i (.es (.x 0 0) "turn") (.set 4 (.b1 .list V1) (.for [5] .rng (.a1 (.ln V3)) (.put 4 (.ix V3 V5) (.ix V1 V5) .nil) (.ret (.b1 .tuple V4)))) (.r (.es (.x 0 0) "flip") (.ad (.ad (.st V1 V3) (.t1 (.sb (.sb (.ix V2 V3) N1) (.ix V1 V3)))) (.sf V1 (.ad V3 N1))) (.r (.es (.x 0 0) "cut") (.ad (.ad (.st V1 V3) (.t1 (.ad (.x 0 3) (.ml (.ix V1 V3) (.x 0 5))))) (.sf V1 (.ad V3 N1))) (.ret (.ad (.st V1 V3) (.sf V1 (.ad V3 N1))))))))
noncomputable def CI:PSp:=λ ts Q=>∃(d:Stp) (Ts:List Tb) (S:LI) (mo:Int) (i:Nat),ts=[stT d,.tup (Ts.map tbT),tI (atD S (i:Int)),tI S]/\Mi d/\(∀T∈Ts,TbG mo T)/\cq mo/\OkS (Ts.map (·.1)) S d/\aK mo S/\(i:Int)<ae S/\Q (.int ((bB Ts d).getD i 0))
noncomputable def Op:Ct:=(.set 4 (.ix V1 (.x 0 1)) (.r (.es (.x 0 0) "lay") (.ix (.x 4 1) (.c2 78 V3 V2)) (.set 5 (.ix V1 (.x 0 2)) (.i (.es (.x 0 0) "join") (.set 6 (.x 0 3) (.set 7 (.ix (.x 4 0) V6) (.r (.lt (.ix V2 V6) V7) (.ix (.x 4 1) (.c2 78 (.x 4 0) V2)) (.ret (.ix (.x 5 1) (.c2 78 (.x 5 0) (.ad (.ad (.st V2 V6) (.t1 (.sb (.ix V2 V6) V7))) (.sf V2 (.ad V6 N1))))))))) (.set 8 (.c2 84 V5 V2) (.set 9 (.sb V8 (.ml (.dv V8 (.ix (.x 4 0) N0)) (.ix (.x 4 0) N0))) (.fz 9 (.ret (.ix (.x 4 1) (.c2 78 (.x 4 0) (.ad (.t1 V9) (.sf V2 (.ln (.x 5 0))))))))))))))
noncomputable def CJ:PSp:=λ ts Q=>∃(d:Stp) (Ts:List Tb) (S:LI) (mo:Int) (i:Nat),ts=[stT d,.tup (Ts.map tbT),tI (atD S (i:Int)),tbT (S,bB Ts d)]/\Mj d/\(∀T∈Ts,TbG mo T)/\cq mo/\OkS (Ts.map (·.1)) S d/\aK mo S/\(i:Int)<ae S/\Q (.int ((bB Ts d).getD i 0))
noncomputable def Oq:Ct:=(.set 4 (.ix V1 (.x 0 2)) (.set 5 (.x 0 3) (.set 6 (.ix (.lst (.cons N0 (.cons N1 (.cons (.neg (.bin .Pow N2 (.n 63))) (.cons (.sb (.bin .Pow N2 (.n 63)) N1) (.cons (.neg N1) (.cons N0 (.cons N0 .nil)))))))) (.idxE false (.lst (.cons (.w "add") (.cons (.w "mul") (.cons (.w "max") (.cons (.w "min") (.cons (.w "and") (.cons (.w "or") (.cons (.w "xor") .nil)))))))) (.x 0 1))) (.i (.es (.x 0 0) "run") (.i (.gt (.ix V2 V5) N0) (.set 6 (.ix (.x 3 1) (.c2 78 (.x 3 0) (.ad (.ad (.st V2 V5) (.t1 (.sb (.ix V2 V5) N1))) (.sf V2 (.ad V5 N1))))) .nil) (.ret (.c3 82 (.x 0 1) V6 (.ix (.x 4 1) (.c2 78 (.x 4 0) V2))))) (.for [7] .rng (.a1 (.ix (.x 4 0) V5)) (.set 6 (.c3 82 (.x 0 1) V6 (.ix (.x 4 1) (.c2 78 (.x 4 0) (.ad (.ad (.st V2 V5) (.t1 V7)) (.sf V2 V5))))) .nil) (.ret V6))))))
noncomputable def CK:PSp:=λ ts Q=>∃(d:Stp) (Ts:List Tb) (S:LI) (mo:Int) (i:Nat),ts=[stT d,.tup (Ts.map tbT),tI (atD S (i:Int)),tbT (S,bB Ts d)]/\(∀ms,d≠.inp ms)/\(∀T∈Ts,TbG mo T)/\cq mo/\OkS (Ts.map (·.1)) S d/\aK mo S/\(i:Int)<ae S/\Q (.int ((bB Ts d).getD i 0))
noncomputable def Os:Ct:=(.r (.es (.x 0 0) "num") (.x 0 1) (.r (.es (.x 0 0) "count") (.ix V2 (.x 0 2)) (.r (.es (.x 0 0) "each") (.c2 81 (.x 0 1) (.c2 84 (.ix V1 (.x 0 2)) V2)) (.r (.es (.x 0 0) "pair") (.c3 82 (.x 0 1) (.c2 84 (.ix V1 (.x 0 2)) V2) (.c2 84 (.ix V1 (.x 0 3)) V2)) (.r (.es (.x 0 0) "pick") (.c2 84 (.ix V1 (.ix V0 (.ad N2 (.b1 .int (.eq (.c2 84 (.ix V1 (.x 0 1)) V2) N0))))) V2) (.i (.cmp .In (.x 0 0) (.tup (.cons (.w "turn") (.cons (.w "flip") (.cons (.w "cut") (.cons (.w "spread") .nil)))))) (.set 4 (.ix V1 (.x 0 1)) (.ret (.ix (.x 4 1) (.c2 78 (.x 4 0) (.c3 85 V0 V2 (.x 4 0)))))) (.r (.cmp .In (.x 0 0) (.t2 (.w "fold") (.w "run"))) (.call 87 (.cons V0 (.cons V1 (.cons V2 (.cons V3 .nil))))) (.ret (.call 86 (.cons V0 (.cons V1 (.cons V2 (.cons (.x 3 0) .nil)))))))))))))
def CL:PSp:=ue
noncomputable def Ot:Ct:=(.sets [1,2,3] (.c2 76 (.sl V0 N1 (.n 41)) (.ad N2 (.md (.c2 62 V0 N0) (.n 23)))) (.set 4 (.c2 77 V0 V1) (.set 5 (.c2 60 (.t2 V1 V2) V4) (.r (.or (.not (.isi .isT V5)) (.ne (.ln V5) (.ln V1))) (.c (.bl false)) (.set 6 N0 (.for [7] .rng (.a1 (.ln V1)) (.r (.not (.c2 79 (.ix V5 V7) (.ix V3 V7))) (.c (.bl false)) (.ite (.es (.ix (.ix V1 V7) N0) "in") (.r (.ne (.ix V5 V7) (.ix V4 V6)) (.c (.bl false)) (.set 6 (.ad V6 N1) .nil)) (.set 8 (.comp ["at"] ["found","steps","k"] [5,1,7] [0] .seq (.a1 (.c1 83 (.ix V3 V7))) (.call 88 (.cons (.ix V2 V3) (.cons V1 (.cons V0 (.cons (.ix V1 V3) .nil)))))) (.r (.ne (.b1 .list (.ix (.ix V5 V7) N1)) V8) (.c (.bl false)) .nil)) .nil)) (.ret (.c (.bl true)))))))))
noncomputable def DL:List DR:=[dr "wrapped" ["n"] zp0,dr "sign_of" ["x"] zp1,dr "quotient" ["x","y"] zp2,dr "remainder" ["x","y"] zp3,dr "once" ["word","x"] zp4,dr "twice" ["word","x","y"] zp5,dr "neutral" ["word"] zp6,dr "arg_places" ["form"] zp7,dr "args_of" ["step"] zp8,dr "amount" ["sides"] zp9,dr "breadth" ["sides"] Bc,dr "allowed" ["sides"] Bd,dr "strides_of" ["sides"] Be,dr "place_of" ["sides","at"] Bf,dr "at_of" ["sides","place"] Bg,dr "all_at" ["sides"] rj,dr "changed_at" ["row","k","number"] Bh,dr "added_at" ["row","k","number"] Bi,dr "dropped_at" ["row","k"] Bj,dr "ask_side" ["sides","side"] Bk,dr "turned_sides" ["sides","order"] Bl,dr "flipped_sides" ["sides","side"] Bm,dr "cut_sides" ["sides","side","first","many","step"] Bn,dr "spread_sides" ["sides","side","many"] Bo,dr "laid_sides" ["sides","others"] Bp,dr "joined_sides" ["sides","others","side"] Bq,dr "led_sides" ["sides","others"] Br,dr "paired_sides" ["sides","others"] Bs,dr "picked_sides" ["marks","sides","others"] Bt,dr "fetched_sides" ["sides","others"] Bu,dr "folded_sides" ["sides","side"] Bv,dr "counted_sides" ["sides","side"] Bw,dr "ask_word" ["step"] Bx,dr "first_sides" ["step"] By,dr "moved_sides" ["step","sides"] Bz,dr "step_sides" ["step","sides"] BA,dr "step_told" ["step","sides"] BB,dr "program_told" ["program"] BC,dr "checked" ["program"] BD,dr "table_of" ["sides","cells"] BE,dr "cell_at" ["tab","at"] BF,dr "alone" ["n"] BG,dr "table_by" ["sides","number_at"] BH,dr "fold" ["word","tab","side"] BJ,dr "run" ["word","tab","side"] BK,dr "lead" ["tab","sides"] BL,dr "each" ["word","tab"] BM,dr "pair" ["word","tab","other"] BO,dr "pick" ["marks","tab","other"] BP,dr "fetch" ["tab","other"] BQ,dr "counted" ["sides","side"] BR,dr "turn" ["tab","order"] BS,dr "flip" ["tab","side"] BU,dr "cut" ["tab","side","first","many","step"] BV,dr "spread" ["tab","side","many"] BW,dr "lay" ["tab","sides"] BX,dr "join" ["tab","other","side"] BY,dr "moved_table" ["step","tab"] BZ,dr "step_table" ["step","tabs"] Ca,dr "inputs_checked" ["program","inputs"] Cb,dr "all_tables" ["program","inputs"] Cc,dr "_law_whole" ["found"] Ce,dr "_law_cell_at" ["script","k"] Cf,dr "_law_is_sides" ["found","due"] Cg,dr "_law_size" ["sides"] Ch,dr "_law_wide" ["sides"] Ci,dr "_law_number" ["n"] Cj,dr "_law_recent" ["pool","d"] Ck,dr "_law_begun" ["kind","n","cell","most"] Cm,dr "_law_led" ["one","other"] Cn,dr "_law_lifted" ["kind","d","sides"] Co,dr "_law_laid" ["own","d"] Cp,dr "_law_moved" ["kind","d","a","own","most"] Cq,dr "_law_both" ["own","other","side"] Cs,dr "_law_met" ["kind","d","sides","most"] Cu,dr "_law_step" ["cell","sides","most"] Cv,dr "_law_program" ["cells","most"] Cw,dr "_law_inputs" ["cells","steps"] Cy,dr "_law_spot" ["sides","at"] Cz,dr "_law_table" ["found","sides"] CA,dr "_law_wrap" ["n"] CB,dr "_law_once" ["word","x"] CC,dr "_law_twice" ["word","x","y"] CD,dr "_law_all" ["sides"] CF,dr "_law_here" ["tab","at"] CG,dr "_law_old_place" ["step","at","own"] CH,dr "_law_put" ["step","tabs","at","sides"] CI,dr "_law_along" ["step","tabs","at","told"] CJ,dr "_law_due" ["step","tabs","at","told"] CK,dr "law" ["script"] CL]
noncomputable def gs:List Str:=["LOW","HIGH","MOST_SIDES","MOST_BREADTH","MOST_STEPS","MOST_OUTS","PARTS"]
noncomputable def GT:List TV:=[.int (-9223372036854775808),.int 9223372036854775807,.int 6,.int 512,.int 40,.int 8,.bor [.tup [.str "in",.tup [.tup [.str "sides",.int 1]]],.tup [.str "num",.tup [.tup [.str "number",.int 1]]],.tup [.str "count",.tup [.tup [.str "small",.int 2],.tup [.str "sides",.int 1]]],.tup [.str "each",.tup [.tup [.str "word",.int 1],.tup [.str "step",.int 2]]],.tup [.str "pair",.tup [.tup [.str "word",.int 1],.tup [.str "step",.int 2],.tup [.str "step",.int 3]]],.tup [.str "pick",.tup [.tup [.str "step",.int 1],.tup [.str "step",.int 2],.tup [.str "step",.int 3]]],.tup [.str "turn",.tup [.tup [.str "step",.int 1],.tup [.str "sides",.int 2]]],.tup [.str "flip",.tup [.tup [.str "step",.int 1],.tup [.str "small",.int 2]]],.tup [.str "cut",.tup [.tup [.str "step",.int 1],.tup [.str "small",.int 2],.tup [.str "small",.int 3],.tup [.str "small",.int 4],.tup [.str "small",.int 5]]],.tup [.str "spread",.tup [.tup [.str "step",.int 1],.tup [.str "small",.int 2],.tup [.str "small",.int 3]]],.tup [.str "lay",.tup [.tup [.str "step",.int 1],.tup [.str "sides",.int 2]]],.tup [.str "join",.tup [.tup [.str "step",.int 1],.tup [.str "step",.int 2],.tup [.str "small",.int 3]]],.tup [.str "fetch",.tup [.tup [.str "step",.int 1],.tup [.str "step",.int 2]]],.tup [.str "fold",.tup [.tup [.str "word",.int 1],.tup [.str "step",.int 2],.tup [.str "small",.int 3]]],.tup [.str "run",.tup [.tup [.str "word",.int 1],.tup [.str "step",.int 2],.tup [.str "small",.int 3]]]]]
abbrev Ft(j:Nat):List PSp:=dFT DL j
def Ou:∀t its,ats t its->t.pl=true/\its.length<sizeLine/\rj [t] λ u=>u=.lst its:=λ t its ⟨ns,e,sd,l,p,ei⟩=>by
 subst e ei;exact⟨O,by rw[ao,bQ];exact aP ca,ns,O,sd,l,p,O⟩
noncomputable abbrev ZX(j i:Nat)(N:List Str)(n p:Nat)(S:PSp)(c:Ct):Prop:=ZX' DL GT gs j (top i) N n p S c
noncomputable abbrev ZL(j i:Nat)(N N':List Str)(js:List Nat)(n n2 p:Nat)(S:PSp)(c:Ct)(e k:Cd):Prop:=ZL' DL GT gs ats 41 j (top i) N N' js n n2 p S c e k
noncomputable abbrev ZD(j i:Nat)(N N':List Str)(js:List Nat)(n n2 p i0:Nat)(S:PSp)(c:Ct)(e:Cd)(k:Ct):Prop:=ZD' DL GT gs ats 41 j (top i) N N' js n n2 p i0 S c e k
def zw0:ZX 0 12 ["n"] 1 1 zp0 zc0:=by
 refine⟨by kernel_rfl,?_⟩;rintro ts Q ⟨n,rfl,q⟩;refine⟨O,?_⟩;exact⟨p64,fu,O,q⟩
def zw1:ZX 1 13 ["x"] 1 1 zp1 zc1:=by
 refine⟨by kernel_rfl,?_⟩;rintro ts Q ⟨n,rfl,q⟩;refine⟨O,?_⟩;exact s3 (λ h=>⟨O,by rw[if_pos h] at q;exact q⟩) (λ h=>s3 (λ h2=>⟨O,by rw[if_neg h,if_pos h2] at q;exact q⟩) (λ h2=>⟨O,by rw[if_neg h,if_neg h2] at q;exact q⟩))
def zw2:ZX 2 14 ["x","y"] 2 2 zp2 zc2:=by
 refine⟨by kernel_rfl,?_⟩;rintro ts Q ⟨x,y,rfl,hx,hy,q⟩;refine⟨O,?_⟩;unfold inB at hx hy;unfold kK at q;exact⟨pv,sN (λ h=>⟨O,by rw[if_pos h] at q;exact q⟩) (λ h=>⟨⟨h,ca,ca⟩,cl rfl ⟨_,O,O,by rw[if_neg h] at q;rw[qW];exact q⟩ rfl⟩)⟩
def zw3:ZX 3 15 ["x","y"] 2 2 zp3 zc3:=by
 refine⟨by kernel_rfl,?_⟩;rintro ts Q ⟨x,y,rfl,q⟩;refine⟨O,?_⟩;unfold kL at q;exact⟨pv,sN (λ h=>⟨O,by rw[if_pos h] at q;exact q⟩) (λ h=>⟨h,O,by rw[if_neg h,<- LN] at q;exact q⟩)⟩
def zw4:ZX 4 16 ["word","x"] 2 2 zp4 zc4:=by
 refine⟨by kernel_rfl,?_⟩;rintro ts Q ⟨wd,x,rfl,hw,q⟩;refine⟨O,?_⟩;unfold eH uC at q;refine⟨pv,sE (λ c=>?_) (λ c0=>?_)⟩
 ·rw[if_pos c] at q;exact cl rfl ⟨_,rfl,rfl,q⟩ rfl
 rw[if_neg c0] at q;refine⟨pv,sE (λ c=>?_) (λ c1=>?_)⟩
 ·rw[if_pos c] at q;exact cl rfl ⟨_,rfl,rfl,q⟩ rfl
 rw[if_neg c1] at q;refine⟨pv,sE (λ c=>?_) (λ c2=>?_)⟩
 ·rw[if_pos c] at q;exact cl rfl ⟨_,rfl,rfl,q⟩ rfl
 rw[if_neg c2] at q;refine⟨pv,sE (λ c=>?_) (λ c3=>?_)⟩
 ·exact⟨pv,sN (λ h=>⟨O,by rw[if_pos h] at q;exact q⟩) (λ h=>⟨O,by rw[if_neg h] at q;exact q⟩)⟩
 simp only[jE,aL,bX,bY] at hw;exact absurd hw (by simp only[c0,c1,c2,c3,or_self,not_false_eq_true])
def zw5:ZX 5 17 ["word","x","y"] 3 3 zp5 zc5:=by
 refine⟨by kernel_rfl,?_⟩;rintro ts Q ⟨wd,x,y,rfl,hx,hy,hw,q⟩;refine⟨O,?_⟩;unfold aW at q;have hx':=hx;unfold inB at hx';refine⟨pv,sE (λ c=>?_) (λ c0=>?_)⟩
 ·rw[if_pos c] at q;exact cl rfl ⟨_,rfl,rfl,q⟩ rfl
 rw[if_neg c0] at q;refine⟨pv,sE (λ c=>?_) (λ c1=>?_)⟩
 ·rw[if_pos c] at q;exact cl rfl ⟨_,rfl,rfl,q⟩ rfl
 rw[if_neg c1] at q;refine⟨pv,sE (λ c=>?_) (λ c2=>?_)⟩
 ·rw[if_pos c] at q;exact⟨kU ca ca,cl rfl ⟨_,rfl,rfl,q⟩ rfl⟩
 rw[if_neg c2] at q;refine⟨pv,sE (λ c=>?_) (λ c3=>?_)⟩
 ·rw[if_pos c] at q;exact cl rfl ⟨x,y,rfl,hx,hy,rfl,q⟩ rfl
 rw[if_neg c3] at q;refine⟨pv,sE (λ c=>?_) (λ c4=>?_)⟩
 ·rw[if_pos c] at q;exact cl rfl ⟨x,y,rfl,rfl,q⟩ rfl
 rw[if_neg c4] at q;refine⟨pv,sE (λ c=>?_) (λ c5=>?_)⟩
 ·rw[if_pos c] at q;exact⟨rfl,q⟩
 rw[if_neg c5] at q;refine⟨pv,sE (λ c=>?_) (λ c6=>?_)⟩
 ·rw[if_pos c] at q;exact⟨rfl,q⟩
 rw[if_neg c6] at q;refine⟨pv,sE (λ c=>?_) (λ c7=>?_)⟩
 ·rw[if_pos c] at q;exact s3 (λ h=>⟨rfl,by rw[if_pos h] at q;exact q⟩) (λ h=>⟨rfl,by rw[if_neg h] at q;exact q⟩)
 rw[if_neg c7] at q;refine⟨pv,sE (λ c=>?_) (λ c8=>?_)⟩
 ·rw[if_pos c] at q;exact⟨trivial,sN (λ h=>⟨rfl,by rw[if_pos h] at q;exact q⟩) (λ h=>⟨rfl,by rw[if_neg h] at q;exact q⟩)⟩
 rw[if_neg c8] at q;refine⟨pv,sE (λ c=>?_) (λ c9=>?_)⟩
 ·rw[if_pos c] at q;exact⟨rfl,q⟩
 rw[if_neg c9] at q;refine⟨pv,sE (λ c=>?_) (λ c10=>?_)⟩
 ·rw[if_pos c] at q;exact⟨rfl,q⟩
 rw[if_neg c10] at q;refine⟨pv,sE (λ c=>?_) (λ c11=>?_)⟩
 ·exact⟨O,q⟩
 simp only[fU,aL,bX,bY] at hw;exact absurd hw (by simp only[c0,c1,c2,c3,c4,c5,c6,c7,c8,c9,c10,c11,or_self,not_false_eq_true])
def zw6:ZX 6 18 ["word"] 1 1 zp6 zc6:=by
 refine⟨by kernel_rfl,?_⟩;rintro ts Q ⟨wd,rfl,hw,q⟩;refine⟨O,?_⟩;have fl:∀x∈[TV.str "add",TV.str "or",TV.str "xor"],flT x=true:=fu;unfold isF at hw;simp only[fw,aL,bX,bY] at hw;refine⟨O,g3L,O,fl,s2 (λ h=>⟨O,?_⟩) (λ h=>⟨pv,sE (λ c=>⟨O,?_⟩) (λ c0=>⟨pv,sE (λ c=>⟨O,?_⟩) (λ c1=>⟨pv,sE (λ c=>⟨O,?_⟩) (λ c2=>⟨pv,sE (λ c=>⟨O,?_⟩) (λ c3=>?_)⟩)⟩)⟩)⟩)⟩
 ·have h:(decide (Str.ofString "add"=wd) || (decide (Str.ofString "or"=wd) || (decide (Str.ofString "xor"=wd) || false)))=true:=h;simp only[mq,gG,nI,bY] at h
  rcases h with rfl|rfl|rfl
  ·rw[zQ] at q;exact q
  ·rw[zX] at q;exact q
  ·rw[zY] at q;exact q
 ·subst c;rw[zR] at q;exact q
 ·subst c;rw[zU] at q;exact q
 ·subst c;rw[zV] at q;exact q
 ·subst c;rw[zW] at q;exact q
 ·have h:(decide (Str.ofString "add"=wd) || (decide (Str.ofString "or"=wd) || (decide (Str.ofString "xor"=wd) || false)))=false:=h;simp only[Bool.or_eq_false_iff,xO,and_true] at h
  rcases hw with z|z|z|z|z|z|z
  ·exact absurd z.symm h.1
  ·exact absurd z c0
  ·exact absurd z c1
  ·exact absurd z c2
  ·exact absurd z c3
  ·exact absurd z.symm h.2.1
  ·exact absurd z.symm h.2.2
def zw7:ZX 7 23 ["form"] 1 1 zp7 zc7:=by
 refine⟨by kernel_rfl,?_⟩;rintro ts Q ⟨i,hi,rfl,q⟩;refine⟨O,?_⟩;have sl:∀n:Nat,n<=9->n<sizeLine:=λ n h=>aP ca
 match i,hi with
 |0,_=>exact⟨_,rfl,sl 1 fu,trivial,rfl,q⟩
 |1,_=>exact⟨_,rfl,sl 1 fu,trivial,rfl,q⟩
 |2,_=>exact⟨_,rfl,sl 2 fu,trivial,trivial,rfl,q⟩
 |3,_=>exact⟨_,rfl,sl 2 fu,trivial,trivial,rfl,rfl,q⟩
 |4,_=>exact⟨_,rfl,sl 3 fu,trivial,trivial,rfl,trivial,rfl,rfl,q⟩
 |5,_=>exact⟨_,rfl,sl 3 fu,trivial,rfl,trivial,rfl,trivial,rfl,rfl,q⟩
 |6,_=>exact⟨_,rfl,sl 2 fu,trivial,rfl,trivial,rfl,q⟩
 |7,_=>exact⟨_,rfl,sl 2 fu,trivial,rfl,trivial,rfl,q⟩
 |8,_=>exact⟨_,rfl,sl 5 fu,trivial,rfl,trivial,trivial,trivial,trivial,rfl,q⟩
 |9,_=>exact⟨_,rfl,sl 3 fu,trivial,rfl,trivial,trivial,rfl,q⟩
 |10,_=>exact⟨_,rfl,sl 2 fu,trivial,rfl,trivial,rfl,q⟩
 |11,_=>exact⟨_,rfl,sl 3 fu,trivial,rfl,trivial,rfl,trivial,rfl,q⟩
 |12,_=>exact⟨_,rfl,sl 2 fu,trivial,rfl,trivial,rfl,rfl,q⟩
 |13,_=>exact⟨_,rfl,sl 3 fu,trivial,trivial,rfl,trivial,rfl,q⟩
 |14,_=>exact⟨_,rfl,sl 3 fu,trivial,trivial,rfl,trivial,rfl,q⟩
 |i+15,h=>lia
def zw8:ZX 8 24 ["step"] 1 1 zp8 zc8:=by
 refine⟨by kernel_rfl,?_⟩;rintro ts Q ⟨d,rfl,q⟩;refine⟨O,?_⟩;have sl:∀n:Nat,n<=3->n<sizeLine:=λ n h=>aP ca;have k15:kdN d<15:=by cases d<;>exact dA rfl
 refine⟨_,AT d,cl rfl ⟨kdN d,k15,O,?_⟩ rfl⟩;rw[LW _ k15]
 cases d<;>first|exact⟨sl 0 fu,rfl,q⟩|exact⟨sl 1 fu,_,rfl,rfl,rfl,q⟩|exact⟨sl 2 fu,_,rfl,rfl,_,rfl,rfl,rfl,q⟩|exact⟨sl 3 fu,_,rfl,rfl,_,rfl,rfl,_,rfl,rfl,rfl,q⟩
def zw9:ZX 9 28 ["sides","product","side"] 3 1 zp9 zc9:=by
 refine⟨by kernel_rfl,?_⟩;rintro ts Q ⟨t,rfl,ns,ht,sd,q⟩;refine⟨O,?_⟩
 rcases ht with rfl|rfl
 ·refine⟨O,O,bO (λ i ρ=>∃y,ρ=[some (tI ns),some (.int (ae (ns.take i))),y]) ⟨_,O⟩ (λ i u ρ hu ⟨y,e⟩=>?_) (λ ρ ⟨y,e⟩=>?_)⟩
  ·subst e;obtain⟨n,rfl,hn⟩:=iV hu;have b:=sd n (aA hn);exact⟨eK ca ca,O,some (.int n),by rw[kD hn];rfl⟩
  ·subst e;rw[ag,cy];exact⟨O,q⟩
 ·refine⟨O,O,bO (λ i ρ=>∃y,ρ=[some (lI ns),some (.int (ae (ns.take i))),y]) ⟨_,O⟩ (λ i u ρ hu ⟨y,e⟩=>?_) (λ ρ ⟨y,e⟩=>?_)⟩
  ·subst e;obtain⟨n,rfl,hn⟩:=iV hu;have b:=sd n (aA hn);exact⟨eK ca ca,O,some (.int n),by rw[kD hn];rfl⟩
  ·subst e;rw[ag,cy];exact⟨O,q⟩
def Ov:ZX 10 29 ["sides"] 1 1 Bc Mu:=by
 refine⟨by kernel_rfl,?_⟩;rintro ts Q ⟨ns,rfl,sd,l,q⟩;refine⟨O,?_⟩;refine⟨by rw[ag];exact aP ca,dL .int (λ n=>.int (ah n)) ns (λ n _=>?_) (cl rfl ⟨_,O,ns.map ah,.inr (by unfold lI;rw[br];rfl),yK sd,O,q⟩ rfl)⟩;refine⟨pv,s2 (λ h=>⟨O,?_⟩) (λ h=>⟨O,?_⟩)⟩
 ·rw[LH h];rfl
 ·rw[LJ h];rfl
def Ow:ZX 11 30 ["sides"] 1 1 Bd Mv:=by
 refine⟨by kernel_rfl,?_⟩;rintro ts Q ⟨ns,rfl,sd,l,nb,q⟩;refine⟨O,?_⟩;unfold bP at nb;exact sF (bq (show ¬((6:Int)<((ns.map TV.int).length:Nat)) by rw[ag];lia)) (cl rfl ⟨ns,O,sd,l,sF (bq (show ¬((512:Int)<ae (ns.map ah)) by lia)) ⟨O,q⟩⟩ rfl)
def Ox:ZX 12 31 ["sides","strides","stride","side"] 4 1 Be Mw:=by
 refine⟨by kernel_rfl,?_⟩;rintro ts Q ⟨ns,rfl,sd,l,q⟩;refine⟨O,?_⟩;refine⟨O,bW _,O,O,O,?_⟩;refine bO (λ i ρ=>∃y,ρ=[some (tI ns),some (.own ((stL ns i).map .int)),some (.int (stP ns i)),y]) ⟨_,O⟩ (λ i u ρ hu ⟨y,e⟩=>?_) (λ ρ ⟨y,e⟩=>?_)
 ·subst e;obtain⟨hi,n,rfl,hn⟩:=AJ hu;have b:=sd n (aA hn);refine⟨O,by rw[ag,stL,ao,bQ];exact aP ca,eK ca ca,O,some (.int n),?_⟩;rw[yL hi hn,uu,bK];rfl
 ·subst e;rw[iI,ag];refine⟨O,?_⟩;show Q (.tup ((stL ns ns.length).map TV.int).reverse);rw[<- oq];exact q
def Oy:ZX 13 32 ["sides","at","side","coordinate"] 4 2 Bf Mx:=by
 refine⟨by kernel_rfl,?_⟩;rintro ts Q ⟨ns,ms,rfl,sd,l,g,q⟩;refine⟨O,?_⟩;have hl:=g.1;refine⟨pv,sF (neF (by rw[ag,ag,hl])) ⟨O,?_⟩⟩;refine bO (λ i ρ=>∃y2 y3,ρ=[some (tI ns),some (tI ms),y2,y3]) ⟨_,_,O⟩ (λ i u ρ hu ⟨y2,y3,e⟩=>?_) (λ ρ ⟨y2,y3,e⟩=>?_)
 ·subst e;obtain⟨n,m,rfl,hn,hm⟩:=LG hu;have b:=g.2 i m n hm hn;refine sF (bq (show ¬m<0 by lia)) (sF (bq (show ¬n<=m by lia)) ⟨_,_,O⟩)
 ·subst e;refine cl rfl ⟨ns,O,sd,l,by rw[kh,ag,ag];exact aP ca,oF (AK ms _) (λ p:Int×Int=>.int (p.1*p.2)) (λ p hp=>?_) ⟨_,LK _ _,?_⟩⟩ rfl
  ·obtain⟨i,ei⟩:=nJ.mp hp;obtain⟨e1,e2⟩:=nR.mp ei;obtain⟨n,hn⟩:∃n,ns[i]?=some n:=⟨ns[i]'(by have:=(bf.mp e1).1;lia),aB _⟩;have mb:=g.2 i p.1 n e1 hn;have nb:=sd n (aA hn);exact⟨kU ca ca,O,O⟩
  ·exact⟨O,q⟩
def Oz:ZX 14 33 ["sides","place","at","left","side"] 5 2 Bg Mz:=by
 refine⟨by kernel_rfl,?_⟩;rintro ts Q ⟨ns,pl,rfl,sd,l,p0,p1,q⟩;refine⟨O,?_⟩;have nz:=uv (ns:=ns) ca;refine sF (bq (show ¬pl<0 by lia)) (cl rfl ⟨_,O,ns,.inl rfl,sd,sF (bq (show ¬ae ns<=pl by lia)) ⟨O,bW _,O,O,O,?_⟩⟩ rfl);refine bO (λ i ρ=>∃y,ρ=[some (tI ns),some (.int pl),some (.own ((dgL ns pl i).map .int)),some (.int (lfI ns pl i)),y]) ⟨_,O⟩ (λ i u ρ hu ⟨y,e⟩=>?_) (λ ρ ⟨y,e⟩=>?_)
 ·subst e;obtain⟨hi,n,rfl,hn⟩:=AJ hu;have b:=sd n (aA hn);have mz:=nz n (aA hn);have rg:=qD hi hn;have d1:dgI ns pl i=lfI ns pl i%n:=by unfold dgI;rw[rg]
  have l1:lfI ns pl (i+1)=lfI ns pl i/n:=by show lfI ns pl i/_=_;rw[rg]
  have fd:(lfI ns pl i).fdiv n=lfI ns pl i/n:=mW _ b.1;refine⟨mz,O,by rw[ag,dgL,ao,bQ];exact aP ca,⟨mz,ca,ca⟩,O,some (.int n),?_⟩;have m1:aH (lfI ns pl i) n=lfI ns pl i%n:=if_pos ca;have v1:aM (lfI ns pl i) n=lfI ns pl i/n:=if_pos ca;rw[yM,bK,d1,l1,<- m1,<- v1];rfl
 ·subst e;rw[iI,ag];refine⟨O,?_⟩;show Q (.tup ((dgL ns pl ns.length).map TV.int).reverse);rw[<- oq];exact q
def OB:ZX 15 34 ["sides"] 1 1 rj MA:=by
 refine⟨by kernel_rfl,?_⟩;rintro ts Q ⟨ns,rfl,sd,l,p5,q⟩;refine⟨O,?_⟩;have pn:=iN λ n hn=>(sd n hn).1;refine cl rfl ⟨_,O,ns,.inl rfl,sd,⟨ca,ca⟩,by rw[ao,bQ];exact aP ca,dL (λ i:Nat=>.int (i:Nat)) (λ i:Nat=>tI (atD ns (i:Int))) (List.range (ae ns).toNat) (λ i hi=>cl rfl ⟨ns,_,O,sd,l,ca,by have:=fq.mp hi;lia,O,O⟩ rfl) ⟨O,q⟩⟩ rfl
def OC:ZX 16 35 ["row","k","number"] 3 3 Bh MB:=by
 refine⟨by kernel_rfl,?_⟩;rintro ts Q ⟨ns,k,m,rfl,l,kl,q⟩;refine⟨O,?_⟩;have e1:=dR ns k;have e2:ai (ns.map TV.int) (some ((k:Int)+1)) none=(ns.drop (k+1)).map TV.int:=by rw[show(k:Int)+1=((k+1:Nat):Int) by lia];exact fk ns (k+1)
 have e3:(ai (ns.map TV.int) none (some (k:Int))++[TV.int m])++ai (ns.map TV.int) (some ((k:Int)+1)) none=(ns.set k m).map TV.int:=by rw[e1,e2,uH,if_pos kl];simp
 have l1:(ai (ns.map TV.int) none (some (k:Int))).length<=63:=by rw[e1,ag,bd];lia
 have l2:(ai (ns.map TV.int) (some ((k:Int)+1)) none).length<=63:=by rw[e2,ag,dX];lia
 unfold tI at q;rw[<- e3] at q;exact⟨O,g1L,bu (show(ai (ns.map TV.int) none (some (k:Int))).length+1<=1000 by lia),bu (show(ai (ns.map TV.int) none (some (k:Int))++[TV.int m]).length+(ai (ns.map TV.int) (some ((k:Int)+1)) none).length<=1000 by rw[aN,dO];lia),O,q⟩
def OD:ZX 17 36 ["row","k","number"] 3 3 Bi MC:=by
 refine⟨by kernel_rfl,?_⟩;rintro ts Q ⟨ns,k,m,rfl,l,q⟩;refine⟨O,?_⟩;have e1:=dR ns k;have e2:=fk ns k;have e3:(ai (ns.map TV.int) none (some (k:Int))++[TV.int m])++ai (ns.map TV.int) (some (k:Int)) none=(aY ns k m).map TV.int:=by rw[e1,e2];unfold aY;simp
 have l1:(ai (ns.map TV.int) none (some (k:Int))).length<=63:=by rw[e1,ag,bd];lia
 have l2:(ai (ns.map TV.int) (some (k:Int)) none).length<=63:=by rw[e2,ag,dX];lia
 unfold tI at q;rw[<- e3] at q;exact⟨O,g1L,bu (show(ai (ns.map TV.int) none (some (k:Int))).length+1<=1000 by lia),bu (show(ai (ns.map TV.int) none (some (k:Int))++[TV.int m]).length+(ai (ns.map TV.int) (some (k:Int)) none).length<=1000 by rw[aN,dO];lia),O,q⟩
def OE:ZX 18 37 ["row","k"] 2 2 Bj MD:=by
 refine⟨by kernel_rfl,?_⟩;rintro ts Q ⟨ns,k,rfl,l,kl,q⟩;refine⟨O,?_⟩;have e1:=dR ns k;have e2:ai (ns.map TV.int) (some ((k:Int)+1)) none=(ns.drop (k+1)).map TV.int:=by rw[show(k:Int)+1=((k+1:Nat):Int) by lia];exact fk ns (k+1)
 have e3:ai (ns.map TV.int) none (some (k:Int))++ai (ns.map TV.int) (some ((k:Int)+1)) none=(ns.eraseIdx k).map TV.int:=by rw[e1,e2,mC,bK]
 have l1:(ai (ns.map TV.int) none (some (k:Int))).length<=63:=by rw[e1,ag,bd];lia
 have l2:(ai (ns.map TV.int) (some ((k:Int)+1)) none).length<=63:=by rw[e2,ag,dX];lia
 unfold tI at q;rw[<- e3] at q;exact⟨bu (show(ai (ns.map TV.int) none (some (k:Int))).length+(ai (ns.map TV.int) (some ((k:Int)+1)) none).length<=1000 by lia),O,q⟩
def OF:ZX 19 39 ["sides","side"] 2 2 Bk ME:=by
 refine⟨by kernel_rfl,?_⟩;rintro ts Q ⟨ns,side,rfl,no,q⟩;refine⟨O,?_⟩;unfold off at no;exact sF (bq (show ¬side<0 by lia)) (sF (bq (show ¬((ns.map TV.int).length:Int)<=side by rw[ag];lia)) q)
def OG:ZX 20 40 ["sides","order"] 2 2 Bl MF:=by
 refine⟨by kernel_rfl,?_⟩;rintro ts Q ⟨ns,os,rfl,l1,l2,tk,q⟩;refine⟨O,?_⟩;refine⟨os,O,ca,λ ss pm pw=>?_⟩;have c:=(KD (n:=ns.length) pm pw).mpr tk;refine⟨⟨ca,by rw[ag];lia⟩,dpL _,sF ?_ ?_⟩
 ·show(!_L.eqT (TV.lst (ss.map TV.int)) (TV.lst ((List.range (((ns.map TV.int).length:Nat):Int).toNat).map λ i:Nat=>TV.int (i:Nat))))=false;rw[show((List.range (((ns.map TV.int).length:Nat):Int).toNat).map λ i:Nat=>TV.int (i:Nat))=(upL ns.length).map TV.int by rw[ag];unfold upL;rw[br];rfl,LM,c];simp
 ·refine⟨by rw[ag];exact aP ca,dL .int (λ o:Int=>.int (ns.getD o.toNat 0)) os (λ o ho=>?_) ⟨O,by unfold tI bT at q;rw[br] at q;exact q⟩⟩;have om:=up_mem.mp (tk.subset ho);exact⟨_,oH om.1 om.2,O,O⟩
def OH:ZX 21 41 ["sides","side"] 2 2 Bm MG:=by
 refine⟨by kernel_rfl,?_⟩;rintro ts Q ⟨ns,side,rfl,no,q⟩;refine⟨O,?_⟩;exact cl rfl ⟨ns,side,O,no,O,q⟩ rfl
def OI:ZX 22 42 ["sides","side","first","many","step"] 5 5 Bn MH:=by
 refine⟨by kernel_rfl,?_⟩;rintro ts Q ⟨ns,side,f,m,g,rfl,l,m0,m1,no,nb,q⟩;refine⟨O,?_⟩;refine cl rfl ⟨ns,side,O,no,?_⟩ rfl;obtain⟨k,rfl,hk⟩:=cZ no;unfold bad at nb;simp only[Int.toNat_natCast] at nb q;refine sF (bq λ z=>nb (.inl z)) (sF (bq λ z=>nb (.inr (.inl z))) (sF (bq λ z=>nb (.inr (.inr (.inl z)))) ?_));refine s3 (λ c=>?_) (λ c=>cl rfl ⟨ns,k,m,O,l,hk,O,q⟩ rfl);exact⟨kU ca ca,_,bg hk,sF (bq λ z=>nb (.inr (.inr (.inr ⟨c,z⟩)))) (cl rfl ⟨ns,k,m,O,l,hk,O,q⟩ rfl)⟩
def OJ:ZX 23 43 ["sides","side","many"] 3 3 Bo MI:=by
 refine⟨by kernel_rfl,?_⟩;rintro ts Q ⟨ns,side,m,rfl,sd,l,m1,no,mn,nb,q⟩;refine⟨O,?_⟩;unfold jG at no;obtain⟨k,rfl⟩:∃k:Nat,side=k:=⟨side.toNat,ca⟩;simp only[Int.toNat_natCast] at nb q;have il:=qL ns k m;refine sF (bq (show ¬((ns.map TV.int).length:Int)<k by rw[ag];lia)) (sF (bq mn) (cl rfl ⟨ns,k,m,O,ca,cl rfl ⟨aY ns k m,O,λ n hn=>?_,ca,nb,O,q⟩ rfl⟩ rfl));unfold aY at hn;simp only[cg,bh] at hn
 rcases hn with (h|h)|h
 ·exact sd n (jA h)
 ·lia
 ·exact sd n (kJ h)
def OL:ZX 24 44 ["sides","others"] 2 2 Bp MJ:=by
 refine⟨by kernel_rfl,?_⟩;rintro ts Q ⟨ns,ms,rfl,sd,sm',l,nb,e,q⟩;refine⟨O,?_⟩;exact cl rfl ⟨ms,O,sm',ca,nb,cl rfl ⟨_,O,ns,.inl rfl,sd,cl rfl ⟨_,O,ms,.inl rfl,sm',pv,sF (neF e) ⟨O,q⟩⟩ rfl⟩ rfl⟩ rfl
def OM:ZX 25 45 ["sides","others","side"] 3 3 Bq MK:=by
 refine⟨by kernel_rfl,?_⟩;rintro ts Q ⟨ns,ms,side,rfl,hn,hm,l,ll,no,c,nb,q⟩;refine⟨O,?_⟩;refine⟨pv,sF (neF (by rw[ag,ag,ll])) (cl rfl ⟨ns,side,O,no,?_⟩ rfl)⟩;obtain⟨k,rfl,hk⟩:=cZ no;simp only[Int.toNat_natCast] at c;have n1:=hn _ (getD_mem hk);have n2:=hm _ (getD_mem (ns:=ms) (k:=k) ca);refine cl rfl ⟨ns,k,O,ca,hk,cl rfl ⟨ms,k,O,ca,ca,dpT _,sF ?_ ?_⟩ rfl⟩ rfl
 ·show(!_L.eqT (TV.tup ((ns.eraseIdx k).map TV.int)) (TV.tup ((ms.eraseIdx k).map TV.int)))=false;rw[oG,c];simp
 ·refine⟨_,bg hk,_,bg (ns:=ms) ca,cl rfl ⟨ns,k,_,O,ca,hk,cl rfl ⟨_,O,λ n hn'=>?_,by rw[cW];lia,nb,O,q⟩ rfl⟩ rfl⟩
  rcases mE hn' with z|z
  ·exact fc hn n z
  ·lia
def ON:ZX 26 46 ["sides","others"] 2 2 Br ML:=by
 refine⟨by kernel_rfl,?_⟩;rintro ts Q ⟨ns,ms,rfl,c,q⟩;refine⟨O,?_⟩;have e1:ai (ms.map TV.int) none (some (((ns.map TV.int).length:Nat):Int))=ns.map TV.int:=by rw[ag,dR,c]
 exact⟨by show _L.dp 9 (TV.tup (ai (ms.map TV.int) none (some (((ns.map TV.int).length:Nat):Int))));rw[e1];exact dpT ns,sF (by show(!_L.eqT (TV.tup (ai (ms.map TV.int) none (some (((ns.map TV.int).length:Nat):Int)))) (TV.tup (ns.map TV.int)))=false;rw[e1,oG];simp) ⟨O,q⟩⟩
def OO:ZX 27 47 ["sides","others"] 2 2 Bs MN:=by
 refine⟨by kernel_rfl,?_⟩;rintro ts Q ⟨ns,ms,rfl,c,q⟩;refine⟨O,?_⟩;unfold bZ at c;unfold au at q;refine s2 (λ h=>?_) (λ h=>?_)
 ·have h:(((ms.map TV.int).length:Nat):Int)<((ns.map TV.int).length:Nat):=aC h;rw[ag,ag] at h;rw[if_pos ca] at c q;exact cl rfl ⟨ms,ns,O,c,O,q⟩ rfl
 ·have h:¬(((ms.map TV.int).length:Nat):Int)<((ns.map TV.int).length:Nat):=jN h;rw[ag,ag] at h;rw[if_neg ca] at c q;exact cl rfl ⟨ns,ms,O,c,O,q⟩ rfl
def OP:ZX 28 48 ["marks","sides","others"] 3 3 Bt MO:=by
 refine⟨by kernel_rfl,?_⟩;rintro ts Q ⟨ns,ms,ks,rfl,c1,c2,q⟩;refine⟨O,?_⟩;exact cl rfl ⟨ns,ms,O,c1,cl rfl ⟨_,ks,O,c2,O,q⟩ rfl⟩ rfl
def OQ:ZX 29 49 ["sides","others"] 2 2 Bu MP:=by
 refine⟨by kernel_rfl,?_⟩;rintro ts Q ⟨n,r,ms,rfl,sd,sm',l1,l2,n0,nb,q⟩;refine⟨O,?_⟩;have e1:ai ((n::r).map TV.int) (some 1) none=r.map TV.int:=fk (n::r) 1;have lc:(ai ((n::r).map TV.int) (some 1) none).length<=20:=by rw[e1,ag];lia
 refine⟨pv,.int n,ik (j:=0) rfl,pv,sN (λ h=>absurd h n0) (λ _=>⟨bu (show(ms.map TV.int).length+(ai ((n::r).map TV.int) (some 1) none).length<=1000 by rw[ag];lia),cl rfl ⟨ms++r,?_,λ x hx=>?_,by rw[aN];lia,nb,O,q⟩ rfl⟩)⟩
 ·show[TV.tup (ms.map TV.int++ai ((n::r).map TV.int) (some 1) none)]=[tI (ms++r)];rw[e1,<- bK];rfl
 ·rcases cg.mp hx with h|h
  ·exact sm' x h
  ·exact sd x (aE _ h)
def OR:ZX 30 50 ["sides","side"] 2 2 Bv MQ:=by
 refine⟨by kernel_rfl,?_⟩;rintro ts Q ⟨ns,side,rfl,l,no,q⟩;refine⟨O,?_⟩;refine cl rfl ⟨ns,side,O,no,?_⟩ rfl;obtain⟨k,rfl,hk⟩:=cZ no;simp only[Int.toNat_natCast] at q;exact cl rfl ⟨ns,k,O,l,hk,O,q⟩ rfl
def OS:ZX 31 51 ["sides","side"] 2 2 Bw MR:=by
 refine⟨by kernel_rfl,?_⟩;rintro ts Q ⟨ns,side,rfl,sd,l,nb,no,q⟩;refine⟨O,?_⟩;exact cl rfl ⟨ns,O,sd,ca,nb,cl rfl ⟨ns,side,O,no,O,q⟩ rfl⟩ rfl
def OT:ZX 32 53 ["step"] 1 1 Bx MS:=by
 refine⟨by kernel_rfl,?_⟩;rintro ts Q ⟨d,rfl,hw,q⟩;refine⟨O,?_⟩
 cases d with
 |each w a=>exact⟨_,rfl,trivial,_,rfl,cl rfl ⟨w,0,rfl,hw,_,rfl,trivial,_,rfl,rfl,g2L,rfl,fl2,q⟩ rfl⟩
 |pair w a b=>exact⟨_,rfl,trivial,_,rfl,trivial,_,rfl,cl rfl ⟨w,0,0,rfl,⟨fu,fu⟩,⟨fu,fu⟩,hw,_,rfl,rfl,g2L,rfl,fl2,q⟩ rfl⟩
 |fold w a s=>exact⟨_,rfl,trivial,_,rfl,trivial,_,rfl,rfl,g2L,rfl,fl2,_,rfl,cl rfl ⟨w,rfl,hw,q⟩ rfl⟩
 |run w a s=>exact⟨_,rfl,trivial,_,rfl,trivial,_,rfl,rfl,g2L,rfl,fl2,_,rfl,cl rfl ⟨w,rfl,hw,q⟩ rfl⟩
 |_=>exact⟨_,rfl,trivial,_,rfl,trivial,_,rfl,rfl,g2L,rfl,fl2,q⟩
def OU:ZX 33 54 ["step"] 1 1 By MT:=by
 refine⟨by kernel_rfl,?_⟩;rintro ts Q ⟨d,S,Ss,rfl,k3,ok,fs,q⟩;refine⟨O,?_⟩;have sd:=da fs;have s6:=fs.2.1
 cases d with
 |inp ms=>obtain⟨rfl,nb⟩:=ok;exact⟨_,rfl,trivial,_,rfl,cl rfl ⟨S,rfl,sd,ca,nb,rfl,q⟩ rfl⟩
 |count ms k=>obtain⟨rfl,nb,no⟩:=ok;exact⟨_,rfl,trivial,_,rfl,trivial,_,rfl,_,rfl,cl rfl ⟨S,k,rfl,sd,ca,nb,no,rfl,q⟩ rfl⟩
 |num n=>obtain⟨rfl,_⟩:=ok;exact⟨_,rfl,trivial,_,rfl,trivial,rfl,g0L,rfl,q⟩
 |_=>exact absurd k3 (jN rfl)
def OV:ZX 34 55 ["step","sides","form"] 3 2 Bz MU:=by
 refine⟨by kernel_rfl,?_⟩;rintro ts Q ⟨d,S,A,Ss,a,rfl,ha,ea,fA,ok,fs,q⟩;refine⟨O,?_⟩;have sd:=da fs;have sdA:=da fA;have s6:=fs.2.1;have a6:=fA.2.1
 cases d with
 |each w a=>
  cases ha;cases ok.1.symm.trans ea;exact⟨_,O,O,pv,pv,pv,pv,pv,pv,pv,O,q⟩
 |turn a os=>
  cases ha;obtain⟨A',ea',tk,rfl⟩:=ok;cases ea'.symm.trans ea;exact⟨_,O,O,pv,_,O,cl rfl ⟨A,os,O,ca,by rw[tk.length_eq,fg];lia,tk,O,q⟩ rfl⟩
 |flip a s=>
  cases ha;obtain⟨ea',no⟩:=ok;cases ea'.symm.trans ea;exact⟨_,O,O,pv,pv,_,O,cl rfl ⟨S,s,O,no,O,q⟩ rfl⟩
 |cut a s f m g=>
  cases ha;obtain⟨A',ea',no,nb,m5,rfl⟩:=ok;cases ea'.symm.trans ea;exact⟨_,O,O,pv,pv,pv,_,O,_,O,_,O,_,O,cl rfl ⟨A,s,f,m,g,O,ca,by unfold bad at nb;lia,ca,no,nb,O,q⟩ rfl⟩
 |spread a s m=>
  cases ha;obtain⟨A',ea',no,nm,m5,nb,rfl⟩:=ok;cases ea'.symm.trans ea;exact⟨_,O,O,pv,pv,pv,pv,_,O,_,O,cl rfl ⟨A,s,m,O,sdA,ca,ca,no,nm,nb,O,q⟩ rfl⟩
 |lay a ms=>
  cases ha;obtain⟨A',ea',nb,e,rfl⟩:=ok;cases ea'.symm.trans ea;exact⟨_,O,O,pv,pv,pv,pv,pv,_,O,cl rfl ⟨A,S,O,sdA,sd,ca,nb,e,O,q⟩ rfl⟩
 |fold w a s=>
  cases ha;obtain⟨A',ea',hw,no,rfl⟩:=ok;cases ea'.symm.trans ea;exact⟨_,O,O,pv,pv,pv,pv,pv,pv,_,O,cl rfl ⟨A,s,O,ca,no,O,q⟩ rfl⟩
 |run w a s=>
  cases ha;obtain⟨ea',hw,no⟩:=ok;cases ea'.symm.trans ea;exact⟨_,O,O,pv,pv,pv,pv,pv,pv,pv,_,O,cl rfl ⟨S,s,O,no,O,q⟩ rfl⟩
 |_=>cases ha
def OW:ZX 35 56 ["step","sides","used","form"] 4 2 BA MV:=by
 refine⟨by kernel_rfl,?_⟩;rintro ts Q ⟨t,d,S,Ss,rfl,ht,fS,ok,fs,q⟩;refine⟨O,?_⟩;subst ht
 cases d with
 |pair w a b=>
  obtain⟨A,B,ea,eb,hw,po,rfl⟩:=ok;exact cl rfl ⟨(Stp.pair w a b),O,hw,cl rfl ⟨(Stp.pair w a b),O,sl3 (dA rfl),tI A,aF ea,O,tI B,aF eb,O,O,_,O,O,pv,pv,pv,_,O,_,O,cl rfl ⟨A,B,O,po,O,q⟩ rfl⟩ rfl⟩ rfl
 |join a b s=>
  obtain⟨A,B,ea,eb,ll,no,ee,nb,rfl⟩:=ok;have fA:=fS _ (aA ea);have fB:=fS _ (aA eb);have a6:=fA.2.1;exact cl rfl ⟨(Stp.join a b s),O,pv,cl rfl ⟨(Stp.join a b s),O,sl3 (dA rfl),tI A,aF ea,O,tI B,aF eb,O,O,_,O,O,pv,pv,pv,pv,_,O,_,O,_,O,cl rfl ⟨A,B,s,O,kO fA,kO fB,ca,ll,no,ee,nb,O,q⟩ rfl⟩ rfl⟩ rfl
 |fetch a b=>
  obtain⟨n,r,B,ea,n0,eb,nb,rfl⟩:=ok;have fA:=fS _ (aA ea);have fB:=fS _ (aA eb);have a6:=fA.2.1;have b6:=fB.2.1;rw[List.length_cons] at a6;exact cl rfl ⟨(Stp.fetch a b),O,pv,cl rfl ⟨(Stp.fetch a b),O,sl3 (dA rfl),tI (n::r),aF ea,O,tI B,aF eb,O,O,_,O,O,pv,pv,pv,pv,pv,_,O,_,O,cl rfl ⟨n,r,B,O,da fA,da fB,ca,ca,n0,nb,O,q⟩ rfl⟩ rfl⟩ rfl
 |pick a b c=>
  obtain⟨A,B,C,ea,eb,ec,p1,p2,rfl⟩:=ok;exact cl rfl ⟨(Stp.pick a b c),O,pv,cl rfl ⟨(Stp.pick a b c),O,sl3 (dA rfl),tI A,aF ea,O,tI B,aF eb,O,tI C,aF ec,O,O,_,O,O,pv,pv,pv,pv,pv,_,O,_,O,_,O,cl rfl ⟨A,B,C,O,p1,p2,O,q⟩ rfl⟩ rfl⟩ rfl
 |_=>first|exact cl rfl ⟨_,rfl,uL ok,cl rfl ⟨_,rfl,sl3 (dA rfl),rfl,_,rfl,rfl,trivial,cl rfl ⟨_,S,Ss,rfl,dA rfl,ok,fs,rfl,q⟩ rfl⟩ rfl⟩ rfl|exact cl rfl ⟨_,rfl,uL ok,cl rfl ⟨_,rfl,sl3 (dA rfl),tI S,aF ok.1,rfl,rfl,_,rfl,rfl,trivial,trivial,_,rfl,cl rfl ⟨_,S,S,Ss,_,rfl,rfl,ok.1,fS _ (aA ok.1),ok,fs,rfl,q⟩ rfl⟩ rfl⟩ rfl|(obtain⟨A,ea,_⟩:=id ok;exact cl rfl ⟨_,rfl,uL ok,cl rfl ⟨_,rfl,sl3 (dA rfl),tI A,aF ea,rfl,rfl,_,rfl,rfl,trivial,trivial,_,rfl,cl rfl ⟨_,S,A,Ss,_,rfl,rfl,ea,fS _ (aA ea),ok,fs,rfl,q⟩ rfl⟩ rfl⟩ rfl)
def OX:ZX 36 57 ["step","sides","k"] 3 2 BB MW:=by
 refine⟨by kernel_rfl,?_⟩;rintro ts Q ⟨t,d,S,Ss,rfl,ht,fS,l40,ok,fs,q⟩;refine⟨O,?_⟩;have al:=As ok;have a3:=Lh d;subst ht;refine⟨O,sF (bq (show ¬(40:Int)<=((Ss.map tI).length:Nat) by rw[ao];lia)) (cl rfl ⟨d,O,by rw[ao,ao];exact sl3 a3,oF (l:=gX d) (f:=λ a:Nat=>.int (a:Int)) (by rw[br];rfl) (λ _=>.bl false) (λ a ha=>?_) ⟨(gX d).map λ _=>false,by rw[br];rfl,sF on (cl rfl ⟨_,d,S,Ss,O,O,fS,ok,fs,O,g2L,O,q⟩ rfl)⟩⟩ rfl)⟩;refine⟨O,?_⟩;have:=al a ha;show TV.bl (decide (((Ss.map tI).length:Nat)<=(a:Int)))=TV.bl false;rw[ao,bq ca]
def OY:ZX 37 58 ["program","steps","outs","sides","step","told"] 6 1 BC MX:=by
 refine⟨by kernel_rfl,?_⟩;rintro ts Q ⟨ds,Ss,os,mo,rfl,gd,q⟩;refine⟨O,?_⟩;obtain⟨hmo,gl,d0,d40,o0,o8,ho⟩:=gd;refine⟨_,O,O,_,O,O,O,bW _,O,O,?_⟩;refine bO (λ i ρ=>∃y z,ρ=[some (.tup [.tup (ds.map stT),tI os]),some (.tup (ds.map stT)),some (tI os),some (.own ((Ss.take i).map tI)),y,z]) ⟨_,_,O⟩ (λ i u ρ hu ⟨y,z,e⟩=>?_) (λ ρ ⟨y,z,e⟩=>?_)
 ·subst e;obtain⟨d,rfl,ed⟩:=qX hu;have idl:=(bf.mp ed).1;have il:i<Ss.length:=by rw[<- gl.1];exact idl
  have eS:=aB il;generalize Ss[i]=S at eS;have ok:=gl.2.2 i d S ed eS;have fs:=gl.2.1 S (aA eS);exact clB rfl ⟨_,d,S,Ss.take i,O,O,λ T hT=>bU (gl.2.1 T (jA hT)) hmo,by rw[bd];lia,ok,bU fs hmo,LF2 S,O,_,O,O,_,O,O,by rw[ao,bd];exact aP ca,_,_,by rw[fR,eS,bK];rfl⟩
 ·subst e;rw[ao,gP (by rw[gl.1];exact ay _)];refine sT (cY (show(1:Int)<=((os.map TV.int).length:Nat) by rw[ag];lia)) (sF (by rw[cY (show(((os.map TV.int).length:Nat):Int)<=8 by rw[ag];lia)];rfl) ⟨by rw[ag];exact aP ca,dL .int (λ _=>.bl false) os (λ o ho'=>?_) ⟨os.map λ _=>false,by rw[br];rfl,sF on ⟨O,g2L,O,q⟩⟩⟩);have b:=ho o ho';refine sF (bq (show ¬o<0 by lia)) ⟨O,?_⟩;show TV.bl (decide (((ds.map stT).length:Nat)<=o))=TV.bl false;rw[ao,bq ca]
def OZ:ZX 38 59 ["program","told","fault"] 3 1 BD MY:=by
 refine⟨by kernel_rfl,?_⟩;rintro ts Q ⟨ds,Ss,os,mo,rfl,gd,q⟩;refine⟨O,?_⟩;exact cl rfl ⟨ds,Ss,os,mo,O,gd,O,_,O,O,O,_,O,O,q⟩ rfl
def Pa:ZX 39 61 ["sides","cells"] 2 2 BE MZ:=by
 refine⟨by kernel_rfl,?_⟩;rintro ts Q ⟨t,ns,cs,rfl,ht,sd,l,cl',nb,e,q⟩;refine⟨O,?_⟩;have q2:Q (.tup [tI ns,.tup (cs.map λ c=>TV.int (cD c))]):=by unfold tI at q ⊢;rw[br] at q;exact q
 have sm':(cs.map TV.int).length<sizeLine:=by rw[ag];exact aP ca
 rcases ht with rfl|rfl
 all_goals
  exact cl rfl ⟨ns,O,sd,l,nb,cl rfl ⟨_,O,ns,.inl rfl,sd,pv,sF (neF (by rw[ag];exact e)) ⟨sm',dL .int (λ c=>.int (cD c)) cs (λ c _=>cl rfl ⟨c,O,O,O⟩ rfl) ⟨O,g2L,O,q2⟩⟩⟩ rfl⟩ rfl
def Pb:ZX 40 64 ["tab","at"] 2 2 BF Na:=by
 refine⟨by kernel_rfl,?_⟩;rintro ts Q ⟨ns,cs,ms,rfl,sd,l,g,cl',q⟩;refine⟨O,?_⟩;have pi:=gU g
 have ex:cs[(plH ns ms).toNat]?=some (cs.getD (plH ns ms).toNat 0):=by
  rw[aR,aB ca];rfl
 exact⟨_,O,_,O,cl rfl ⟨ns,ms,O,sd,l,g,.int (cs.getD (plH ns ms).toNat 0),uX pi.1 ex,O,q⟩ rfl⟩
def Pc:ZX 41 63 ["n"] 1 1 BG Nb:=by
 refine⟨by kernel_rfl,?_⟩;rintro ts Q ⟨n,rfl,q⟩;refine⟨O,?_⟩;exact⟨O,g0L,O,g1L,cl rfl ⟨_,[],[n],O,.inl rfl,(λ n hn=>by cases hn),fu,on,fu,O,O,q⟩ rfl⟩
def Pd:ZX 42 62 ["sides","number_at"] 2 2 BH Nc:=by
 refine⟨by kernel_rfl,?_⟩;intro ts Q h;exact h.elim
def Pe:ZD 43 66 ["word","tab","side","begin","sides","length","number_at"] ["at","word","tab","side","length","begin","number","k"] [0,1,2,5,3] 7 8 3 6 BJ Nd Nf Ng:=by
 refine⟨by kernel_rfl,?_⟩;rintro ts Q ⟨wd,ns,cs,side,rfl,hm,h20,p5,csl,hin,hw,no,q⟩;refine⟨O,?_⟩;obtain⟨k,rfl,hk⟩:=cZ no;simp only[Int.toNat_natCast] at q;have hs:=fc hm;have nn:∀n∈ns,0<=n:=λ n hn=>(hs n hn).1;have sdA:aD (ns.eraseIdx k):=λ n hn=>hs n (Ae hn);have pb:=bS λ n hn=>(sdA n hn).1;have pe:=Az (k:=k) nn;have li:(ns.eraseIdx k).length=ns.length-1:=by rw[oA,if_pos hk]
 have nk:=hm _ (getD_mem hk);refine cl rfl ⟨wd,O,hw,O,_,O,cl rfl ⟨ns,k,O,ca,no,O,_,O,_,bg hk,O,O,?_⟩ rfl⟩ rfl;refine⟨(List.range (ae (ns.eraseIdx k)).toNat).map λ i:Nat=>tI (atD (ns.eraseIdx k) (i:Int)),(jL wd ns cs k).map .int,[.str wd,.tup [tI ns,tI cs],.int k,.int (ns.getD k 0),.int (bc wd)],⟨ns.eraseIdx k,O,sdA,ca,ca,O⟩,by simp[jL],O,O,O,λ i a b ea eb=>?_,q⟩;obtain⟨il,rfl⟩:=bL ea;unfold jL at eb;rw[br] at eb;have eb:=(bL eb).2;simp only[Function.comp] at eb;subst eb;have gd:=dJ (p:=i) sdA ca ca;have al:=dw (ns.eraseIdx k) i;generalize atD (ns.eraseIdx k) (i:Int)=At at *;refine⟨O,O,⟨ca,ca⟩,?_⟩;refine bO (λ j ρ=>∃y,ρ=[some (tI At),some (.str wd),some (.tup [tI ns,tI cs]),some (.int k),some (.int (ns.getD k 0)),some (.int (bc wd)),some (.int (mL wd (bc wd) ns cs k At j)),y]) ⟨_,O⟩ (λ j u ρ hu ⟨y,e⟩=>?_) (λ ρ ⟨y,e⟩=>?_)
 ·subst e;obtain⟨jl,rfl⟩:=bL hu;have gj:=Ay hk gd (y:=(j:Int)) ca ca;have pi:=gU gj;exact cl rfl ⟨At,k,j,O,ca,cl rfl ⟨ns,cs,_,O,hs,ca,gj,csl,cl rfl ⟨wd,_,_,O,qR hw (jK _) hin _,hin _ (getD_mem ca),oD hw,O,_,O⟩ rfl⟩ rfl⟩ rfl
 ·subst e;rw[ao,bQ];exact⟨O,O⟩
def Pf:ZX 44 67 ["word","tab","side","begin","sides","stride","cells","place","cell","is_first","before"] 11 3 BK Nh:=by
 refine⟨by kernel_rfl,?_⟩;rintro ts Q ⟨wd,ns,cs,side,rfl,hm,h20,p5,csl,hin,hw,no,q⟩;refine⟨O,?_⟩;have hs:=fc hm;have nn:∀n∈ns,0<=n:=λ n hn=>(hs n hn).1;have po:=bS nn;refine cl rfl ⟨wd,O,hw,O,_,O,O,cl rfl ⟨ns,side,O,no,?_⟩ rfl⟩ rfl;obtain⟨k,rfl,hk⟩:=cZ no;simp only[Int.toNat_natCast] at q;refine cl rfl ⟨ns,O,hs,ca,.int (ae (ns.drop (k+1))),ik (j:=k) (by rw[aQ,AA hk];rfl),O,O,bW _,O,_,O,O,?_⟩ rfl;refine bO (λ j ρ=>∃y7 y8 y9 y10,ρ=[some (.str wd),some (.tup [tI ns,tI cs]),some (.int k),some (.int (bc wd)),some (tI ns),some (.int (ae (ns.drop (k+1)))),some (.own ((cI wd (bc wd) (ae (ns.drop (k+1))) (ns.getD k 0) cs j).map .int)),y7,y8,y9,y10]) ⟨_,_,_,_,O⟩ (λ j u ρ hu ⟨y7,y8,y9,y10,e⟩=>?_) (λ ρ ⟨y7,y8,y9,y10,e⟩=>?_)
 ·subst e;obtain⟨c,rfl,hc⟩:=LQ hu;have jl:j<cs.length:=(bf.mp hc).1;have np:=oo hs (p:=(j:Int)) ca ca;have sp:=mF (ns:=ns.drop (k+1)) λ n hn=>np n (kJ hn);have nk:=np _ (getD_mem hk);have ec:cs.getD j 0=c:=by rw[aR,hc];rfl
  have rl:=kR wd (bc wd) (ae (ns.drop (k+1))) (ns.getD k 0) cs j;have rin:=qQ (st:=ae (ns.drop (k+1))) (n:=ns.getD k 0) hw (jK wd) hin (j:=j) ca;have inc:inB c:=hin _ (aA hc)
  have s1a:ae (ns.drop (k+1))<=512:=by
   have a3:ae ns=ae (ns.take (k+1))*ae (ns.drop (k+1)):=by rw[<- qG,jD]
   have a4:=mF (ns:=ns.take (k+1)) λ n hn=>np n (jA hn);have a5:1*ae (ns.drop (k+1))<=ae (ns.take (k+1))*ae (ns.drop (k+1)):=gW ca ca;lia
  have e1:aM (j:Int) (ae (ns.drop (k+1)))=(j:Int)/ae (ns.drop (k+1)):=if_pos ca;have e2:aH ((j:Int)/ae (ns.drop (k+1))) (ns.getD k 0)=(j:Int)/ae (ns.drop (k+1))%ns.getD k 0:=if_pos ca;have lim:((cI wd (bc wd) (ae (ns.drop (k+1))) (ns.getD k 0) cs j).map TV.int).length<sizeLine:=by rw[ag,rl];exact aP ca
  have nx:∀v:Int,v=aW wd (if (j:Int)/ae (ns.drop (k+1))%ns.getD k 0=0 then bc wd else (cI wd (bc wd) (ae (ns.drop (k+1))) (ns.getD k 0) cs j).getD ((j:Int)-ae (ns.drop (k+1))).toNat 0) c->(cI wd (bc wd) (ae (ns.drop (k+1))) (ns.getD k 0) cs j).map TV.int++[TV.int v]=(cI wd (bc wd) (ae (ns.drop (k+1))) (ns.getD k 0) cs (j+1)).map TV.int:=λ v ev=>by
   show _=(cI wd (bc wd) (ae (ns.drop (k+1))) (ns.getD k 0) cs j++[aW wd (if (j:Int)/ae (ns.drop (k+1))%ns.getD k 0=0 then bc wd else (cI wd (bc wd) (ae (ns.drop (k+1))) (ns.getD k 0) cs j).getD ((j:Int)-ae (ns.drop (k+1))).toNat 0) (cs.getD j 0)]).map TV.int;rw[ec,<- ev,bK];rfl
  refine⟨⟨ca,ca,ca⟩,_,bg hk,ca,pv,O,?_⟩;rw[e1,e2];refine sN (λ h=>⟨O,cl rfl ⟨wd,_,c,O,jK wd,inc,oD hw,O,lim,some (.int j),some (.int c),some (.bl (_L.eqT (TV.int ((j:Int)/ae (ns.drop (k+1))%ns.getD k 0)).fz (TV.int 0).fz)),some (.int (bc wd)),?_⟩ rfl⟩) (λ h=>?_)
  ·rw[<- nx _ (by rw[if_pos h])];rfl
  ·have ge:ae (ns.drop (k+1))<=(j:Int):=by
    by_cases z:ae (ns.drop (k+1))<=(j:Int)
    ·exact z
    ·rw[zk ca ca] at h;simp at h
   have ex:=fT (ns:=cI wd (bc wd) (ae (ns.drop (k+1))) (ns.getD k 0) cs j) (show((j:Int)-ae (ns.drop (k+1))).toNat<(cI wd (bc wd) (ae (ns.drop (k+1))) (ns.getD k 0) cs j).length by rw[rl];lia);refine⟨.int _,uX ca ex,O,cl rfl ⟨wd,_,c,O,rin _ (aA ex),inc,oD hw,O,lim,some (.int j),some (.int c),some (.bl (_L.eqT (TV.int ((j:Int)/ae (ns.drop (k+1))%ns.getD k 0)).fz (TV.int 0).fz)),some (.int ((cI wd (bc wd) (ae (ns.drop (k+1))) (ns.getD k 0) cs j).getD ((j:Int)-ae (ns.drop (k+1))).toNat 0)),?_⟩ rfl⟩;rw[<- nx _ (by rw[if_neg h])];rfl
 ·subst e;rw[List.length_mapIdx,ag];exact⟨O,g2L,O,q⟩
def Pg:ZL 45 69 ["tab","sides","many"] ["at","tab","many"] [0,2] 3 3 2 BL Ni Nj Nk:=by
 refine⟨by kernel_rfl,?_⟩;rintro ts Q ⟨ns,cs,ms,rfl,sd,sm',l1,l2,csl,p5,c,q⟩;refine⟨O,?_⟩;have pn:=iN λ n hn=>(sm' n hn).1;refine⟨_,O,O,_,O,cl rfl ⟨ns,ms,O,c,?_⟩ rfl⟩;refine⟨(List.range (ae ms).toNat).map λ i:Nat=>tI (atD ms (i:Int)),(cO ns cs ms).map .int,[.tup [tI ns,tI cs],.int ((ns.map TV.int).length:Nat)],⟨ms,O,sm',ca,ca,O⟩,by simp[cO],O,O,O,λ i a b ea eb=>?_,q⟩;obtain⟨il,rfl⟩:=bL ea;unfold cO at eb;rw[br] at eb;obtain⟨_,rfl⟩:=bL eb;have gd:=zK ns.length (dJ (p:=i) sm' ca ca);rw[c] at gd;refine cl rfl ⟨ns,cs,(atD ms i).take ns.length,?_,sd,ca,gd,csl,O,O⟩ rfl;show[TV.tup [tI ns,tI cs],TV.tup (ai ((atD ms i).map TV.int) none (some (((ns.map TV.int).length:Nat):Int)))]=_;rw[ag,dR];rfl
def Ph:ZX 46 70 ["word","tab"] 2 2 BM Nl:=by
 refine⟨by kernel_rfl,?_⟩;rintro ts Q ⟨w,ns,cs,rfl,l,hw,q⟩;refine⟨O,?_⟩;refine cl rfl ⟨w,0,O,hw,?_⟩ rfl;refine⟨_,O,_,O,by rw[ag];exact aP ca,dL .int (λ c=>.int (eH w c)) cs (λ c _=>cl rfl ⟨w,c,O,hw,O,O⟩ rfl) ⟨O,g2L,O,?_⟩⟩;unfold tI at q ⊢;rw[br] at q;exact q
def Pi:ZX 47 71 ["word","tab","other","sides","xs","ys"] 6 3 BO Nm:=by
 refine⟨by kernel_rfl,?_⟩;rintro ts Q ⟨w,ns,cs,ms,ds,rfl,sn,sm',ln,lm,csl,dsl,pn,pm,hc,hd,hw,pk,q⟩;refine⟨O,?_⟩;have ⟨l1,l2⟩:=qK pk;have sP:aD (au ns ms):=iO (P:=aD) sn sm';have lP:(au ns ms).length<=20:=iO (P:=λ z=>z.length<=20) ln lm;have pP:ae (au ns ms)<=512:=iO (P:=λ z=>ae z<=512) pn pm;refine cl rfl ⟨w,0,0,O,⟨fu,fu⟩,⟨fu,fu⟩,hw,_,O,_,O,cl rfl ⟨ns,ms,O,pk,O,?_⟩ rfl⟩ rfl;generalize au ns ms=P at *;refine cl rfl ⟨ns,cs,P,O,sn,sP,ln,lP,csl,pP,l1,_,O,O,cl rfl ⟨ms,ds,P,O,sm',sP,lm,lP,dsl,pP,l2,_,O,O,?_⟩ rfl⟩ rfl;refine⟨by rw[kh,ag,ag,jF,jF];exact aP ca,oF (AK _ _) (λ p:Int×Int=>.int (aW w p.1 p.2)) (λ p hp=>?_) ⟨O,g2L,O,?_⟩⟩
 ·have hp':=lw (a:=p.1) (b:=p.2) hp;exact cl rfl ⟨w,p.1,p.2,O,AL hc hp'.1,AL hd hp'.2,hw,O,O⟩ rfl
 ·show Q (.tup [tI P,.tup _]);rw[LP];exact q
def Pj:ZX 48 72 ["marks","tab","other","sides","asked","xs","ys"] 7 3 BP Nn:=by
 refine⟨by kernel_rfl,?_⟩;rintro ts Q ⟨ks,es,ns,cs,ms,ds,rfl,sk,sn,sm',lk,ln,lm,ek,ec,ed,pk,pn,pm,o1,o2,q⟩;refine⟨O,?_⟩;have ⟨l0,l1,l2⟩:=zO o1 o2;have sP:aD (au (au ks ns) ms):=iO (P:=aD) (iO (P:=aD) sk sn) sm';have lP:(au (au ks ns) ms).length<=20:=iO (P:=λ z=>z.length<=20) (iO (P:=λ z=>z.length<=20) lk ln) lm;have pP:ae (au (au ks ns) ms)<=512:=iO (P:=λ z=>ae z<=512) (iO (P:=λ z=>ae z<=512) pk pn) pm;refine⟨_,O,_,O,_,O,cl rfl ⟨ks,ns,ms,O,o1,o2,O,?_⟩ rfl⟩;generalize au (au ks ns) ms=P at *;have h0:z3 ((cO ks es P).map TV.int) ((cO ns cs P).map TV.int) ((cO ms ds P).map TV.int)=(List.range (ae P).toNat).map λ i=>TV.tup [.int (bx ks es P i),.int (bx ns cs P i),.int (bx ms ds P i)]:=by unfold cO;exact z3I _ _ _ _
 refine cl rfl ⟨ks,es,P,O,sk,sP,lk,lP,ek,pP,l0,_,O,O,cl rfl ⟨ns,cs,P,O,sn,sP,ln,lP,ec,pP,l1,_,O,O,cl rfl ⟨ms,ds,P,O,sm',sP,lm,lP,ed,pP,l2,_,O,O,?_⟩ rfl⟩ rfl⟩ rfl;refine⟨⟨by rw[ag,ag,jF,jF],by rw[ag,ag,jF,jF]⟩,by rw[h0,ao,bQ];exact aP ca,oF h0 (λ i=>.int (if bx ks es P i≠0 then bx ns cs P i else bx ms ds P i)) (λ i hi=>?_) ⟨O,g2L,O,?_⟩⟩
 ·by_cases c:bx ks es P i=0
  ·exact⟨pv,sF (neF c) ⟨O,by rw[if_neg (by simpa using c)];rfl⟩⟩
  ·exact⟨pv,sT (neT c) ⟨O,by rw[if_pos c];rfl⟩⟩
 ·show Q (.tup [tI P,.tup _]);unfold pkC tI at q;rw[br] at q;exact q
def Pk:ZD 49 73 ["tab","other","sides","length","many","number_at"] ["at","tab","other","many","length","row"] [0,1,4,3] 6 6 2 5 BQ No Np Nq:=by
 refine⟨by kernel_rfl,?_⟩;rintro ts Q ⟨n,r,cs,ms,ds,rfl,hs,hm,h20,k20,csl,dsl,n0,nb,q⟩;refine⟨O,?_⟩;have hn:=hs n bo;have hr':aD r:=λ m hm=>hs m (aE _ hm);have sdA:=Ku hm hr';have pb:=bS λ n hn=>(sdA n hn).1;have nb':=nb;unfold bP at nb';have lA:(ms++r).length=ms.length+r.length:=aN;refine⟨_,O,_,O,cl rfl ⟨n,r,ms,O,hs,hm,h20,k20,n0,nb,O,_,O,.int n,ik (j:=0) rfl,O,_,O,O,O,?_⟩ rfl⟩;refine⟨(List.range (ae (ms++r)).toNat).map λ i:Nat=>tI (atD (ms++r) (i:Int)),_,[.tup [tI (n::r),tI cs],.tup [tI ms,tI ds],.int ((ms.map TV.int).length:Nat),.int n],⟨ms++r,O,sdA,ca,ca,O⟩,on,O,O,O,λ i a b ea eb=>?_,q⟩;obtain⟨il,rfl⟩:=bL ea;rw[br] at eb;have eb:=(bL eb).2;simp only[Function.comp] at eb;subst eb;have hi:(i:Int)<ae (ms++r):=ca;have rp:∀m∈r,0<m:=λ m hm'=>oo sdA ca hi m (cu _ hm');have rpos:=mF rp;rw[qG] at hi;have dv:=zu rpos ca hi;have md:0<=(i:Int)%ae r/\(i:Int)%ae r<ae r:=⟨du _ ca,dH _ rpos⟩;rw[uz ms r rp];have lm:=dw ms ((i:Int)/ae r);have lr:=dw r ((i:Int)%ae r);have gm:=dJ hm dv.1 dv.2;have gr:=dJ hr' md.1 md.2;have em:=kH hm dv.1 dv.2;have er:=kH hr' md.1 md.2;have ef:oC n r cs ds i=cs.getD ((ds.getD ((i:Int)/ae r).toNat 0)%n*ae r+(i:Int)%ae r).toNat 0:=rfl;rw[ef];clear ea eb ef;generalize (i:Int)/ae r=dI at *;generalize (i:Int)%ae r=mI at *;generalize atD ms dI=Am at *;generalize atD r mI=Ar at *;have c1:ai ((Am++Ar).map TV.int) none (some (((ms.map TV.int).length:Nat):Int))=Am.map TV.int:=by rw[ag,dR,<- lm,List.take_left]
 have c2:ai ((Am++Ar).map TV.int) (some (((ms.map TV.int).length:Nat):Int)) none=Ar.map TV.int:=by rw[ag,fk,<- lm,List.drop_left]
 have row0:∀x:Int,0<=x%n/\x%n<n:=λ x=>⟨du _ n0,dH _ ca⟩;have fm:∀x:Int,aH x n=x%n:=λ x=>if_pos ca;have lc:(ai ((Am++Ar).map TV.int) (some (((ms.map TV.int).length:Nat):Int)) none).length<=20:=by rw[c2,ag];lia
 refine cl rfl ⟨ms,ds,Am,?_,hm,ca,gm,dsl,n0,O,O,g1L,bu (show 1+(ai ((Am++Ar).map TV.int) (some (((ms.map TV.int).length:Nat):Int)) none).length<=1000 by lia),cl rfl ⟨n::r,cs,(ds.getD (plH ms Am).toNat 0%n)::Ar,?_,hs,by rw[List.length_cons];lia,zr gr (row0 _).1 (row0 _).2,csl,O,?_⟩ rfl⟩ rfl
 ·show[TV.tup [tI ms,tI ds],TV.tup (ai ((Am++Ar).map TV.int) none (some (((ms.map TV.int).length:Nat):Int)))]=_;rw[c1];rfl
 ·show[TV.tup [tI (n::r),tI cs],TV.tup ([TV.int (aH (ds.getD (plH ms Am).toNat 0) n)]++ai ((Am++Ar).map TV.int) (some (((ms.map TV.int).length:Nat):Int)) none)]=_;rw[c2,fm];rfl
 ·show TV.int (cs.getD (plH (n::r) ((ds.getD (plH ms Am).toNat 0%n)::Ar)).toNat 0)=_;rw[kI,er,em]
def Pl:ZL 50 74 ["sides","side"] ["at","side"] [1] 2 2 2 BR Nr Nt Nu:=by
 refine⟨by kernel_rfl,?_⟩;rintro ts Q ⟨ns,side,rfl,sd,l,nb,no,q⟩;refine⟨O,?_⟩;obtain⟨k,rfl,hk⟩:=cZ no;simp only[Int.toNat_natCast] at q;have nb':=nb;unfold bP at nb';have po:=bS λ n hn=>(sd n hn).1;refine cl rfl ⟨ns,k,O,sd,l,nb,no,?_⟩ rfl;refine⟨(List.range (ae ns).toNat).map λ i:Nat=>tI (atD ns (i:Int)),_,[.int k],⟨ns,O,sd,ca,ca,O⟩,on,O,O,O,λ i a b ea eb=>?_,q⟩;obtain⟨il,rfl⟩:=bL ea;rw[br] at eb;obtain⟨_,rfl⟩:=bL eb;exact⟨_,bg (by rw[dw];exact hk),O,O⟩
def Pm:ZL 51 76 ["tab","order","sides","places"] ["at","tab","places"] [0,3] 4 3 2 BS Nv Nw Nx:=by
 refine⟨by kernel_rfl,?_⟩;rintro ts Q ⟨ns,cs,os,rfl,hm,h20,o20,p5,csl,tk,q⟩;refine⟨O,?_⟩;have hs:=fc hm;have ol:=oB tk;obtain⟨smS,lS,pS⟩:=Lv (side:=0) (f:=0) (m:=0) (g:=0) hm (.inl ⟨rfl,tk,rfl,rfl⟩);have sdS:=fc smS;have pb:=bS λ n hn=>(sdS n hn).1;refine⟨_,O,cl rfl ⟨ns,os,O,h20,o20,tk,O,⟨ca,by rw[ag];lia⟩,by rw[ao,bQ,ag];exact aP ca,?_⟩ rfl⟩;rw[ag,Int.toNat_natCast];refine dL (λ i:Nat=>.int (i:Nat)) (λ i:Nat=>.int (os.idxOf (i:Int):Nat)) (List.range os.length) (λ i hi=>?_) ?_
 ·obtain⟨i1,i2⟩:=LZ (qT tk (s:=i) (by have:=fq.mp hi;lia));exact⟨O,flI _,_,_,i1,eqI _,i2,O,O⟩
 refine⟨O,?_⟩;refine⟨(List.range (ae (bT ns os)).toNat).map λ i:Nat=>tI (atD (bT ns os) (i:Int)),(cE ns cs (bT ns os) (dQ os)).map .int,[.tup [tI ns,tI cs],.lst ((List.range os.length).map λ i:Nat=>.int (os.idxOf (i:Int):Nat))],⟨bT ns os,O,sdS,ca,ca,O⟩,by simp[cE],O,O,O,λ i a b ea eb=>?_,q⟩;obtain⟨il,rfl⟩:=bL ea;have eb:=uY eb;subst eb;have gd:=dJ (p:=i) sdS ca ca;have al:=dw (bT ns os) i;have tl:(bT ns os).length=os.length:=ao ..;generalize atD (bT ns os) (i:Int)=At at *;have gf:=AC tk gd;refine⟨by rw[ao,bQ];exact aP ca,dL (λ i:Nat=>.int (os.idxOf (i:Int):Nat)) (λ i:Nat=>.int (At.getD (os.idxOf (i:Int)) 0)) (List.range os.length) (λ i hi=>?_) (cl rfl ⟨ns,cs,dQ os At,?_,hs,ca,gf,csl,O,O⟩ rfl)⟩
 ·have xl:=uQ.mpr (qT tk (s:=i) (by have:=fq.mp hi;lia));exact⟨_,bg ca,O,O⟩
 ·show[TV.tup [tI ns,tI cs],TV.tup ((List.range os.length).map λ i:Nat=>TV.int (At.getD (os.idxOf (i:Int)) 0))]=_;unfold tI dQ;rw[br];rfl
def Pn:ZL 52 77 ["tab","side","sides"] ["at","tab","sides","side"] [0,2,1] 3 4 2 BU Ny Nz NA:=by
 refine⟨by kernel_rfl,?_⟩;rintro ts Q ⟨ns,cs,side,rfl,hm,h20,p5,csl,no,q⟩;refine⟨O,?_⟩;obtain⟨k,rfl,hk⟩:=cZ no;simp only[Int.toNat_natCast] at q;have hs:=fc hm;have po:=bS λ n hn=>(hs n hn).1;have pn:=iN λ n hn=>(hs n hn).1;refine⟨_,O,cl rfl ⟨ns,k,O,no,O,?_⟩ rfl⟩;refine⟨(List.range (ae ns).toNat).map λ i:Nat=>tI (atD ns (i:Int)),(cE ns cs ns (iQ ns k)).map .int,[.tup [tI ns,tI cs],tI ns,.int k],⟨ns,O,hs,ca,ca,O⟩,by simp[cE],O,O,O,λ i a b ea eb=>?_,q⟩;obtain⟨il,rfl⟩:=bL ea;have eb:=uY eb;subst eb;have gd:=dJ (p:=i) hs ca ca;have al:=dw ns i;generalize atD ns (i:Int)=At at *;have gf:=AE hk gd;exact⟨_,bg hk,_,bg ca,cl rfl ⟨At,k,_,O,ca,ca,cl rfl ⟨ns,cs,_,O,hs,ca,gf,csl,O,O⟩ rfl⟩ rfl⟩
def Po:ZL 53 78 ["tab","side","first","many","step","sides"] ["at","tab","step","side","first"] [0,4,1,2] 6 5 5 BV NB NC ND:=by
 refine⟨by kernel_rfl,?_⟩;rintro ts Q ⟨ns,cs,side,ff,mm,gg,rfl,hm,h20,p5,csl,m0,m1,no,nb,q⟩;refine⟨O,?_⟩;have no':=no;obtain⟨k,rfl,hk⟩:=cZ no;have nb':=nb;simp only[Int.toNat_natCast] at q;have hs:=fc hm;have nn:∀n∈ns,0<=n:=λ n hn=>(hs n hn).1;have nk:=hm _ (getD_mem hk);have cm:=AG nk.1 nb;have sdA:=fc (yW (k:=k) hm cm.1 (show mm<=1000000 by lia));have po:=bS λ n hn=>(sdA n hn).1;have so:=uP (k:=k) nn cm.1 cm.2;have li:(ns.set k mm).length=ns.length:=cW ..;refine⟨_,O,cl rfl ⟨ns,k,ff,mm,gg,O,ca,m0,m1,no',nb',O,?_⟩ rfl⟩;refine⟨(List.range (ae (ns.set k mm)).toNat).map λ i:Nat=>tI (atD (ns.set k mm) (i:Int)),(cE ns cs (ns.set k mm) (iR k ff gg)).map .int,[.tup [tI ns,tI cs],.int gg,.int k,.int ff],⟨ns.set k mm,O,sdA,ca,ca,O⟩,by simp[cE],O,O,O,λ i a b ea eb=>?_,q⟩;obtain⟨il,rfl⟩:=bL ea;have eb:=uY eb;subst eb;have gd:=dJ (p:=i) sdA ca ca;have al:=dw (ns.set k mm) i;generalize atD (ns.set k mm) (i:Int)=At at *;have gf:=AF hk nb gd;have ab:=gd.2 k _ _ (fT ca) (hE hk);exact⟨_,bg ca,kU ca ca,cl rfl ⟨At,k,_,O,ca,ca,cl rfl ⟨ns,cs,_,O,hs,ca,gf,csl,O,O⟩ rfl⟩ rfl⟩
def Pp:ZL 54 79 ["tab","side","many","sides"] ["at","tab","side"] [0,1] 4 3 3 BW NE NF NG:=by
 refine⟨by kernel_rfl,?_⟩;rintro ts Q ⟨ns,cs,side,many,rfl,hs,h20,csl,hmany,no,nn,nb,q⟩;refine⟨O,?_⟩;have no':=no;unfold jG at no;obtain⟨k,rfl⟩:∃k:Nat,side=k:=⟨side.toNat,ca⟩;have nb0:=nb;simp only[Int.toNat_natCast] at nb q;have sdA:=KE (k:=k) hs ca hmany;have pb:=bS λ n hn=>(sdA n hn).1;have nb':=nb;unfold bP at nb';have li:=qL ns k many;refine⟨_,O,cl rfl ⟨ns,k,many,O,hs,h20,hmany,no',nn,nb0,O,?_⟩ rfl⟩;refine⟨(List.range (ae (aY ns k many)).toNat).map λ i:Nat=>tI (atD (aY ns k many) (i:Int)),_,[.tup [tI ns,tI cs],.int k],⟨aY ns k many,O,sdA,ca,ca,O⟩,on,O,O,O,λ i a b ea eb=>?_,q⟩;obtain⟨il,rfl⟩:=bL ea;rw[br] at eb;obtain⟨_,rfl⟩:=bL eb;have gd:=Au k (dJ (p:=i) sdA ca ca);rw[Av ca] at gd;have al:=dw (aY ns k many) i;exact cl rfl ⟨_,k,O,ca,ca,cl rfl ⟨ns,cs,_,O,hs,ca,gd,csl,O,O⟩ rfl⟩ rfl
def Pq:ZX 55 80 ["tab","sides"] 2 2 BX NH:=by
 refine⟨by kernel_rfl,?_⟩;rintro ts Q ⟨ns,cs,ms,rfl,sd,sm',l,nb,e,q⟩;refine⟨O,?_⟩;exact⟨_,O,cl rfl ⟨ns,ms,O,sd,sm',l,nb,e,_,O,O,g2L,O,q⟩ rfl⟩
def Ps:ZD 56 81 ["tab","other","side","sides","length","number_at"] ["at","tab","side","other","length"] [0,2,1,4] 6 5 3 5 BY NI NJ NK:=by
 refine⟨by kernel_rfl,?_⟩;rintro ts Q ⟨ns,cs,ms,ds,side,rfl,hs,hm,h20,csl,dsl,le,no,ee,nb,q⟩;refine⟨O,?_⟩;have no':=no;have ee':=ee;obtain⟨k,rfl,hk⟩:=cZ no;simp only[Int.toNat_natCast] at ee q;have nk:=hs _ (getD_mem hk);have mk:=hm _ (getD_mem (ns:=ms) (k:=k) ca)
 have sdA:aD (aZ ns ms k):=λ n hn'=>by
  unfold aZ at hn';simp only[Int.toNat_natCast] at hn'
  rcases mE hn' with z|z
  ·exact fc hs n z
  ·lia
 have pb:=bS λ n hn=>(sdA n hn).1;have nb':=nb;unfold bP at nb';have li:(aZ ns ms k).length=ns.length:=by unfold aZ;rw[cW]
 have jne:∀j,j≠k->ns[j]?=(aZ ns ms k)[j]?:=λ j hj=>by unfold aZ;rw[iY (by simpa using λ z=>hj z.symm)]
 have jk:(aZ ns ms k)[k]?=some (ns.getD k 0+ms.getD k 0):=by unfold aZ;simp only[Int.toNat_natCast];rw[hE hk]
 have nke:ns[k]?=some (ns.getD k 0):=by rw[aR,aB hk];rfl
 have mke:ms[k]?=some (ms.getD k 0):=by rw[aR,aB (show k<ms.length by lia)];rfl
 refine⟨_,O,_,O,cl rfl ⟨ns,ms,k,O,hs,hm,h20,le,no',ee',nb,O,_,O,_,bg hk,O,O,?_⟩ rfl⟩;refine⟨(List.range (ae (aZ ns ms k)).toNat).map λ i:Nat=>tI (atD (aZ ns ms k) (i:Int)),_,[.tup [tI ns,tI cs],.int k,.tup [tI ms,tI ds],.int (ns.getD k 0)],⟨aZ ns ms k,O,sdA,ca,ca,O⟩,on,O,O,O,λ i a b ea eb=>?_,q⟩;obtain⟨il,rfl⟩:=bL ea;rw[br] at eb;have eb:=(bL eb).2;simp only[Function.comp] at eb;subst eb;have gd:=dJ (p:=i) sdA ca ca;have al:=dw (aZ ns ms k) i;generalize atD (aZ ns ms k) (i:Int)=At at *;have ake:At[k]?=some (At.getD k 0):=by rw[aR,aB (show k<At.length by lia)];rfl
 have ab:=gd.2 k _ _ ake jk;unfold jM;refine⟨_,bg ca,s3 (λ lt=>?_) (λ lt=>?_)⟩
 ·rw[if_pos lt]
  have gn:bD ns At:=by
   have:=kP (ms:=ns) (w:=ns.getD k 0) (y:=At.getD k 0) gd ca jne nke ab.1 lt
   rwa [show At.set k (At.getD k 0)=At from by rw[aR,aB (show k<At.length by lia)];exact s0e _] at this
  exact cl rfl ⟨ns,cs,At,O,fc hs,ca,gn,csl,O,O⟩ rfl
 ·rw[if_neg lt];have gm:bD ms (At.set k (At.getD k 0-ns.getD k 0)):=kP gd ca (λ j hj=>by rw[<- (yX le).mp ee j hj];exact jne j hj) mke ca ca;exact⟨_,bg ca,cl rfl ⟨At,k,_,O,ca,ca,cl rfl ⟨ms,ds,_,O,fc hm,ca,gm,dsl,O,O⟩ rfl⟩ rfl⟩
def Pt:ZX 57 83 ["step","tab","form"] 3 2 BZ NL:=by
 refine⟨by kernel_rfl,?_⟩;rintro ts Q ⟨d,S,⟨A,C⟩,Ts,a,mo,rfl,ha,ea,gA,hmo,ok,fs,q⟩;refine⟨O,?_⟩;have gA1:aK mo A:=gA.1;have fA:=bU gA1 hmo;have sdA:=da fA;have smA:=kO fA;have a6:=fA.2.1;have a5:=fA.2.2.2;have sd:=da (bU fs hmo);have s6:=fs.2.1;have cl':(C.length:Int)=ae A:=gA.2.1;have cb:∀c∈C,inB c:=gA.2.2;have pA:=bS (cH gA1);have ea1:(Ts.map (·.1))[a]?=some A:=by rw[aQ,ea];rfl
 have eg:=aU ea
 cases d with
 |each w a=>
  cases ha;obtain⟨ea',hw⟩:=ok;cases ea'.symm.trans ea1;simp only[bB,eg] at q;exact⟨_,O,O,pv,_,O,cl rfl ⟨w,S,C,O,ca,hw,O,q⟩ rfl⟩
 |turn a os=>
  cases ha;obtain⟨A',ea',tk,rfl⟩:=ok;cases ea'.symm.trans ea1;simp only[bB,eg] at q;exact⟨_,O,O,pv,pv,_,O,cl rfl ⟨A,C,os,O,smA,ca,by rw[tk.length_eq,fg];lia,a5,cl',tk,O,q⟩ rfl⟩
 |flip a s=>
  cases ha;obtain⟨ea',no⟩:=ok;cases ea'.symm.trans ea1;simp only[bB,eg] at q;exact⟨_,O,O,pv,pv,pv,_,O,cl rfl ⟨S,C,s,O,smA,ca,a5,cl',no,O,q⟩ rfl⟩
 |cut a s f m g=>
  cases ha;obtain⟨A',ea',no,nb,m5,rfl⟩:=ok;cases ea'.symm.trans ea1;simp only[bB,eg] at q;exact⟨_,O,O,pv,pv,pv,pv,_,O,_,O,_,O,_,O,cl rfl ⟨A,C,s,f,m,g,O,smA,ca,a5,cl',by unfold bad at nb;lia,ca,no,nb,O,q⟩ rfl⟩
 |spread a s m=>
  cases ha;obtain⟨A',ea',no,nm,m5,nb,rfl⟩:=ok;cases ea'.symm.trans ea1;simp only[bB,eg] at q;exact⟨_,O,O,pv,pv,pv,pv,pv,_,O,_,O,cl rfl ⟨A,C,s,m,O,sdA,ca,cl',ca,no,nm,nb,O,q⟩ rfl⟩
 |lay a ms=>
  cases ha;obtain⟨A',ea',nb,e,rfl⟩:=ok;cases ea'.symm.trans ea1;simp only[bB,eg] at q;exact⟨_,O,O,pv,pv,pv,pv,pv,pv,_,O,cl rfl ⟨A,C,S,O,sdA,sd,ca,nb,e,O,q⟩ rfl⟩
 |fold w a s=>
  cases ha;obtain⟨A',ea',hw,no,rfl⟩:=ok;cases ea'.symm.trans ea1;simp only[bB,eg] at q;exact⟨_,O,O,pv,pv,pv,pv,pv,pv,pv,_,O,_,O,cl rfl ⟨w,A,C,s,O,smA,ca,a5,cl',cb,hw,no,O,q⟩ rfl⟩
 |run w a s=>
  cases ha;obtain⟨ea',hw,no⟩:=ok;cases ea'.symm.trans ea1;simp only[bB,eg] at q;exact⟨_,O,O,pv,pv,pv,pv,pv,pv,pv,_,O,_,O,cl rfl ⟨w,S,C,s,O,smA,ca,a5,cl',cb,hw,no,O,q⟩ rfl⟩
 |_=>cases ha
def Pu:ZX 58 84 ["step","tabs","form","used"] 4 2 Ca NM:=by
 refine⟨by kernel_rfl,?_⟩;rintro ts Q ⟨t,d,S,Ts,mo,rfl,ht,ni,gT',hmo,ok,fs,q⟩;refine⟨O,?_⟩;have sd:=da (bU fs hmo);have s6:=fs.2.1;subst ht
 cases d with
 |inp ms=>exact absurd rfl (ni ms)
 |num n=>
  obtain⟨rfl,_⟩:=ok;exact⟨_,O,O,cl rfl ⟨(Stp.num n),O,sl3 (dA rfl),O,pv,_,O,cl rfl ⟨n,O,O,q⟩ rfl⟩ rfl⟩
 |count ms k=>
  obtain⟨rfl,nb,no⟩:=ok;exact⟨_,O,O,cl rfl ⟨(Stp.count S k),O,sl3 (dA rfl),O,pv,pv,_,O,_,O,cl rfl ⟨S,k,O,sd,ca,nb,no,O,q⟩ rfl⟩ rfl⟩
 |pair w a b=>
  obtain⟨A,B,ea,eb,hw,po,rfl⟩:=ok;obtain⟨C,eA⟩:=bI ea;obtain⟨D,eB⟩:=bI eb;have gA:=gT' _ (aA eA);have gB:=gT' _ (aA eB);have fA:fit A:=bU gA.1 hmo;have fB:fit B:=bU gB.1 hmo;have a6:=fA.2.1;have b6:=fB.2.1;have a5:=fA.2.2.2;have b5:=fB.2.2.2;have pA:0<=ae A/\ae A<=ae (List.map ah A):=bS (cH gA.1);have pB:0<=ae B/\ae B<=ae (List.map ah B):=bS (cH gB.1);have e1:=aU eA;have e2:=aU eB;simp only[bB,e1,e2] at q;exact⟨_,O,O,cl rfl ⟨(Stp.pair w a b),O,sl3 (dA rfl),tbT (A,C),aF eA,O,tbT (B,D),aF eB,O,O,pv,pv,pv,_,O,_,O,_,O,cl rfl ⟨w,A,C,B,D,O,da fA,da fB,ca,ca,gA.2.1,gB.2.1,ca,ca,gA.2.2,gB.2.2,hw,po,O,q⟩ rfl⟩ rfl⟩
 |join a b s=>
  obtain⟨A,B,ea,eb,ll,no,ee,nb,rfl⟩:=ok;obtain⟨C,eA⟩:=bI ea;obtain⟨D,eB⟩:=bI eb;have gA:=gT' _ (aA eA);have gB:=gT' _ (aA eB);have fA:fit A:=bU gA.1 hmo;have fB:fit B:=bU gB.1 hmo;have a6:=fA.2.1;have b6:=fB.2.1;have a5:=fA.2.2.2;have b5:=fB.2.2.2;have pA:0<=ae A/\ae A<=ae (List.map ah A):=bS (cH gA.1);have pB:0<=ae B/\ae B<=ae (List.map ah B):=bS (cH gB.1);have e1:=aU eA;have e2:=aU eB;simp only[bB,e1,e2] at q;exact⟨_,O,O,cl rfl ⟨(Stp.join a b s),O,sl3 (dA rfl),tbT (A,C),aF eA,O,tbT (B,D),aF eB,O,O,pv,pv,pv,pv,pv,_,O,_,O,_,O,cl rfl ⟨A,C,B,D,s,O,kO fA,kO fB,ca,gA.2.1,gB.2.1,ll,no,ee,nb,O,q⟩ rfl⟩ rfl⟩
 |fetch a b=>
  obtain⟨n,r,B,ea,n0,eb,nb,rfl⟩:=ok;obtain⟨C,eA⟩:=bI ea;obtain⟨D,eB⟩:=bI eb;have gA:=gT' _ (aA eA);have gB:=gT' _ (aA eB);have fA:fit (n::r):=bU gA.1 hmo;have fB:fit B:=bU gB.1 hmo;have a6:=fA.2.1;have b6:=fB.2.1;have a5:=fA.2.2.2;have b5:=fB.2.2.2;have pA:0<=ae (n::r)/\ae (n::r)<=ae (List.map ah (n::r)):=bS (cH gA.1);have pB:0<=ae B/\ae B<=ae (List.map ah B):=bS (cH gB.1);have e1:=aU eA;have e2:=aU eB;simp only[bB,e1,e2] at q;rw[List.length_cons] at a6;exact⟨_,O,O,cl rfl ⟨(Stp.fetch a b),O,sl3 (dA rfl),tbT (n::r,C),aF eA,O,tbT (B,D),aF eB,O,O,pv,pv,pv,pv,pv,pv,_,O,_,O,cl rfl ⟨n,r,C,B,D,O,da fA,da fB,ca,ca,gA.2.1,gB.2.1,n0,nb,O,q⟩ rfl⟩ rfl⟩
 |pick a b c=>
  obtain⟨A,B,E,ea,eb,ec,p1,p2,rfl⟩:=ok;obtain⟨C,eA⟩:=bI ea;obtain⟨D,eB⟩:=bI eb;have gA:=gT' _ (aA eA);have gB:=gT' _ (aA eB);have fA:fit A:=bU gA.1 hmo;have fB:fit B:=bU gB.1 hmo;have a6:=fA.2.1;have b6:=fB.2.1;have a5:=fA.2.2.2;have b5:=fB.2.2.2;have pA:0<=ae A/\ae A<=ae (List.map ah A):=bS (cH gA.1);have pB:0<=ae B/\ae B<=ae (List.map ah B):=bS (cH gB.1);have e1:=aU eA;have e2:=aU eB;obtain⟨G,eE⟩:=bI ec;have gE:=gT' _ (aA eE);have fE:fit E:=bU gE.1 hmo;have c6:=fE.2.1;have c5:=fE.2.2.2;have pE:0<=ae E/\ae E<=ae (List.map ah E):=bS (cH gE.1);have e3:=aU eE;simp only[bB,e1,e2,e3] at q;exact⟨_,O,O,cl rfl ⟨(Stp.pick a b c),O,sl3 (dA rfl),tbT (A,C),aF eA,O,tbT (B,D),aF eB,O,tbT (E,G),aF eE,O,O,pv,pv,pv,pv,_,O,_,O,_,O,cl rfl ⟨A,C,B,D,E,G,O,da fA,da fB,da fE,ca,ca,ca,gA.2.1,gB.2.1,gE.2.1,ca,ca,ca,p1,p2,O,q⟩ rfl⟩ rfl⟩
 |_=>first|(obtain⟨A,ea,_⟩:=id ok;obtain⟨C,eT⟩:=bI ea;exact⟨_,rfl,rfl,cl rfl ⟨_,rfl,sl3 (dA rfl),tbT (A,C),aF eT,rfl,rfl,trivial,trivial,trivial,trivial,trivial,trivial,_,rfl,cl rfl ⟨_,S,(A,C),Ts,_,mo,rfl,rfl,eT,gT' _ (aA eT),hmo,ok,fs,rfl,q⟩ rfl⟩ rfl⟩)|(obtain⟨C,eT⟩:=bI ok.1;exact⟨_,rfl,rfl,cl rfl ⟨_,rfl,sl3 (dA rfl),tbT (S,C),aF eT,rfl,rfl,trivial,trivial,trivial,trivial,trivial,trivial,_,rfl,cl rfl ⟨_,S,(S,C),Ts,_,mo,rfl,rfl,eT,gT' _ (aA eT),hmo,ok,fs,rfl,q⟩ rfl⟩ rfl⟩)
def Pv:ZX 59 85 ["program","inputs","sides","asked"] 4 2 Cb NN:=by
 refine⟨by kernel_rfl,?_⟩;rintro ts Q ⟨ds,Ss,os,mo,Is,rfl,gd,eI,q⟩;refine⟨O,?_⟩;have d40:=gd.2.2.2.1;have gl:=gd.2.1;have il40:=AH ds;have iL:Is.length=(bj ds).length:=by rw[<- eI,ao]
 have ez:=AN gl.1 λ i ms S e1 e2=>(gl.2.2 i _ S e1 e2).1;have e1:(Is.map λ T:Tb=>tI T.1)=(bj ds).map tI:=by rw[<- eI,br];rfl
 refine cl rfl ⟨ds,Ss,os,mo,O,gd,O,_,O,by rw[kh,ao,ao];exact aP ca,jO _ (λ p=>tI p.2) (λ p=>decide (kdN p.1=0)) (ds.zip Ss) (AM stT tI ds Ss) (λ p hp=>?_) ?_⟩ rfl
 ·obtain⟨d,S⟩:=p;cases d<;>exact⟨_,rfl,trivial,rfl,λ _=>⟨rfl,rfl⟩⟩
 ·rw[ez];refine⟨O,by rw[ao];exact aP ca,dL tbT (λ T:Tb=>tI T.1) Is (λ T hT=>⟨_,O,O,O⟩) ?_⟩;rw[e1];exact⟨dpS _,sF (by rw[show _L.eqT (TV.own ((bj ds).map tI)).fz (TV.bor ((bj ds).map tI)).fz=true from _L.eqT_self (dpS _)];rfl) ⟨O,q⟩⟩
def Pw:ZX 60 86 ["program","inputs","waiting","tabs","step"] 5 2 Cc NO:=by
 refine⟨by kernel_rfl,?_⟩;rintro ts Q ⟨ds,Ss,os,mo,Is,rfl,gd,eI,gI,q⟩;refine⟨O,?_⟩;have d40:=gd.2.2.2.1;have gl:=gd.2.1;have hmo:=gd.1;refine cl rfl ⟨ds,Ss,os,mo,Is,O,gd,eI,O,O,g0L,O,_,O,O,?_⟩ rfl;refine bO (λ i ρ=>∃y,i<=ds.length/\ρ=[some (.tup [.tup (ds.map stT),tI os]),some (.tup (Is.map tbT)),some (.own ((Is.drop (bj (ds.take i)).length).map tbT)),some (.own ((bp ds Ss Is i).map tbT)),y]) ⟨_,bW _,O⟩ (λ i t ρ ht h=>?_) (λ ρ h=>?_)
 ·obtain⟨y,hi,rfl⟩:=h;obtain⟨d,rfl,ed⟩:=qX ht;have idl:=(bf.mp ed).1;have il:i<Ss.length:=by rw[<- gl.1];exact idl
  have eS:=aB il;generalize Ss[i]=S at eS;have ok:=gl.2.2 i d S ed eS;have fs:=gl.2.1 S (aA eS);obtain⟨g1,g2⟩:=uW hmo gl eI gI i (dN idl);have tl:=iU ds Ss Is i;have sz:((bp ds Ss Is i).map tbT).length<sizeLine:=by rw[ao,tl];exact aP ca
  rcases AS d with ⟨ms,rfl⟩|ni
  ·have a:=uV ed;rw[<- eI,aQ] at a;obtain⟨T,eT,rfl⟩:=mM.mp a
   have dj:Is.drop (bj (ds.take i)).length=T::Is.drop (bj (ds.take (i+1))).length:=by
    rw[kS ed,aN];obtain⟨jl,je⟩:=bf.mp eT;rw[lU jl,je];rfl
   rw[dj];exact⟨_,O,pv,⟨fu,fu⟩,0,tbT T,Mc,O,sz,some (stT (.inp T.1)),idl,by rw[uT ed eT,bK];rfl⟩
  ·have e2:bj (ds.take (i+1))=bj (ds.take i):=by rw[kS ed,uS (λ z=>by obtain⟨ms,e⟩:=oE z;exact ni ms e)];simp
   have fin:((bp ds Ss Is i).map tbT).length<sizeLine/\∃y,i+1<=ds.length/\[some (TV.tup [.tup (ds.map stT),tI os]),some (.tup (Is.map tbT)),some (.own ((Is.drop (bj (ds.take i)).length).map tbT)),some (.own ((bp ds Ss Is i).map tbT++[.tup [tI S,tI (bB (bp ds Ss Is i) d)]])),some (stT d)]=[some (.tup [.tup (ds.map stT),tI os]),some (.tup (Is.map tbT)),some (.own ((Is.drop (bj (ds.take (i+1))).length).map tbT)),some (.own ((bp ds Ss Is (i+1)).map tbT)),y]:=⟨sz,some (stT d),idl,by rw[uU ed ni eS,bK,e2];rfl⟩;have okk:OkS ((bp ds Ss Is i).map (·.1)) S d:=by rw[g1];exact ok
   cases d<;>first|exact absurd rfl (ni _)|exact⟨_,rfl,trivial,clB rfl ⟨_,_,S,bp ds Ss Is i,mo,rfl,rfl,ni,g2,hmo,okk,fs,Ma _ _,rfl,fin⟩⟩
 ·obtain⟨y,hi,rfl⟩:=h;rw[ao];exact⟨O,q⟩
def Px:ZX 61 88 ["found"] 1 1 Ce NP:=by
 refine⟨by kernel_rfl,?_⟩;rintro ts Q ⟨n,rfl,q⟩;refine⟨O,?_⟩;exact⟨O,q⟩
def Py:ZX 62 89 ["script","k"] 2 2 Cf NQ:=by
 refine⟨by kernel_rfl,?_⟩;rintro ts Q ⟨ns,k,rfl,q⟩;refine⟨O,?_⟩;refine s2 (λ h=>?_) (λ h=>⟨O,?_⟩)
 ·have h:(k:Int)<((ns.map TV.int).length:Nat):=aC h;rw[ag] at h;exact⟨_,bg ca,O,q⟩
 ·have h:¬(k:Int)<((ns.map TV.int).length:Nat):=jN h;rw[ag] at h;rw[show kF ns k=0 by unfold kF;rw[aR,gu ca];rfl] at q;exact q
def Pz:ZX 63 90 ["found","due","k"] 3 2 Cg NR:=by
 refine⟨by kernel_rfl,?_⟩;rintro ts Q ⟨t,ns,rfl,ht,l,q⟩;refine⟨O,?_⟩
 rcases ht with rfl|rfl
 ·refine⟨pv,sF (neF rfl) ⟨O,⟨by rw[ag];lia,by rw[ag];lia⟩,bO (λ i ρ=>∃y,ρ=[some (tI ns),some (tI ns),y]) ⟨_,O⟩ (λ i u ρ hu ⟨y,e⟩=>?_) (λ ρ ⟨y,e⟩=>?_)⟩⟩
  ·subst e;obtain⟨il,rfl⟩:=bL hu;rw[ag] at il;exact⟨_,bg ca,cl rfl ⟨_,O,_,bg ca,_,bg ca,pv,sF (neF rfl) ⟨_,O⟩⟩ rfl⟩
  ·subst e;exact⟨O,q⟩
 ·refine⟨pv,sF (neF rfl) ⟨O,⟨by rw[ag];lia,by rw[ag];lia⟩,bO (λ i ρ=>∃y,ρ=[some (tI ns),some (lI ns),y]) ⟨_,O⟩ (λ i u ρ hu ⟨y,e⟩=>?_) (λ ρ ⟨y,e⟩=>?_)⟩⟩
  ·subst e;obtain⟨il,rfl⟩:=bL hu;rw[ag] at il;exact⟨_,bg ca,cl rfl ⟨_,O,_,bg ca,_,bg ca,pv,sF (neF rfl) ⟨_,O⟩⟩ rfl⟩
  ·subst e;exact⟨O,q⟩
def PB:ZX 64 91 ["sides","size","length"] 3 1 Ch NS:=by
 refine⟨by kernel_rfl,?_⟩;rintro ts Q ⟨t,ns,rfl,ht,sd,q⟩;refine⟨O,?_⟩
 rcases ht with rfl|rfl
 ·refine⟨O,O,bO (λ i ρ=>∃y,ρ=[some (tI ns),some (.int (ae (ns.take i))),y]) ⟨_,O⟩ (λ i u ρ hu ⟨y,e⟩=>?_) (λ ρ ⟨y,e⟩=>?_)⟩
  ·subst e;obtain⟨n,rfl,hn⟩:=iV hu;have b:=sd n (aA hn);exact⟨eK ca ca,O,some (.int n),by rw[kD hn];rfl⟩
  ·subst e;rw[ag,cy];exact⟨O,q⟩
 ·refine⟨O,O,bO (λ i ρ=>∃y,ρ=[some (lI ns),some (.int (ae (ns.take i))),y]) ⟨_,O⟩ (λ i u ρ hu ⟨y,e⟩=>?_) (λ ρ ⟨y,e⟩=>?_)⟩
  ·subst e;obtain⟨n,rfl,hn⟩:=iV hu;have b:=sd n (aA hn);exact⟨eK ca ca,O,some (.int n),by rw[kD hn];rfl⟩
  ·subst e;rw[ag,cy];exact⟨O,q⟩
def PD:ZX 65 92 ["sides"] 1 1 Ci NT:=by
 refine⟨by kernel_rfl,?_⟩;rintro ts Q ⟨ns,rfl,sd,l,q⟩;refine⟨O,?_⟩;refine⟨by rw[ag];exact aP ca,dL .int (λ n=>.int (ah n)) ns (λ n hn=>⟨O,?_⟩) (cl rfl ⟨_,ns.map ah,O,.inr (by unfold lI;rw[br];rfl),yK sd,O,q⟩ rfl)⟩;rw[<- uG (sd n hn).1];rfl
def PF:ZX 66 93 ["n"] 1 1 Cj NU:=by
 refine⟨by kernel_rfl,?_⟩;rintro ts Q ⟨n,rfl,q⟩;refine⟨O,?_⟩;have m17:aH n 17=n%17:=if_pos fu;unfold mH at q;refine⟨fu,pv,sN (λ h=>?_) (λ h=>?_)⟩
 ·rw[m17] at h;rw[if_pos h] at q;have e:aH (aM n 17) 4=n/17%4:=by rw[show aM n 17=n/17 from if_pos fu];exact if_pos fu
  exact⟨p63,p63,p62,O,g4L,⟨fu,fu,fu⟩,fu,.int _,(by rw[e];exact LR ca ca),O,q⟩
 ·rw[m17] at h;rw[if_neg h] at q;exact⟨p63,p64,fu,p63,O,q⟩
def PH:ZX 67 94 ["pool","d"] 2 2 Ck NV:=by
 refine⟨by kernel_rfl,?_⟩;rintro ts Q ⟨ks,d,rfl,l,l2,q⟩;refine⟨O,?_⟩;have in1:∀i:Int,0<=i->i<ks.length->Q (.int (ks.getD i.toNat 0)):=λ i h0 h1=>q _ (getD_mem ca);have d3:aM d 3=d/3:=if_pos fu;refine⟨fu,pv,sN (λ h=>?_) (λ h=>?_)⟩
 ·have m1:aH (aM d 3) (((ks.map TV.int).length:Nat):Int)=d/3%(ks.length:Int):=by rw[ag,d3];exact if_pos ca
  have a0:=du (d/3) (show(ks.length:Int)≠0 by lia);have a1:=dH (d/3) (show(0:Int)<ks.length by lia);exact⟨⟨fu,fu,fu⟩,by rw[ag];lia,.int (ks.getD (d/3%(ks.length:Int)).toNat 0),by rw[m1];exact oH a0 a1,O,in1 _ a0 a1⟩
 ·have m1:aH (aM d 3) (if (((ks.map TV.int).length:Nat):Int)<3 then (((ks.map TV.int).length:Nat):Int) else 3)=d/3%(if (ks.length:Int)<3 then (ks.length:Int) else 3):=by rw[ag,d3];exact if_pos (by split<;>lia)
  have a0:=du (d/3) (show(if (ks.length:Int)<3 then (ks.length:Int) else 3)≠0 by split<;>lia);have a1:=dH (d/3) (show(0:Int)<(if (ks.length:Int)<3 then (ks.length:Int) else 3) by split<;>lia);have a2:(if (ks.length:Int)<3 then (ks.length:Int) else 3)<=ks.length:=by split<;>lia
  exact⟨⟨fu,fu,fu⟩,by rw[ag];split<;>lia,.int (ks.getD ((ks.length:Int)-1-d/3%(if (ks.length:Int)<3 then (ks.length:Int) else 3)).toNat 0),by rw[m1,ag];exact oH ca ca,O,in1 _ ca ca⟩
def PJ:ZX 68 95 ["kind","n","cell","most","made","part","k","free","length"] 9 4 Cm NW:=by
 refine⟨by kernel_rfl,?_⟩;rintro ts Q ⟨kd,n,cell,mo,rfl,hmo,q⟩;refine⟨O,?_⟩;have m2:=hmo.1;have m3:=hmo.2;refine⟨pv,sN (λ c=>cl rfl ⟨cell,O,O,g2L,O,g0L,O,g2L,O,q (.num (mH cell)) [] (λ _=>⟨O,zJ cell⟩) (qO hmo)⟩ rfl) (λ c=>?_)⟩;have b5:0<=aH (aM n 15) 5/\aH (aM n 15) 5<5:=by rw[cr fu];lia
 refine⟨O,g0L,O,⟨fu,fu,fu⟩,O,fu,O,⟨ca,ca⟩,?_⟩;refine bO (λ i ρ=>∃(ms:LI) (pt:Int) (y6 y7 y8:Option TV),aK mo ms/\ms.length=i/\ρ=[some (.int kd),some (.int n),some (.int cell),some (.int mo),some (tI ms),some (.int pt),y6,y7,y8]) ⟨[],_,_,_,_,qO hmo,O,O⟩ (λ i t ρ ht h=>?_) (λ ρ h=>?_)
 ·obtain⟨ms,pt,y6,y7,y8,hf,ml,rfl⟩:=h;obtain⟨il,rfl⟩:=bL ht;have sdm:aD ms:=λ n hn=>by have:=hf.1 n hn;exact⟨ca,ca⟩
  have pb:=hf.2.2;have d1:1<=mo/ae (ms.map ah):=div_one pb.1 pb.2;have dv:aM mo (ae (ms.map ah))=mo/ae (ms.map ah):=qZ ca;have fs:=λ n=>uI (n:=n) hf ca;obtain⟨x,hx,x0⟩:=LX (aH (aM pt 5) 7) (by rw[cr fu];lia) (by rw[cr fu];lia);refine⟨⟨fu,fu,fu⟩,O,cl rfl ⟨ms,O,sdm,ca,⟨ca,ca,ca⟩,O,O,g7L,fu,.int x,hx,O,?_⟩ rfl⟩;rw[dv];generalize mo/ae (ms.map ah)=fr at *
  have fin:∀x:Int,0<=x->x<=fr->(ms.map TV.int).length + [TV.int x].length<=sizeLine/\(TV.tup (ms.map TV.int++[TV.int x])).nb=true/\∃(ms':LI) (pt':Int) (y6 y7 y8:Option TV),aK mo ms'/\ms'.length=i+1/\[some (TV.int kd),some (.int n),some (.int cell),some (.int mo),some (TV.tup (ms.map TV.int++[TV.int x])),some (.int (aM pt 5)),some (.int (i:Nat)),some (.int fr),some (.int x)]=[some (.int kd),some (.int n),some (.int cell),some (.int mo),some (tI ms'),some (.int pt'),y6,y7,y8]:=λ x x0 x1=>
   ⟨bu (show(ms.map TV.int).length+1<=1000 by rw[ag];lia),rfl,ms++[x],_,_,_,_,fs x x0 x1,by rw[aN,ml];rfl,by unfold tI;rw[bK];rfl⟩
  exact⟨fu,pv,sN (λ _=>⟨O,O,g1L,fin fr ca (jm _)⟩) (λ _=>⟨O,g1L,fin _ (by split<;>lia) (by split<;>lia)⟩)⟩
 ·obtain⟨ms,pt,y6,y7,y8,hf,ml,rfl⟩:=h;refine⟨pv,sN (λ _=>⟨O,g2L,O,g2L,O,q (.inp ms) ms (λ _=>⟨O,qN (bU hf hmo)⟩) hf⟩) (λ _=>⟨O,g0L,dpT ms,?_⟩)⟩
  have fin:∀ns:LI,aK mo ns->0<ns.length->((15:Int)≠0/\-18446744073709551616<(15:Int)/\(15:Int)<1606938044258990275541962092341162602522202993782792835301376)/\(((ns.map TV.int).length:Nat):Int)≠0/\[TV.str "count",tI ns,TV.int (aH (aM n 15) ((ns.map TV.int).length:Nat))].all TV.nb=true/\3<=sizeLine/\[TV.tup [TV.str "count",tI ns,TV.int (aH (aM n 15) ((ns.map TV.int).length:Nat))],tI ns].all TV.nb=true/\2<=sizeLine/\true=true/\Q (.tup [TV.tup [TV.str "count",tI ns,TV.int (aH (aM n 15) ((ns.map TV.int).length:Nat))],tI ns]):=λ ns hf l0=>by
   refine⟨⟨fu,fu,fu⟩,by rw[ag];lia,O,g3L,O,g2L,O,?_⟩;rw[ag,cr ca];have f0:=du (aM n 15) (show(ns.length:Int)≠0 by lia);have f1:=dH (aM n 15) (show(0:Int)<ns.length by lia);exact q (.count ns (aM n 15%ns.length)) ns (λ _=>⟨O,qN (bU hf hmo),λ z=>by unfold off at z;lia⟩) hf
  by_cases c0:ms=[]
  ·have x0:0<=(if mo<3 then mo else 3)/\(if mo<3 then mo else 3)<=mo:=by split<;>lia
   exact sT ((mO ms).trans (cY c0)) ⟨O,g1L,O,fin [if mo<3 then mo else 3] (uI (ns:=[]) (qO hmo) fu x0.1 (by show _<=mo/1;rw[s1o];exact x0.2)) (lQ _)⟩
  ·exact sF ((mO ms).trans (bq c0)) (fin ms hf (lR.mpr c0))
def PL:ZX 69 96 ["one","other","least"] 3 2 Cn NX:=by
 refine⟨by kernel_rfl,?_⟩;rintro ts Q ⟨ns,ms,rfl,q⟩;refine⟨O,?_⟩;have hm:(if (((ms.map TV.int).length:Nat):Int)<(((ns.map TV.int).length:Nat):Int) then (((ms.map TV.int).length:Nat):Int) else (((ns.map TV.int).length:Nat):Int))=((if ms.length<ns.length then ms.length else ns.length:Nat):Int):=by rw[ag,ag];split<;>split<;>lia
 refine⟨O,?_⟩;rw[hm];generalize hL:(if ms.length<ns.length then ms.length else ns.length)=L;have e1:=dR ns L;have e2:=dR ms L;refine⟨by show _L.dp 9 (TV.tup (ai (ns.map TV.int) none (some (L:Int))));rw[e1];exact dpT _,O,?_⟩;show Q (.bl (_L.eqT (TV.tup (ai (ns.map TV.int) none (some (L:Int)))) (TV.tup (ai (ms.map TV.int) none (some (L:Int))))));rw[e1,e2,oG];refine q _ ?_;rw[gG];unfold bZ;subst hL;by_cases c:ms.length<ns.length
 ·rw[if_pos c,if_pos c,cy]
 ·rw[if_neg c,if_neg c,cy];exact eq_comm
def PP:ZX 70 97 ["kind","d","sides","every","a","fit","b","longer","words","c"] 10 3 Co NY:=by
 refine⟨by kernel_rfl,?_⟩;rintro ts Q ⟨kd,d0,d1,d2,mo,Ss,rfl,n0,n4,hS,q⟩;refine⟨O,?_⟩;refine⟨⟨ca,by rw[ao];lia⟩,O,?_⟩;rw[ao,re];refine⟨_,O,clB rfl ⟨upL Ss.length,d0,O,by rw[fg];exact n0,by rw[fg];lia,λ k hk=>?_⟩⟩;obtain⟨a,rfl,al⟩:=gJ hk;have eA:=fY al;generalize Ss.getD a []=A at eA;have fA:=hS _ (aA eA);obtain⟨w4,hw4,wm4⟩:=vc jE (k:=aH d2 4) (by rw[cr fu];lia) (by rw[cr fu];show d2%4<((4:Nat):Int);lia);refine⟨by simp[LF],O,pv,sN (λ _=>⟨O,g4L,_,O,fu,.str w4,hw4,O,g3L,tI A,aF eA,O,g2L,O,q (.each w4 a) A ⟨eA,wm4⟩ fA⟩) (λ _=>?_)⟩;refine⟨by rw[ag,fg];exact aP ca,jO TV.int TV.int (pB Ss A) (upL Ss.length) rfl (λ k hk=>?_) ?_⟩
 ·obtain⟨j,rfl,jl⟩:=gJ hk;exact⟨tI A,aF eA,tI (Ss.getD j []),aF (fY jl),cl rfl ⟨A,Ss.getD j [],O,λ b hb=>⟨by rw[AO hb (rf (k:=(j:Int)))],λ _=>⟨O,O⟩⟩⟩ rfl⟩
 generalize hks:(upL Ss.length).filter (pB Ss A)=ks;have km:∀k,k∈ks ↔ k∈upL Ss.length/\bZ A (Ss.getD k.toNat []):=λ k=>by rw[<- hks,iX,rf]
 have kl:ks.length<=40:=by rw[<- hks];exact dg (oN _ _) (by rw[fg];exact n4)
 have kpos:0<ks.length:=vg ((km a).mpr ⟨Aj al,by rw[Int.toNat_natCast,aR,eA];exact Af A⟩);refine⟨O,_,O,clB rfl ⟨ks,d1,O,kpos,ca,λ k hk=>?_⟩⟩;obtain⟨ku,pB'⟩:=(km k).mp hk;obtain⟨b,rfl,bl⟩:=gJ ku;have eB:=fY bl;rw[Int.toNat_natCast] at pB';generalize Ss.getD b []=B at eB pB';have fB:=hS _ (aA eB);have fL:aK mo (au A B):=Ai fA fB;obtain⟨w,hw,wm⟩:=vc fU (k:=aH d2 12) (by rw[cr fu];lia) (by rw[cr fu];show d2%12<((12:Nat):Int);lia);refine⟨by simp[LF],O,tI A,aF eA,tI B,aF eB,O,?_⟩;rw[mxT pB'];refine⟨pv,sN (λ _=>⟨O,LS,O,_,O,fu,.str w,hw,O,g4L,O,g2L,O,q (.pair w a b) (au A B) ⟨A,B,eA,eB,wm,pB',O⟩ fL⟩) (λ _=>?_)⟩;refine⟨by rw[ag];exact aP ca,jO TV.int TV.int (pB Ss B) ks rfl (λ k hk=>?_) ?_⟩
 ·obtain⟨j,rfl,jl⟩:=gJ ((km k).mp hk).1;exact⟨tI B,aF eB,tI (Ss.getD j []),aF (fY jl),cl rfl ⟨B,Ss.getD j [],O,λ b hb=>⟨by rw[AO hb (rf (k:=(j:Int)))],λ _=>⟨O,O⟩⟩⟩ rfl⟩
 generalize hls:ks.filter (pB Ss B)=ls;have lm:∀k,k∈ls ↔ k∈ks/\bZ B (Ss.getD k.toNat []):=λ k=>by rw[<- hls,iX,rf]
 have ll:ls.length<=40:=by rw[<- hls];exact dg (oN _ _) kl
 have lpos:0<ls.length:=vg ((lm b).mpr ⟨hk,by rw[Int.toNat_natCast,aR,eB];exact Af B⟩);refine⟨O,_,O,clB rfl ⟨ls,d2,O,lpos,ca,λ k hk2=>?_⟩⟩;obtain⟨kk,pC⟩:=(lm k).mp hk2;obtain⟨ku2,pAC⟩:=(km k).mp kk;obtain⟨c,rfl,cl'⟩:=gJ ku2;have eC:=fY cl';rw[Int.toNat_natCast] at pC pAC;generalize Ss.getD c []=C at eC pC pAC;have fC:=hS _ (aA eC)
 have pLC:bZ (au A B) C:=by
  by_cases z:A.length<B.length
  ·rw[Ah z];exact pC
  ·rw[Ag pB' ca];exact pAC
 have z:Q (.tup [stT (.pick a b c),TV.tup (if ((au A B).map TV.int).length<(C.map TV.int).length then C.map TV.int else (au A B).map TV.int)]):=by rw[mxT pLC];exact q (.pick a b c) (au (au A B) C) ⟨A,B,C,eA,eB,eC,pB',pLC,rfl⟩ (Ai fL fC)
 exact⟨by simp[LF],O,O,g4L,tI C,aF eC,O,g2L,O,z⟩
def PQ:ZX 71 98 ["own","d","size"] 3 2 Cp NZ:=by
 refine⟨by kernel_rfl,?_⟩;rintro ts Q ⟨ns,d,mo,rfl,ft,mk,q⟩;refine⟨O,?_⟩;have fA:=bU ft mk;have sd:=da fA;have l6:=fA.2.1;have m4:aH d 4=d%4:=if_pos fu;unfold kN at q;refine cl rfl ⟨_,ns,O,.inl rfl,sd,O,fu,pv,sN (λ h=>?_) (λ h=>⟨fu,pv,?_⟩)⟩ rfl
 ·rw[m4] at h;rw[if_pos h] at q;exact⟨O,g1L,O,q⟩
 rw[m4] at h;rw[if_neg h] at q;have v2:aM (ae ns) 2=ae ns/2:=if_pos fu;have w2:aH (ae ns) 2=ae ns%2:=if_pos fu;have rv:Q (tI ns.reverse)->Q (TV.tup (ns.map TV.int).reverse):=λ q=>by rw[<- oq];exact q
 refine sN (λ h2=>?_) (λ h2=>?_)
 ·rw[m4] at h2;refine s2 (λ h3=>?_) (λ h3=>?_)
  ·have h3:(((ns.map TV.int).length:Nat):Int)<6:=aC h3;rw[ag] at h3;rw[if_pos ⟨h2,ca⟩] at q;exact⟨O,g1L,bu (show 1+(ns.map TV.int).length<=1000 by rw[ag];lia),O,q⟩
  ·have h3:¬(((ns.map TV.int).length:Nat):Int)<6:=jN h3;rw[ag] at h3;rw[if_neg ca,if_neg ca] at q;exact⟨fu,pv,sN (λ h4=>by rw[m4] at h4;lia) (λ h4=>⟨O,rv q⟩)⟩
 ·rw[m4] at h2;rw[if_neg (λ z=>h2 z.1)] at q;refine⟨fu,pv,sN (λ h4=>⟨fu,pv,sN (λ h5=>?_) (λ h5=>⟨O,rv ?_⟩)⟩) (λ h4=>⟨O,rv ?_⟩)⟩
  ·rw[m4] at h4;rw[w2] at h5;rw[if_pos ⟨h4,h5⟩,<- v2] at q;exact⟨⟨fu,fu,fu⟩,O,g2L,O,q⟩
  ·rw[w2] at h5
   rwa [if_neg (λ z=>h5 z.2)] at q
  ·rw[m4] at h4
   rwa [if_neg (λ z=>h4 z.1)] at q
def PR:ZX 72 99 ["kind","d","a","own","most","order","part","k","place","length","side","gap","first","many"] 14 5 Cq Oa:=by
 refine⟨by kernel_rfl,?_⟩;rintro ts Q ⟨kd,d0,d1,d2,mo,a,A,Ss,rfl,ea,hf,hmo,q⟩;refine⟨O,?_⟩;have a6:=hf.2.1;have sd:=eJ hf hmo;have m1:=hmo.1;have m2:=hmo.2;have pb:=hf.2.2;refine⟨pv,sN (λ _=>?_) (λ _=>?_)⟩
 ·refine⟨O,g0L,O,_,O,O,O,⟨ca,by rw[ag];lia⟩,?_⟩;refine bO (λ i ρ=>∃(os:LI) (n:Int) (y:Option TV),os.Perm (upL i)/\ρ=[some (.int kd),some (lI [d0,d1,d2]),some (.int a),some (tI A),some (.int mo),some (.own (os.map .int)),some (.int n),y,none,none,none,none,none,none]) ⟨[],_,_,List.Perm.refl _,O⟩ (λ i t ρ ht h=>?_) (λ ρ h=>?_)
  ·obtain⟨os,n,y,pm,rfl⟩:=h;obtain⟨il,rfl⟩:=bL ht;rw[ag] at il;have ol:os.length=i:=by rw[pm.length_eq,fg]
   have mp:aH n ((i:Int)+1)=n%((i:Int)+1):=cr ca;have f0:=du n (show(i:Int)+1≠0 by lia);have f1:=dH n (show(0:Int)<(i:Int)+1 by lia);refine⟨show(i:Int)+1≠0 by lia,O,⟨by rw[mp];exact f0,by rw[mp,ag,ol];lia⟩,by rw[ag];exact aP ca,⟨show(i:Int)+1≠0 by lia,show -18446744073709551616<(i:Int)+1 by lia,show(i:Int)+1<_ by lia⟩,O,os.take (aH n ((i:Int)+1)).toNat++(i:Int)::os.drop (aH n ((i:Int)+1)).toNat,aM n ((i:Int)+1),some (.int (i:Nat)),KP pm,by rw[bK,aX,List.map_take,List.map_drop];rfl⟩
  ·obtain⟨os,n,y,pm,rfl⟩:=h;rw[ao,bQ,ag,Int.toNat_natCast] at pm;have ol:os.length=A.length:=by rw[pm.length_eq,fg]
   have om:∀z∈os,0<=z/\z<(A.length:Int):=λ z hz=>up_mem.mp (pm.subset hz);refine⟨O,g3L,by rw[ag];exact aP ca,dL .int (λ z:Int=>.int (A.getD z.toNat 0)) os (λ z hz=>⟨_,oH (om z hz).1 (om z hz).2,O,O⟩) ⟨O,g2L,O,?_⟩⟩;have z:=q (.turn a os) (bT A os) ⟨A,ea,pm,rfl⟩ (KQ hf pm);unfold mdT stT stI tI bT at z;rw[br] at z;exact z
 have lo:=KN (d:=d2) hf hmo;refine⟨pv,sN (λ _=>⟨_,O,cl rfl ⟨A,d2,mo,O,hf,hmo,O,g3L,_,O,cl rfl ⟨A,d2,mo,O,hf,hmo,O,g2L,O,q (.lay a (kN A d2)) (kN A d2) ⟨A,ea,qN (bU lo.1 hmo),lo.2.symm,O⟩ lo.1⟩ rfl⟩ rfl⟩) (λ _=>?_)⟩;refine⟨O,g0L,dpT A,or3 (λ sp=>?_) (λ ne=>?_)⟩
 ·have l6:A.length<6:=by
   rcases sp with z|⟨_,z⟩
   ·have z:=aC ((mO A).symm.trans z);rw[z];decide
   ·have z:(((A.map TV.int).length:Nat):Int)<6:=aC z;rw[ag] at z;lia
  have mp:aH d1 ((((A.map TV.int).length:Nat):Int)+1)=d1%((A.length:Int)+1):=by rw[ag];exact cr ca
  have f0:=du d1 (show(A.length:Int)+1≠0 by lia);have f1:=dH d1 (show(0:Int)<(A.length:Int)+1 by lia);obtain⟨k,hk⟩:∃k:Nat,d1%((A.length:Int)+1)=k:=⟨_,(iJ f0).symm⟩;rw[hk] at f1 mp;refine⟨_,O,show(((A.map TV.int).length:Nat):Int)+1≠0 by rw[ag];lia,O,?_⟩;rw[mp];have dv:=div_one pb.1 pb.2;have de:aM mo (ae (A.map ah))=mo/ae (A.map ah):=qZ ca;refine⟨_,O,cl rfl ⟨A,O,sd,ca,⟨ca,ca,ca⟩,?_⟩ rfl⟩;rw[de];have fi:=λ x=>KS (x:=x) (k:=k) hf l6;have fm:mo/ae (A.map ah)<=mo:=uJ _ ca;generalize mo/ae (A.map ah)=fr at *;have c4:0<(if fr<4 then fr else 4)/\(if fr<4 then fr else 4)<=fr:=by split<;>lia
  have me:aH d2 (if fr<4 then fr else 4)=d2%(if fr<4 then fr else 4):=cr c4.1;have g0:=du d2 (show(if fr<4 then fr else 4)≠0 by lia);have g1:=dH d2 c4.1
  have fin:∀x:Int,0<=x->x<=fr->Q (.tup [.tup [.str "spread",.int a,.int k,.int x],.tup ((ai (A.map TV.int) none (some (k:Int))++[TV.int x])++ai (A.map TV.int) (some (k:Int)) none)]):=λ x x0 x1=>by
   rw[AQ];exact q (.spread a k x) (aY A k x) ⟨A,ea,by unfold jG;lia,ca,ca,qN (bU (fi x x0 x1) hmo),O⟩ (fi x x0 x1)
  have la:=db (a:=none) (b:=some (k:Int)) a6;have lb:=db (a:=some (k:Int)) (b:=none) a6;have l2:∀x,(ai (A.map TV.int) none (some (k:Int))++[TV.int x]).length+(ai (A.map TV.int) (some (k:Int)) none).length<=sizeLine:=λ x=>bu (by rw[aN,dO];lia);have l1:(ai (A.map TV.int) none (some (k:Int))).length+1<=sizeLine:=bu ca;exact⟨show(if fr<4 then fr else 4)≠0 by lia,O,_,O,fu,pv,sN (λ _=>⟨O,O,g4L,O,g1L,l1,l2 _,O,g2L,O,fin 0 ca ca⟩) (λ _=>⟨O,g4L,O,g1L,l1,l2 _,O,g2L,O,fin _ (by rw[me];lia) (by rw[me];lia)⟩)⟩
 ·have A0:0<A.length:=lR.mpr (jN ((mO A).symm.trans ne));have mp:aH d1 (((A.map TV.int).length:Nat):Int)=d1%(A.length:Int):=by rw[ag];exact cr ca
  have f0:=du d1 (show(A.length:Int)≠0 by lia);have f1:=dH d1 (show(0:Int)<(A.length:Int) by lia);obtain⟨k,hk⟩:∃k:Nat,d1%(A.length:Int)=k:=⟨_,(iJ f0).symm⟩;rw[hk] at f1 mp;refine⟨_,O,show(((A.map TV.int).length:Nat):Int)≠0 by rw[ag];lia,O,?_⟩;rw[mp];have kl:k<A.length:=ca;refine⟨pv,s2 (λ _=>⟨O,g3L,O,g2L,O,q (.flip a k) A ⟨ea,by unfold off;lia⟩ hf⟩) (λ _=>?_)⟩;have an:=(hf.1 _ (mK kl)).1;have am:=(hf.1 _ (mK kl)).2;have o1:=jH an;have ge:aH d2 3=d2%3:=cr fu;have fe:aH (aM d2 3) (if A.getD k 0 > 1 then A.getD k 0 else 1)=aM d2 3%ah (A.getD k 0):=by rw[uG an];exact cr ca
  have h0:=du (aM d2 3) (show ah (A.getD k 0)≠0 by lia);have g1:1<=1+aH d2 3/\1+aH d2 3<=3:=by rw[ge];lia
  refine⟨_,O,fu,O,_,O,⟨fu,fu,fu⟩,_,bg kl,show(if A.getD k 0 > 1 then A.getD k 0 else 1)≠0 by rw[uG an];lia,O,?_⟩;rw[fe];generalize aM d2 3%ah (A.getD k 0)=f at *;generalize 1+aH d2 3=g at *;have e3:0<=aH (aM d2 300) 3:=by rw[cr fu];lia
  have cm:=Lb (e:=aH (aM d2 300) 3) an h0 g1.1 e3;rw[<- qW] at cm;have la:=db (a:=none) (b:=some (k:Int)) a6;have lb:=db (a:=some ((k:Int)+1)) (b:=none) a6;have l2:∀x,(ai (A.map TV.int) none (some (k:Int))++[TV.int x]).length+(ai (A.map TV.int) (some ((k:Int)+1)) none).length<=sizeLine:=λ x=>bu (by rw[aN,dO];lia);refine⟨_,bg kl,⟨ca,ca,ca⟩,_,O,⟨fu,fu,fu⟩,fu,O,?_⟩;generalize (if aM (A.getD k 0-1-f) g+1-aH (aM d2 300) 3 > 0 then aM (A.getD k 0-1-f) g+1-aH (aM d2 300) 3 else 0)=m at *;refine⟨O,g6L,O,g1L,bu (by show(ai (A.map TV.int) none (some (k:Int))).length+1<=1000;lia),l2 m,O,g2L,O,?_⟩;show Q (.tup [.tup [.str "cut",.int a,.int k,.int f,.int m,.int g],.tup ((ai (A.map TV.int) none (some (k:Int))++[TV.int m])++ai (A.map TV.int) (some ((k:Int)+1)) none)]);rw[oJ kl];exact q (.cut a k f m g) (A.set k m) ⟨A,ea,by unfold off;lia,by unfold bad;rw[Int.toNat_natCast];exact λ z=>z.elim ca λ z=>z.elim ca λ z=>z.elim ca cm.2.2,ca,by rw[Int.toNat_natCast]⟩ (KZ hf cm.1 cm.2.1)
def PU:ZX 73 100 ["own","other","side"] 3 3 Cs Ob:=by
 refine⟨by kernel_rfl,?_⟩;rintro ts Q ⟨A,B,k,rfl,kl,a6,b6,q⟩;refine⟨O,?_⟩
 have ct:∀L:LI,L.length<=6->ai (L.map TV.int) none (some (k:Int))++ai (L.map TV.int) (some ((k:Int)+1)) none=(L.eraseIdx k).map TV.int/\(ai (L.map TV.int) none (some (k:Int))).length<=6/\(ai (L.map TV.int) (some ((k:Int)+1)) none).length<=6:=λ L hL=>by
  have e1:=dR L k;have e2:ai (L.map TV.int) (some ((k:Int)+1)) none=(L.drop (k+1)).map TV.int:=by rw[show(k:Int)+1=((k+1:Nat):Int) by lia];exact fk L (k+1)
  refine⟨by rw[e1,e2,mC,bK],by rw[e1,ag,bd];lia,by rw[e2,ag,dX];lia⟩
 obtain⟨ea,la,lb⟩:=ct A a6;obtain⟨eb,lc,ld⟩:=ct B b6;unfold fW at q;have nl:∀a b:Nat,a<=6->b<=6->a+b<=sizeLine:=λ a b h1 h2=>bu ca;have dpA:_L.dp 9 (TV.tup (ai (A.map TV.int) none (some (k:Int))++ai (A.map TV.int) (some ((k:Int)+1)) none)):=by rw[ea];exact dpT _
 have eq1:_L.eqT (TV.tup (ai (A.map TV.int) none (some (k:Int))++ai (A.map TV.int) (some ((k:Int)+1)) none)) (TV.tup (ai (B.map TV.int) none (some (k:Int))++ai (B.map TV.int) (some ((k:Int)+1)) none))=decide (A.eraseIdx k=B.eraseIdx k):=by rw[ea,eb,oG]
 by_cases c1:A.length=B.length
 ·by_cases c2:A.eraseIdx k=B.eraseIdx k
  ·rw[if_pos ⟨c1,c2⟩] at q;have e1:=dR A k;have e2:ai (A.map TV.int) (some ((k:Int)+1)) none=(A.drop (k+1)).map TV.int:=by rw[show(k:Int)+1=((k+1:Nat):Int) by lia];exact fk A (k+1)
   have e3:(ai (A.map TV.int) none (some (k:Int))++[TV.int (A.getD k 0+B.getD k 0)])++ai (A.map TV.int) (some ((k:Int)+1)) none=(aZ A B k).map TV.int:=by unfold aZ;rw[Int.toNat_natCast,e1,e2,uH,if_pos kl];simp
   unfold tI at q;rw[<- e3] at q;exact⟨pv,sF (neF (by rw[ag,ag,c1])) ⟨nl _ _ la lb,nl _ _ lc ld,dpA,sF (by show(!_L.eqT (TV.tup _) (TV.tup _))=false;rw[eq1,cY c2];rfl) ⟨_,bg kl,_,bg ca,O,g1L,nl _ 1 la fu,bu (show(ai (A.map TV.int) none (some (k:Int))++[TV.int (A.getD k 0+B.getD k 0)]).length+(ai (A.map TV.int) (some ((k:Int)+1)) none).length<=1000 by rw[aN,dO];lia),O,q⟩⟩⟩
  ·rw[if_neg (λ z=>c2 z.2)] at q;exact⟨pv,sF (neF (by rw[ag,ag,c1])) ⟨nl _ _ la lb,nl _ _ lc ld,dpA,sT (by show(!_L.eqT (TV.tup _) (TV.tup _))=true;rw[eq1,bq c2];rfl) ⟨O,g0L,O,q⟩⟩⟩
 ·rw[if_neg (λ z=>c1 z.1)] at q;exact⟨pv,sT (neT (by rw[ag,ag];lia)) ⟨O,g0L,O,q⟩⟩
def PV:ZX 74 101 ["kind","d","sides","most","sided","a","own","side","words","made","fit","b"] 12 4 Cu Oc:=by
 refine⟨by kernel_rfl,?_⟩;rintro ts Q ⟨kd,d0,d1,d2,mo,Ss,rfl,⟨S0,S0m,S0l⟩,k11,k14,n4,hS,hmo,q⟩;refine⟨O,?_⟩;obtain⟨j0,j0l,j0e⟩:=List.mem_iff_getElem.mp S0m;refine⟨⟨ca,by rw[ao];lia⟩,by rw[ao,bQ,ao];exact aP ca,jO TV.int TV.int (λ k:Int=>!decide (Ss.getD k.toNat []=[])) (upL Ss.length) (by rw[ao];exact re _) (λ k hk=>?_) ?_⟩
 ·obtain⟨j,rfl,jl⟩:=gJ hk;exact⟨tI (Ss.getD j []),aF (fY jl),O,g0L,dpT _,by rw[Int.toNat_natCast,<- mO];rfl,λ _=>⟨O,O⟩⟩
 generalize hks:(upL Ss.length).filter (λ k:Int=>!decide (Ss.getD k.toNat []=[]))=ks;have km:∀k,k∈ks ↔ k∈upL Ss.length/\Ss.getD k.toNat []≠[]:=λ k=>by rw[<- hks,iX];simp
 have kl:ks.length<=40:=by rw[<- hks];exact dg (oN _ _) (by rw[fg];exact n4)
 have kpos:0<ks.length:=vg ((km j0).mpr ⟨Aj j0l,by rw[Int.toNat_natCast,aR,aB j0l,j0e];exact lR.mp S0l⟩);refine⟨O,_,O,clB rfl ⟨ks,d0,O,kpos,ca,λ k hk=>?_⟩⟩;obtain⟨ku,An⟩:=(km k).mp hk;obtain⟨a,rfl,al⟩:=gJ ku;have eA:=fY al;rw[Int.toNat_natCast] at An;generalize Ss.getD a []=A at eA An;have A0:=lR.mpr An;have fA:=hS _ (aA eA);have a6:=fA.2.1;have mp:aH d1 (((A.map TV.int).length:Nat):Int)=d1%(A.length:Int):=by rw[ag];exact cr ca
 have f0:=du d1 (show(A.length:Int)≠0 by lia);have f1:=dH d1 (show(0:Int)<(A.length:Int) by lia);obtain⟨k,hk⟩:∃k:Nat,d1%(A.length:Int)=k:=⟨_,(iJ f0).symm⟩;rw[hk] at f1 mp;have kl:k<A.length:=ca;refine⟨by simp[LF],O,tI A,aF eA,O,_,O,show(((A.map TV.int).length:Nat):Int)≠0 by rw[ag];lia,O,?_⟩;rw[mp];obtain⟨w,hw,wm⟩:=vc fw (k:=aH d2 7) (by rw[cr fu];lia) (by rw[cr fu];show d2%7<((7:Nat):Int);lia);have la:=db (a:=none) (b:=some (k:Int)) a6;have lb:=db (a:=some ((k:Int)+1)) (b:=none) a6;have er:ai (A.map TV.int) none (some (k:Int))++ai (A.map TV.int) (some ((k:Int)+1)) none=(A.eraseIdx k).map TV.int:=by rw[show(k:Int)+1=((k+1:Nat):Int) by lia,dR,fk,mC,bK]
 have qf:Q (.tup [.tup [.str "fold",.str w,.int a,.int k],.tup (ai (A.map TV.int) none (some (k:Int))++ai (A.map TV.int) (some ((k:Int)+1)) none)]):=by
  rw[er];exact q (.fold w a k) (A.eraseIdx k) ⟨A,eA,wm,by unfold off;lia,by rw[Int.toNat_natCast]⟩ (La fA)
 refine⟨O,g7L,O,pv,sN (λ _=>⟨_,O,fu,.str w,hw,O,g4L,bu (by show(ai (A.map TV.int) none (some (k:Int))).length+(ai (A.map TV.int) (some ((k:Int)+1)) none).length<=1000;lia),O,g2L,O,qf⟩) (λ n13=>?_)⟩;refine⟨pv,sN (λ _=>⟨_,O,fu,.str w,hw,O,g4L,O,g2L,O,q (.run w a k) A ⟨eA,wm,by unfold off;lia⟩ fA⟩) (λ n14=>?_)⟩;refine⟨O,g0L,O,g1L,O,?_⟩;refine rh (λ ρ=>∃Ms:LL,Md kd A k Ss Ms/\ρ=[some (.int kd),some (lI [d0,d1,d2]),some (.lst (Ss.map tI)),some (.int mo),some (.own (ks.map .int)),some (.int a),some (tI A),some (.int k),some (.own (fw.map .str)),some (.own (Ms.map tI)),none,none]) ?_ (λ ρ' ⟨Ms,hM,e⟩=>?_)
 ·refine⟨pv,sN (λ c11=>⟨by rw[ao];exact aP ca,dL tI (λ B=>tI (fW A B k)) Ss (λ B hB=>cl rfl ⟨A,B,k,O,kl,a6,(hS B hB).2.1,O,O⟩ rfl) ⟨O,Ss.map (λ B=>fW A B k),.inl ⟨c11,O⟩,by rw[br];rfl⟩⟩) (λ c11=>⟨_,AR A0,s3 (λ cA=>⟨by rw[ao];exact aP ca,dL tI (λ B=>tI (B++A.drop 1)) Ss (λ B hB=>?_) ⟨O,Ss.map (λ B=>B++A.drop 1),.inr (.inl ⟨ca,cA,O⟩),by rw[br];rfl⟩⟩) (λ cA=>⟨[[]],.inr (.inr ⟨c11,cA,O⟩),O⟩)⟩)⟩;have e1:ai (A.map TV.int) (some 1) none=(A.drop 1).map TV.int:=fk A 1;have b6:=(hS B hB).2.1;have lc:=db (a:=some 1) (b:=none) a6;refine⟨bu (by show(B.map TV.int).length+(ai (A.map TV.int) (some 1) none).length<=1000;rw[ag];lia),O,?_⟩;show TV.tup (B.map TV.int++ai (A.map TV.int) (some 1) none)=tI (B++A.drop 1);rw[e1,<- bK];rfl
 subst e;have ml:=Lc hM n4;have mb:=Ld hM fA hS hmo;refine⟨⟨ca,by rw[ao];lia⟩,by rw[ao,bQ,ao];exact aP ca,jO TV.int TV.int (λ k:Int=>(decide (kd=12)&&decide (0<A.getD 0 0)) || !decide (Ms.getD k.toNat []=[])) (upL Ms.length) (by rw[ao];exact re _) (λ k hk=>?_) ?_⟩
 ·obtain⟨j,rfl,jl⟩:=gJ hk;have nn:(!_L.eqT (tI (Ms.getD j [])).fz (TV.tup []).fz)=!decide (Ms.getD ((j:Int).toNat) []=[]):=by rw[Int.toNat_natCast,<- mO];rfl
  refine⟨pv,sN (λ c12=>⟨_,AR A0,s3 (λ cA=>?_) (λ cA=>?_)⟩) (λ c12=>?_)⟩
  ·exact⟨by rw[cY c12,cY cA];rfl,λ _=>⟨O,O⟩⟩
  ·exact⟨tI (Ms.getD j []),aF (fY jl),O,g0L,dpT _,by rw[bq cA,pU,s1i,<- nn];rfl,λ _=>⟨O,O⟩⟩
  ·exact⟨tI (Ms.getD j []),aF (fY jl),O,g0L,dpT _,by rw[bq c12,s0n,s1i,<- nn];rfl,λ _=>⟨O,O⟩⟩
 generalize hks1:(upL Ms.length).filter (λ k:Int=>(decide (kd=12)&&decide (0<A.getD 0 0)) || !decide (Ms.getD k.toNat []=[]))=ks1;have km1:∀k,k∈ks1 ↔ k∈upL Ms.length/\((kd=12/\0<A.getD 0 0)\/Ms.getD k.toNat []≠[]):=λ k=>by rw[<- hks1,iX];simp
 have kl1:ks1.length<=40:=by rw[<- hks1];exact dg (oN _ _) (by rw[fg];exact ml)
 refine⟨O,by rw[ag];exact aP ca,jO TV.int TV.int (λ k:Int=>decide ((Ms.getD k.toNat []).length<=6)&&decide (ae ((Ms.getD k.toNat []).map ah)<=mo)) ks1 rfl (λ k hk=>?_) ?_⟩
 ·obtain⟨j,rfl,jl⟩:=gJ ((km1 k).mp hk).1;rw[Int.toNat_natCast];have eM:=fY jl;generalize Ms.getD j []=M at *;refine⟨tI M,aF eM,s2 (λ c6=>?_) (λ c6=>?_)⟩
  ·have c6:(((M.map TV.int).length:Nat):Int)<=6:=aC c6;rw[ag] at c6;exact⟨tI M,aF eM,cl rfl ⟨M,O,Le (mb M (aA eM)),ca,by rw[cY (show M.length<=6 by lia),Bool.true_and],λ _=>⟨O,O⟩⟩ rfl⟩
  ·have c6:¬(((M.map TV.int).length:Nat):Int)<=6:=jN c6;rw[ag] at c6;exact⟨by rw[bq (show ¬M.length<=6 by lia),s0n],λ _=>⟨O,O⟩⟩
 generalize hls:ks1.filter (λ k:Int=>decide ((Ms.getD k.toNat []).length<=6)&&decide (ae ((Ms.getD k.toNat []).map ah)<=mo))=ls;have lm:∀k,k∈ls ↔ k∈ks1/\(Ms.getD k.toNat []).length<=6/\ae ((Ms.getD k.toNat []).map ah)<=mo:=λ k=>by rw[<- hls,iX,bF,gG,gG]
 have ll:ls.length<=40:=by rw[<- hls];exact dg (oN _ _) kl1
 refine⟨O,pv,sN (λ _=>⟨O,g3L,O,g2L,O,q (.flip a k) A ⟨eA,by unfold off;lia⟩ fA⟩) (λ lne=>?_)⟩;have lne:ls.length≠0:=λ z=>lne (by rw[ag,z];rfl);refine⟨_,O,clB rfl ⟨ls,d2,O,ca,ca,λ x hx=>?_⟩⟩;obtain⟨xm,m6,mw⟩:=(lm x).mp hx;obtain⟨xu,hb⟩:=(km1 x).mp xm;obtain⟨b,rfl,bl⟩:=gJ xu;rw[Int.toNat_natCast] at m6 mw hb;have eM:=fY bl;generalize Ms.getD b []=M at *;have nb:=Lf hmo m6 mw;have fM:=uK (λ n hn=>(mb M (aA eM) n hn).1) m6 mw;refine⟨by simp[LF],O,pv,sN (λ c11=>?_) (λ n11=>?_)⟩
 ·have mne:¬M=[]:=hb.elim (λ z=>by lia) id
  obtain⟨B,eB,rfl⟩:∃B,Ss[b]?=some B/\M=fW A B k:=by
   rcases hM with ⟨_,rfl⟩|⟨z,_⟩|⟨z,_⟩
   ·rw[aQ] at eM
    cases hx:Ss[b]? with
    |none=>rw[hx] at eM;cases eM
    |some B=>rw[hx] at eM;cases eM;exact⟨B,rfl,rfl⟩
   ·lia
   ·exact absurd c11 z
  obtain⟨j1,j2,j3⟩:=Ao mne;exact⟨O,g4L,tI (fW A B k),aF eM,O,g2L,O,q (.join a b k) (fW A B k) ⟨A,B,eA,eB,j1,by unfold off;lia,by rw[Int.toNat_natCast];exact j2,by rw[<- j3];exact nb,j3⟩ fM⟩
 have k12:kd=12:=ca
 obtain⟨n,r,rfl⟩:∃n r,A=n::r:=by
  match A,A0 with
  |n::r,_=>exact⟨n,r,rfl⟩
 obtain⟨B,n0,eB,rfl⟩:∃B,0<n/\Ss[b]?=some B/\M=B++r:=by
  rcases hM with ⟨z,_⟩|⟨_,z,rfl⟩|⟨_,z,rfl⟩
  ·exact absurd z n11
  ·rw[aQ] at eM
   cases hx:Ss[b]? with
   |none=>rw[hx] at eM;cases eM
   |some B=>rw[hx] at eM;cases eM;exact⟨B,z,rfl,rfl⟩
  ·rcases hb with y|y
   ·exact absurd y.2 z
   ·match b,eM with
    |0,eM=>cases eM;exact absurd rfl y
 exact⟨O,g3L,tI (B++r),aF eM,O,g2L,O,q (.fetch a b) (B++r) ⟨n,r,B,eA,ca,eB,nb,O⟩ fM⟩
def PX:ZX 75 102 ["cell","sides","most","n","kind","d","a"] 7 3 Cv Od:=by
 refine⟨by kernel_rfl,?_⟩;rintro ts Q ⟨cell,mo,Ss,rfl,n4,hS,hmo,q⟩;refine⟨O,?_⟩;refine⟨eK fu fu,fu,O,?_⟩;generalize aH (cell*48271) 2147483647=n;refine⟨fu,O,?_⟩;obtain⟨kd,ek⟩:∃kd,aH n 15=kd:=⟨_,rfl⟩;have kb:0<=kd/\kd<15:=by rw[<- ek,cr fu];lia
 rw[ek];refine⟨⟨fu,fu,fu⟩,fu,⟨fu,fu,fu⟩,fu,⟨fu,fu,fu⟩,O,g3L,O,?_⟩;generalize aH (aM n 15) 120=d0;generalize aH (aM n 1800) 120=d1;generalize aM n 216000=d2;refine⟨pv,s2 (λ _=>⟨fu,cl rfl ⟨_,n,cell,mo,O,hmo,λ d S ok fs=>⟨O,q d S (ok Ss) fs⟩⟩ rfl⟩) (λ h0=>s3 (λ _=>⟨fu,cl rfl ⟨_,n,cell,mo,O,hmo,λ d S ok fs=>⟨O,q d S (ok Ss) fs⟩⟩ rfl⟩) (λ k3=>?_))⟩
 have n0:0<Ss.length:=by
  have h0:¬(((Ss.map tI).length:Nat):Int)=0:=jN h0;rw[ao] at h0;lia
 refine s3 (λ _=>clB rfl ⟨kd,d0,d1,d2,mo,Ss,O,n0,n4,hS,λ d S ok fs=>⟨rb d S,O,q d S ok fs⟩⟩) (λ k6=>?_);refine rh (λ ρ=>ρ=[some (.int cell),some (.lst (Ss.map tI)),some (.int mo),some (.int n),some (.int kd),some (.own [.int d0,.int d1,.int d2]),none]) ?_ (λ ρ' e=>?_)
 ·refine s3 (λ h10=>⟨by rw[ao];exact aP ca,dL tI (λ S=>.int ((S.map TV.int).length:Nat)) Ss (λ S _=>⟨O,O⟩) ⟨Ss.map (λ S=>(S.length:Int)),by rw[br];exact jy λ S _=>by rw[ag];rfl,by rw[ao];exact n0,λ M hM _=>s3 (λ hM0=>?_) (λ _=>rfl)⟩⟩) (λ h10=>rfl);exact clB rfl ⟨kd,d0,d1,d2,mo,Ss,O,Lg hM ca,ca,ca,n4,hS,hmo,λ d S ok fs=>⟨rb d S,O,q d S ok fs⟩⟩
 subst e;refine⟨⟨ca,by rw[ao];lia⟩,_,O,cl rfl ⟨upL Ss.length,d0,by show[TV.lst ((List.range (((Ss.map tI).length:Nat):Int).toNat).map λ i:Nat=>TV.int (i:Nat)),TV.int d0]=_;rw[ao,re];rfl,by rw[fg];exact n0,by rw[fg];lia,λ k hk=>?_⟩ rfl⟩;obtain⟨a,rfl,al⟩:=gJ hk;have eA:=fY al;generalize Ss.getD a []=A at eA;exact⟨O,tI A,aF eA,clB rfl ⟨_,d0,d1,d2,mo,a,A,Ss,O,eA,hS _ (aA eA),hmo,λ d S ok fs=>⟨rb d S,O,q d S ok fs⟩⟩⟩
def PY:ZX 76 103 ["cells","most","steps","sides","cell","made","outs","n","k"] 9 2 Cw Oe:=by
 refine⟨by kernel_rfl,?_⟩;rintro ts Q ⟨cs,mo,rfl,c40,hmo,q⟩;refine⟨O,?_⟩;refine⟨O,g0L,O,O,g0L,O,O,?_⟩;refine bO (λ i ρ=>∃(ds:List Stp) (Ss:LL) (y4 y5:Option TV),jJ mo ds Ss/\ds.length=i/\ρ=[some (lI cs),some (.int mo),some (.own (ds.map stT)),some (.own (Ss.map tI)),y4,y5,none,none,none]) ⟨[],[],_,_,Al mo,O,O⟩ (λ i t ρ ht h=>?_) (λ ρ h=>?_)
 ·obtain⟨ds,Ss,y4,y5,gl,dl,rfl⟩:=h;obtain⟨c,rfl,hc⟩:=iV ht;have il:=(bf.mp hc).1;have Sl:Ss.length=i:=by rw[<- gl.1,dl]
  exact clB rfl ⟨c,mo,Ss,O,ca,gl.2.1,hmo,λ d S ok fs=>⟨rb d S,O,_,O,O,by rw[ao,dl];exact aP ca,_,O,O,by rw[ao,Sl];exact aP ca,ds++[d],Ss++[S],_,_,Ak gl ok fs,by rw[aN,dl];rfl,by rw[bK,bK];rfl⟩⟩
 obtain⟨ds,Ss,y4,y5,gl,dl,rfl⟩:=h;rw[ao] at dl;refine rh (λ ρ=>∃(ds:List Stp) (Ss:LL),jJ mo ds Ss/\0<ds.length/\ds.length<=40/\ρ=[some (lI cs),some (.int mo),some (.own (ds.map stT)),some (.own (Ss.map tI)),y4,y5,none,none,none]) ?_ (λ ρ' h=>?_)
 ·refine⟨pv,sN (λ z=>?_) (λ z=>⟨ds,Ss,gl,by rw[ao] at z;lia,ca,O⟩)⟩;rw[ao] at z;have e1:ds=[]:=CN.mp ca;have e2:Ss=[]:=CN.mp (by rw[<- gl.1,e1];rfl);subst e1 e2;exact⟨O,g2L,O,sl3 (n:=0) fu,O,g0L,O,sl3 (n:=0) fu,[.num 0],[[]],Ak (Al mo) (d:=.num 0) (S:=[]) ⟨O,by unfold inB;decide⟩ (qO hmo),fu,fu,O⟩
 obtain⟨ds,Ss,gl,d0,d40,rfl⟩:=h;refine⟨O,g0L,O,cs,O,eK fu fu,fu,O,?_⟩;generalize aH (cs.sum*16807) 2147483647=n;obtain⟨x,hx,x1,x8⟩:=Mb (aH n 6) (by rw[cr fu];lia) (by rw[cr fu];lia);refine⟨O,g6L,fu,.int x,hx,O,⟨ca,ca⟩,?_⟩;refine bO (λ i ρ=>∃(os:LI) (n:Int) (y8:Option TV),os.length=i/\(∀o∈os,0<=o/\o<(ds.length:Int))/\ρ=[some (lI cs),some (.int mo),some (.own (ds.map stT)),some (.own (Ss.map tI)),y4,y5,some (.own (os.map .int)),some (.int n),y8]) ⟨[],n,_,O,(λ o ho=>nomatch ho),O⟩ (λ i t ρ ht h=>?_) (λ ρ h=>?_)
 ·obtain⟨os,n,y8,ol,ob,rfl⟩:=h;obtain⟨il,rfl⟩:=bL ht;have f0:=du (aM (aH (n*48271+11) 2147483647) 16) (show(ds.length:Int)≠0 by lia);have f1:=dH (aM (aH (n*48271+11) 2147483647) 16) (show(0:Int)<ds.length by lia);have em:aH (aM (aH (n*48271+11) 2147483647) 16) (((ds.map stT).length:Nat):Int)=aM (aH (n*48271+11) 2147483647) 16%(ds.length:Int):=by rw[ao];exact cr ca
  refine⟨eK fu fu,fu,O,⟨fu,fu,fu⟩,by rw[ao];lia,O,by rw[ag,ol];exact aP ca,os++[aH (aM (aH (n*48271+11) 2147483647) 16) (((ds.map stT).length:Nat):Int)],aH (n*48271+11) 2147483647,some (.int (i:Nat)),by rw[aN,ol];rfl,λ o ho=>?_,by rw[bK];rfl⟩
  rcases cg.mp ho with z|z
  ·exact ob o z
  ·cases bh.mp z;rw[em];exact⟨f0,f1⟩
 obtain⟨os,n,y8,ol,ob,rfl⟩:=h;rw[ao,bQ] at ol;have f0:=du n (show(os.length:Int)≠0 by lia);have f1:=dH n (show(0:Int)<os.length by lia);obtain⟨k,hk⟩:∃k:Nat,n%(os.length:Int)=k:=⟨_,(iJ f0).symm⟩;rw[hk] at f1;refine⟨O,by rw[ag];lia,k,by rw[ag,cr ca,hk];exact yY ca,O,g3L,O,?_⟩
 have z:=q ds Ss (os.set k ((ds.length:Int) - 1)) ⟨hmo,gl,d0,d40,by rw[cW];lia,by rw[cW];lia,λ o ho=>by
  rcases mE ho with z|z
  ·exact ob o z
  ·lia⟩
 unfold tI at z;rw[List.map_set] at z;show Q (.tup [.tup (ds.map stT),.tup ((os.map TV.int).set k (.int (((ds.map stT).length:Nat)-1))),.lst (Ss.map tI)]);rw[ao];exact z
def PZ:ZX 77 104 ["cells","steps","made","n","step","row","k","lap","told"] 9 2 Cy Of:=by
 refine⟨by kernel_rfl,?_⟩;rintro ts Q ⟨cs,ds,Ss,mo,rfl,c63,gl,hmo,d40,q⟩;refine⟨O,?_⟩;refine⟨O,g0L,O,O,O,?_⟩;refine bO (λ i ρ=>∃(Is:List Tb) (n:Int) (y4 y5 y6 y7 y8:Option TV),Is.map (·.1)=bj (ds.take i)/\(∀T∈Is,TbG mo T)/\0<=n/\n<=512*i/\i<=ds.length/\ρ=[some (lI cs),some (.tup (ds.map stT)),some (.own (Is.map tbT)),some (.int n),y4,y5,y6,y7,y8]) ⟨[],0,_,_,_,_,_,O,(λ _ h=>nomatch h),fu,fu,bW _,O⟩ (λ i t ρ ht h=>?_) (λ ρ h=>?_)
 ·obtain⟨Is,n,y4,y5,y6,y7,y8,h3,h4,n0,n1,hi,rfl⟩:=h;obtain⟨d,rfl,ed⟩:=qX ht;have idl:=(bf.mp ed).1;have il:i<Ss.length:=by rw[<- gl.1];exact idl
  have eS:=aB il;generalize Ss[i]=S at eS;have ok:=gl.2.2 i d S ed eS;have fs:=gl.2.1 S (aA eS)
  have isl:Is.length<=i:=by
   have:=AH (ds.take i);rw[<- h3,ao,bd] at this;lia
  rcases AS d with ⟨ms,rfl⟩|ni
  ·have eSm:=ok.1;subst eSm;have sd:=da (bU fs hmo);have pz:=iN (cH fs);have pA:=bS (cH fs);have p5:=(bU fs hmo).2.2.2;refine⟨_,O,pv,O,g0L,O,_,O,cl rfl ⟨_,S,O,.inl rfl,sd,O,⟨ca,ca⟩,?_⟩ rfl⟩;refine bO (λ k ρ=>∃(ns:LI) (y6 y7 y8:Option TV),ns.length=k/\(∀c∈ns,inB c)/\ρ=[some (lI cs),some (.tup (ds.map stT)),some (.own (Is.map tbT)),some (.int (n+(k:Int))),some (stT (.inp S)),some (.own (ns.map .int)),y6,y7,y8]) ⟨[],_,_,_,O,(λ _ h=>nomatch h),by rw[show((0:Nat):Int)=0 from rfl,Int.add_zero];rfl⟩ (λ k t ρ ht h=>?_) (λ ρ h=>?_)
   ·obtain⟨ns,y6,y7,y8,nl,nb,rfl⟩:=h;obtain⟨kl,rfl⟩:=bL ht;obtain⟨m,em⟩:∃m,n+(k:Int)=m:=⟨_,rfl⟩;have em1:n+((k+1:Nat):Int)=m+1:=ca;rw[em,em1];obtain⟨z,ez⟩:∃z:Int,(if (((cs.map TV.int).length:Nat):Int) > 1 then (((cs.map TV.int).length:Nat):Int) else 1)=z:=⟨_,rfl⟩;have z0:0<z/\z<=63:=by rw[ag] at ez;split at ez<;>lia
    have dz:aM m z=m/z:=qZ z0.1;have lz:0<=m/z:=s0b ca ca;have lz1:m/z<=m:=uJ _ ca;refine⟨by show(if (((cs.map TV.int).length:Nat):Int) > 1 then (((cs.map TV.int).length:Nat):Int) else 1)≠0/\_<(if (((cs.map TV.int).length:Nat):Int) > 1 then (((cs.map TV.int).length:Nat):Int) else 1)/\(if (((cs.map TV.int).length:Nat):Int) > 1 then (((cs.map TV.int).length:Nat):Int) else 1)<_;rw[ez];exact⟨ca,ca,ca⟩,O,?_⟩;show wS _ _ _ ([some (lI cs),some (.tup (ds.map stT)),some (.own (Is.map tbT)),some (.int m),some (stT (.inp S)),some (.own (ns.map .int)),some (.int (k:Nat)),some (.int (aM m (if (((cs.map TV.int).length:Nat):Int) > 1 then (((cs.map TV.int).length:Nat):Int) else 1))),y8]) _ _;rw[ez,dz];generalize m/z=lp at *;refine⟨kU ca ca,eK fu fu,kU ca ca,O,?_⟩;refine rh (λ ρ=>∃v:Int,ρ=[some (lI cs),some (.tup (ds.map stT)),some (.own (Is.map tbT)),some (.int m),some (stT (.inp S)),some (.own (ns.map .int)),some (.int (k:Nat)),some (.int lp),some (.int v)]) ?_ (λ ρ' h=>?_)
    ·refine s3 (λ c0=>?_) (λ c0=>⟨_,O⟩);rw[ag] at c0;have a0:=du m (show(cs.length:Int)≠0 by lia);have a1:=dH m (show(0:Int)<cs.length by lia);exact⟨by rw[ag];lia,.int (cs.getD (m%(cs.length:Int)).toNat 0),by rw[ag,cr ca];exact oH a0 a1,O,_,O⟩
    obtain⟨v,rfl⟩:=h;exact cl rfl ⟨v,O,O,by rw[ag,nl];exact aP ca,O,ns++[mH v],_,_,_,by rw[aN,nl];rfl,λ c hc=>(cg.mp hc).elim (nb c) (λ y=>by cases bh.mp y;exact zJ v),by rw[bK];rfl⟩ rfl
   obtain⟨ns,y6,y7,y8,nl,nb,rfl⟩:=h;rw[ao,bQ] at *;have e:((ae S).toNat:Int)=ae S:=iJ pz;rw[e];refine⟨_,O,O,g2L,O,by rw[ao];exact aP ca,Is++[(S,ns)],n+ae S,_,_,_,_,_,by rw[bK,h3,kS ed];rfl,λ T hT=>?_,ca,ca,idl,by rw[bK];rfl⟩
   rcases cg.mp hT with y|y
   ·exact h4 T y
   ·cases bh.mp y;exact⟨fs,by show(ns.length:Int)=ae S;lia,nb⟩
  ·have e2:bj (ds.take (i+1))=bj (ds.take i):=by rw[kS ed,uS (λ z=>by obtain⟨ms,e⟩:=oE z;exact ni ms e)];simp
   have fin:∃(Is':List Tb) (n':Int) (y4 y5' y6' y7' y8':Option TV),Is'.map (·.1)=bj (ds.take (i+1))/\(∀T∈Is',TbG mo T)/\0<=n'/\n'<=512*((i+1:Nat):Int)/\i+1<=ds.length/\[some (lI cs),some (.tup (ds.map stT)),some (.own (Is.map tbT)),some (.int n),some (stT d),y5,y6,y7,y8]=[some (lI cs),some (.tup (ds.map stT)),some (.own (Is'.map tbT)),some (.int n'),y4,y5',y6',y7',y8']:=⟨Is,n,_,_,_,_,_,by rw[e2];exact h3,h4,n0,ca,idl,rfl⟩
   cases d<;>first|exact absurd rfl (ni _)|exact⟨_,rfl,trivial,fin⟩
 obtain⟨Is,n,y4,y5,y6,y7,y8,h3,h4,_,_,_,rfl⟩:=h;rw[ao,cy] at h3;exact⟨O,q Is h3 h4⟩
def Qa:ZX 78 105 ["sides","at","spot","k"] 4 2 Cz Og:=by
 refine⟨by kernel_rfl,?_⟩;rintro ts Q ⟨ns,ms,rfl,sd,l,hl,q⟩;refine⟨O,?_⟩;refine⟨O,O,⟨ca,by rw[ag];lia⟩,?_⟩;refine bO (λ i ρ=>∃y,ρ=[some (tI ns),some (tI ms),some (.int (plH (ns.take i) (ms.take i))),y]) ⟨_,O⟩ (λ i t ρ ht h=>?_) (λ ρ h=>?_)
 ·obtain⟨y,rfl⟩:=h;obtain⟨il,rfl⟩:=bL ht;rw[ag,Int.toNat_natCast] at il;have e1:=aB il;have e2:=aB (show i<ms.length by lia);have nn:=sd _ (aA e1);generalize ns[i]=n at e1 nn;generalize ms[i]=m at e2;exact⟨.int n,aF e1,eK ca ca,.int m,aF e2,O,some (.int (i:Nat)),by rw[plT hl e1 e2];rfl⟩
 ·obtain⟨y,rfl⟩:=h;rw[ao,bQ,ag,Int.toNat_natCast,cy,gP ca];exact⟨O,q⟩
def Qb:ZX 79 106 ["found","sides","n"] 3 2 CA Oh:=by
 refine⟨by kernel_rfl,?_⟩;rintro ts Q ⟨S,C,rfl,ft,e,hc,q⟩;refine⟨O,?_⟩;have l6:=ft.2.1;have e63:(2:Int) ^ (63:Int).toNat=9223372036854775808:=fu;refine⟨pv,_,O,cl rfl ⟨_,S,O,.inl rfl,ca,_,O,_,O,cl rfl ⟨_,S,O,.inl rfl,da ft,pv,sF (neF (by rw[ag];exact e)) ⟨_,O,O,?_⟩⟩ rfl⟩ rfl⟩;refine bO (λ i ρ=>∃y,ρ=[some (.tup [tI S,tI C]),some (tI S),y]) ⟨_,O⟩ (λ i u ρ hu ⟨y,e⟩=>?_) (λ ρ ⟨y,e⟩=>?_)
 ·subst e;obtain⟨n,rfl,hn⟩:=iV hu;have b:=hc n (aA hn);unfold inB at b;exact cl rfl ⟨n,O,p63,sF (bq (show ¬n < -(2 ^ (63:Int).toNat) by rw[e63];lia)) ⟨p63,sF (bq (show ¬(2 ^ (63:Int).toNat-1:Int)<n by rw[e63];lia)) ⟨_,O⟩⟩⟩ rfl
 ·subst e;exact⟨O,q⟩
def Qc:ZX 80 107 ["n"] 1 1 CB Oi:=by
 refine⟨by kernel_rfl,?_⟩;rintro ts Q ⟨n,rfl,q⟩;refine⟨O,?_⟩;rw[<- Mf] at q;exact⟨p63,p64,fu,p63,O,q⟩
def Qd:ZX 81 108 ["word","x"] 2 2 CC Oj:=by
 refine⟨by kernel_rfl,?_⟩;rintro ts Q ⟨w,x,rfl,hw,hx,q⟩;refine⟨O,?_⟩;simp only[jE,aL,bX,bY] at hw;unfold eH uC at q
 rcases hw with rfl|rfl|rfl|rfl
 ·rw[if_pos rfl] at q;exact⟨pv,pv,pv,cl rfl ⟨_,O,O,q⟩ rfl⟩
 ·rw[if_neg (by decide +kernel),if_pos rfl] at q;refine⟨pv,pv,pv,s3 (λ c=>?_) (λ c=>?_)⟩
  ·rw[if_pos c] at q;exact cl rfl ⟨_,rfl,rfl,q⟩ rfl
  ·rw[if_neg c,zM hx] at q;exact⟨rfl,q⟩
 ·rw[if_neg (by decide +kernel),if_neg (by decide +kernel),if_pos rfl] at q;refine⟨pv,pv,O,?_⟩;show Q (.int ((if decide (0<x)=true then 1 else 0)-(if decide (x<0)=true then 1 else 0)));simp only[gG];rw[Kw x];exact q
 ·rw[if_neg (by decide +kernel),if_neg (by decide +kernel),if_neg (by decide +kernel)] at q;refine⟨pv,pv,O,?_⟩;show Q (.int (if decide (x=0)=true then 1 else 0));simp only[gG];exact q
def Qe:ZX 82 109 ["word","x","y"] 3 3 CD Ol:=by
 refine⟨by kernel_rfl,?_⟩;rintro ts Q ⟨w,x,y,rfl,hw,hx,hy,q⟩;refine⟨O,?_⟩;have mo:IntMulOk x y:=eK (by unfold inB at hy;lia) (by unfold inB at hy;lia);have by1:-18446744073709551616<y/\y<1606938044258990275541962092341162602522202993782792835301376:=by unfold inB at hy;lia
 simp only[fU,aL,bX,bY] at hw
 rcases hw with rfl|rfl|rfl|rfl|rfl|rfl|rfl|rfl|rfl|rfl|rfl|rfl
 ·rw[zw] at q;exact⟨O,g3L,O,dU,mo,O,g3L,O,g3L,O,dU,0,_,O,O,ve,_,O,cl rfl ⟨_,O,O,q⟩ rfl⟩
 ·rw[zx] at q;exact⟨O,g3L,O,dU,mo,O,g3L,O,g3L,O,dU,1,_,O,O,(λ m z hm e=>by match m,hm,e with|0,_,e=>cases e;rfl),_,O,cl rfl ⟨_,O,O,q⟩ rfl⟩
 ·rw[zy] at q;exact⟨O,g3L,O,dU,mo,O,g3L,O,g3L,O,dU,2,_,O,O,(λ m z hm e=>by match m,hm,e with|0,_,e=>cases e;rfl|1,_,e=>cases e;rfl),_,O,cl rfl ⟨_,O,O,q⟩ rfl⟩
 ·rw[zz,kK] at q;refine⟨O,g3L,O,dU,O,g2L,O,iW,pv,sN (λ y0=>⟨O,g2L,pv,_,O,O,by rw[if_pos y0] at q;exact q⟩) (λ y0=>?_)⟩;rw[if_neg y0,<- qW] at q;exact⟨⟨y0,by1.1,by1.2⟩,cl rfl ⟨_,O,⟨y0,by1.1,by1.2⟩,eK (by unfold inB at hy;lia) (by unfold inB at hy;lia),O,g2L,pv,_,O,O,q⟩ rfl⟩
 ·rw[zA,kL] at q;refine⟨O,g3L,O,dU,O,g2L,O,iW,pv,sN (λ y0=>⟨O,g2L,pv,_,O,O,by rw[if_pos y0] at q;exact q⟩) (λ y0=>?_)⟩;rw[if_neg y0,s1w,gH,<- qW] at q;exact⟨⟨y0,by1.1,by1.2⟩,cl rfl ⟨_,O,⟨y0,by1.1,by1.2⟩,eK (by unfold inB at hy;lia) (by unfold inB at hy;lia),O,g2L,pv,_,O,O,q⟩ rfl⟩
 ·rw[zB] at q;exact⟨O,g3L,O,dU,O,g2L,O,iW,O,g2L,O,kW,O,g2L,O,oK,O,g2L,pv,_,O,O,q⟩
 ·rw[zD] at q;exact⟨O,g3L,O,dU,O,g2L,O,iW,O,g2L,O,kW,O,g2L,O,oK,O,g2L,pv,_,O,O,q⟩
 ·rw[zE,<- AY] at q;exact⟨O,g3L,O,dU,O,g2L,O,iW,O,g2L,O,kW,pv,O,g2L,pv,_,O,O,q⟩
 ·rw[zF,<- AY] at q;exact⟨O,g3L,O,dU,O,g2L,O,iW,O,g2L,O,kW,pv,O,g2L,pv,_,O,O,q⟩
 ·rw[zG] at q;exact⟨O,g3L,O,dU,O,g2L,O,iW,O,g2L,O,kW,O,g2L,O,oK,O,g3L,O,g3L,O,vd,0,_,O,O,ve,_,O,O,q⟩
 ·rw[zH] at q;exact⟨O,g3L,O,dU,O,g2L,O,iW,O,g2L,O,kW,O,g2L,O,oK,O,g3L,O,g3L,O,vd,1,_,O,O,(λ m z hm e=>by match m,hm,e with|0,_,e=>cases e;rfl),_,O,O,q⟩
 ·rw[zI] at q;exact⟨O,g3L,O,dU,O,g2L,O,iW,O,g2L,O,kW,O,g2L,O,oK,O,g3L,O,g3L,O,vd,2,_,O,O,(λ m z hm e=>by match m,hm,e with|0,_,e=>cases e;rfl|1,_,e=>cases e;rfl),_,O,O,q⟩
def Qf:ZX 83 110 ["sides","made","length","longer","at","k"] 6 1 CF Om:=by
 refine⟨by kernel_rfl,?_⟩;rintro ts Q ⟨ns,rfl,hs,l20,h512,q⟩;refine⟨O,?_⟩;refine⟨O,g0L,O,g1L,O,O,?_⟩;refine bO (λ i ρ=>∃(t:TV) (y2 y3 y4 y5:Option TV),(t=.own ((bR (ns.take i)).map tI)\/t=.lst ((bR (ns.take i)).map tI))/\ρ=[some (tI ns),some t,y2,y3,y4,y5]) ⟨_,_,_,_,_,.inl rfl,O⟩ (λ i t ρ ht h=>?_) (λ ρ h=>?_)
 ·obtain⟨u,y2,y3,y4,y5,hu,rfl⟩:=h;obtain⟨n,rfl,hn⟩:=iV ht;have nb:=hs n (aA hn);have p1:=h512 i;have p2:=h512 (i+1);have pn:=iN (ns:=ns.take i) λ m hm=>(hs m (jA hm)).1;rw[kD hn] at p2
  have es:bR (ns.take (i+1))=(bR (ns.take i)).flatMap λ t=>(List.range n.toNat).map λ k:Nat=>t++[(k:Int)]:=by
   rw[fR,hn];exact Kp (λ m hm=>(hs m (jA hm)).1) nb.1
  have al:=uA (ns.take (i+1));rw[kD hn] at al
  have core:wS (Ft 83) GT (.for [4] .seq (.a1 (.v 1)) (.for [5] .rng (.a1 (.v 2)) (.met .append 3 (.a1 (.bin .Add (.v 4) (.tup (.a1 (.v 5))))) .nil) .nil) (.set 1 (.v 3) .nil)) [some (tI ns),some (.lst ((bR (ns.take i)).map tI)),some (.int n),some (.own []),y4,y5] (λ ρ=>∃(t:TV) (y2 y3 y4 y5:Option TV),(t=.own ((bR (ns.take (i+1))).map tI)\/t=.lst ((bR (ns.take (i+1))).map tI))/\ρ=[some (tI ns),some t,y2,y3,y4,y5]) Q:=by
   refine⟨O,?_⟩;refine bO (λ j ρ=>∃(y4 y5:Option TV),ρ=[some (tI ns),some (.lst ((bR (ns.take i)).map tI)),some (.int n),some (.own ((((bR (ns.take i)).take j).flatMap λ t=>(List.range n.toNat).map λ k:Nat=>t++[(k:Int)]).map tI)),y4,y5]) ⟨_,_,O⟩ (λ j t ρ ht h=>?_) (λ ρ h=>?_)
   ·obtain⟨y4,y5,rfl⟩:=h;obtain⟨a,rfl,ea⟩:=qX ht;have jl:=(bf.mp ea).1;rw[uA] at jl;have tk:(bR (ns.take i)).take (j+1)=(bR (ns.take i)).take j++[a]:=by rw[fR,ea];rfl
    have an:a.length<=20:=by
     rw[Kq ca] at ea;cases ea;rw[dw,bd];lia
    have n5:n<=512:=by
     have j1:1<=ae (ns.take i):=ca;have z:=gW j1 nb.1;lia
    have bl:(((bR (ns.take i)).take (j+1)).flatMap λ t=>(List.range n.toNat).map λ k:Nat=>t++[(k:Int)]).length<=512:=by
     have z:(((bR (ns.take i)).take (j+1)).flatMap λ t=>(List.range n.toNat).map λ k:Nat=>t++[(k:Int)]).length<=((bR (ns.take i)).flatMap λ t=>(List.range n.toNat).map λ k:Nat=>t++[(k:Int)]).length:=by
      conv=>rhs;rw[<- jD (j+1) (bR (ns.take i)),qH,aN]
      lia
     rw[<- es,al] at z;lia
    rw[tk,qH,aN] at bl;simp only[qI,List.flatMap_nil,fG,ao,bQ] at bl;refine⟨O,⟨ca,ca⟩,?_⟩;refine bO (λ k ρ=>∃(y5:Option TV),ρ=[some (tI ns),some (.lst ((bR (ns.take i)).map tI)),some (.int n),some (.own (((((bR (ns.take i)).take j).flatMap λ t=>(List.range n.toNat).map λ k:Nat=>t++[(k:Int)])++(List.range k).map λ k:Nat=>a++[(k:Int)]).map tI)),some (tI a),y5]) ⟨_,by rw[List.range_zero,s1p,fG];rfl⟩ (λ k t ρ ht h=>?_) (λ ρ h=>?_)
    ·obtain⟨y5,rfl⟩:=h;obtain⟨kl,rfl⟩:=bL ht;have ek:∀X:LL,(X++(List.range (k+1)).map λ k:Nat=>a++[(k:Int)]).map tI=(X++(List.range k).map λ k:Nat=>a++[(k:Int)]).map tI++[TV.tup (a.map TV.int++[TV.int ((k:Nat):Int)])]:=λ X=>by simp[oh,tI]
     refine⟨O,g1L,bu (by show(a.map TV.int).length+1<=1000;rw[ag];lia),O,by rw[ao,aN,ao,bQ];exact aP ca,some (.int (k:Nat)),by rw[ek];rfl⟩
    ·obtain⟨y5,rfl⟩:=h;rw[ao,bQ];refine⟨some (tI a),y5,?_⟩;rw[tk,qH];simp only[qI,List.flatMap_nil,fG]
   ·obtain⟨y4,y5,rfl⟩:=h;rw[ao,cy,<- es];exact⟨O,_,_,_,_,_,.inr rfl,O⟩
  rcases hu with rfl|rfl<;>exact⟨rfl,g0L,rfl,core⟩
 ·obtain⟨u,y2,y3,y4,y5,hu,rfl⟩:=h;rw[ag,cy] at hu
  rcases hu with rfl|rfl<;>exact⟨rfl,q⟩
def Qg:ZX 84 111 ["tab","at"] 2 2 CG On:=by
 refine⟨by kernel_rfl,?_⟩;rintro ts Q ⟨A,C,ms,rfl,sd,a20,al,p0,p1,q⟩;refine⟨O,?_⟩;have ex:C[(plH A (ms.take A.length)).toNat]?=some (C.getD (plH A (ms.take A.length)).toNat 0):=by rw[aR,aB p1];rfl
 exact⟨_,O,_,O,_,O,cl rfl ⟨A,ms.take A.length,by show[tI A,TV.tup (ai (ms.map TV.int) none (some (((A.map TV.int).length:Nat):Int)))]=_;rw[ag,dR];rfl,sd,a20,by rw[bd];lia,_,uX p0 ex,O,q⟩ rfl⟩
def Qh:ZX 85 112 ["step","at","own","side","old","i"] 6 3 CH Oo:=by
 refine⟨by kernel_rfl,?_⟩;rintro ts Q ⟨d,A,S,ms,Ss,rfl,mv,ok,eA,a6,s6,ml,mb,q⟩;refine⟨O,?_⟩;have m6:ms.length<=6:=ca
 have ln1:∀ {a b:Option Int},(ai (ms.map TV.int) a b).length+1<=sizeLine:=λ {a b}=>by
  have l1:=db (a:=a) (b:=b) m6;exact bu ca
 have ln2:∀ {a b c d:Option Int}{x:Int},(ai (ms.map TV.int) a b++[TV.int x]).length+(ai (ms.map TV.int) c d).length<=sizeLine:=λ {a b c d x}=>by
  have l1:=db (a:=a) (b:=b) m6;have l2:=db (a:=c) (b:=d) m6;exact bu (by rw[aN,dO];lia)
 cases d with
 |turn a os=>
  obtain⟨A',eA',tk,rfl⟩:=ok;cases eA'.symm.trans eA;have ol:=oB tk;have tl:(bT A os).length=os.length:=ao ..;refine⟨_,O,O,_,O,pv,O,O,⟨ca,by rw[ag];lia⟩,?_⟩;refine bO (λ i ρ=>∃y,ρ=[some (stT (.turn a os)),some (tI ms),some (tI A),some (tI os),some (.own ((fX os ms i).map .int)),y]) ⟨none,by rw[Lp ca];rfl⟩ (λ i t ρ ht h=>?_) (λ ρ h=>?_)
  ·obtain⟨y,rfl⟩:=h;obtain⟨il,rfl⟩:=bL ht;rw[ag,Int.toNat_natCast] at il;have om:=up_mem.mp (tk.subset (mK (ns:=os) (k:=i) il));have sl:=AD os ms i;refine⟨_,bg (show i<ms.length by lia),O,_,bg (ns:=os) il,(os.getD i 0).toNat,?_,some (.int (i:Nat)),?_⟩
   ·have z:=yY (n:=((fX os ms i).map TV.int).length) (k:=(os.getD i 0).toNat) (by rw[ag,sl];lia)
    rwa [iJ om.1] at z
   ·rw[<- Lr tk il,List.map_set];rfl
  ·obtain⟨y,rfl⟩:=h;rw[ao,bQ,ag,Int.toNat_natCast,Lq tk];exact⟨O,q⟩
 |flip a side=>
  obtain⟨e0,no⟩:=ok;cases e0.symm.trans eA;obtain⟨k,rfl,kl⟩:=cZ no;have q':Q (.tup ((ai (ms.map TV.int) none (some (k:Int))++[TV.int (A.getD k 0-1-ms.getD k 0)])++ai (ms.map TV.int) (some ((k:Int)+1)) none)):=by rw[oJ ca];exact q
  exact⟨_,O,O,_,O,pv,_,O,pv,_,bg kl,_,bg ca,O,g1L,ln1,ln2,O,q'⟩
 |cut a side f m g=>
  obtain⟨A',eA',no,nb,m5,rfl⟩:=ok;cases eA'.symm.trans eA;obtain⟨k,rfl,kl⟩:=cZ no;rw[cW] at ml;have mk:=mb _ (mK (ns:=ms) (k:=k) ca);have q':Q (.tup ((ai (ms.map TV.int) none (some (k:Int))++[TV.int (f+ms.getD k 0*g)])++ai (ms.map TV.int) (some ((k:Int)+1)) none)):=by rw[oJ ca];exact q
  exact⟨_,O,O,_,O,pv,_,O,pv,_,O,pv,_,O,_,bg ca,_,O,kU (by unfold inB at mk;lia) (by unfold inB at mk;lia),O,g1L,ln1,ln2,O,q'⟩
 |spread a side m=>
  obtain⟨A',eA',no,m0,m5,nb,rfl⟩:=ok;cases eA'.symm.trans eA;unfold jG at no;obtain⟨k,rfl⟩:∃k:Nat,side=k:=⟨side.toNat,ca⟩;have q':Q (.tup (ai (ms.map TV.int) none (some (k:Int))++ai (ms.map TV.int) (some ((k:Int)+1)) none)):=by rw[erT];exact q
  have l1:=db (a:=none) (b:=some (k:Int)) m6;have l2:=db (a:=some ((k:Int)+1)) (b:=none) m6;exact⟨_,O,O,_,O,pv,_,O,pv,_,O,pv,bu (by show(ai (ms.map TV.int) none (some (k:Int))).length+(ai (ms.map TV.int) (some ((k:Int)+1)) none).length<=1000;lia),O,q'⟩
 |_=>exact mv.elim
def Qi:ZX 86 113 ["step","tabs","at","sides","tab","other","side","length","n","row"] 10 4 CI Op:=by
 refine⟨by kernel_rfl,?_⟩;rintro ts Q ⟨d,Ts,S,mo,i,rfl,pt,gT',hmo,ok,fs,il,q⟩;refine⟨O,?_⟩;have sd:=eJ fs hmo;have s6:=fs.2.1;have al:=dw S i;have gd:=dJ (p:=i) sd ca il;have pe:=kH (p:=i) sd ca il
 cases d with
 |lay a ms=>
  obtain⟨A,ea,nb,pp,rfl⟩:=ok;obtain⟨C,eT⟩:=bI ea;have gC:=(gT' _ (aA eT)).2.1
  have q':Q (.int (C.getD i 0)):=by
   have z:Q (.int ((gT Ts a).2.getD i 0)):=q;rw[aU eT] at z;exact z
  exact⟨_,O,tbT (A,C),aF eT,O,_,O,pv,_,O,cl rfl ⟨S,atD S i,O,sd,ca,al,_,vf pe (by show i<C.length;have:(C.length:Int)=ae A:=gC;lia),O,q'⟩ rfl⟩
 |join a b s=>
  obtain⟨A,B,ea,eb,ll,no,ee,nb,rfl⟩:=ok;obtain⟨C,eT⟩:=bI ea;obtain⟨D,eU⟩:=bI eb;have gA:=gT' _ (aA eT);have gB:=gT' _ (aA eU);have no':=no;obtain⟨k,rfl,hk⟩:=cZ no;simp only[Int.toNat_natCast] at ee;have smA:=kO (bU gA.1 hmo);have smB:=kO (bU gB.1 hmo);have a6:A.length<=6:=gA.1.2.1;have li:(aZ A B k).length=A.length:=by unfold aZ;rw[cW]
  have q':Q (.int (jM A C B D k (atD (aZ A B k) (i:Int)))):=by
   have z:Q (.int (((List.range (ae (aZ (gT Ts a).1 (gT Ts b).1 k)).toNat).map λ i:Nat=>jM (gT Ts a).1 (gT Ts a).2 (gT Ts b).1 (gT Ts b).2 k (atD (aZ (gT Ts a).1 (gT Ts b).1 k) (i:Int))).getD i 0)):=q;rw[aU eT,aU eU,gY (by show i<(ae (aZ A B k)).toNat;lia)] at z;exact z
  clear q;generalize atD (aZ A B k) (i:Int)=At at *;have jne:∀j,j≠k->A[j]?=(aZ A B k)[j]?:=λ j hj=>by unfold aZ;rw[iY (by simpa using λ z=>hj z.symm)]
  have jk:(aZ A B k)[k]?=some (A.getD k 0+B.getD k 0):=by unfold aZ;simp only[Int.toNat_natCast];rw[hE hk]
  have nke:A[k]?=some (A.getD k 0):=by rw[aR,aB hk];rfl
  have mke:B[k]?=some (B.getD k 0):=by rw[aR,aB (show k<B.length by lia)];rfl
  have ake:At[k]?=some (At.getD k 0):=by rw[aR,aB (show k<At.length by lia)];rfl
  have ab:=gd.2 k _ _ ake jk;unfold jM at q';have m6:At.length<=6:=ca;have l1:=db (a:=none) (b:=some (k:Int)) m6;have l2:=db (a:=some ((k:Int)+1)) (b:=none) m6;refine⟨_,O,tbT (A,C),aF eT,O,_,O,pv,_,O,tbT (B,D),aF eU,O,_,O,pv,_,O,O,_,O,_,bg hk,O,_,bg ca,s3 (λ lt=>?_) (λ lt=>?_)⟩
  ·rw[if_pos lt] at q'
   have gn:bD A At:=by
    have:=kP (ms:=A) (w:=A.getD k 0) (y:=At.getD k 0) gd ca jne nke ab.1 lt
    rwa [show At.set k (At.getD k 0)=At from by rw[aR,aB (show k<At.length by lia)];exact s0e _] at this
   have pi:=gU gn;have cA:(C.length:Int)=ae A:=gA.2.1;exact⟨_,O,_,O,cl rfl ⟨A,At,O,fc smA,ca,ca,_,mP pi.1 (by show plH A At<(C.length:Int);lia),O,q'⟩ rfl⟩
  ·have lt:¬At.getD k 0<A.getD k 0:=lt;rw[if_neg lt] at q';have gm:bD B (At.set k (At.getD k 0-A.getD k 0)):=kP gd ca (λ j hj=>by rw[<- (yX ll).mp ee j hj];exact jne j hj) mke ca ca;have pi:=gU gm;have cB:(D.length:Int)=ae B:=gB.2.1;refine⟨_,O,_,O,_,bg ca,O,g1L,bu (by show(ai (At.map TV.int) none (some (k:Int))).length+1<=1000;lia),bu (by show(ai (At.map TV.int) none (some (k:Int))++[TV.int (At.getD k 0-A.getD k 0)]).length+(ai (At.map TV.int) (some ((k:Int)+1)) none).length<=1000;rw[aN,dO];lia),cl rfl ⟨B,At.set k (At.getD k 0-A.getD k 0),?_,fc smB,ca,by rw[cW];lia,_,mP pi.1 (by show plH B (At.set k (At.getD k 0-A.getD k 0))<(D.length:Int);lia),O,q'⟩ rfl⟩;show[tI B,TV.tup ((ai (At.map TV.int) none (some (k:Int))++[TV.int (At.getD k 0-A.getD k 0)])++ai (At.map TV.int) (some ((k:Int)+1)) none)]=_;rw[oJ ca];rfl
 |fetch a b=>
  obtain⟨n,r,B,ea,n0,eb,nb,rfl⟩:=ok;obtain⟨C,eT⟩:=bI ea;obtain⟨D,eU⟩:=bI eb;have gA:=gT' _ (aA eT);have gB:=gT' _ (aA eU);have sA:=eJ gA.1 hmo;have sB:=eJ gB.1 hmo;have hn:=sA n bo;have sr:aD r:=λ m hm=>sA m (aE _ hm);have a6:(n::r).length<=6:=gA.1.2.1;have b6:B.length<=6:=gB.1.2.1;rw[List.length_cons] at a6;have cA:(C.length:Int)=ae (n::r):=gA.2.1;have cB:(D.length:Int)=ae B:=gB.2.1
  have q':Q (.int (C.getD ((D.getD ((i:Int)/ae r).toNat 0)%n*ae r+(i:Int)%ae r).toNat 0)):=by
   have z:Q (.int (((List.range (ae ((gT Ts b).1++(gT Ts a).1.tail)).toNat).map (oC ((gT Ts a).1.headD 0) (gT Ts a).1.tail (gT Ts a).2 (gT Ts b).2)).getD i 0)):=q;rw[aU eT,aU eU,gY (by show i<(ae (B++r)).toNat;lia)] at z;exact z
  clear q;have rp:∀m∈r,0<m:=λ m hm'=>oo sd ca il m (cu _ hm');have rpos:=mF rp;have il':=il;rw[qG] at il';have dv:=zu rpos ca il';have md:0<=(i:Int)%ae r/\(i:Int)%ae r<ae r:=⟨du _ ca,dH _ rpos⟩;rw[uz B r rp];have lm:=dw B ((i:Int)/ae r);have lr:=dw r ((i:Int)%ae r);have gm:=dJ sB dv.1 dv.2;have gr:=dJ sr md.1 md.2;have em:=kH sB dv.1 dv.2;have er:=kH sr md.1 md.2;clear gd pe al;generalize (i:Int)/ae r=dI at *;generalize (i:Int)%ae r=mI at *;generalize atD B dI=Am at *;generalize atD r mI=Ar at *;have tk:(Am++Ar).take B.length=Am:=by rw[<- lm,List.take_left]
  have row0:∀x:Int,0<=x%n/\x%n<n:=λ x=>⟨du _ n0,dH _ ca⟩;have c2:ai ((Am++Ar).map TV.int) (some (((B.map TV.int).length:Nat):Int)) none=Ar.map TV.int:=by rw[ag,fk,<- lm,List.drop_left]
  have lc:(ai ((Am++Ar).map TV.int) (some (((B.map TV.int).length:Nat):Int)) none).length<=6:=by rw[c2,ag];lia
  have gg:=zr gr (row0 (D.getD (plH B Am).toNat 0)).1 (row0 (D.getD (plH B Am).toNat 0)).2;have pi:=gU gg;have dvn:∀x:Int,x-aM x n*n=x%n:=λ x=>by rw[qZ ca];have:=s1v x n;rw[gH] at this;lia
  refine⟨_,O,tbT (n::r,C),aF eT,O,_,O,pv,_,O,tbT (B,D),aF eU,O,_,O,pv,cl rfl ⟨B,D,Am++Ar,O,sB,ca,by rw[aN];lia,by rw[tk,em];exact dv.1,by rw[tk,em];lia,O,_,O,.int n,ik (j:=0) rfl,⟨n0,ca,ca⟩,_,O,.int n,ik (j:=0) rfl,eK ca ca,O,?_⟩ rfl⟩;rw[tk,dvn];refine⟨_,O,_,O,O,g1L,_,O,bu (by show 1+(ai ((Am++Ar).map TV.int) (some (((B.map TV.int).length:Nat):Int)) none).length<=1000;lia),cl rfl ⟨n::r,(D.getD (plH B Am).toNat 0%n)::Ar,?_,sA,by rw[List.length_cons];lia,by rw[List.length_cons,List.length_cons,lr],.int (C.getD (plH (n::r) ((D.getD (plH B Am).toNat 0%n)::Ar)).toNat 0),mP pi.1 (by show plH (n::r) ((D.getD (plH B Am).toNat 0%n)::Ar)<(C.length:Int);lia),O,?_⟩ rfl⟩
  ·show[tI (n::r),TV.tup ([TV.int (D.getD (plH B Am).toNat 0%n)]++ai ((Am++Ar).map TV.int) (some (((B.map TV.int).length:Nat):Int)) none)]=_;rw[c2];rfl
  ·show Q (.int (C.getD (plH (n::r) ((D.getD (plH B Am).toNat 0%n)::Ar)).toNat 0));rw[kI,er,em];exact q'
 |_=>exact pt.elim
def Qj:ZX 87 114 ["step","tabs","at","told","tab","side","start","k"] 8 4 CJ Oq:=by
 refine⟨by kernel_rfl,?_⟩;rintro ts Q ⟨d,Ts,S,mo,i,rfl,pt,gT',hmo,ok,fs,il,q⟩;refine⟨O,?_⟩;have sd:=eJ fs hmo;have s6:=fs.2.1;have al:=dw S i;have gd:=dJ (p:=i) sd ca il;have pe:=kH (p:=i) sd ca il
 cases d with
 |fold w a s=>
  obtain⟨A,ea,hw,no,rfl⟩:=ok;obtain⟨C,eT⟩:=bI ea;have gA:=gT' _ (aA eT);obtain⟨k,rfl,hk⟩:=cZ no;have sA:aD A:=eJ gA.1 hmo;have a6:A.length<=6:=gA.1.2.1;have cA:(C.length:Int)=ae A:=gA.2.1;have cb:∀c∈C,inB c:=gA.2.2;have hA:=(bU gA.1 hmo).1 _ (mK (ns:=A) hk);obtain⟨j,z,n1,n2,n3,n4⟩:=AZ hw
  have q':Q (.int (mL w (bc w) A C k (atD (A.eraseIdx k) (i:Int)) (A.getD k 0).toNat)):=by
   have z:Q (.int ((jL w (gT Ts a).1 (gT Ts a).2 k).getD i 0)):=q;unfold jL at z;rw[aU eT,gY (by show i<(ae (A.eraseIdx k)).toNat;have:=il;simp only[Int.toNat_natCast] at this;lia)] at z;exact z
  clear q;simp only[Int.toNat_natCast] at *;rw[oA,if_pos hk] at al;generalize atD (A.eraseIdx k) (i:Int)=At at *;refine⟨_,O,tbT (A,C),aF eT,O,_,O,O,p63,p63,O,g7L,O,g7L,_,O,O,Ba,j,z,n1,n2,n3,_,n4,O,_,O,pv,_,O,_,bg hk,O,⟨by show -(2 ^ 62)<=A.getD k 0;lia,by show A.getD k 0<2 ^ 62;lia⟩,?_⟩;refine bO (λ n ρ=>∃y,ρ=[some (stT (.fold w a (k:Int))),some (.tup (Ts.map tbT)),some (tI At),some (tbT (A.eraseIdx k,bB Ts (.fold w a (k:Int)))),some (tbT (A,C)),some (.int (k:Int)),some (.int (mL w (bc w) A C k At n)),y]) ⟨_,O⟩ (λ n t ρ ht h=>?_) (λ ρ h=>?_)
  ·obtain⟨y,rfl⟩:=h;obtain⟨nl,rfl⟩:=bL ht;have nl:n<(A.getD k 0).toNat:=nl;have gi:=Ay hk gd (y:=(n:Int)) ca ca;have pi:=gU gi;have l1:=db (A:=At) (a:=none) (b:=some (k:Int)) ca;have l2:=db (A:=At) (a:=some (k:Int)) (b:=none) ca;have ci:inB (C.getD (plH A (aY At k (n:Int))).toNat 0):=gK cb _;refine⟨_,O,_,O,_,O,O,g1L,bu (by show(ai (At.map TV.int) none (some (k:Int))).length+1<=1000;lia),bu (by show(ai (At.map TV.int) none (some (k:Int))++[TV.int (n:Int)]).length+(ai (At.map TV.int) (some (k:Int)) none).length<=1000;rw[aN,dO];lia),cl rfl ⟨A,aY At k (n:Int),?_,sA,ca,by rw[qL];lia,_,mP pi.1 (by show plH A (aY At k (n:Int))<(C.length:Int);lia),cl rfl ⟨w,_,_,O,oD hw,qR hw (jK w) cb n,ci,O,some (.int (n:Nat)),O⟩ rfl⟩ rfl⟩;show[tI A,TV.tup ((ai (At.map TV.int) none (some (k:Int))++[TV.int (n:Int)])++ai (At.map TV.int) (some (k:Int)) none)]=_;rw[AQ];rfl
  ·obtain⟨y,rfl⟩:=h;rw[ao,bQ];exact⟨O,q'⟩
 |run w a s=>
  obtain⟨ea,hw,no⟩:=ok;obtain⟨C,eT⟩:=bI ea;have gA:=gT' _ (aA eT);obtain⟨k,rfl,hk⟩:=cZ no;have cA:(C.length:Int)=ae S:=gA.2.1;have cb:∀c∈C,inB c:=gA.2.2
  have eF:bB Ts (.run w a (k:Int))=fj w S C k:=by
   show fj w (gT Ts a).1 (gT Ts a).2 k=_;rw[aU eT]
  have np:=oo sd ca il;have sp:=mF (ns:=S.drop (k+1)) λ n hn=>np n (kJ hn);have ck:=Ln (p:=(i:Int)) hk np;have rl:(fj w S C k).length=C.length:=by unfold fj;rw[kR]
  have ri:∀c∈fj w S C k,inB c:=qQ hw (jK _) cb (ay _);have ra:(fj w S C k).getD i 0=aW w (if (i:Int)/ae (S.drop (k+1))%S.getD k 0=0 then bc w else (fj w S C k).getD ((i:Int)-ae (S.drop (k+1))).toNat 0) (C.getD i 0):=Lo ca sp;rw[eF,ra,<- ck] at q;rw[eF];obtain⟨j,z,n1,n2,n3,n4⟩:=AZ hw;clear ra eF;generalize fj w S C k=R at *;generalize atD S (i:Int)=At at *;have ake:At[k]?=some (At.getD k 0):=by rw[aR,aB (show k<At.length by lia)];rfl
  have ske:S[k]?=some (S.getD k 0):=by rw[aR,aB hk];rfl
  have ab:=gd.2 k _ _ ake ske;have m6:At.length<=6:=ca;have l1:=db (a:=none) (b:=some (k:Int)) m6;have l2:=db (a:=some ((k:Int)+1)) (b:=none) m6;have ps:=AB (ns:=S) (ms:=At) (k:=k) (y:=At.getD k 0-1) al hk;rw[show At.getD k 0-1-At.getD k 0=-1 by lia,Int.neg_mul,mD,pe] at ps
  have tl:∀x:Int,inB x->Q (.int (aW w x (C.getD i 0)))->wS (Ft 87) GT (.ret (.call 82 (.a3 (.ix (.v 0) (.n 1)) (.v 6) (.ix (.ix (.v 4) (.n 1)) (.call 78 (.a2 (.ix (.v 4) (.n 0)) (.v 2))))))) [some (stT (.run w a (k:Int))),some (.tup (Ts.map tbT)),some (tI At),some (tbT (S,R)),some (tbT (S,C)),some (.int (k:Int)),some (.int x),none] (λ _=>Q .non) Q:=λ x hx qx=>
   ⟨_,rfl,_,rfl,_,rfl,cl rfl ⟨S,At,rfl,sd,ca,ca,_,vf pe (by show i<C.length;lia),cl rfl ⟨w,x,_,rfl,oD hw,hx,gK cb _,rfl,qx⟩ rfl⟩ rfl⟩
  refine⟨_,O,tbT (S,C),aF eT,O,_,O,O,p63,p63,O,g7L,O,g7L,_,O,O,Ba,j,z,n1,n2,n3,_,n4,O,_,O,pv,_,bg ca,s3 (λ lt=>?_) (λ lt=>?_)⟩
  ·rw[if_neg ca] at q;have gp:bD S (At.set k (At.getD k 0-1)):=kP gd rfl (λ _ _=>rfl) ske ca ca;have pi:=gU gp;refine⟨_,O,_,O,_,bg ca,O,g1L,bu (by show(ai (At.map TV.int) none (some (k:Int))).length+1<=1000;lia),bu (by show(ai (At.map TV.int) none (some (k:Int))++[TV.int (At.getD k 0-1)]).length+(ai (At.map TV.int) (some ((k:Int)+1)) none).length<=1000;rw[aN,dO];lia),cl rfl ⟨S,At.set k (At.getD k 0-1),?_,sd,ca,by rw[cW];lia,_,mP pi.1 (by show plH S (At.set k (At.getD k 0-1))<(R.length:Int);lia),O,tl _ (gK ri _) ?_⟩ rfl⟩
   ·show[tI S,TV.tup ((ai (At.map TV.int) none (some (k:Int))++[TV.int (At.getD k 0-1)])++ai (At.map TV.int) (some ((k:Int)+1)) none)]=_;rw[oJ ca];rfl
   ·rw[ps];exact q
  ·rw[if_pos ca] at q;exact tl _ (jK w) q
 |_=>exact pt.elim
def Qk:ZX 88 115 ["step","tabs","at","told","tab"] 5 4 CK Os:=by
 refine⟨by kernel_rfl,?_⟩;rintro ts Q ⟨d,Ts,S,mo,i,rfl,ni,gT',hmo,ok,fs,il,q⟩;refine⟨O,?_⟩;have sd:=eJ fs hmo;have s6:=fs.2.1;have al:=dw S i;have gd:=dJ (p:=i) sd ca il
 have hr:∀(A C:LI),TbG mo (A,C)->S.take A.length=A->aD A/\A.length<=20/\A.length<=(atD S (i:Int)).length/\0<=plH A ((atD S (i:Int)).take A.length)/\(plH A ((atD S (i:Int)).take A.length)).toNat<C.length:=λ A C g hp=>by
  have gt:=Ml hp sd il;have pi:=gU gt;have cl:(C.length:Int)=ae A:=g.2.1;have a6:A.length<=6:=g.1.2.1;have hl:=bE List.length hp;rw[bd] at hl;exact⟨eJ g.1 hmo,ca,ca,pi.1,ca⟩
 have mb:=Mq (bU fs hmo) gd;have a20:∀ {T:Tb},TbG mo T->T.1.length<=20:=λ {T} g=>by have:T.1.length<=6:=g.1.2.1;lia
 have clp:∀(A C ms:LI),TbG mo (A,C)->bD A ms->atI (C.map TV.int) (plH A ms)=some (.int (C.getD (plH A ms).toNat 0)):=λ A C ms g gm=>by
  have pi:=gU gm;have cl:(C.length:Int)=ae A:=g.2.1;exact mP pi.1 ca
 cases d with
 |inp ms=>exact absurd rfl (ni ms)
 |num n=>
  obtain⟨rfl,nu⟩:=ok;have i0:i=0:=by have:ae []=1:=rfl;lia
  subst i0
  have q':Q (.int n):=by
   have z:Q (.int (cD n)):=q
   rwa [zM nu] at z
  exact⟨_,O,pv,_,O,O,q'⟩
 |count ms k=>
  obtain⟨rfl,nb,no⟩:=ok;obtain⟨k,rfl,hk⟩:=cZ no
  have q':Q (.int ((atD S (i:Int)).getD k 0)):=by
   have z:Q (.int ((uR S (k:Int)).getD i 0)):=q;unfold uR at z;rw[gY ca] at z;exact z
  exact⟨_,O,pv,_,O,pv,_,O,_,bg ca,O,q'⟩
 |each w a=>
  obtain⟨ea,hw⟩:=ok;obtain⟨C,eT⟩:=bI ea;have gA:=gT' _ (aA eT);have cA:(C.length:Int)=ae S:=gA.2.1
  have q':Q (.int (eH w (bx S C S i))):=by
   have z:Q (.int (((gT Ts a).2.map (eH w)).getD i 0)):=q;rw[aU eT,Mp (by show i<C.length;lia)] at z;rw[Mn sd il];exact z
  exact⟨_,O,pv,_,O,pv,_,O,pv,_,O,_,O,tbT (S,C),aF eT,cl rfl ⟨S,C,_,O,(hr S C gA (cy ..)).1,(hr S C gA (cy ..)).2.1,(hr S C gA (cy ..)).2.2.1,(hr S C gA (cy ..)).2.2.2.1,(hr S C gA (cy ..)).2.2.2.2,cl rfl ⟨w,_,O,hw,ou gA.2.2,O,q'⟩ rfl⟩ rfl⟩
 |pair w a b=>
  obtain⟨A,B,ea,eb,hw,po,rfl⟩:=ok;obtain⟨C,eT⟩:=bI ea;obtain⟨D,eU⟩:=bI eb;have gA:=gT' _ (aA eT);have gB:=gT' _ (aA eU);obtain⟨p1,p2⟩:=qK po
  have q':Q (.int (aW w (bx A C (au A B) i) (bx B D (au A B) i))):=by
   have z:Q (.int ((prC w (gT Ts a).1 (gT Ts a).2 (gT Ts b).1 (gT Ts b).2 (au (gT Ts a).1 (gT Ts b).1)).getD i 0)):=q;rw[aU eT,aU eU,Mm il] at z;exact z
  exact⟨_,O,pv,_,O,pv,_,O,pv,_,O,pv,_,O,_,O,tbT (A,C),aF eT,cl rfl ⟨A,C,_,O,(hr A C gA p1).1,(hr A C gA p1).2.1,(hr A C gA p1).2.2.1,(hr A C gA p1).2.2.2.1,(hr A C gA p1).2.2.2.2,_,O,tbT (B,D),aF eU,cl rfl ⟨B,D,_,O,(hr B D gB p2).1,(hr B D gB p2).2.1,(hr B D gB p2).2.2.1,(hr B D gB p2).2.2.2.1,(hr B D gB p2).2.2.2.2,cl rfl ⟨w,_,_,O,hw,ou gA.2.2,ou gB.2.2,O,q'⟩ rfl⟩ rfl⟩ rfl⟩
 |pick a b c=>
  obtain⟨A,B,F,ea,eb,ec,po,po2,rfl⟩:=ok;obtain⟨C,eT⟩:=bI ea;obtain⟨D,eU⟩:=bI eb;obtain⟨E,eV⟩:=bI ec;have gA:=gT' _ (aA eT);have gB:=gT' _ (aA eU);have gC:=gT' _ (aA eV);obtain⟨p1,p2,p3⟩:=zO po po2
  have q':Q (.int (if bx A C (au (au A B) F) i≠0 then bx B D (au (au A B) F) i else bx F E (au (au A B) F) i)):=by
   have z:Q (.int ((pkC (gT Ts a).1 (gT Ts a).2 (gT Ts b).1 (gT Ts b).2 (gT Ts c).1 (gT Ts c).2 (au (au (gT Ts a).1 (gT Ts b).1) (gT Ts c).1)).getD i 0)):=q;rw[aU eT,aU eU,aU eV] at z;unfold pkC at z;rw[gY (by show i<(ae (au (au A B) F)).toNat;lia)] at z;exact z
  refine⟨_,O,pv,_,O,pv,_,O,pv,_,O,pv,_,O,pv,_,O,tbT (A,C),aF eT,cl rfl ⟨A,C,_,O,(hr A C gA p1).1,(hr A C gA p1).2.1,(hr A C gA p1).2.2.1,(hr A C gA p1).2.2.2.1,(hr A C gA p1).2.2.2.2,pv,?_⟩ rfl⟩;by_cases v0:bx A C (au (au A B) F) i=0
  ·rw[if_neg (λ z=>z v0)] at q';unfold bx at v0;rw[v0];exact⟨_,O,tbT (F,E),aF eV,cl rfl ⟨F,E,_,O,(hr F E gC p3).1,(hr F E gC p3).2.1,(hr F E gC p3).2.2.1,(hr F E gC p3).2.2.2.1,(hr F E gC p3).2.2.2.2,O,q'⟩ rfl⟩
  ·rw[if_pos v0] at q';unfold bx at v0;rw[show _L.eqT (TV.int (C.getD (plH A (List.take A.length (atD (au (au A B) F) (i:Int)))).toNat 0)).fz (TV.int 0).fz=false from bq v0];exact⟨_,O,tbT (B,D),aF eU,cl rfl ⟨B,D,_,O,(hr B D gB p2).1,(hr B D gB p2).2.1,(hr B D gB p2).2.2.1,(hr B D gB p2).2.2.2.1,(hr B D gB p2).2.2.2.2,O,q'⟩ rfl⟩
 |turn a os=>
  obtain⟨A,ea,tk,rfl⟩:=id ok;obtain⟨C,eT⟩:=bI ea;have gA:=gT' _ (aA eT);have gf:=AC tk gd
  have q':Q (.int (C.getD (plH A (dQ os (atD (bT A os) (i:Int)))).toNat 0)):=by
   have z:Q (.int ((cE (gT Ts a).1 (gT Ts a).2 (bT (gT Ts a).1 os) (dQ os)).getD i 0)):=q;rw[aU eT] at z;unfold cE at z;rw[gY (by show i<(ae (bT A os)).toNat;lia)] at z;exact z
  exact⟨_,O,pv,_,O,pv,_,O,pv,_,O,pv,_,O,pv,_,O,O,g4L,O,oM,_,O,tbT (A,C),aF eT,O,_,O,_,O,_,O,cl rfl ⟨_,A,_,_,Ts.map (·.1),O,pv,ok,ea,gA.1.2.1,s6,al,mb,cl rfl ⟨A,_,O,eJ gA.1 hmo,a20 gA,gf.1,_,clp A C _ gA gf,O,q'⟩ rfl⟩ rfl⟩
 |flip a side=>
  obtain⟨ea,no⟩:=id ok;obtain⟨C,eT⟩:=bI ea;obtain⟨k,rfl,hk⟩:=cZ no;have gA:=gT' _ (aA eT);have gf:=AE hk gd
  have q':Q (.int (C.getD (plH S (iQ S k (atD S (i:Int)))).toNat 0)):=by
   have z:Q (.int ((cE (gT Ts a).1 (gT Ts a).2 (gT Ts a).1 (iQ (gT Ts a).1 k)).getD i 0)):=q;rw[aU eT] at z;unfold cE at z;rw[gY (by show i<(ae S).toNat;lia)] at z;exact z
  exact⟨_,O,pv,_,O,pv,_,O,pv,_,O,pv,_,O,pv,_,O,O,g4L,O,oM,_,O,tbT (S,C),aF eT,O,_,O,_,O,_,O,cl rfl ⟨_,S,_,_,Ts.map (·.1),O,pv,ok,ea,gA.1.2.1,s6,al,mb,cl rfl ⟨S,_,O,eJ gA.1 hmo,a20 gA,gf.1,_,clp S C _ gA gf,O,q'⟩ rfl⟩ rfl⟩
 |cut a side f m g=>
  obtain⟨A,ea,no,nb,m5,rfl⟩:=id ok;obtain⟨C,eT⟩:=bI ea;obtain⟨k,rfl,hk⟩:=cZ no;have gA:=gT' _ (aA eT);have gf:=AF hk nb gd
  have q':Q (.int (C.getD (plH A (iR k f g (atD (A.set k m) (i:Int)))).toNat 0)):=by
   have z:Q (.int ((cE (gT Ts a).1 (gT Ts a).2 ((gT Ts a).1.set k m) (iR k f g)).getD i 0)):=q;rw[aU eT] at z;unfold cE at z;rw[gY (by show i<(ae (A.set k m)).toNat;exact Int.lt_toNat.mpr il)] at z;exact z
  exact⟨_,O,pv,_,O,pv,_,O,pv,_,O,pv,_,O,pv,_,O,O,g4L,O,oM,_,O,tbT (A,C),aF eT,O,_,O,_,O,_,O,cl rfl ⟨_,A,_,_,Ts.map (·.1),O,pv,ok,ea,gA.1.2.1,s6,al,mb,cl rfl ⟨A,_,O,eJ gA.1 hmo,a20 gA,gf.1,_,clp A C _ gA gf,O,q'⟩ rfl⟩ rfl⟩
 |spread a side m=>
  obtain⟨A,ea,no,m0,m5,nb,rfl⟩:=id ok;obtain⟨C,eT⟩:=bI ea;have gA:=gT' _ (aA eT);have no':=no;unfold jG at no';obtain⟨k,rfl⟩:∃k:Nat,side=k:=⟨side.toNat,ca⟩
  have gf:bD A ((atD (aY A k m) (i:Int)).eraseIdx k):=by
   have z:=Au k gd;simp only[Int.toNat_natCast] at z
   rwa [Av ca] at z
  have q':Q (.int (C.getD (plH A ((atD (aY A k m) (i:Int)).eraseIdx k)).toNat 0)):=by
   have z:Q (.int (((List.range (ae (aY (gT Ts a).1 k m)).toNat).map (qS (gT Ts a).1 (gT Ts a).2 k m)).getD i 0)):=q;rw[aU eT,gY (by show i<(ae (aY A k m)).toNat;exact Int.lt_toNat.mpr il)] at z;exact z
  exact⟨_,O,pv,_,O,pv,_,O,pv,_,O,pv,_,O,pv,_,O,O,g4L,O,oM,_,O,tbT (A,C),aF eT,O,_,O,_,O,_,O,cl rfl ⟨_,A,_,_,Ts.map (·.1),O,pv,ok,ea,gA.1.2.1,s6,al,mb,cl rfl ⟨A,_,O,eJ gA.1 hmo,a20 gA,gf.1,_,clp A C _ gA gf,O,q'⟩ rfl⟩ rfl⟩
 |_=>exact⟨_,rfl,trivial,_,rfl,trivial,_,rfl,trivial,_,rfl,trivial,_,rfl,trivial,_,rfl,rfl,g4L,rfl,oM,_,rfl,rfl,g2L,rfl,Mr,by first|exact cl rfl ⟨_,Ts,S,mo,i,rfl,trivial,gT',hmo,ok,fs,il,rfl,q⟩ rfl|exact⟨_,rfl,cl rfl ⟨_,Ts,S,mo,i,rfl,trivial,gT',hmo,ok,fs,il,rfl,q⟩ rfl⟩⟩
def Ql:ZX 89 116 ["script","steps","outs","sides","inputs","found","used","k","due"] 9 1 CL Ot:=by
 refine⟨by kernel_rfl,?_⟩;rintro ts Q ⟨ns,rfl,h63,q⟩;refine⟨O,?_⟩;obtain⟨ms,e8,m8,_⟩:=Me ns 1 41;have hmo:cq (2+aH (kF ns 0) 23):=by rw[cr fu];exact⟨ca,ca⟩
 refine cl rfl ⟨ns,0,O,fu,cl rfl ⟨ms,2+aH (kF ns 0) 23,by show[TV.lst (ai (ns.map TV.int) (some ((1:Nat):Int)) (some ((41:Nat):Int))),TV.int (2+aH (kF ns 0) 23)]=_;rw[e8];rfl,ca,hmo,λ ds Ss os gd=>?_⟩ rfl⟩ rfl;generalize 2+aH (kF ns 0) 23=mo at *;obtain⟨_,gl,d0,d40,o0,o8,ob⟩:=id gd;have dS:=gl.1;refine cl rfl ⟨ns,ds,Ss,mo,O,h63,gl,hmo,d40,λ Is eI gI=>⟨O,?_⟩⟩ rfl;refine⟨O,g2L,cl rfl ⟨ds,Ss,os,mo,Is,O,gd,eI,gI,O,?_⟩ rfl⟩;obtain⟨gN1,gN2⟩:=uW hmo gl eI gI ds.length (ay _);have gN0:Ss.take ds.length=Ss:=by rw[dS,cy]
 rw[gN0] at gN1;have tl:=iU ds Ss Is ds.length;refine⟨pv,sF (neF (by rw[ao,tl,ao])) ⟨O,O,⟨ca,by rw[ao];lia⟩,?_⟩⟩;refine bO (λ i ρ=>∃y7 y8,ρ=[some (lI ns),some (.tup (ds.map stT)),some (tI os),some (.lst (Ss.map tI)),some (.tup (Is.map tbT)),some (.tup ((bp ds Ss Is ds.length).map tbT)),some (.int (((bj (ds.take i)).length:Nat):Int)),y7,y8]) ⟨_,_,O⟩ (λ k t ρ ht h=>?_) (λ ρ h=>?_)
 ·obtain⟨y7,y8,rfl⟩:=h;obtain⟨kl,rfl⟩:=bL ht;rw[ao,Int.toNat_natCast] at kl;have ed:=aB kl;generalize ds[k]=d at ed;have eS:=aB (show k<Ss.length by lia);generalize Ss[k]=S at eS;have fs:=gl.2.1 S (aA eS);have ok:=gl.2.2 k d S ed eS;obtain⟨C,eC⟩:=bI (Ts:=bp ds Ss Is ds.length) (by rw[gN1];exact eS);have gC:=gN2 _ (aA eC);have cl':(C.length:Int)=ae S:=gC.2.1;refine⟨tbT (S,C),aF eC,tI S,aF eS,cl rfl ⟨S,C,O,bU fs hmo,cl',gC.2.2,?_⟩ rfl⟩;refine⟨stT d,aF ed,_,AT d,pv,s2 (λ h=>?_) (λ h=>?_)⟩
  ·rw[AU] at h;obtain⟨ms,rfl⟩:=oE (aC h);have a:=uV ed;rw[<- eI,aQ] at a;obtain⟨T,eT,_⟩:=mM.mp a;have eU:=Lz (Ss:=Ss) ed eT;rw[eC] at eU;cases eU;refine⟨tbT (S,C),aF eC,tbT (S,C),aF eT,AW _,sF (by rw[show _L.eqT (tbT (S,C)).fz (tbT (S,C)).fz=true from _L.eqT_self (AW _)];rfl) ⟨O,?_⟩⟩;exact⟨_,_,by rw[kS ed,aN];rfl⟩
  ·rw[AU] at h;have ni:∀ms,d≠.inp ms:=λ ms z=>by subst z;exact absurd (show decide ((0:Nat)=0)=false from h) fu
   have eU:=LB (Is:=Is) ed ni eS;rw[eC] at eU;have al:=As ok
   have eF:bB (bp ds Ss Is ds.length) d=C:=by
    have z:=LD (Ts:=bp ds Ss Is k) (Us:=bp ds Ss Is ds.length) (f:=λ a=>a) (d:=d) (λ a ha=>by
     have ak:=al a ha;rw[bd] at ak;unfold gT
     rw[aR,aR,qV (show a<ds.length by lia),qV (n:=k) ca])
    rw[Bb] at z;rw[z];cases eU;rfl
   have okk:OkS ((bp ds Ss Is ds.length).map (·.1)) S d:=by
    rw[gN1];have z:=LC (Zs:=Ss) (f:=λ a=>a) ok (λ a ha A e=>by rw[qz] at e;split at e;exact e;cases e)
    rwa [Bb] at z
   have p5:=bS (cH fs);have ft:=bU fs hmo;have p512:=ft.2.2.2;have sd:=eJ fs hmo;have s6:=fs.2.1;have an:(bR S).map tI=(List.range (ae S).toNat).map λ p:Nat=>tI (atD S (p:Int)):=by unfold bR;rw[br];rfl
   refine⟨tI S,aF eS,cl rfl ⟨S,O,sd,ca,?_,?_⟩ rfl⟩
   ·exact λ i=>kM (Kv (cH fs) i) p512
   refine⟨by rw[ao,uA];exact aP ca,oF an (λ p:Nat=>TV.int (C.getD p 0)) (λ p hp=>?_) ?_⟩
   ·have pl:=fq.mp hp;exact⟨stT d,aF ed,tbT (S,C),aF eC,cl rfl ⟨d,bp ds Ss Is ds.length,S,mo,p,by rw[eF];rfl,ni,gN2,hmo,okk,fs,ca,O,by rw[eF];rfl⟩ rfl⟩
   ·rw[Mt (show C.length=(ae S).toNat by lia)];have e2:bj (ds.take (k+1))=bj (ds.take k):=by rw[kS ed,uS (λ z=>by obtain⟨ms,e⟩:=oE z;exact ni ms e)];simp
    rw[e2];exact⟨O,tbT (S,C),aF eC,_,O,dpL C,sF (by show(!_L.eqT (TV.lst (C.map TV.int)) (TV.lst (C.map TV.int)))=false;rw[_L.eqT_self (dpL C)];rfl) ⟨_,_,O⟩⟩
 ·obtain⟨y7,y8,rfl⟩:=h;exact⟨O,q⟩
def glt_ex{K:FG}{st:Stmt}{oc:Value}{od an:OA}{osl:AV}{kV doc pm ct:Value}{oc2:Value}{od2:OA}{vs:Array Value}{sl2:AV}(a:W.nsIn K mainGlobals x=some (some (.ref f)))(l:K.lookup f=some ⟨oc,od,.func (W.fnOf x x (cQ st) (bv st) (ax st) .none kV doc pm an (.ref c) ct),osl⟩)(q:W.codeIn K (.ref c) x=true)(k:W.keepIn K (.ref f)=true)(h4:K.lookup c=some ⟨oc2,od2,.fields vs,sl2⟩)(h5:vs[11]?=some (.ref T)):∃f fd c,GlT' K x st f fd c T:=⟨_,_,_,⟨wg l q k,a⟩,rfl,Hj a l rfl h4 h5⟩
noncomputable def rk(K:FG)(ts:List Addr):Sp:=λ vs H Q _=>∃(a:Addr) (ns:LI),vs=[.ref a]/\SqL K H a (ns.map V.int)/\ns.length<=63/\(∀T∈ts,H T=some (.tbl #[]))/\∀H',Q (.bl true) H'
def fx{α:Type}{p:α->Prop}{a:α}{l:List α}(h:p a)(t:∀n∈l,p n):∀n∈a::l,p n:=λ n hn=>by
 rcases aL.mp hn with rfl|z
 ·exact h
 ·exact t n z
def fx0{α:Type}{p:α->Prop}:∀n∈([]:List α),p n:=λ _ h=>nomatch h
noncomputable def pT(p:Str×List (Str×Int)):TV:=.tup [.str p.1,.tup (p.2.map λ q=>.tup [.str q.1,.int q.2])]
theorem CO{K:FG}:∀ {fs:List (Str×Int)}{xs:List V},ur K fs xs->RpL K F H (fs.map λ q=>.tup [.str q.1,.int q.2]) xs
 |[],[],_=>rfl
 |[],_::_,h=>h.elim
 |_::_,[],h=>h.elim
 |f::fs,y::ys,⟨⟨a,e,k⟩,h2⟩=>⟨y,ys,rfl,⟨a,_,e,k.sq,_,_,rfl,rfl,_,_,rfl,rfl,rfl⟩,CO h2⟩
theorem CP{K:FG}:∀ {fs:List (Str×List (Str×Int))}{kvs:LA},ut K fs kvs->∀y t,dlk (fs.map pT) y=some t->∃a,kvs.lookup y=some a/\∀F H,Rp K F H t (.ref a)
 |[],_,_,y,t,e=>nomatch e
 |_::_,[],h,_,_,_=>h.elim
 |(g,gs)::fs,(p,pa)::ps,h,y,t,e=>by
  obtain⟨⟨e1,xs,k1,k2⟩,h2⟩:=h;cases (show p=g from e1);have e:(if decide (g=y)=true then some (TV.tup (gs.map λ q=>.tup [.str q.1,.int q.2])) else dlk (fs.map pT) y)=some t:=e;rw[fJ];by_cases c:g=y
  ·subst c;rw[if_pos (cY rfl)] at e;cases e;rw[show(g == g)=true from lL g];exact⟨pa,O,λ F H=>⟨pa,xs,O,k1.sq,CO k2⟩⟩
  ·rw[if_neg (by rw[bq c];decide)] at e;rw[show(y == g)=false from rq.mpr λ z=>c z.symm];exact CP h2 y t e
def kts{K:FG}{sl:AV}(h:K.lookup a=some ⟨.type "tuple",none,.seq #[.str x t,.int i u] n,sl⟩):KTup K a [.str x,.int i]:=og h (small (show(2:Nat)<=1000 by decide)) (.cons ⟨_,rfl⟩ (.cons ⟨_,rfl⟩ .nil))
def ktr1{K:FG}{sl:AV}(h:K.lookup a=some ⟨.type "tuple",none,.seq #[.ref a0] n,sl⟩):KTup K a [.ref a0]:=og h (small (show(1:Nat)<=1000 by decide)) (.cons rfl (.nil))
def ktr2{K:FG}{sl:AV}(h:K.lookup a=some ⟨.type "tuple",none,.seq #[.ref a0,.ref a1] n,sl⟩):KTup K a [.ref a0,.ref a1]:=og h (small (show(2:Nat)<=1000 by decide)) (.cons rfl (.cons rfl (.nil)))
def ktr3{K:FG}{sl:AV}(h:K.lookup a=some ⟨.type "tuple",none,.seq #[.ref a0,.ref a1,.ref a2] n,sl⟩):KTup K a [.ref a0,.ref a1,.ref a2]:=og h (small (show(3:Nat)<=1000 by decide)) (.cons rfl (.cons rfl (.cons rfl (.nil))))
def ktr5{K:FG}{a a0 a1 a2 a3 a4:Addr}{sl:AV}(h:K.lookup a=some ⟨.type "tuple",none,.seq #[.ref a0,.ref a1,.ref a2,.ref a3,.ref a4] n,sl⟩):KTup K a [.ref a0,.ref a1,.ref a2,.ref a3,.ref a4]:=og h (small (show(5:Nat)<=1000 by decide)) (.cons rfl (.cons rfl (.cons rfl (.cons rfl (.cons rfl (.nil))))))
theorem pt_mk{w:World}{K:FG}{t0 t1 t2 t3 t4 t5 t6 t7 t8 t9 t10 t11 t12 t13 t14:Tok}{a0 a1 a2 a3 a4 a5 a6 a7 a8 a9 a10 a11 a12 a13 a14:Addr}
  (gPT:W.nsIn K mainGlobals "PARTS"=some (some (.ref dPT))) (dPT0:(dPT == sysModules)=false)
  (lPT:K.lookup dPT=some { cls:=.type "dict",data:=.dict #[⟨PyData.keyHash w.params "in",.str "in" t0,.ref a0⟩,⟨PyData.keyHash w.params "num",.str "num" t1,.ref a1⟩,⟨PyData.keyHash w.params "count",.str "count" t2,.ref a2⟩,⟨PyData.keyHash w.params "each",.str "each" t3,.ref a3⟩,⟨PyData.keyHash w.params "pair",.str "pair" t4,.ref a4⟩,⟨PyData.keyHash w.params "pick",.str "pick" t5,.ref a5⟩,⟨PyData.keyHash w.params "turn",.str "turn" t6,.ref a6⟩,⟨PyData.keyHash w.params "flip",.str "flip" t7,.ref a7⟩,⟨PyData.keyHash w.params "cut",.str "cut" t8,.ref a8⟩,⟨PyData.keyHash w.params "spread",.str "spread" t9,.ref a9⟩,⟨PyData.keyHash w.params "lay",.str "lay" t10,.ref a10⟩,⟨PyData.keyHash w.params "join",.str "join" t11,.ref a11⟩,⟨PyData.keyHash w.params "fetch",.str "fetch" t12,.ref a12⟩,⟨PyData.keyHash w.params "fold",.str "fold" t13,.ref a13⟩,⟨PyData.keyHash w.params "run",.str "run" t14,.ref a14⟩] nPT })(l0:KTup K a0 [.ref a0_0])
  (l0_0:KTup K a0_0 [.str "sides",.int 1])(l1:KTup K a1 [.ref a1_0])
  (l1_0:KTup K a1_0 [.str "number",.int 1])(l2:KTup K a2 [.ref a2_0,.ref a2_1])
  (l2_0:KTup K a2_0 [.str "small",.int 2])
  (l2_1:KTup K a2_1 [.str "sides",.int 1])(l3:KTup K a3 [.ref a3_0,.ref a3_1])
  (l3_0:KTup K a3_0 [.str "word",.int 1])
  (l3_1:KTup K a3_1 [.str "step",.int 2])(l4:KTup K a4 [.ref a4_0,.ref a4_1,.ref a4_2])
  (l4_0:KTup K a4_0 [.str "word",.int 1])
  (l4_1:KTup K a4_1 [.str "step",.int 2])
  (l4_2:KTup K a4_2 [.str "step",.int 3])(l5:KTup K a5 [.ref a5_0,.ref a5_1,.ref a5_2])
  (l5_0:KTup K a5_0 [.str "step",.int 1])
  (l5_1:KTup K a5_1 [.str "step",.int 2])
  (l5_2:KTup K a5_2 [.str "step",.int 3])(l6:KTup K a6 [.ref a6_0,.ref a6_1])
  (l6_0:KTup K a6_0 [.str "step",.int 1])
  (l6_1:KTup K a6_1 [.str "sides",.int 2])(l7:KTup K a7 [.ref a7_0,.ref a7_1])
  (l7_0:KTup K a7_0 [.str "step",.int 1])
  (l7_1:KTup K a7_1 [.str "small",.int 2])(l8:KTup K a8 [.ref a8_0,.ref a8_1,.ref a8_2,.ref a8_3,.ref a8_4])
  (l8_0:KTup K a8_0 [.str "step",.int 1])
  (l8_1:KTup K a8_1 [.str "small",.int 2])
  (l8_2:KTup K a8_2 [.str "small",.int 3])
  (l8_3:KTup K a8_3 [.str "small",.int 4])
  (l8_4:KTup K a8_4 [.str "small",.int 5])(l9:KTup K a9 [.ref a9_0,.ref a9_1,.ref a9_2])
  (l9_0:KTup K a9_0 [.str "step",.int 1])
  (l9_1:KTup K a9_1 [.str "small",.int 2])
  (l9_2:KTup K a9_2 [.str "small",.int 3])(l10:KTup K a10 [.ref a10_0,.ref a10_1])
  (l10_0:KTup K a10_0 [.str "step",.int 1])
  (l10_1:KTup K a10_1 [.str "sides",.int 2])(l11:KTup K a11 [.ref a11_0,.ref a11_1,.ref a11_2])
  (l11_0:KTup K a11_0 [.str "step",.int 1])
  (l11_1:KTup K a11_1 [.str "step",.int 2])
  (l11_2:KTup K a11_2 [.str "small",.int 3])(l12:KTup K a12 [.ref a12_0,.ref a12_1])
  (l12_0:KTup K a12_0 [.str "step",.int 1])
  (l12_1:KTup K a12_1 [.str "step",.int 2])(l13:KTup K a13 [.ref a13_0,.ref a13_1,.ref a13_2])
  (l13_0:KTup K a13_0 [.str "word",.int 1])
  (l13_1:KTup K a13_1 [.str "step",.int 2])
  (l13_2:KTup K a13_2 [.str "small",.int 3])(l14:KTup K a14 [.ref a14_0,.ref a14_1,.ref a14_2])
  (l14_0:KTup K a14_0 [.str "word",.int 1])
  (l14_1:KTup K a14_1 [.str "step",.int 2])
  (l14_2:KTup K a14_2 [.str "small",.int 3]):∃d,W.nsIn K mainGlobals "PARTS"=some (some (.ref d))/\yJ P w K d:=⟨_,gPT,⟨_,KTab.mk (l:=[("in",t0,a0),("num",t1,a1),("count",t2,a2),("each",t3,a3),("pair",t4,a4),("pick",t5,a5),("turn",t6,a6),("flip",t7,a7),("cut",t8,a8),("spread",t9,a9),("lay",t10,a10),("join",t11,a11),("fetch",t12,a12),("fold",t13,a13),("run",t14,a14)]) dPT0 lPT rfl (show(["in","num","count","each","pair","pick","turn","flip","cut","spread","lay","join","fetch","fold","run"]:List Str).Nodup by decide +kernel),⟨⟨rfl,_,l0,⟨⟨_,rfl,l0_0⟩,trivial⟩⟩,⟨⟨rfl,_,l1,⟨⟨_,rfl,l1_0⟩,trivial⟩⟩,⟨⟨rfl,_,l2,⟨⟨_,rfl,l2_0⟩,⟨⟨_,rfl,l2_1⟩,trivial⟩⟩⟩,⟨⟨rfl,_,l3,⟨⟨_,rfl,l3_0⟩,⟨⟨_,rfl,l3_1⟩,trivial⟩⟩⟩,⟨⟨rfl,_,l4,⟨⟨_,rfl,l4_0⟩,⟨⟨_,rfl,l4_1⟩,⟨⟨_,rfl,l4_2⟩,trivial⟩⟩⟩⟩,⟨⟨rfl,_,l5,⟨⟨_,rfl,l5_0⟩,⟨⟨_,rfl,l5_1⟩,⟨⟨_,rfl,l5_2⟩,trivial⟩⟩⟩⟩,⟨⟨rfl,_,l6,⟨⟨_,rfl,l6_0⟩,⟨⟨_,rfl,l6_1⟩,trivial⟩⟩⟩,⟨⟨rfl,_,l7,⟨⟨_,rfl,l7_0⟩,⟨⟨_,rfl,l7_1⟩,trivial⟩⟩⟩,⟨⟨rfl,_,l8,⟨⟨_,rfl,l8_0⟩,⟨⟨_,rfl,l8_1⟩,⟨⟨_,rfl,l8_2⟩,⟨⟨_,rfl,l8_3⟩,⟨⟨_,rfl,l8_4⟩,trivial⟩⟩⟩⟩⟩⟩,⟨⟨rfl,_,l9,⟨⟨_,rfl,l9_0⟩,⟨⟨_,rfl,l9_1⟩,⟨⟨_,rfl,l9_2⟩,trivial⟩⟩⟩⟩,⟨⟨rfl,_,l10,⟨⟨_,rfl,l10_0⟩,⟨⟨_,rfl,l10_1⟩,trivial⟩⟩⟩,⟨⟨rfl,_,l11,⟨⟨_,rfl,l11_0⟩,⟨⟨_,rfl,l11_1⟩,⟨⟨_,rfl,l11_2⟩,trivial⟩⟩⟩⟩,⟨⟨rfl,_,l12,⟨⟨_,rfl,l12_0⟩,⟨⟨_,rfl,l12_1⟩,trivial⟩⟩⟩,⟨⟨rfl,_,l13,⟨⟨_,rfl,l13_0⟩,⟨⟨_,rfl,l13_1⟩,⟨⟨_,rfl,l13_2⟩,trivial⟩⟩⟩⟩,⟨⟨rfl,_,l14,⟨⟨_,rfl,l14_0⟩,⟨⟨_,rfl,l14_1⟩,⟨⟨_,rfl,l14_2⟩,trivial⟩⟩⟩⟩,trivial⟩⟩⟩⟩⟩⟩⟩⟩⟩⟩⟩⟩⟩⟩⟩⟩⟩
abbrev nB(K:FG)(x:Str):Prop:=W.nsIn K mainGlobals x=some none
structure Sv (P:Program)(w:World)(K:FG)(T43 T45 T49 T50 T51 T52 T53 T54 T56:Addr):Prop where
 g0:Gx K "wrapped" (top 12)
 g1:Gx K "sign_of" (top 13)
 g2:Gx K "quotient" (top 14)
 g3:Gx K "remainder" (top 15)
 g4:Gx K "once" (top 16)
 g5:Gx K "twice" (top 17)
 g6:Gx K "neutral" (top 18)
 g7:Gx K "arg_places" (top 23)
 g8:Gx K "args_of" (top 24)
 g9:Gx K "amount" (top 28)
 g10:Gx K "breadth" (top 29)
 g11:Gx K "allowed" (top 30)
 g12:Gx K "strides_of" (top 31)
 g13:Gx K "place_of" (top 32)
 g14:Gx K "at_of" (top 33)
 g15:Gx K "all_at" (top 34)
 g16:Gx K "changed_at" (top 35)
 g17:Gx K "added_at" (top 36)
 g18:Gx K "dropped_at" (top 37)
 g19:Gx K "ask_side" (top 39)
 g20:Gx K "turned_sides" (top 40)
 g21:Gx K "flipped_sides" (top 41)
 g22:Gx K "cut_sides" (top 42)
 g23:Gx K "spread_sides" (top 43)
 g24:Gx K "laid_sides" (top 44)
 g25:Gx K "joined_sides" (top 45)
 g26:Gx K "led_sides" (top 46)
 g27:Gx K "paired_sides" (top 47)
 g28:Gx K "picked_sides" (top 48)
 g29:Gx K "fetched_sides" (top 49)
 g30:Gx K "folded_sides" (top 50)
 g31:Gx K "counted_sides" (top 51)
 g32:Gx K "ask_word" (top 53)
 g33:Gx K "first_sides" (top 54)
 g34:Gx K "moved_sides" (top 55)
 g35:Gx K "step_sides" (top 56)
 g36:Gx K "step_told" (top 57)
 g37:Gx K "program_told" (top 58)
 g38:Gx K "checked" (top 59)
 g39:Gx K "table_of" (top 61)
 g40:Gx K "cell_at" (top 64)
 g41:Gx K "alone" (top 63)
 g42:Gx K "table_by" (top 62)
 g44:Gx K "run" (top 67)
 g46:Gx K "each" (top 70)
 g47:Gx K "pair" (top 71)
 g48:Gx K "pick" (top 72)
 g55:Gx K "lay" (top 80)
 g57:Gx K "moved_table" (top 83)
 g58:Gx K "step_table" (top 84)
 g59:Gx K "inputs_checked" (top 85)
 g60:Gx K "all_tables" (top 86)
 g61:Gx K "_law_whole" (top 88)
 g62:Gx K "_law_cell_at" (top 89)
 g63:Gx K "_law_is_sides" (top 90)
 g64:Gx K "_law_size" (top 91)
 g65:Gx K "_law_wide" (top 92)
 g66:Gx K "_law_number" (top 93)
 g67:Gx K "_law_recent" (top 94)
 g68:Gx K "_law_begun" (top 95)
 g69:Gx K "_law_led" (top 96)
 g70:Gx K "_law_lifted" (top 97)
 g71:Gx K "_law_laid" (top 98)
 g72:Gx K "_law_moved" (top 99)
 g73:Gx K "_law_both" (top 100)
 g74:Gx K "_law_met" (top 101)
 g75:Gx K "_law_step" (top 102)
 g76:Gx K "_law_program" (top 103)
 g77:Gx K "_law_inputs" (top 104)
 g78:Gx K "_law_spot" (top 105)
 g79:Gx K "_law_table" (top 106)
 g80:Gx K "_law_wrap" (top 107)
 g81:Gx K "_law_once" (top 108)
 g82:Gx K "_law_twice" (top 109)
 g83:Gx K "_law_all" (top 110)
 g84:Gx K "_law_here" (top 111)
 g85:Gx K "_law_old_place" (top 112)
 g86:Gx K "_law_put" (top 113)
 g87:Gx K "_law_along" (top 114)
 g88:Gx K "_law_due" (top 115)
 g89:Gx K "law" (top 116)
 g43:∃f fd c,GlT' K "fold" (top 66) f fd c T43
 g45:∃f fd c,GlT' K "lead" (top 69) f fd c T45
 g49:∃f fd c,GlT' K "fetch" (top 73) f fd c T49
 g50:∃f fd c,GlT' K "counted" (top 74) f fd c T50
 g51:∃f fd c,GlT' K "turn" (top 76) f fd c T51
 g52:∃f fd c,GlT' K "flip" (top 77) f fd c T52
 g53:∃f fd c,GlT' K "cut" (top 78) f fd c T53
 g54:∃f fd c,GlT' K "spread" (top 79) f fd c T54
 g56:∃f fd c,GlT' K "join" (top 81) f fd c T56
 nd:[T43,T45,T49,T50,T51,T52,T53,T54,T56].Nodup
 blen:nB K "len"
 btuple:nB K "tuple"
 blist:nB K "list"
 bsum:nB K "sum"
 bmax:nB K "max"
 bmin:nB K "min"
 babs:nB K "abs"
 bint:nB K "int"
 bstr:nB K "str"
 bsorted:nB K "sorted"
 bany:nB K "any"
 ball:nB K "all"
 bisinstance:nB K "isinstance"
 bbool:nB K "bool"
 brange:nB K "range"
 bzip:nB K "zip"
 benumerate:nB K "enumerate"
 breversed:nB K "reversed"
 qLOW:∃t,W.nsIn K mainGlobals "LOW"=some (some (.int (-9223372036854775808) t))
 qHIGH:∃t,W.nsIn K mainGlobals "HIGH"=some (some (.int 9223372036854775807 t))
 qMOST_SIDES:∃t,W.nsIn K mainGlobals "MOST_SIDES"=some (some (.int 6 t))
 qMOST_BREADTH:∃t,W.nsIn K mainGlobals "MOST_BREADTH"=some (some (.int 512 t))
 qMOST_STEPS:∃t,W.nsIn K mainGlobals "MOST_STEPS"=some (some (.int 40 t))
 qMOST_OUTS:∃t,W.nsIn K mainGlobals "MOST_OUTS"=some (some (.int 8 t))
 qPT:∃d,W.nsIn K mainGlobals "PARTS"=some (some (.ref d))/\yJ P w K d
noncomputable def tL(T43 T45 T49 T50 T51 T52 T53 T54 T56:Addr):List (Addr×Pos×Str):=[(T43,inP (top 66),"fold.<locals>.number_at"),(T45,(lmR (top 69)).p,"lead.<locals>.<lambda>"),(T49,inP (top 73),"fetch.<locals>.number_at"),(T50,(lmR (top 74)).p,"counted.<locals>.<lambda>"),(T51,(lmR (top 76)).p,"turn.<locals>.<lambda>"),(T52,(lmR (top 77)).p,"flip.<locals>.<lambda>"),(T53,(lmR (top 78)).p,"cut.<locals>.<lambda>"),(T54,(lmR (top 79)).p,"spread.<locals>.<lambda>"),(T56,inP (top 81),"join.<locals>.number_at")]
def Qm{K:FG}{L:List (Addr×Pos×Str)}{ts:List Addr}(e:L.map (·.1)=ts)(F:FnOk P w K mg base CX0 k f fd ps (uf K (TbJ L))):FnOk P w K mg base CX0 k f fd ps (rk K ts):=F.imp λ vs H Q E ⟨a,ns,e1,sq,l,hT,q⟩=>⟨a,ns,e1,sq,l,λ x hx=>⟨#[],hT _ (by rw[<- e];exact List.mem_map_of_mem hx),trivial,.inl rfl⟩,q⟩
def all_mk{l:W.OpenLaw}{K:FG}(X:K.In h)(G:h.Ns mainGlobals mg)(hfa:mg "law"=some (.ref fa))(S:Sv l.prog w K T43 T45 T49 T50 T51 T52 T53 T54 T56):∃(fd:FuncData) (tbs:List (Str×Addr×Addr)),(∀p∈tbs,W.tabIn K p.1=some p.2/\p.1∈(["fold","lead","fetch","counted","turn","flip","cut","spread","join"]:List Str))/\(∀(s:Shared) (v:Value),BindsTo s fd ⟨[v],[]⟩ [("script",v)])/\∀base:Heap,K.In base->base.Ns mainGlobals mg->(∀p∈tbs,TabF base mg p.2.1 p.2.2)->FnOk l.prog w K mg base CX0 90 fa fd ["script"] (rk K (tbs.map λ p=>p.2.2)):=by
 have hm:∀ {x:Str}{v:Option Value},W.nsIn K mainGlobals x=some v->mg x=v:=λ {x v} z=>by cases v with|none=>exact W.mg_none_of X G z|some u=>exact W.mg_of X G z
 obtain⟨f,fd,gL⟩:=S.g89;have e:=hfa.symm.trans (hm gL.a);cases e;obtain⟨_,_,kVL,dcL,pmL,anL,cdL,ctL,_,eL,_,_⟩:=gL.F.ex;obtain⟨f43,d43,c43,t43⟩:=S.g43;obtain⟨f45,d45,c45,t45⟩:=S.g45;obtain⟨f49,d49,c49,t49⟩:=S.g49;obtain⟨f50,d50,c50,t50⟩:=S.g50;obtain⟨f51,d51,c51,t51⟩:=S.g51;obtain⟨f52,d52,c52,t52⟩:=S.g52;obtain⟨f53,d53,c53,t53⟩:=S.g53;obtain⟨f54,d54,c54,t54⟩:=S.g54;obtain⟨f56,d56,c56,t56⟩:=S.g56;refine⟨fd,[("fold",c43,T43),("lead",c45,T45),("fetch",c49,T49),("counted",c50,T50),("turn",c51,T51),("flip",c52,T52),("cut",c53,T53),("spread",c54,T54),("join",c56,T56)],(fx ⟨t43.tb,on⟩ (fx ⟨t45.tb,on⟩ (fx ⟨t49.tb,on⟩ (fx ⟨t50.tb,on⟩ (fx ⟨t51.tb,on⟩ (fx ⟨t52.tb,on⟩ (fx ⟨t53.tb,on⟩ (fx ⟨t54.tb,on⟩ (fx ⟨t56.tb,on⟩ fx0))))))))),λ s v=>by rw[eL];exact .of_eq rfl,λ base KB GB tf=>?_⟩;have M:MOk l.prog w K mg (TbJ (tL T43 T45 T49 T50 T51 T52 T53 T54 T56)) GT gs:=⟨TbJ.js,λ g x t h1 h2 nb=>?_,λ g x t h1 h2=>?_,λ x hx=>?_⟩
 ·have C:CM l.prog w K mg base (TbJ (tL T43 T45 T49 T50 T51 T52 T53 T54 T56)) GT gs DL 0:=⟨Cals.z,M,hm⟩;replace C:=C.d S.g0 zw0;replace C:=C.d S.g1 zw1;replace C:=C.d S.g2 zw2;replace C:=C.d S.g3 zw3;replace C:=C.d S.g4 zw4;replace C:=C.d S.g5 zw5;replace C:=C.d S.g6 zw6;replace C:=C.d S.g7 zw7;replace C:=C.d S.g8 zw8;replace C:=C.d S.g9 zw9;replace C:=C.d S.g10 Ov;replace C:=C.d S.g11 Ow;replace C:=C.d S.g12 Ox;replace C:=C.d S.g13 Oy;replace C:=C.d S.g14 Oz;replace C:=C.d S.g15 OB;replace C:=C.d S.g16 OC;replace C:=C.d S.g17 OD;replace C:=C.d S.g18 OE;replace C:=C.d S.g19 OF;replace C:=C.d S.g20 OG;replace C:=C.d S.g21 OH;replace C:=C.d S.g22 OI;replace C:=C.d S.g23 OJ;replace C:=C.d S.g24 OL;replace C:=C.d S.g25 OM;replace C:=C.d S.g26 ON;replace C:=C.d S.g27 OO;replace C:=C.d S.g28 OP;replace C:=C.d S.g29 OQ;replace C:=C.d S.g30 OR;replace C:=C.d S.g31 OS;replace C:=C.d S.g32 OT;replace C:=C.d S.g33 OU;replace C:=C.d S.g34 OV;replace C:=C.d S.g35 OW;replace C:=C.d S.g36 OX;replace C:=C.d S.g37 OY;replace C:=C.d S.g38 OZ;replace C:=C.d S.g39 Pa;replace C:=C.d S.g40 Pb;replace C:=C.d S.g41 Pc
  have HO:Callee l.prog w K mg base CX0 43 "table_by" ["sides","number_at"] (kC l.prog w K mg base (tL T43 T45 T49 T50 T51 T52 T53 T54 T56) 42 ats):=by
   obtain⟨fh,dh,gh⟩:=S.g42;exact Callee.mk' gh.F (hm gh.a) ((show Bds "table_by" (top 62) ((["sides","number_at"]:List Str).take 2) 2 by repeat' (first|rfl|(refine λ _=>?_))).ok fu fh dh gh.F) (JZ (fA:=15) (SA:=rj) (FT:=Ft 42) (fs:=dFs DL 42) gh.F (scq (ax (top 62)) ["sides","number_at"] []) M (kB 42) C.c.fns fu rfl rfl Ou (by kernel_rfl) (by kernel_rfl) (by kernel_rfl) (by kernel_rfl) (by kernel_rfl) (by kernel_rfl) (by kernel_rfl))
  replace C:=C.d S.g42 Pd;replace C:=C.k t43 (tf ("fold",c43,T43) on) bo S.nd HO "number_at" Pe;replace C:=C.d S.g44 Pf;replace C:=C.l t45 (tf ("lead",c45,T45) on) (aE _ bo) S.nd HO Pg;replace C:=C.d S.g46 Ph;replace C:=C.d S.g47 Pi;replace C:=C.d S.g48 Pj;replace C:=C.k t49 (tf ("fetch",c49,T49) on) (aE _ (aE _ bo)) S.nd HO "number_at" Pk;replace C:=C.l t50 (tf ("counted",c50,T50) on) (aE _ (aE _ (aE _ bo))) S.nd HO Pl;replace C:=C.l t51 (tf ("turn",c51,T51) on) (aE _ (aE _ (aE _ (aE _ bo)))) S.nd HO Pm;replace C:=C.l t52 (tf ("flip",c52,T52) on) (aE _ (aE _ (aE _ (aE _ (aE _ bo))))) S.nd HO Pn;replace C:=C.l t53 (tf ("cut",c53,T53) on) (aE _ (aE _ (aE _ (aE _ (aE _ (aE _ bo)))))) S.nd HO Po;replace C:=C.l t54 (tf ("spread",c54,T54) on) (aE _ (aE _ (aE _ (aE _ (aE _ (aE _ (aE _ bo))))))) S.nd HO Pp;replace C:=C.d S.g55 Pq;replace C:=C.k t56 (tf ("join",c56,T56) on) (aE _ (aE _ (aE _ (aE _ (aE _ (aE _ (aE _ (aE _ bo)))))))) S.nd HO "number_at" Ps;replace C:=C.d S.g57 Pt;replace C:=C.d S.g58 Pu;replace C:=C.d S.g59 Pv;replace C:=C.d S.g60 Pw;replace C:=C.d S.g61 Px;replace C:=C.d S.g62 Py;replace C:=C.d S.g63 Pz;replace C:=C.d S.g64 PB;replace C:=C.d S.g65 PD;replace C:=C.d S.g66 PF;replace C:=C.d S.g67 PH;replace C:=C.d S.g68 PJ;replace C:=C.d S.g69 PL;replace C:=C.d S.g70 PP;replace C:=C.d S.g71 PQ;replace C:=C.d S.g72 PR;replace C:=C.d S.g73 PU;replace C:=C.d S.g74 PV;replace C:=C.d S.g75 PX;replace C:=C.d S.g76 PY;replace C:=C.d S.g77 PZ;replace C:=C.d S.g78 Qa;replace C:=C.d S.g79 Qb;replace C:=C.d S.g80 Qc;replace C:=C.d S.g81 Qd;replace C:=C.d S.g82 Qe;replace C:=C.d S.g83 Qf;replace C:=C.d S.g84 Qg;replace C:=C.d S.g85 Qh;replace C:=C.d S.g86 Qi;replace C:=C.d S.g87 Qj;replace C:=C.d S.g88 Qk;exact Qm rfl (C.law gL Ql)
 ·match g,h1,h2 with
  |0,h1,h2=>cases h1;cases h2;obtain⟨t,q⟩:=S.qLOW;exact⟨.int (-9223372036854775808),_,hm q,⟨t,rfl⟩,λ F H=>rfl⟩
  |1,h1,h2=>cases h1;cases h2;obtain⟨t,q⟩:=S.qHIGH;exact⟨.int 9223372036854775807,_,hm q,⟨t,rfl⟩,λ F H=>rfl⟩
  |2,h1,h2=>cases h1;cases h2;obtain⟨t,q⟩:=S.qMOST_SIDES;exact⟨.int 6,_,hm q,⟨t,rfl⟩,λ F H=>rfl⟩
  |3,h1,h2=>cases h1;cases h2;obtain⟨t,q⟩:=S.qMOST_BREADTH;exact⟨.int 512,_,hm q,⟨t,rfl⟩,λ F H=>rfl⟩
  |4,h1,h2=>cases h1;cases h2;obtain⟨t,q⟩:=S.qMOST_STEPS;exact⟨.int 40,_,hm q,⟨t,rfl⟩,λ F H=>rfl⟩
  |5,h1,h2=>cases h1;cases h2;obtain⟨t,q⟩:=S.qMOST_OUTS;exact⟨.int 8,_,hm q,⟨t,rfl⟩,λ F H=>rfl⟩
  |6,h1,h2=>cases h1;cases h2;cases nb
  |n+7,h1,h2=>cases h1
 ·match g,h1,h2 with
  |0,h1,h2=>cases h2
  |1,h1,h2=>cases h2
  |2,h1,h2=>cases h2
  |3,h1,h2=>cases h2
  |4,h1,h2=>cases h2
  |5,h1,h2=>cases h2
  |6,h1,h2=>cases h1;cases h2;obtain⟨d,e,kvs,TK,PA⟩:=S.qPT;exact⟨d,kvs,hm e,TK,CP PA⟩
  |n+7,h1,h2=>cases h1
 ·simp only[BN,aL,bX,bY] at hx
  rcases hx with rfl|rfl|rfl|rfl|rfl|rfl|rfl|rfl|rfl|rfl|rfl|rfl|rfl|rfl|rfl|rfl|rfl|rfl
  ·exact hm S.blen
  ·exact hm S.btuple
  ·exact hm S.blist
  ·exact hm S.bsum
  ·exact hm S.bmax
  ·exact hm S.bmin
  ·exact hm S.babs
  ·exact hm S.bint
  ·exact hm S.bstr
  ·exact hm S.bsorted
  ·exact hm S.bany
  ·exact hm S.ball
  ·exact hm S.bisinstance
  ·exact hm S.bbool
  ·exact hm S.brange
  ·exact hm S.bzip
  ·exact hm S.benumerate
  ·exact hm S.breversed
open PySem.W in
theorem walk{l:W.OpenLaw}{YP:World->Heap->Prop}{d:DefRec}{K:Params->FG}(hn:l.most=some 63)(hdf:d.params.defaults=[])
  (hY:∀(w:World) (h:Heap),YP w h->(K w.params).In h) (hK0:∀w:World,noTabs (K w.params)=true) (hrec:∀x∈(["fold","lead","fetch","counted","turn","flip","cut","spread","join"]:List Str),((recsOf q).find? λ e=>e.name == x).isSome=true)
  (F:∀(w:World) (mg:SV) (fa:Addr) (h:Heap),(K w.params).In h->h.Ns mainGlobals mg->mg d.name=some (.ref fa) ->
   ∃(fd:FuncData) (tbs:List (Str×Addr×Addr)),(∀p∈tbs,tabIn (K w.params) p.1=some p.2/\p.1∈(["fold","lead","fetch","counted","turn","flip","cut","spread","join"]:List Str))/\(∀(s:Shared) (u:Value),BindsTo s fd ⟨[u],[]⟩ [("script",u)])/\∀base:Heap,(K w.params).In base->base.Ns mainGlobals mg->(∀p∈tbs,TabF base mg p.2.1 p.2.2)->FnOk l.prog w (K w.params) mg base CX0 90 fa fd ["script"] (rk (K w.params) (tbs.map λ p=>p.2.2))) :
  W.WalkO q loose XP YP l.row.toRowW d [] (λ f vs=>PySem.call f vs) :=
 _L.walk_ofT (n:=63) (k:=90) (x := "script") (CX:=λ _=>CX0) (sp:=λ w ts=>rk (K w.params) ts) hn fu hdf ⟨rfl,fu,fu⟩ hY hK0 (λ w mg fa h a b c=>by
  obtain⟨fd,tbs,h1,h2⟩:=F w mg fa h a b c
  exact⟨fd,tbs,λ p hp=>⟨(h1 p hp).1,hrec _ (h1 p hp).2⟩,h2⟩) (λ _ _ a ns ts hl hT hS=>⟨a,ns,O,hS,hl,hT,λ _=>rfl⟩) λ _ _ _ _ _ z=>z
end _M
end
end
open PySem PySem.W PyProof.Rows
set_option maxRecDepth 100000 in
set_option maxHeartbeats 0 in
theorem PySem.Challenge.cw_sideloom_k36_whole_each_cell_holds : PySem.Challenge.rw_sideloom_k36_whole_each_cell.Holds := by
 w_on;o_law;k_head;(case hw=>w_witness2)
 k_fill
 refine _M.walk (l:=PySem.Challenge.rw_sideloom_k36_whole_each_cell) rfl rfl (λ w h Y=>W.km_in_of Y) ?K0 ?rec ?F
 case K0=>intro w;kernel_rfl
 case rec=>exact(_M.fx (by kernel_rfl) (_M.fx (by kernel_rfl) (_M.fx (by kernel_rfl) (_M.fx (by kernel_rfl) (_M.fx (by kernel_rfl) (_M.fx (by kernel_rfl) (_M.fx (by kernel_rfl) (_M.fx (by kernel_rfl) (_M.fx (by kernel_rfl) _M.fx0)))))))))
 case F=>
  intro w mg fa h KX G hmg
  refine' _M.all_mk KX G hmg ?S
  case S=>
   constructor
   iterate 81 (refine' _L.gl_ex ?ya ?yb ?yc ?yd;(case ya=>k_is);(case yb=>k_is);(case yc=>k_is);(case yd=>k_is))
   iterate 9 (refine' _M.glt_ex ?ya ?yb ?yc ?yd ?ye ?yf;(case ya=>k_is);(case yb=>k_is);(case yc=>k_is);(case yd=>k_is);(case ye=>k_is);(case yf=>rfl))
   ·decide
   iterate 18 (unfold _M.nB;k_is)
   iterate 6 (refine' _L.gx_int ?ya;(case ya=>k_is))
   ·refine' _M.pt_mk ?gPT ?dPT0 ?lPT ?l0 ?l0_0 ?l1 ?l1_0 ?l2 ?l2_0 ?l2_1 ?l3 ?l3_0 ?l3_1 ?l4 ?l4_0 ?l4_1 ?l4_2 ?l5 ?l5_0 ?l5_1 ?l5_2 ?l6 ?l6_0 ?l6_1 ?l7 ?l7_0 ?l7_1 ?l8 ?l8_0 ?l8_1 ?l8_2 ?l8_3 ?l8_4 ?l9 ?l9_0 ?l9_1 ?l9_2 ?l10 ?l10_0 ?l10_1 ?l11 ?l11_0 ?l11_1 ?l11_2 ?l12 ?l12_0 ?l12_1 ?l13 ?l13_0 ?l13_1 ?l13_2 ?l14 ?l14_0 ?l14_1 ?l14_2
    (case gPT=>k_is)
    (case dPT0=>first|decide +kernel|rfl)
    (case lPT=>k_is)
    (case l0=>refine' _M.ktr1 ?ya;(case ya=>k_is))
    (case l1=>refine' _M.ktr1 ?ya;(case ya=>k_is))
    (case l2=>refine' _M.ktr2 ?ya;(case ya=>k_is))
    (case l3=>refine' _M.ktr2 ?ya;(case ya=>k_is))
    (case l4=>refine' _M.ktr3 ?ya;(case ya=>k_is))
    (case l5=>refine' _M.ktr3 ?ya;(case ya=>k_is))
    (case l6=>refine' _M.ktr2 ?ya;(case ya=>k_is))
    (case l7=>refine' _M.ktr2 ?ya;(case ya=>k_is))
    (case l8=>refine' _M.ktr5 ?ya;(case ya=>k_is))
    (case l9=>refine' _M.ktr3 ?ya;(case ya=>k_is))
    (case l10=>refine' _M.ktr2 ?ya;(case ya=>k_is))
    (case l11=>refine' _M.ktr3 ?ya;(case ya=>k_is))
    (case l12=>refine' _M.ktr2 ?ya;(case ya=>k_is))
    (case l13=>refine' _M.ktr3 ?ya;(case ya=>k_is))
    (case l14=>refine' _M.ktr3 ?ya;(case ya=>k_is))
    iterate 37 (refine' _M.kts ?ya;(case ya=>k_is))
