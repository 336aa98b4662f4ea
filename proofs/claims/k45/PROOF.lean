import PyProof.Rows.All
import Wide.All
import OpenK.AllK
import Wide.FinOn
import Lean
import PyProof.EqAt
import PyProof.EqKinds
import PyProof.TupleCall
import PySem.Challenge.RW_sideloom_k45_thinned
set_option Elab.async false
set_option linter.all false
set_option autoImplicit true
set_option maxRecDepth 100000
def O{a:α}:a=a:=rfl
def fu{p:Prop}(h:p:=by lia):p:=h
def on{p:Prop}(h:p:=by decide):p:=h
def pv{p:Prop}(h:p:=by simp):p:=h
def rm:True:=trivial
set_option tactic.hygienic false
abbrev VS:=PySem.Value->PySem.Shared->Prop
abbrev LL:=List (List Int)
abbrev LI:=List Int
abbrev LO:=List (PySem.Addr×PySem.Obj)
abbrev LA:=List (PySem.Str×PySem.Addr)
abbrev SV:=PySem.Str->Option PySem.Value
abbrev LV:=List PySem.Value
abbrev FG:=PySem.W.Frag
abbrev AV:=Array (Option PySem.Value)
abbrev OA:=Option PySem.Addr
open PySem renaming wpAny_bind->af,wpAny_pure->ag,wpAny_newObj_type->bF,codeAny_builtin->bV,builtinLookup_eq_fast->dN,wpAny_holding->bU,plainId_quiet->bW,wpAny_call_entry->cZ,wpAny_callSpecial?_slot->fY,typeLookup_type->dM,wpAny_field->cn,wpAny_setField_rec->fN,wpAny_truthy_bool->fj,wpAny_of_eq->cK,wpAny_mono->cy,isSubtype_type->fH,wpAny_seqItems->fJ,wpAny_typeOf->eo,wpAny_specialOf->ga,wpAny_isInstance->gH,wpAny_updateSeq->gI,mem_of_lookup->kt,wpAny_tryCatch->iD,wpAny_pyIter_tuple->kH,wpAny_standAt->ip,wpAny_attempt->iA,wpAny_rule->fI,wpAny_pyIter_list->kJ,wpAny_setState_of->kP,codeAny_extend_loopS->mj,codeAny_mono->iq,wpAny_passesOwn->kj,wpAny_Call_Name_kw->lQ,codeAny_of_tree->kG,call_meets->gG,wpAny_pyIter_enum->mB,wpAny_setField->kE,wpAny_runValue->kF,entryFor_of_tree->mh,wpAny_letOwnedTupleGo_enum->ue,isSubtype_stop->mi,callType_codes->mq,wpAny_newTuple->mK,wpAny_load->jd,wpAny_pyIter_slot->pA,init_tuple_lookup->pK,object_init_meets->pN,arm_evalThenUse_ListComp->ui,sizeLine_eq->kr,wpAny_pyNext_enum_itemD->ud,wpAny_letGo->kL,noFill_tuple_add->oS,wpAny_askSetting->qp,wpAny_pyNext_range_end->sC,wpAny_pyIter_rangeiter->sD,wpAny_execs_nil->oH,concat_meets->lU,exec_Assign_Name_used->uh,wpAny_ite_split->qt,fitsIndex_both->s0j,entryFor_alias->s0k,sub_tuple_self->s0m,madeHere_tuple->s0n,wpAny_setEntries_of->s0u,wpAny_pyIter_range->s1a,seq_tuple_add->s1d,wpAny_handled->s1i,nums_intItems->s1j,tupleKind_room_in1->s1k,seqIndex_neg->s1o,callType_new->s1p,seqIndex_of->s1s,wpAny_throw->s1t,numAt_eq->s1u
open List renaming length_map->ah,getElem?_eq_getElem->aF,getElem?_eq_some_iff->bc,size_toArray->aO,mem_cons->aG,length_append->aQ,getD_eq_getElem?_getD->bG,mem_of_getElem?->bg,mem_append_right->bz,mem_singleton->bd,getElem?_map->aX,not_mem_nil->aU,length_take->be,getElem?_append_right->cP,length_range->bA,getElem?_append_left->cY,mem_map->aT,map_map->aV,map_append->bD,mem_cons_of_mem->cX,mem_append->bO,getElem?_set->cM,eraseIdx_eq_take_drop_succ->gK,mem_cons_self->dz,take_length->dh,map_cons->cz,length_singleton->fF,length_filter_le->fV,mem_range->cW,getElem?_eq_none->gc,mem_filter->dH,length_drop->eh,append_assoc->eO,drop_eq_getElem_cons->iG,all_cons->da,length_set->eF,eq_nil_of_length_eq_zero->kQ,getElem?_range->gT,length_replicate->iw,take_add_one->gh,getElem?_replicate->jk,set_eq_take_append_cons_drop->nO,lookup_cons->gb,take_of_length_le->jB,replicate_succ->iy,length_pos_iff->iF,getElem?_toArray->jA,all_eq_true->gW,mem_append_left->iZ,mem_range'_1->iH,append_nil->gE,getElem_mem->iI,mem_or_eq_of_mem_set->nV,flatten_cons->jq,ext_getElem->jF,getElem?_set_self->lE,pairwise_lt_range->mO,length_pos_of_mem->oy,take_append_drop->mQ,ext_getElem?->kN,pairwise_iff_getElem->qk,getElem?_take_of_lt->oQ,pairwise_cons->mM,reverse_cons->lW,eraseIdxIfInBounds_toArray->tM,pairwise_map->mP,foldl_append->nK,take_append_of_le_length->wj,getElem?_set_ne->oD,getElem?_mapIdx->qC,any_cons->kA,filterMap_cons->oB,nodup_cons->lS,foldl_cons->lX,perm_append_singleton->vZ,map_nil->kw,getElem?_take->qT,length_mapIdx->rZ,mem_take_iff_getElem->uB,getElem?_zip_eq_some->vx,length_eq_zero_iff->yt,getElem_map->qh,drop_length->qO,of_mem_zip->oP,getElem?_reverse->tW,dropLast_eq_take->vL,getElem_toArray->s0e,length_eraseIdx->s0f,mem_of_mem_drop->s0h,mem_of_mem_take->s0i,length_zipWith->s0v,map_congr_left->s0w,mem_filterMap->s1b,zip_cons_cons->s1m,map_set->s1q
open PySem.Heap renaming get?_push_of_some->aA,get?_push_size->aM,lt_size->aC,get?_update_other->dB,get?_update_self->eE,size_push->df
open Nat renaming le_refl->ar,ne_of_lt->aK,le_of_ble_eq_true->bN,lt_of_lt_of_le->bR,lt_succ_of_lt->cJ,le_trans->bB,zero_le->bC,lt_irrefl->cg,le_of_lt->cj,lt_succ_self->fG,not_lt_zero->gJ,ne_of_gt->fq,lt_or_ge->fO,succ_le_succ->jr,min_eq_left->jD,zero_lt_succ->kM,lt_trans->iB,sub_self->iS,lt_of_le_of_lt->ph,add_sub_cancel_left->xa,succ_ne_self->pR
open Bool renaming false_ne_true->br,and_eq_true->bu,and_eq_true_iff->kU,or_eq_true->iO,false_eq_true->mI,eq_iff_iff->lM,false_and->lG,and_false->mU,false_or->ni
open PySem.Around renaming under_plainId->cq
open Array renaming getElem?_eq_getElem->dO,getElem?_toList->db,getElem?_eq_none->mL,getElem?_eq_some_iff->pr,toArray_toList->mD
open Option.some renaming inj->bS,injEq->nC
open PyProof.Rows renaming callWith_type1->fD,slot_tuple_getitem->lV,subscriptTail_builtinR->tG,entry_tuple_getitem->s0r,args_tuple_getitem->s1f,len_tuple->s1g
open Int renaming emod_lt_of_pos->fh,toNat_of_nonneg->fQ,emod_nonneg->eN,mul_le_mul_of_nonneg_left->lA,mul_le_mul_of_nonneg_right->nU,fdiv_eq_ediv_of_nonneg->lK,le_refl->iE,le_trans->jS,fmod_eq_emod_of_nonneg->sG,mul_ediv_self_le->s0g,mul_le_mul->s0p,mul_one->s0q,one_mul->s0x,natCast_nonneg->s1c,mul_assoc->s1n
open PySem.F renaming plain_max_loop->iC,slot_tuple_iterator_next->mx,args_object_init_2->kD,plain_list_iadd->jy,plain_tuple_new->jz,plainAttrs_list->nH,args_tuple_add_2->oW,entry_tuple_add->oV,slot_tuple_add->oU,entry_max_loop->qg,entry_proto_collect->pE,plain_proto_collect->pF,slot_dict_get->qd,args_tuple_iterator_next_1->tZ,plain_extend_loop->pH,entry_object_init->pM,entry_tuple_iterator_next->tY,typeCall_tuple_1->pL,plain_extend_loop->uO,entry_list_iadd->pG,newCall_tuple_1->pI,entry_tuple_new->pJ,args_dict_get_2->ur,plain_list_iadd->uN,entry_dict_get->uq,slot_enumerate_next->uc,slot_list_pop->s0a,type_list_pop->s0b,args_list_append_2->s0d,called_tuple->s0o,entry_list_append->s0s,slot_list_append->s1h
open Ne renaming symm->bx
open PySem.Heap.SameBut renaming update->jw
open PySem.Obj renaming data_mapFields->jx,isFreed_of_fields->py
open Option renaming map_eq_some_iff->mG
open PySem.AutoSeq1 renaming wpAny_loadPart'->pQ
open PySem.Calls renaming spliced_cons->lO,callWith_builtin->pc,spliced_nil->lN,Name_function_global->si,call_function_entry->ug,evalArgs_plain->s0c
open PyProof.Rows.F renaming plain_set_update_loop->qo,entry_set_update_loop->uG
open And renaming intro->gj
open PySem.Value renaming isInt_shape->oz
open PyProof renaming noPylong_of_log2->tQ
open True renaming intro->jC
open Prod.mk renaming injEq->nD
open PySem.SeqAt.EqAt renaming same->oZ,int_str->s0y,str_int->s0z,of_refs->s1l
open PySem.W renaming kia_one->jM
open PySem.Moved renaming drop_new->s0l
open PySem.ItemsOf renaming nil->s0t
open Sum.inr renaming inj->s1r
def ay:=@of_decide_eq_true
def aP:=@decide_eq_false
def bf:=@decide_eq_true
def aY:=@or_false
def gY:=@decide_eq_true_eq
def bK:=@congrArg
def iW:=@of_decide_eq_false
def kO:=@beq_self_eq_true
def oA:=@beq_eq_false_iff_ne
def dZ:=@if_true
def mS:=@beq_false_of_ne
def vv:=@decide_eq_false_iff_not
def oN:=@decide_eq_decide
def s1e:=@if_false
section
set_option compiler.extract_closed false
set_option hygiene false

set_option hygiene true
noncomputable section
namespace _L
open PySem PySem.Spec PyProof.Rows
abbrev Key:=Sum Int Str
noncomputable def iY:Key->Value->Bool
 |.inl k,v=>Value.isInt k v
 |.inr x,v=>Value.isStrOf x v
noncomputable def yz(w:World):Key->Int
 |.inl k=>hashInt k
 |.inr x=>hashStr w x
theorem fW:∀ {k:Key}{v:Value},iY k v=true->(∃i t,k=Sum.inl i/\v=Value.int i t)\/(∃x t,k=Sum.inr x/\v=Value.str x t)
 |.inl i,v,h=>by
  obtain⟨t,e⟩:=oz (k:=i) (v:=v) h;exact .inl ⟨i,t,O,e⟩
 |.inr x,v,h=>by
  obtain⟨t,e⟩:=Value.isStrOf_shape (x:=x) (v:=v) h;exact .inr ⟨x,t,O,e⟩
def se(i:Int)(t:Tok):iY (.inl i) (.int i t)=true:=by simp[iY,Value.isInt]
def lD(x:Str)(t:Tok):iY (.inr x) (.str x t)=true:=by simp[iY,Value.isStrOf]
def yA(a b:Int):decide ((Sum.inl a:Key)=Sum.inl b)=(a == b):=by
 by_cases e:a=b
 ·subst e;simp
 ·have h:¬(Sum.inl a:Key)=Sum.inl b:=λ q=>e (Sum.inl.inj q);rw[aP h];exact(oA.mpr e).symm
def yB(a b:Str):decide ((Sum.inr a:Key)=Sum.inr b)=decide (a=b):=by
 by_cases e:a=b
 ·subst e;simp
 ·have h:¬(Sum.inr a:Key)=Sum.inr b:=λ q=>e (s1r q);rw[aP h,aP e]
def yC(a:Int)(b:Str):decide ((Sum.inl a:Key)=Sum.inr b)=false:=aP (λ q=>nomatch q)
def yD(a:Str)(b:Int):decide ((Sum.inr a:Key)=Sum.inl b)=false:=aP (λ q=>nomatch q)
noncomputable def cx(prog:Program)(w:World):PySem.KeyKind prog w Key where
 is:=iY
 hash:=yz w
 inj:=λ v a b ha hb=>by
  rcases fW ha with ⟨i,t,rfl,rfl⟩|⟨x,t,rfl,rfl⟩
  ·rcases fW hb with ⟨j,u,rfl,e⟩|⟨y,u,rfl,e⟩
   ·injection e with e1 _;rw[e1]
   ·exact nomatch e
  ·rcases fW hb with ⟨j,u,rfl,e⟩|⟨y,u,rfl,e⟩
   ·exact nomatch e
   ·injection e with e1 _;rw[e1]
 byValue:=λ k v h=>by
  rcases fW h with ⟨i,t,rfl,rfl⟩|⟨x,t,rfl,rfl⟩<;>rfl
 pyHash:=λ hv h=>by
  rcases fW hv with ⟨i,t,rfl,rfl⟩|⟨x,t,rfl,rfl⟩
  ·exact wpAny_pyHash_int h
  ·exact wpAny_pyHash_str h
 eqBool:=λ hu hv h=>by
  rcases fW hu with ⟨i,t,rfl,rfl⟩|⟨x,t,rfl,rfl⟩
  ·rcases fW hv with ⟨j,u,rfl,rfl⟩|⟨y,u,rfl,rfl⟩
   ·rw[yA] at h;exact wpAny_eqBool_int h
   ·rw[yC] at h;exact s0y i t y u _ _ _ _ h
  ·rcases fW hv with ⟨j,u,rfl,rfl⟩|⟨y,u,rfl,rfl⟩
   ·rw[yD] at h;exact s0z x t j u _ _ _ _ h
   ·rw[yB] at h;exact wpAny_eqBool_str h
 «strs»:=λ k x t v h=>by
  rcases fW h with ⟨i,u,rfl,e⟩|⟨y,u,rfl,e⟩
  ·exact nomatch e
  ·injection e with e1 _
   subst e1;cases v<;>rfl
def yE(prog:Program)(w:World)(i:Int)(t:Tok):(cx prog w).is (.inl i) (.int i t)=true:=se i t
def yF(prog:Program)(w:World)(x:Str)(t:Tok):(cx prog w).is (.inr x) (.str x t)=true:=lD x t
inductive V where
 |non|bl (b:Bool)|int (i:Int)|str (x:Str)|byt (b:Array UInt8)|flt (b:UInt64)|ref (a:Addr)|ty (n:String)
 deriving DecidableEq
noncomputable def RelV:V->Value->Prop
 |.non,u=>u=Value.none
 |.bl b,u=>u=Value.bool b
 |.int i,u=>∃t,u=Value.int i t
 |.str x,u=>∃t,u=Value.str x t
 |.byt b,u=>∃t,u=Value.bytes b t
 |.flt b,u=>∃t,u=Value.float b t
 |.ref a,u=>u=Value.ref a
 |.ty n,u=>u=Value.type n
abbrev Vals:List V->LV->Prop:=Paired RelV
def Vals.length(r:Vals xs us):xs.length=us.length:=Paired.length r
theorem Vals.get:∀ {xs:List V}{us:LV}{i:Nat}{x:V},Vals xs us->xs[i]?=some x->∃u,us[i]?=some u/\RelV x u
 |_,_,_,_,.nil,e=>by simp at e
 |_,_,0,_,.cons r _,e=>by simp at e;subst e;exact⟨_,rfl,r⟩
 |_,_,i+1,x,.cons _ t,e=>by
  obtain⟨u,h1,h2⟩:=Vals.get (i:=i) (x:=x) t (by simpa using e);exact⟨u,by simpa using h1,h2⟩
theorem Vals.set(r:RelV x u):∀ {xs:List V}{us:LV}(i:Nat),Vals xs us->Vals (xs.set i x) (us.set i u)
 |_,_,_,.nil=>.nil
 |_,_,0,.cons _ t=>.cons r t
 |_,_,i+1,.cons q t=>.cons q (Vals.set r i t)
theorem Vals.append:∀ {xs ys:List V}{us ws:LV},Vals xs us->Vals ys ws->Vals (xs++ys) (us++ws)
 |_,_,_,_,.nil,s=>s
 |_,_,_,_,.cons r t,s=>.cons r (Vals.append t s)
theorem Vals.take:∀ {xs:List V}{us:LV}(n:Nat),Vals xs us->Vals (xs.take n) (us.take n)
 |_,_,0,_=>.nil
 |_,_,_+1,.nil=>.nil
 |_,_,n+1,.cons r t=>.cons r (Vals.take n t)
theorem Vals.drop:∀ {xs:List V}{us:LV}(n:Nat),Vals xs us->Vals (xs.drop n) (us.drop n)
 |_,_,0,r=>r
 |_,_,_+1,.nil=>.nil
 |_,_,n+1,.cons _ t=>Vals.drop n t
noncomputable def RelO:Option V->Option Value->Prop
 |some v,some u=>RelV v u
 |none,none=>True
 |_,_=>False
noncomputable def KV{κ:Type}:List (κ×V)->List (κ×Value)->Prop:=Paired λ(p:κ×V) (q:κ×Value)=>p.1=q.1/\RelV p.2 q.2
def kV:Key->V
 |.inl i=>.int i
 |.inr x=>.str x
inductive HO where
 |lst (xs:List V)
 |tup (xs:List V)
 |dK (kvs:List (Key×V))|dT (kvs:List (List Key×V))
 |set (S:Int->Bool) (n:Nat)
 |ins (C dx:Addr) (fs:List (Str×V))
 |own (x:Addr)
 |xd (fs:List (Str×V))
 |met (f x:Addr)
 |rng (lo hi:Int)
 |frz (o:Obj) (u:HO)
 |tbl (ps:Array Value)
 |ext (φ:Heap->Prop)
abbrev Hp:=Addr->Option HO
noncomputable def upd(H:Hp)(a:Addr)(o:HO):Hp:=λ b=>if b=a then some o else H b
def cV:upd H a o a=some o:=by unfold upd;rw[if_pos rfl]
def aL{a b:Addr}(h:b≠a):upd H a o b=H b:=by unfold upd;rw[if_neg h]
def kg{H:Hp}(h:H a=some o)(h':H b=none):a≠b:=by
 intro e;subst e;rw[h] at h';cases h'
noncomputable def TupO(h:Heap)(a:Addr)(its:Array Value):Prop:=∃o,h.get? a=some o/\(o.cls=.type "tuple" /\ ∃n,o.data=.seq its n)/\o.dict=none
def TupO.new(h:Heap)(its:Array Value):TupO (h.push { cls:=.type "tuple",data:=.seq its }) h.objs.size its:=⟨_,aM _ rfl,⟨rfl,0,rfl⟩,rfl⟩
def TupO.tup(t:TupO h a its):IsTup h a its:=let ⟨o,e,⟨c,n,d⟩,_⟩:=t;⟨o,e,c,n,d⟩
def TupO.lt(t:TupO h a its):a<h.objs.size:=t.tup.lt
section
variable (P:Program)(w:World)
noncomputable def ObjOk(H:Hp)(h:Heap)(a:Addr):HO->Prop
 |.lst xs=>xs.length<=sizeLine/\∃(its:LV) (n:Nat),Vals xs its/\h.get? a=some { cls:=.type "list",data:=.seq its.toArray n }
 |.tup xs=>xs.length<=sizeLine/\∃its:LV,Vals xs its/\TupO h a its.toArray
 |.dK kvs=>kvs.length<=sizeLine/\(a == sysModules)=false/\∃vs,KV kvs vs/\h.DictOf (cx P w) a vs
 |.dT kvs=>kvs.length<=sizeLine/\(a == sysModules)=false/\∃xs:List (List Key×Addr×Value),
   Paired (λ(p:List Key×V) (q:List Key×Addr×Value)=>p.1=q.1/\H q.2.1=some (.tup (p.1.map kV))/\RelV p.2 q.2.2) kvs xs /\
   ∃o es ep,h.get? a=some o/\o.ExactDict/\o.data=.dict es ep/\es.toList=xs.map (entryOfKey (tupleKind (cx P w)))/\(xs.map (·.1)).Nodup
 |.set S n=>h.SetOf (intKind P w) a S n
 |.ins C dx fs=>H dx=some (.own a)/\fs.length<=1000/\dx≠a/\h.get? a=some (W.instObj C dx) /\
   ∃mA,h.Ns1 dx mA/\(∀f,RelO (fs.lookup f) (mA f))/\PySem.Within mA (fs.map (·.1))
 |.own _=>∃o,h.get? a=some o
 |.xd fs=>∃mA,h.Ns1 a mA/\∀f,RelO (fs.lookup f) (mA f)
 |.rng lo hi=>∃t u v,h.get? a=some { cls:=.type "range",data:=.fields #[.int lo t,.int hi u,.int 1 v] }
 |.frz o u=>h.get? a=some o/\ObjOk H h a u
 |.tbl ps=>h.get? a=some { cls:=.none,data:=.fields ps }
 |.met f x=>h.get? a=some (W.methodObj (.ref f) (.ref x))
 |.ext φ=>φ h/\(∃o,h.get? a=some o)/\∀h1 h2:Heap,φ h1->(∀o,h1.get? a=some o->h2.get? a=some o)->φ h2
noncomputable def HOk(H:Hp)(h:Heap):Prop:=∀a o,H a=some o->ObjOk P w H h a o
end
section
variable {P:Program}{w:World}{H H':Hp}{h h':Heap}{a:Addr}{o:HO}
def ObjOk.lt(x:ObjOk P w H h a o):a<h.objs.size:=by
 cases o with
 |lst xs=>obtain⟨_,_,_,_,e⟩:=x;exact aC e
 |tup xs=>obtain⟨_,_,_,p⟩:=x;exact p.lt
 |dK kvs=>obtain⟨_,_,_,_,o,_,_,e,_⟩:=x;exact aC e
 |dT kvs=>obtain⟨_,_,_,_,o,_,_,e,_⟩:=x;exact aC e
 |set S n=>obtain⟨o,_,_,_,e,_⟩:=x;exact aC e
 |ins C dx fs=>obtain⟨_,_,_,e,_⟩:=x;exact aC e
 |own y=>obtain⟨_,e⟩:=x;exact aC e
 |xd fs=>obtain⟨_,⟨_,_,_,e,_⟩,_⟩:=x;exact aC e
 |rng lo hi=>obtain⟨_,_,_,e⟩:=x;exact aC e
 |frz ob u=>obtain⟨e,_⟩:=x;exact aC e
 |tbl ps=>exact aC (show h.get? a=some _ from x)
 |met f y=>exact aC (show h.get? a=some _ from x)
 |ext φ=>obtain⟨_,⟨_,e⟩,_⟩:=x;exact aC e
theorem Paired.mapP{α β:Type}{F G:α->β->Prop}:∀ {l₁:List α}{l₂:List β},Paired F l₁ l₂->(∀a b,F a b->G a b)->Paired G l₁ l₂
 |_,_,.nil,_=>.nil
 |_,_,.cons r t,f=>.cons (f _ _ r) (Paired.mapP t f)
theorem ObjOk.stay(x:ObjOk P w H h a o)(k:∀b u,(b=a\/H b=some (.own a))->h.get? b=some u->h'.get? b=some u)
  (ho:∀b,H b=some (.own a)->H' b=some (.own a)) (ht:∀b xs,H b=some (.tup xs)->H' b=some (.tup xs)):ObjOk P w H' h' a o:=by
 induction o with
 |lst xs=>obtain⟨z,its,n,r,e⟩:=x;exact⟨z,its,n,r,k _ _ (.inl rfl) e⟩
 |tup xs=>obtain⟨z,its,r,ob,e,c⟩:=x;exact⟨z,its,r,ob,k _ _ (.inl rfl) e,c⟩
 |dK kvs=>obtain⟨z,y,vs,r,ob,es,ep,e,c⟩:=x;exact⟨z,y,vs,r,ob,es,ep,k _ _ (.inl rfl) e,c⟩
 |dT kvs=>
  obtain⟨z,y,xs,r,ob,es,ep,e,c⟩:=x;exact⟨z,y,xs,Paired.mapP r λ p q z=>⟨z.1,ht _ _ z.2.1,z.2.2⟩,ob,es,ep,k _ _ (.inl rfl) e,c⟩
 |set S n=>obtain⟨ob,es,ep,t,e,c⟩:=x;exact⟨ob,es,ep,t,k _ _ (.inl rfl) e,c⟩
 |ins C dx fs=>
  obtain⟨d,z,ne,e,mA,⟨od,es,ep,e2,c⟩,r⟩:=x;exact⟨ho _ d,z,ne,k _ _ (.inl rfl) e,mA,⟨od,es,ep,k _ _ (.inr d) e2,c⟩,r⟩
 |own y=>obtain⟨ob,e⟩:=x;exact⟨ob,k _ _ (.inl rfl) e⟩
 |xd fs=>obtain⟨mA,⟨od,es,ep,e,c⟩,r⟩:=x;exact⟨mA,⟨od,es,ep,k _ _ (.inl rfl) e,c⟩,r⟩
 |rng lo hi=>obtain⟨t,u,v,e⟩:=x;exact⟨t,u,v,k _ _ (.inl rfl) e⟩
 |frz ob u ih=>obtain⟨e,q⟩:=x;exact⟨k _ _ (.inl rfl) e,ih q⟩
 |tbl ps=>
  have e:h.get? a=some { cls:=.none,data:=.fields ps }:=x;show h'.get? a=some { cls:=.none,data:=.fields ps };exact k a _ (.inl rfl) e
 |met f y=>
  have e:h.get? a=some (W.methodObj (.ref f) (.ref y)):=x;show h'.get? a=some (W.methodObj (.ref f) (.ref y));exact k a _ (.inl rfl) e
 |ext φ=>obtain⟨p,⟨o,e⟩,st⟩:=x;exact⟨st _ _ p λ o q=>k _ _ (.inl rfl) q,⟨o,k _ _ (.inl rfl) e⟩,st⟩
def HOk.lt(x:HOk P w H h)(e:H a=some o):a<h.objs.size:=(x a o e).lt
def HOk.fresh(x:HOk P w H h)(e:h.objs.size<=a):H a=none:=by
 cases q:H a with
 |none=>rfl
 |some u=>exact absurd (bR (x.lt q) e) (cg _)
def HOk.kept(x:HOk P w H h)(k:∀b u,h.get? b=some u->h'.get? b=some u):HOk P w H h':=λ a o e=>
 (x a o e).stay (λ b u _ q=>k b u q) (λ _ q=>q) λ _ _ q=>q
def HOk.laid(x:HOk P w H h)(k:∀b u,h.get? b=some u->h'.get? b=some u)(hp:h.objs.size<=a)(new:ObjOk P w (upd H a o) h' a o):HOk P w (upd H a o) h':=λ b u e=>by
 have hn:=x.fresh hp;by_cases hb:b=a
 ·subst hb;rw[cV] at e;cases e;exact new
 ·rw[aL hb] at e;exact(x b u e).stay (λ c v _ q=>k c v q) (λ c q=>by rw[aL (kg q hn)];exact q) λ c xs q=>by rw[aL (kg q hn)];exact q
end
noncomputable def Rd(H:Hp)(a:Addr)(u:HO):Prop:=H a=some u\/∃o,H a=some (.frz o u)
def Rd.ok(r:Rd H a u)(x:HOk P w H h):ObjOk P w H h a u:=by
 rcases r with r|⟨o,r⟩
 ·exact x a u r
 ·obtain⟨_,q⟩:=x a _ r;exact q
noncomputable def Mut:Option HO->Prop
 |some (.lst _)=>True
 |some (.dK _)=>True
 |some (.dT _)=>True
 |some (.set _ _)=>True
 |some (.ins _ _ _)=>True
 |some (.ext _)=>True
 |_=>False
section
variable {P:Program}{w:World}{H:Hp}{h h':Heap}{x e:Addr}{o':HO}
theorem HOk.write(ok:HOk P w H h)(mu:Mut (H x))(he:e=x\/H e=some (.own x))(k:∀b u,b≠e->h.get? b=some u->h'.get? b=some u)(heo:∃u,h'.get? e=some u)
  (new:ObjOk P w (upd H x o') h' x o'):HOk P w (upd H x o') h':=λ b u q=>by
 have nown:∀c y,H c=some (.own y)->c≠x:=λ c y r z=>by subst z;rw[r] at mu;exact mu
 have ntup:∀c xs,H c=some (.tup xs)->c≠x:=λ c xs r z=>by subst z;rw[r] at mu;exact mu
 by_cases hb:b=x
 ·subst hb;rw[cV] at q;cases q;exact new
 ·rw[aL hb] at q;by_cases hbe:b=e
  ·have q':H b=some (.own x):=by
    rcases he with z|z
    ·exact absurd (hbe.trans z) hb
    ·rw[hbe];exact z
   rw[q] at q';cases q';obtain⟨v,hv⟩:=heo;exact⟨v,by rw[hbe];exact hv⟩
  ·refine(ok b u q).stay (λ c v hc r=>k c v ?_ r) (λ c r=>by rw[aL (nown c b r)];exact r) λ c xs r=>by rw[aL (ntup c xs r)];exact r
   rcases hc with rfl|hc
   ·exact hbe
   ·rintro rfl
    rcases he with z|z
    ·exact nown c b hc z
    ·rw[hc] at z;cases z;exact hb rfl
end
structure Un (fs ex:List Addr)(H H':Hp)(h h':Heap):Prop where
 keep:∀b o,h.get? b=some o->H b=none->b ∉ fs->b ∉ ex->h'.get? b=some o
 slot:∀b o,h.get? b=some o->H b=none->b∈fs->b ∉ ex->∃sl,h'.get? b=some { o with slots:=sl }
 free:∀b o,h.get? b=some o->H b=none->b ∉ ex->H' b=none
 there:∀b o,h.get? b=some o->b ∉ ex->∃o',h'.get? b=some o'
 tups:∀b xs,H b=some (.tup xs)->H' b=some (.tup xs)
 frzs:∀b o u,H b=some (.frz o u)->H' b=some (.frz o u)
 tbls:∀b ps,H b=some (.tbl ps)->∃more,H' b=some (.tbl (ps++more))
section
variable {fs fs' ex ex':List Addr}{H H1 H2:Hp}{h h1 h2 h':Heap}{a x e:Addr}{o:HO}
def Un.any(u:Un fs ex H H1 h h1){b:Addr}(q:h.get? b=some ob)(n:H b=none)(hx:b ∉ ex):∃sl,h1.get? b=some { ob with slots:=sl }:=by
 by_cases hb:b∈fs
 ·exact u.slot b ob q n hb hx
 ·exact⟨ob.slots,u.keep b ob q n hb hx⟩
def Un.kept(k:∀b u,h.get? b=some u->h'.get? b=some u):Un fs ex H H h h' :=
 ⟨λ b ob q _ _ _=>k b ob q,λ b ob q _ _ _=>⟨ob.slots,k b ob q⟩,λ _ _ _ n _=>n,λ b ob q _=>⟨ob,k b ob q⟩,λ _ _ q=>q,λ _ _ _ q=>q,λ _ ps q=>⟨#[],by rw[q];simp⟩⟩
def Un.refl:Un fs ex H H h h:=Un.kept λ _ _ q=>q
theorem Un.laid(k:∀b u,h.get? b=some u->h'.get? b=some u)(hp:h.objs.size<=a)(hn:H a=none):Un fs ex H (upd H a o) h h' where
 keep:=λ b u q _ _ _=>k b u q
 slot:=λ b u q _ _ _=>⟨u.slots,k b u q⟩
 free:=λ b u q n _=>by rw[aL (aK (bR (aC q) hp))];exact n
 there:=λ b u q _=>⟨u,k b u q⟩
 tups:=λ b xs q=>by rw[aL (kg q hn)];exact q
 frzs:=λ b u xs q=>by rw[aL (kg q hn)];exact q
 tbls:=λ b ps q=>⟨#[],by rw[aL (kg q hn),q];simp⟩
def Un.write(mu:Mut (H x))(he:e=x\/H e=some (.own x))(k:∀b u,b≠e->h.get? b=some u->h'.get? b=some u)(heo:∃u,h'.get? e=some u):Un fs ex H (upd H x o) h h':=by
 have hx:∀b,H b=none->b≠x:=λ b n z=>by subst z;rw[n] at mu;exact mu
 have hb:∀b,H b=none->b≠e:=λ b n z=>by
  subst z
  rcases he with r|r
  ·exact hx b n r
  ·rw[n] at r;cases r
 have hm:∀b u,H b=some u->¬Mut (some u)->b≠x:=λ b u q nm z=>by subst z;rw[q] at mu;exact nm mu
 refine⟨λ b u q n _ _=>k b u (hb b n) q,λ b u q n _ _=>⟨u.slots,k b u (hb b n) q⟩,λ b u q n _=>by rw[aL (hx b n)];exact n,λ b u q _=>?_,
  λ b xs q=>by rw[aL (hm b _ q λ z=>z)];exact q,λ b u xs q=>by rw[aL (hm b _ q λ z=>z)];exact q,λ b ps q=>⟨#[],by rw[aL (hm b _ q λ z=>z),q];simp⟩⟩
 by_cases hbe:b=e
 ·subst hbe;exact heo
 ·exact⟨u,k b u hbe q⟩
end
noncomputable def trk(h:Heap)(H:Hp):List Addr:=(List.range h.objs.size).filter λ a=>(H a).isSome
def fX(h:Heap)(H:Hp):Heap:=W.hideAll h (trk h H)
def yG(h:Heap)(H:Hp):(fX h H).objs.size=h.objs.size:=W.hideAll_size _ _
def yH{h:Heap}{H:Hp}{b:Addr}(e:h.get? b=some o)(n:H b=none):(fX h H).get? b=some o :=
 W.hideAll_get _ e λ hm=>by
  have q:(H b).isSome=true:=(dH.mp hm).2;rw[n] at q;simp at q
def yI{b:Addr}(e:(fX h H).get? b=some o):h.get? b=some o/\H b=none:=by
 have e':h.get? b=some o:=W.of_hideAll (trk h H) e;refine⟨e',?_⟩
 cases q:H b with
 |none=>rfl
 |some x=>
  have hm:b∈trk h H:=dH.mpr ⟨cW.mpr (aC e'),by simp[q]⟩;have z:(fX h H).get? b=none:=W.hideAll_none (trk h H) hm;rw[z] at e;cases e
noncomputable def yJ(g h:Heap)(L:Addr):LO:=(List.range h.objs.size).filterMap λ a=>if a=L\/(g.get? a).isSome=true then none else (h.get? a).map λ o=>(a,o)
noncomputable def rest(g h:Heap)(L d:Addr):LO:=(yJ g h L).filter λ p=>decide (p.1≠d)
structure Mod (K:FG)(mg:SV)(base:Heap):Prop where
 kin:K.In base
 glob:base.Ns mainGlobals mg
 blt:∃mb,base.Ns builtinsNs mb/\∀x:Str,x ≠ "__name__" -> mb x=bootBuiltins x
 nolimit:base.NoLimit
structure Cx where
 prog:Program
 w:World
 K:FG
 mg:SV
 base:Heap
 A:Around
 N:List Str
 s₀:Shared
 H₀:Hp
 env:Env
 outer:List Env
 stack:List Env
 ex:List Addr
 fn:Str->Bool
 calm:Bool
 pn:LO
 xe:VS
def frs(l:List Env):List Addr:=l.filterMap (·.frame)
abbrev Cx.fs(X:Cx):List Addr:=frs X.outer
noncomputable def Vis(sc:Scope)(x:Str):Prop:=sc.names.lookup x=some .local\/sc.names.lookup x=some .cell\/sc.names.lookup x=some .free
noncomputable def Loc(sc:Scope)(x:Str):Prop:=sc.names.lookup x=some .local\/sc.names.lookup x=some .cell
noncomputable def yK(env:Env)(h:Heap)(m:SV)(x:Str)(u:Value):Prop :=
 (env.kindOf x=some .local/\m x=some u)\/((env.kindOf x=some .cell\/env.kindOf x=some .free)/\∃c,env.cells.lookup x=some c/\h.IsCell c (some u))
structure Cx.Ok (X:Cx):Prop where
 mod:Mod X.K X.mg X.base
 kind:X.env.scope.kind=.function
 glob:X.env.globals=mainGlobals
 blt:X.env.builtins=builtinsNs
 above:X.s₀.heap.objs.size<=X.env.locals
 inj:∀x y c,X.env.cells.lookup x=some c->X.env.cells.lookup y=some c->x=y
 has:∀x,(X.env.kindOf x=some .cell\/X.env.kindOf x=some .free)->∃c,X.env.cells.lookup x=some c
 cab:∀x c,X.fn x=true->X.env.cells.lookup x=some c->X.s₀.heap.objs.size<=c
 hd:X.calm=true->X.A.handled=none
 frames:X.A.frames=some X.stack
 stk:X.stack=X.outer\/(X.stack=X.env::X.outer/\X.env.frame=some X.env.locals)
 exf:∀b∈X.ex,b≠X.env.locals/\∀x c,X.env.cells.lookup x=some c->c≠b
 bs:∀b o,X.base.get? b=some o->X.s₀.heap.get? b=some o/\X.H₀ b=none
 bsz:X.base.objs.size<=X.s₀.heap.objs.size
 noex:∀b o,X.base.get? b=some o->b ∉ X.ex
 exfs:∀b∈X.ex,b ∉ X.fs
 funs:X.s₀.heap.FunFrames X.base X.outer
 frf:∀b∈X.fs,X.H₀ b=none
structure Inv (X:Cx)(pins:LO)(σ:List (Option V))(H:Hp)(s:Shared):Prop where
 ok:X.Ok
 os:s.os=X.s₀.os
 bare:AllBare s.gens
 base:Un X.fs X.ex X.H₀ H X.s₀.heap s.heap
 loc:∃m,s.heap.Ns X.env.locals m/\∀(i:Nat) (x:Str) (v:V),X.N[i]?=some x->σ[i]?=some (some v)->Vis X.env.scope x->∃u,RelV v u/\yK X.env s.heap m x u
 cell:∀x c,X.env.cells.lookup x=some c->∃v,s.heap.IsCell c v
 free:H X.env.locals=none
 freeC:∀x c,X.env.cells.lookup x=some c->H c=none
 pin:∀p∈X.pn++pins,s.heap.get? p.1=some p.2/\H p.1=none/\p.1≠X.env.locals/\p.1 ∉ X.fs/\∀v,p.2.data≠.cell v
 hok:HOk X.prog X.w H s.heap
 len:σ.length=X.N.length
variable {X:Cx}
section
variable {pins:LO}{σ:List (Option V)}{H H':Hp}{s:Shared}{h':Heap}
def Cx.Ok.nofr(ok:X.Ok){b:Addr}(e:X.base.get? b=some o):b ∉ X.fs:=λ hb=>by
 have:=(ok.funs.mem hb).1;rw[e] at this;cases this
def Inv.bs(I:Inv X pins σ H s):∀b o,X.base.get? b=some o->s.heap.get? b=some o/\H b=none:=λ b o e=>
 ⟨I.base.keep b o (I.ok.bs b o e).1 (I.ok.bs b o e).2 (I.ok.nofr e) (I.ok.noex b o e),I.base.free b o (I.ok.bs b o e).1 (I.ok.bs b o e).2 (I.ok.noex b o e)⟩
def Inv.bk(I:Inv X pins σ H s):∀b o,X.base.get? b=some o->s.heap.get? b=some o:=λ b o e=>(I.bs b o e).1
def Inv.mod(I:Inv X pins σ H s):Mod X.K X.mg X.base:=I.ok.mod
def Inv.kIn(I:Inv X pins σ H s):X.K.In s.heap:=I.ok.mod.kin.keeps I.bk
def Inv.lt(I:Inv X pins σ H s):X.env.locals<s.heap.objs.size:=let ⟨_,hn,_⟩:=I.loc;hn.lt
def Inv.sz(I:Inv X pins σ H s):X.s₀.heap.objs.size<=s.heap.objs.size:=bB I.ok.above (cj I.lt)
def Inv.nofs(I:Inv X pins σ H s){a:Addr}(h:s.heap.objs.size<=a):a ∉ X.fs:=λ hb=>by
 obtain⟨_,o,ho,_⟩:=I.ok.funs.mem hb;exact absurd (bR (aC ho) (bB I.sz h)) (cg _)
def Inv.cne(I:Inv X pins σ H s):∀x c,X.env.cells.lookup x=some c->c≠X.env.locals:=λ x c e z=>by
 obtain⟨v,o,ho,hd⟩:=I.cell x c e;obtain⟨m,⟨o',es,ep,ho',hd',_⟩,_⟩:=I.loc;rw[z,ho'] at ho;cases ho;rw[hd'] at hd;cases hd
def Inv.funs(I:Inv X pins σ H s):s.heap.FunFrames X.base X.outer:=by
 have all:∀(l:List Env),(∀b∈frs l,b∈X.fs)->X.s₀.heap.FunFrames X.base l->s.heap.FunFrames X.base l:=by
  intro l
  induction l with
  |nil=>intro _ _;trivial
  |cons env r ih=>
   intro hs hl;obtain⟨hk,⟨L,o,hf,hn,ho,hd⟩,hr⟩:=hl;have hL:L∈X.fs:=hs L (by unfold frs;rw[oB,hf];exact dz);obtain⟨sl,e⟩:=I.base.slot L o ho (I.ok.frf L hL) hL λ z=>I.ok.exfs L z hL;exact⟨hk,⟨L,_,hf,hn,e,hd⟩,ih (λ b hb=>hs b (by unfold frs;rw[oB,hf];exact cX _ hb)) hr⟩
 exact all X.outer (λ _ hb=>hb) I.ok.funs
def Inv.stack(I:Inv X pins σ H s):s.heap.FunFrames X.base X.stack:=by
 rcases I.ok.stk with e|⟨e,hf⟩
 ·rw[e];exact I.funs
 ·rw[e];obtain⟨m,hn,_⟩:=I.loc;refine .cons (by rw[I.ok.kind];decide) hf hn ?_ I.funs;exact Heap.get?_none_of_le (bB I.ok.bsz I.ok.above)
def Inv.stkSub(I:Inv X pins σ H s):∀b∈frs X.stack,b∈X.env.locals::X.fs:=λ b hb=>by
 rcases I.ok.stk with e|⟨e,hf⟩
 ·rw[e] at hb;exact cX _ hb
 ·rw[e] at hb;unfold frs at hb;rw[oB,hf] at hb;exact hb
def Inv.stkFree(I:Inv X pins σ H s):∀b∈frs X.stack,H b=none:=λ b hb=>by
 rcases aG.mp (I.stkSub b hb) with e|hb
 ·rw[e];exact I.free
 ·obtain⟨_,o,ho,_⟩:=I.ok.funs.mem hb;exact I.base.free b o ho (I.ok.frf b hb) λ z=>I.ok.exfs b z hb
theorem Inv.step{t':Nat}{d':Drawn}{ch:List Addr}(I:Inv X pins σ H s)
  (hch:∀b∈ch,(b∈X.ex\/X.s₀.heap.objs.size<=b)/\b≠X.env.locals/\(∀x c,X.env.cells.lookup x=some c->c≠b)/\∀p∈X.pn++pins,p.1≠b)
  (keep:∀b o,b≠X.env.locals->b ∉ X.fs->b ∉ ch->s.heap.get? b=some o->H b=none->h'.get? b=some o)
  (slot:∀b o,b≠X.env.locals->b∈X.fs->b ∉ ch->s.heap.get? b=some o->H b=none->∃sl,h'.get? b=some { o with slots:=sl }) (free:∀b o,b ∉ ch->s.heap.get? b=some o->H b=none->H' b=none)
  (there:∀b o,b ∉ ch->s.heap.get? b=some o->∃o',h'.get? b=some o')
  (tups:∀b xs,H b=some (.tup xs)->H' b=some (.tup xs)) (frzs:∀b o u,H b=some (.frz o u)->H' b=some (.frz o u)) (tbls:∀b ps,H b=some (.tbl ps)->∃more,H' b=some (.tbl (ps++more)))
  (ns:∀m,s.heap.Ns X.env.locals m->h'.Ns X.env.locals m) (hok:HOk X.prog X.w H' h') (hg:AllBare g') :
  Inv X pins σ H' { s with heap:=h',gens:=g',drawn:=d',toks:=t' }:=by
 have neL:∀b o,X.s₀.heap.get? b=some o->b≠X.env.locals:=λ b o e=>aK (bR (aC e) I.ok.above)
 have neC:∀b o,X.s₀.heap.get? b=some o->b ∉ X.ex->b ∉ ch:=λ b o e hx hb=>by
  rcases(hch b hb).1 with z|z
  ·exact hx z
  ·exact absurd (bR (aC e) z) (cg _)
 have cellK:∀x c,X.env.cells.lookup x=some c->∀v,s.heap.IsCell c v->h'.IsCell c v:=λ x c e v ⟨o,ho,hd⟩=>by
  have nch:c ∉ ch:=λ z=>(hch c z).2.2.1 x c e rfl;by_cases hc:c∈X.fs
  ·obtain⟨sl,q⟩:=slot c o (I.cne x c e) hc nch ho (I.freeC x c e);exact⟨_,q,hd⟩
  ·exact⟨o,keep c o (I.cne x c e) hc nch ho (I.freeC x c e),hd⟩
 refine⟨I.ok,I.os,hg,⟨λ b o e n hb hx=>?_,λ b o e n hb hx=>?_,λ b o e n hx=>?_,λ b o e hx=>?_,λ b xs e=>tups b xs (I.base.tups b xs e),λ b o xs e=>frzs b o xs (I.base.frzs b o xs e),λ b ps e=>?_⟩,?_,λ x c e=>?_,?_,λ x c e=>?_,λ p hp=>?_,hok,I.len⟩
 ·exact keep b o (neL b o e) hb (neC b o e hx) (I.base.keep b o e n hb hx) (I.base.free b o e n hx)
 ·obtain⟨sl,e1⟩:=I.base.slot b o e n hb hx;obtain⟨sl',e2⟩:=slot b _ (neL b o e) hb (neC b o e hx) e1 (I.base.free b o e n hx);exact⟨sl',e2⟩
 ·obtain⟨o',e1⟩:=I.base.there b o e hx;exact free b o' (neC b o e hx) e1 (I.base.free b o e n hx)
 ·obtain⟨o',e1⟩:=I.base.there b o e hx;exact there b o' (neC b o e hx) e1
 ·obtain⟨m1,e1⟩:=I.base.tbls b ps e;obtain⟨m2,e2⟩:=tbls b _ e1;exact⟨m1++m2,by rw[e2,Array.append_assoc]⟩
 ·obtain⟨m,hn,hl⟩:=I.loc;refine⟨m,ns m hn,λ i x v e1 e2 e3=>?_⟩;obtain⟨u,r,l⟩:=hl i x v e1 e2 e3;refine⟨u,r,?_⟩
  rcases l with l|⟨k,c,e,z⟩
  ·exact .inl l
  ·exact .inr ⟨k,c,e,cellK x c e _ z⟩
 ·obtain⟨v,z⟩:=I.cell x c e;exact⟨v,cellK x c e v z⟩
 ·obtain⟨m,⟨o,_,_,ho,_⟩,_⟩:=I.loc;exact free _ o (λ z=>(hch _ z).2.1 rfl) ho I.free
 ·obtain⟨v,o,ho,hd⟩:=I.cell x c e;exact free c o (λ z=>(hch c z).2.2.1 x c e rfl) ho (I.freeC x c e)
 ·obtain⟨e,n,ne,nf,d⟩:=I.pin p hp;have nch:p.1 ∉ ch:=λ z=>(hch p.1 z).2.2.2 p hp rfl;exact⟨keep p.1 p.2 ne nf nch e n,free p.1 p.2 nch e n,ne,nf,d⟩
def Inv.un{t':Nat}(I:Inv X pins σ H s)(u:Un X.fs [] H H' s.heap h')(hok:HOk X.prog X.w H' h'):Inv X pins σ H' { s with heap:=h',toks:=t' }:=by
 obtain⟨m,⟨o,es,ep,ho,r⟩,_⟩:=id I.loc;obtain⟨sl,hL⟩:=u.any ho I.free pv
 exact I.step (g':=s.gens) (d':=s.drawn) (ch:=[]) (λ _ z=>nomatch z) (λ b o _ hb _ e n=>u.keep b o e n hb pv) (λ b o _ hb _ e n=>u.slot b o e n hb pv) (λ b o _ e n=>u.free b o e n pv) (λ b o _ e=>u.there b o e pv) u.tups u.frzs u.tbls (λ m' hm=>by
  obtain⟨o',es',ep',ho',r'⟩:=hm;rw[ho] at ho';cases ho'
  exact⟨_,es',ep',hL,r'⟩) hok I.bare
theorem Inv.call{t':Nat}{d':Drawn}(I:Inv X pins σ H s)(u:Un (frs X.stack) ch H H' s.heap h')(hok:HOk X.prog X.w H' h')(hg:AllBare g')
  (hch:∀b∈ch,(b∈X.ex\/X.s₀.heap.objs.size<=b)/\b≠X.env.locals/\(∀x c,X.env.cells.lookup x=some c->c≠b)/\∀p∈X.pn++pins,p.1≠b) :
  Inv X pins σ H' { s with heap:=h',gens:=g',drawn:=d',toks:=t' }:=by
 obtain⟨m,⟨o,es,ep,ho,r⟩,_⟩:=id I.loc;obtain⟨sl,hL⟩:=u.any ho I.free λ z=>(hch _ z).2.1 rfl
 exact I.step (ch:=ch) hch (λ b o hL hb hc e n=>u.keep b o e n (λ z=>(aG.mp (I.stkSub b z)).elim hL hb) hc) (λ b o _ _ hc e n=>u.any e n hc) (λ b o hc e n=>u.free b o e n hc) (λ b o hc e=>u.there b o e hc) u.tups u.frzs u.tbls (λ m' hm=>by
  obtain⟨o',es',ep',ho',r'⟩:=hm;rw[ho] at ho';cases ho'
  exact⟨_,es',ep',hL,r'⟩) hok hg
theorem Inv.turned{t':Nat}{it:Addr}(I:Inv X pins σ H s)(k:∀b o,b≠it->s.heap.get? b=some o->h'.get? b=some o)(hn:H it=none)(hL:it≠X.env.locals)
  (h1:it∈X.ex\/X.s₀.heap.objs.size<=it) (h2:∀x c,X.env.cells.lookup x=some c->c≠it) (h3:∀p∈X.pn++pins,p.1≠it):Inv X pins σ H { s with heap:=h',toks:=t' }:=by
 have nit:∀b u,H b=some u->b≠it:=λ b u e z=>by rw[z,hn] at e;cases e
 refine I.step (g':=s.gens) (d':=s.drawn) (ch:=[it]) (λ b hb=>?_) (λ b o _ _ hc e _=>k b o (λ z=>hc (by simp[z])) e) (λ b o _ _ hc e _=>⟨o.slots,k b o (λ z=>hc (by simp[z])) e⟩) (λ _ _ _ _ n=>n)
  (λ b o hc e=>⟨o,k b o (λ z=>hc (by simp[z])) e⟩) (λ _ _ e=>e) (λ _ _ _ e=>e) (λ b ps e=>⟨#[],by rw[e];simp⟩) (λ m hm=>?_) (λ b u e=>?_) I.bare
 ·have e:b=it:=by simpa using hb
  subst e;exact⟨h1,hL,h2,h3⟩
 ·obtain⟨o,es,ep,ho,r⟩:=hm;exact⟨o,es,ep,k _ o (bx hL) ho,r⟩
 ·refine(I.hok b u e).stay (λ c v hc q=>k c v ?_ q) (λ _ q=>q) λ _ _ q=>q
  rcases hc with z|z
  ·rw[z];exact nit b u e
  ·exact nit c _ z
def Inv.tok(I:Inv X pins σ H s)(t:Nat):Inv X pins σ H { s with toks:=t }:=I.un (h':=s.heap) (t':=t) Un.refl I.hok
def Inv.kept{t':Nat}(I:Inv X pins σ H s)(k:∀b u,s.heap.get? b=some u->h'.get? b=some u):Inv X pins σ H { s with heap:=h',toks:=t' }:=I.un (Un.kept k) (I.hok.kept k)
theorem Inv.laid{a:Addr}{t':Nat}(I:Inv X pins σ H s)(k:∀b u,s.heap.get? b=some u->h'.get? b=some u)(hp:s.heap.objs.size<=a)(new:ObjOk X.prog X.w (upd H a o) h' a o) :
  Inv X pins σ (upd H a o) { s with heap:=h',toks:=t' }:=I.un (Un.laid k hp (I.hok.fresh hp)) (I.hok.laid k hp new)
theorem Inv.write{x e:Addr}{t':Nat}(I:Inv X pins σ H s)(mu:Mut (H x))(he:e=x\/H e=some (.own x))(k:∀b u,b≠e->s.heap.get? b=some u->h'.get? b=some u)(heo:∃u,h'.get? e=some u)
  (new:ObjOk X.prog X.w (upd H x o) h' x o):Inv X pins σ (upd H x o) { s with heap:=h',toks:=t' }:=I.un (Un.write mu he k heo) (I.hok.write mu he k heo new)
def Inv.pins_of{pins':LO}(I:Inv X pins σ H s)(h:∀p∈pins',s.heap.get? p.1=some p.2/\H p.1=none/\p.1≠X.env.locals/\p.1 ∉ X.fs/\∀v,p.2.data≠.cell v):Inv X pins' σ H s :=
 ⟨I.ok,I.os,I.bare,I.base,I.loc,I.cell,I.free,I.freeC,λ p hp=>(bO.mp hp).elim (λ z=>I.pin p (iZ _ z)) (h p),I.hok,I.len⟩
def sg{N:List Str}(hN:N.Nodup){i j:Nat}(a:N[i]?=some x)(b:N[j]?=some x):i=j:=by
 obtain⟨h1,e1⟩:=bc.mp a;obtain⟨h2,e2⟩:=bc.mp b;exact(List.getElem_inj hN).mp (e1.trans e2.symm)
theorem oC{i:Nat}{Q:Unit->Shared->Prop}(I:Inv X pins σ H s)(hN:X.N.Nodup)(hi:X.N[i]?=some x)(hx:Loc X.env.scope x)(r:RelV v u)
  (h:∀s',Inv X pins (σ.set i (some v)) H s'->(∃a,Heap.SameBut a s.heap s'.heap/\(a=X.env.locals\/X.env.cells.lookup x=some a))->Q () s') (hf:X.fn x=true\/X.env.scope.names.lookup x=some .local:=by first|exact .inl rfl|exact .inr rfl|assumption):wpAny M A (storeName X.env x u) Q E s:=by
 obtain⟨m,hn,hl⟩:=id I.loc;have hcls:(X.env.scope.kind == .class || (X.env.scope.kind == .module&&X.env.locals != X.env.globals))=false:=by rw[I.ok.kind];rfl
 have hiσ:i<σ.length:=by rw[I.len];exact(bc.mp hi).1
 have cne:=I.cne
 have tracked:∀ {a:Addr}{h':Heap},(∃o,s.heap.get? a=some o/\H a=none)->Heap.SameBut a s.heap h'->HOk X.prog X.w H h':=λ {a h'} ha hs b ob e=>by
  obtain⟨_,_,hfree⟩:=ha;refine(I.hok b ob e).stay (λ c w' hc q=>(hs.2 c ?_).trans q) (λ _ q=>q) λ _ _ q=>q;rintro rfl
  rcases hc with rfl|hc
  ·rw[hfree] at e;cases e
  ·rw[hfree] at hc;cases hc
 rcases hx with hk|hk
 ·refine wpAny_storeName_local hk hn (λ h' hn' hs=>?_) hcls;obtain⟨oL,_,_,hoL,_⟩:=id hn;refine h _ ⟨I.ok,I.os,I.bare,⟨λ b o e n hb hx=>?_,λ b o e n hb hx=>?_,I.base.free,λ b o e hx=>?_,I.base.tups,I.base.frzs,I.base.tbls⟩,⟨_,hn',λ j y v' e1 e2 e3=>?_⟩,λ y c e=>?_,I.free,I.freeC,λ p hp=>?_,tracked ⟨oL,hoL,I.free⟩ hs,by simpa using I.len⟩ ⟨_,hs,.inl rfl⟩
  ·exact(hs.2 b (aK (bR (aC e) I.ok.above))).trans (I.base.keep b o e n hb hx)
  ·obtain⟨sl,e1⟩:=I.base.slot b o e n hb hx;exact⟨sl,(hs.2 b (aK (bR (aC e) I.ok.above))).trans e1⟩
  ·obtain⟨o',e1⟩:=I.base.there b o e hx;exact⟨o',(hs.2 b (aK (bR (aC e) I.ok.above))).trans e1⟩
  ·by_cases hj:j=i
   ·subst hj;rw[hi] at e1;cases e1;rw[lE hiσ] at e2;cases e2;exact⟨u,r,.inl ⟨hk,pv⟩⟩
   ·rw[oD (bx hj)] at e2;obtain⟨u',r',q⟩:=hl j y v' e1 e2 e3;refine⟨u',r',?_⟩
    rcases q with ⟨k,e⟩|⟨k,c,e,z⟩
    ·refine .inl ⟨k,?_⟩;have:y≠x:=λ e=>hj (sg hN e1 (e ▸ hi));simp[this,e]
    ·exact .inr ⟨k,c,e,z.sameBut hs (cne y c e)⟩
  ·obtain⟨w',z⟩:=I.cell y c e;exact⟨w',z.sameBut hs (cne y c e)⟩
  ·obtain⟨e,n,ne,nf,d⟩:=I.pin p hp;exact⟨(hs.2 p.1 ne).trans e,n,ne,nf,d⟩
 ·have hfn:X.fn x=true:=by
   rcases hf with z|z
   ·exact z
   ·rw[z] at hk;cases hk
  obtain⟨c,hc⟩:=I.ok.has x (.inl hk);obtain⟨w',z⟩:=I.cell x c hc;refine wpAny_storeName_cell I.ok.kind hk hc z (λ h' hc' hs=>?_);obtain⟨oc,hoc,hocd⟩:=id z;refine h { s with heap:=h' } ⟨I.ok,I.os,I.bare,⟨λ b o e n hb hx=>?_,λ b o e n hb hx=>?_,I.base.free,λ b o e hx=>?_,I.base.tups,I.base.frzs,I.base.tbls⟩,⟨m,hn.sameBut hs (bx (cne x c hc)),λ j y v' e1 e2 e3=>?_⟩,λ y c' e=>?_,I.free,I.freeC,λ p hp=>?_,tracked ⟨oc,hoc,I.freeC x c hc⟩ hs,by simpa using I.len⟩ ⟨c,hs,.inr hc⟩
  ·exact(hs.2 b (aK (bR (aC e) (I.ok.cab x c hfn hc)))).trans (I.base.keep b o e n hb hx)
  ·obtain⟨sl,e1⟩:=I.base.slot b o e n hb hx;exact⟨sl,(hs.2 b (aK (bR (aC e) (I.ok.cab x c hfn hc)))).trans e1⟩
  ·obtain⟨o',e1⟩:=I.base.there b o e hx;exact⟨o',(hs.2 b (aK (bR (aC e) (I.ok.cab x c hfn hc)))).trans e1⟩
  ·by_cases hj:j=i
   ·subst hj;rw[hi] at e1;cases e1;rw[lE hiσ] at e2;cases e2;exact⟨u,r,.inr ⟨.inl hk,c,hc,hc'⟩⟩
   ·rw[oD (bx hj)] at e2;obtain⟨u',r',q⟩:=hl j y v' e1 e2 e3;refine⟨u',r',?_⟩
    rcases q with q|⟨k,c',e,z'⟩
    ·exact .inl q
    ·refine .inr ⟨k,c',e,z'.sameBut hs ?_⟩;rintro rfl;exact hj (sg hN e1 (I.ok.inj _ _ _ e hc ▸ hi))
  ·by_cases hcc:c'=c
   ·subst hcc;exact⟨_,hc'⟩
   ·obtain⟨w2,z2⟩:=I.cell y c' e;exact⟨w2,z2.sameBut hs hcc⟩
  ·obtain⟨e,n,ne,nf,d⟩:=I.pin p hp;refine⟨(hs.2 p.1 ?_).trans e,n,ne,nf,d⟩;intro q;rw[q,hoc] at e;have q':oc=p.2:=bS e;exact d w' (by rw[<- q'];exact hocd)
theorem sh{i:Nat}{Q:Unit->Shared->Prop}(I:Inv X pins σ H s)(hN:X.N.Nodup)(hi:X.N[i]?=some x)(hx:Loc X.env.scope x)(r:RelV v u)
  (h:∀s',Inv X pins (σ.set i (some v)) H s'->Q () s') (hf:X.fn x=true\/X.env.scope.names.lookup x=some .local:=by first|exact .inl rfl|exact .inr rfl|assumption):wpAny M A (storeName X.env x u) Q E s :=
 oC I hN hi hx r (λ s' I' _=>h s' I') hf
theorem Inv.call'{s':Shared}(I:Inv X pins σ H s)(ho:s'.os=s.os)(u:Un (frs X.stack) ch H H' s.heap s'.heap)(hok:HOk X.prog X.w H' s'.heap)(hg:AllBare s'.gens)
  (hch:∀b∈ch,(b∈X.ex\/X.s₀.heap.objs.size<=b)/\b≠X.env.locals/\(∀x c,X.env.cells.lookup x=some c->c≠b)/\∀p∈X.pn++pins,p.1≠b):Inv X pins σ H' s':=by
 obtain⟨h',g',d',t',o'⟩:=s';have e:o'=s.os:=ho;subst e;exact I.call (g':=g') (t':=t') (d':=d') u hok hg hch
end
abbrev XK:=Value->OA->Hp->Prop
abbrev St:=List (Option V)
abbrev VK:=V->Hp->Prop
abbrev TE:=St->Hp->VK->Prop
abbrev TT:=St->Hp->(Bool->Hp->Prop)->Prop
abbrev TA:=St->Hp->(List V->Hp->Prop)->Prop
structure Ends where
 nx:St->Hp->Prop
 rt:VK
 bk:St->Hp->Prop:=λ _ _=>False
 ct:St->Hp->Prop:=λ _ _=>False
abbrev TS:=Ends->St->Hp->Prop
noncomputable def EP(X:Cx)(pins:LO)(σ:St)(Q:VK)(u:Value)(s':Shared):Prop:=∃v H',Inv X pins σ H' s'/\RelV v u/\Q v H'
noncomputable def TP(X:Cx)(pins:LO)(σ:St)(Q:Bool->Hp->Prop)(b:Bool)(s':Shared):Prop:=∃H',Inv X pins σ H' s'/\Q b H'
noncomputable def AP(X:Cx)(pins:LO)(σ:St)(Q:List V->Hp->Prop)(us:LV)(s':Shared):Prop:=∃vs H',Inv X pins σ H' s'/\Vals vs us/\Q vs H'
noncomputable def SP(X:Cx)(pins:LO)(D:Ends)(f:Flow)(s':Shared):Prop :=
 match f with
 |.next=>∃σ' H',Inv X pins σ' H' s'/\D.nx σ' H'
 |.brk=>∃σ' H',Inv X pins σ' H' s'/\D.bk σ' H'
 |.cont=>∃σ' H',Inv X pins σ' H' s'/\D.ct σ' H'
 |.ret u=>∃v σ' H',Inv X pins σ' H' s'/\RelV v u/\D.rt v H'
noncomputable def PE(X:Cx)(e:Expr)(t:TE):Prop :=
 ∀(pins:LO) (s:Shared) (σ:St) (H:Hp) (Q:VK),Inv X pins σ H s->t σ H Q->wpAny (model X.prog X.w) X.A (eval e X.env) (EP X pins σ Q) X.xe s
noncomputable def PT(X:Cx)(e:Expr)(t:TT):Prop :=
 ∀(pins:LO) (s:Shared) (σ:St) (H:Hp) (Q:Bool->Hp->Prop),Inv X pins σ H s->t σ H Q->wpAny (model X.prog X.w) X.A (isTrue e X.env (eval e X.env)) (TP X pins σ Q) X.xe s
noncomputable def PW(X:Cx)(e:Expr)(t:TT):Prop :=
 ∀(whole:Sem Value) (pins:LO) (s:Shared) (σ:St) (H:Hp) (Q:Bool->Hp->Prop),Inv X pins σ H s->t σ H Q->wpAny (model X.prog X.w) X.A (isTrue e X.env whole) (TP X pins σ Q) X.xe s
def PW.pt(h:PW X e t):PT X e t:=h _
noncomputable def PA(X:Cx)(es:List Expr)(t:TA):Prop :=
 ∀(pos:Pos) (pins:LO) (s:Shared) (σ:St) (H:Hp) (Q:List V->Hp->Prop),Inv X pins σ H s->t σ H Q->wpAny (model X.prog X.w) X.A (spliced (backTo pos (starEach es X.env))) (AP X pins σ Q) X.xe s
noncomputable def PS(X:Cx)(st:Stmt)(t:TS):Prop :=
 ∀(pins:LO) (s:Shared) (σ:St) (H:Hp) (D:Ends),Inv X pins σ H s->t D σ H->wpAny (model X.prog X.w) X.A (exec st X.env) (SP X pins D) X.xe s
noncomputable def PSs(X:Cx)(st:List Stmt)(t:TS):Prop :=
 ∀(pins:LO) (s:Shared) (σ:St) (H:Hp) (D:Ends),Inv X pins σ H s->t D σ H->wpAny (model X.prog X.w) X.A (execs st X.env) (SP X pins D) X.xe s
def thn{α:Type}{t:Sem α}{Q Q':α->Shared->Prop}(h:wpAny M A t Q E s)(hQ:∀a s,Q a s->Q' a s):wpAny M A t Q' E s:=cy h hQ λ _ _ x=>x
section
theorem bin(ha:PE X a ta)(hb:PE X b tb){R:V->V->Hp->Prop}(I:Inv X pins σ H s)(h:ta σ H λ x H1=>tb σ H1 λ y H2=>R x y H2)
  {α:Type}{Q:α->Shared->Prop}{f:Value->Value->Sem α}
  (hf:∀v u s2 x y H2,Inv X pins σ H2 s2->RelV x v->RelV y u->R x y H2->wpAny (model X.prog X.w) X.A (f v u) Q X.xe s2) :
  wpAny (model X.prog X.w) X.A (eval a X.env) (λ v s₁=>wpAny (model X.prog X.w) X.A (eval b X.env) (λ u s₂=>wpAny (model X.prog X.w) X.A (f v u) Q X.xe s₂) X.xe s₁) X.xe s:=by
 refine thn (ha pins s σ H _ I h) λ v s1 ⟨x,H1,I1,r1,q1⟩=>?_;refine thn (hb pins s1 σ H1 _ I1 q1) λ u s2 ⟨y,H2,I2,r2,q2⟩=>?_;exact hf v u s2 x y H2 I2 r1 r2 q2
noncomputable def isB(x:V)(P:Bool->Prop):Prop:=match x with|.bl k=>P k|_=>False
noncomputable def isI(x:V)(P:Int->Prop):Prop:=match x with|.int k=>P k|_=>False
noncomputable def oE(x y:V)(P:Int->Int->Prop):Prop:=match x,y with|.int i,.int j=>P i j|_,_=>False
def ja(h:isB x P):∃k,x=.bl k/\P k:=by cases x<;>first|exact⟨_,rfl,h⟩|exact h.elim
def yL(h:isI x P):∃k,x=.int k/\P k:=by cases x<;>first|exact⟨_,rfl,h⟩|exact h.elim
def oF(h:oE x y P):∃i j,x=.int i/\y=.int j/\P i j:=by cases x<;>cases y<;>first|exact⟨_,_,rfl,rfl,h⟩|exact h.elim
noncomputable def dJ(i:Nat):TE:=λ σ H Q=>match σ[i]? with|some (some v)=>Q v H|_=>False
set_option tactic.hygienic true in
def yM(h:dJ i σ H Q):∃v,σ[i]?=some (some v)/\Q v H:=by
 unfold dJ at h;split at h
 ·rename_i v e;exact⟨v,e,h⟩
 ·exact h.elim
def tC(v:V):TE:=λ _ H Q=>Q v H
def kh{i:Nat}(hN:X.N[i]?=some x)(hv:Vis X.env.scope x)(hd:(x == ("__debug__" : Str))=false:=by decide)(hcd:(x == ("__classdict__" : Str))=false:=by decide):PE X (.Name x pos) (dJ i):=by
 intro pins s σ H Q I h;obtain⟨v,e,h⟩:=yM h;obtain⟨m,hn,hl⟩:=I.loc;obtain⟨u,r,l⟩:=hl i x v hN e hv;have fin:EP X pins σ Q u s:=⟨v,H,I,r,h⟩
 rcases l with ⟨hk,hm⟩|⟨hk,c,hc,hcell⟩
 ·exact wpAny_Name (wpAny_loadName_local I.ok.kind hk hn hm fin) hd
 ·rcases hk with hk|hk
  ·exact wpAny_Name (wpAny_loadName_cell I.ok.kind hk hc hcell fin) hd
  ·exact wpAny_Name (wpAny_loadName_free I.ok.kind hk hc hcell fin hcd) hd
def pe_int{i j pos}:PE X (.Constant (.int i) j pos) (tC (.int i)):=λ _ _ _ H _ I h=>wpAny_Constant_int ⟨.int i,H,I.tok _,⟨_,rfl⟩,h⟩
def pe_bl{b j pos}:PE X (.Constant (.bool b) j pos) (tC (.bl b)):=λ _ _ _ H _ I h=>Constant_bool ⟨.bl b,H,I,rfl,h⟩
def pe_non{j pos}:PE X (.Constant .none j pos) (tC .non):=λ _ _ _ H _ I h=>Constant_none ⟨.non,H,I,rfl,h⟩
def pe_str{x j pos}:PE X (.Constant (.str x) j pos) (tC (.str x)):=λ _ _ _ H _ I h=>Calls.Constant_str ⟨.str x,H,I.tok _,⟨_,rfl⟩,h⟩
noncomputable def Gl(X:Cx)(x:Str):Prop:=X.env.kindOf x=some .globalImplicit
theorem oG{Q:VS}(I:Inv X pins σ H s)(hg:Gl X x)(hm:X.mg x=some u)(h:Q u s)
  (hd:(x == ("__debug__" : Str))=false:=by decide):wpAny (model X.prog X.w) X.A (eval (.Name x pos) X.env) Q E s :=
 si I.ok.kind hg (Calls.loadGlobal_global (by rw[I.ok.glob];exact I.mod.glob.keeps I.bk) hm h) hd
theorem dA{Q:VS}(I:Inv X pins σ H s)(hg:Gl X x)(hm:X.mg x=none)(hv:bootBuiltins x=some u)(h:Q u s)
  (hn:x ≠ "__name__" := by decide) (hd:(x == ("__debug__" : Str))=false:=by decide):wpAny (model X.prog X.w) X.A (eval (.Name x pos) X.env) Q E s:=by
 obtain⟨mb,h1,h2⟩:=I.mod.blt;exact si I.ok.kind hg (Calls.loadGlobal_builtin (by rw[I.ok.glob];exact I.mod.glob.keeps I.bk) hm (by rw[I.ok.blt];exact h1.keeps I.bk) ((h2 x hn).trans hv) h) hd
def yN(hg:Gl X x)(hm:X.mg x=some u)(r:RelV v u)(hd:(x == ("__debug__" : Str))=false:=by decide):PE X (.Name x pos) (tC v) :=
 λ _ _ _ H _ I h=>oG I hg hm ⟨v,H,I,r,h⟩ hd
def yO(hg:Gl X x)(hm:X.mg x=none)(hv:bootBuiltins x=some u)(r:RelV v u)(hn:x ≠ "__name__" := by decide)(hd:(x == ("__debug__" : Str))=false:=by decide):PE X (.Name x pos) (tC v) :=
 λ _ _ _ H _ I h=>dA I hg hm hv ⟨v,H,I,r,h⟩ hn hd
variable {a b:Expr}{ta tb:TE}{pos:Pos}
def tB(t:TE):TT:=λ σ H Q=>t σ H λ x H1=>isB x λ c=>Q c H1
def yP(h:PE X e t)(he:∀whole,isTrue e X.env whole=(do let v <- whole;standAt e.pos;holding [v] (truthy v)):=by intro _;rfl):PT X e (tB t):=by
 intro pins s σ H Q I hw;refine isTrue_plain (thn (h pins s σ H _ I hw) λ v s1 ⟨x,H1,I1,r1,q1⟩=>?_) (he _);obtain⟨d,rfl,q⟩:=ja q1;cases r1;exact fj ⟨H1,I1,q⟩
variable {tA tB':TT}{rest:List Expr}
noncomputable def yQ(t u:TT):TT:=λ σ H Q=>t σ H λ c H1=>if c=true then u σ H1 Q else Q false H1
noncomputable def tOr(t u:TT):TT:=λ σ H Q=>t σ H λ c H1=>if c=true then Q true H1 else u σ H1 Q
def yR(t:TT):TT:=λ σ H Q=>t σ H λ c H1=>Q (!c) H1
def yS(ha:PT X a tA):PW X (.BoolOp .And [a] pos) tA:=by
 intro wh pins s σ H Q I h;refine isTrue_and (thn (ha pins s σ H Q I h) λ c s1 e=>?_)
 cases c with
 |true=>exact isTrue_and_nil e
 |false=>exact e
def yT(ha:PT X a tA):PW X (.BoolOp .Or [a] pos) tA:=by
 intro wh pins s σ H Q I h;refine isTrue_or (thn (ha pins s σ H Q I h) λ c s1 e=>?_)
 cases c with
 |false=>exact isTrue_or_nil e
 |true=>exact e
def yU(ha:PT X a tA)(hb:PW X (.BoolOp .And (b::rest) pos) tB'):PW X (.BoolOp .And (a::b::rest) pos) (yQ tA tB'):=by
 intro wh pins s σ H Q I h;refine isTrue_and (thn (ha pins s σ H _ I h) λ c s1 ⟨H1,I1,q1⟩=>?_)
 cases c with
 |true=>exact hb wh pins s1 σ H1 Q I1 q1
 |false=>exact⟨H1,I1,q1⟩
def yV(ha:PT X a tA)(hb:PW X (.BoolOp .Or (b::rest) pos) tB'):PW X (.BoolOp .Or (a::b::rest) pos) (tOr tA tB'):=by
 intro wh pins s σ H Q I h;refine isTrue_or (thn (ha pins s σ H _ I h) λ c s1 ⟨H1,I1,q1⟩=>?_)
 cases c with
 |true=>exact⟨H1,I1,q1⟩
 |false=>exact hb wh pins s1 σ H1 Q I1 q1
def yW(ha:PT X a tA):PT X (.UnaryOp .Not a pos) (yR tA):=by
 intro pins s σ H Q I h;exact isTrue_not (ha pins s σ H (λ c H1=>Q (!c) H1) I h)
noncomputable def yX(ta tb:TE):TE:=λ σ H Q=>ta σ H λ x H1=>isB x λ c=>if c=true then tb σ H1 Q else Q (.bl false) H1
noncomputable def yY(ta tb:TE):TE:=λ σ H Q=>ta σ H λ x H1=>isB x λ c=>if c=true then Q (.bl true) H1 else tb σ H1 Q
noncomputable def yZ(ta:TE):TE:=λ σ H Q=>ta σ H λ x H1=>∃c,x=.bl c/\Q (.bl (!c)) H1
def sj{op}(h:PE X a t):PE X (.BoolOp op [a] pos) t:=λ pins s σ H Q I hw=>BoolOp_one (h pins s σ H Q I hw)
def zb(ha:PE X a ta)(hb:PE X (.BoolOp .And (b::rest) pos) tb):PE X (.BoolOp .And (a::b::rest) pos) (yX ta tb):=by
 intro pins s σ H Q I h;refine BoolOp_and (thn (ha pins s σ H _ I h) λ v s1 ⟨x,H1,I1,r1,q1⟩=>?_);obtain⟨c,rfl,q1⟩:=ja q1;cases r1;refine fj ?_
 cases c with
 |true=>exact hb pins s1 σ H1 Q I1 q1
 |false=>exact⟨.bl false,H1,I1,rfl,q1⟩
def ze(ha:PE X a ta)(hb:PE X (.BoolOp .Or (b::rest) pos) tb):PE X (.BoolOp .Or (a::b::rest) pos) (yY ta tb):=by
 intro pins s σ H Q I h;refine BoolOp_or (thn (ha pins s σ H _ I h) λ v s1 ⟨x,H1,I1,r1,q1⟩=>?_);obtain⟨c,rfl,q1⟩:=ja q1;cases r1;refine fj ?_
 cases c with
 |false=>exact hb pins s1 σ H1 Q I1 q1
 |true=>exact⟨.bl true,H1,I1,rfl,q1⟩
def zf(ha:PE X a ta):PE X (.UnaryOp .Not a pos) (yZ ta):=by
 intro pins s σ H Q I h;refine UnaryOp_ (thn (ha pins s σ H _ I h) λ v s1 ⟨x,H1,I1,r1,q1⟩=>?_);obtain⟨c,rfl,q1⟩:=q1;cases r1;exact not_of (fj ⟨.bl (!c),H1,I1,O,q1⟩)
noncomputable def tIf(t:TT)(ta tb:TE):TE:=λ σ H Q=>t σ H λ c H1=>if c=true then ta σ H1 Q else tb σ H1 Q
def zi(hc:PT X c tA)(ha:PE X a ta)(hb:PE X b tb):PE X (.IfExp c a b pos) (tIf tA ta tb):=by
 intro pins s σ H Q I h;refine wpAny_IfExp (thn (hc pins s σ H _ I h) λ d s1 ⟨H1,I1,q1⟩=>?_)
 cases d with
 |true=>exact ha pins s1 σ H1 Q I1 q1
 |false=>exact hb pins s1 σ H1 Q I1 q1
end
noncomputable def SqL(K:FG)(H:Hp)(a:Addr)(xs:List V):Prop :=
 Rd H a (.lst xs) \/
  ∃(o:Obj) (its:Array Value) (n:Nat),K.lookup a=some o/\o.cls=.type "list" /\ o.dict=none/\o.data=.seq its n/\its.size<=sizeLine/\Vals xs its.toList
noncomputable def SqT(K:FG)(H:Hp)(a:Addr)(xs:List V):Prop :=
 Rd H a (.tup xs) \/
  ∃(o:Obj) (its:Array Value) (n:Nat),K.lookup a=some o/\o.cls=.type "tuple" /\ o.dict=none/\o.data=.seq its n/\its.size<=sizeLine/\Vals xs its.toList
noncomputable def zk:Value->Option V
 |.none=>some .non
 |.bool b=>some (.bl b)
 |.int i _=>some (.int i)
 |.str x _=>some (.str x)
 |.bytes b _=>some (.byt b)
 |.float b _=>some (.flt b)
 |.ref a=>some (.ref a)
 |.type n=>some (.ty n)
 |_=>none
def RelV.abs(r:RelV x u):zk u=some x:=by
 cases x with
 |non=>cases r;rfl
 |bl _=>cases r;rfl
 |int _=>obtain⟨t,rfl⟩:=r;rfl
 |str _=>obtain⟨t,rfl⟩:=r;rfl
 |byt _=>obtain⟨t,rfl⟩:=r;rfl
 |flt _=>obtain⟨t,rfl⟩:=r;rfl
 |ref _=>cases r;rfl
 |ty _=>cases r;rfl
def RelV.inj(r:RelV x u)(q:RelV y u):x=y:=bS (r.abs.symm.trans q.abs)
theorem Vals.inj:∀ {xs ys:List V}{us:LV},Vals xs us->Vals ys us->xs=ys
 |_,_,_,.nil,.nil=>rfl
 |_,_,_,.cons r t,.cons r' t'=>by rw[r.inj r',Vals.inj t t']
section
variable {pins:LO}{σ:St}{H:Hp}{s:Shared}{a:Addr}{xs ys:List V}
def SqL.of{K:FG}(h:H a=some (.lst xs)):SqL K H a xs:=.inl (.inl h)
def SqT.of{K:FG}(h:H a=some (.tup xs)):SqT K H a xs:=.inl (.inl h)
def Inv.list(I:Inv X pins σ H s)(h:SqL X.K H a xs):∃its:LV,Vals xs its/\PlainL s.heap a its.toArray/\xs.length<=sizeLine:=by
 rcases h with h|⟨o,its,n,hk,hc,hd,hs,hz,r⟩
 ·obtain⟨z,its,n,r,e⟩:=h.ok I.hok;exact⟨its,r,⟨_,n,e,O,O,O⟩,z⟩
 ·refine⟨its.toList,r,⟨o,n,I.kIn a o hk,hc,hd,by simpa using hs⟩,?_⟩;have e:=r.length;simp only[Array.length_toList] at e;lia
def Inv.tuple(I:Inv X pins σ H s)(h:SqT X.K H a xs):∃its:LV,Vals xs its/\IsTup s.heap a its.toArray/\xs.length<=sizeLine:=by
 rcases h with h|⟨o,its,n,hk,hc,_,hs,hz,r⟩
 ·obtain⟨z,its,r,p⟩:=h.ok I.hok;exact⟨its,r,p.tup,z⟩
 ·refine⟨its.toList,r,⟨o,I.kIn a o hk,hc,n,by simpa using hs⟩,?_⟩;have e:=r.length;simp only[Array.length_toList] at e;lia
def Inv.list_inj(I:Inv X pins σ H s)(h:SqL X.K H a xs)(h':SqL X.K H a ys):xs=ys:=by
 obtain⟨its,r,⟨o,n,e,_,_,d⟩,_⟩:=I.list h;obtain⟨its',r',⟨o',n',e',_,_,d'⟩,_⟩:=I.list h';rw[e] at e';cases e';rw[d] at d'
 injection d' with d1 _
 have:its=its':=by simpa using bK Array.toList d1
 subst this;exact r.inj r'
def Inv.tuple_inj(I:Inv X pins σ H s)(h:SqT X.K H a xs)(h':SqT X.K H a ys):xs=ys:=by
 obtain⟨its,r,⟨o,e,_,n,d⟩,_⟩:=I.tuple h;obtain⟨its',r',⟨o',e',_,n',d'⟩,_⟩:=I.tuple h';rw[e] at e';cases e';rw[d] at d'
 injection d' with d1 _
 have:its=its':=by simpa using bK Array.toList d1
 subst this;exact r.inj r'
end
abbrev Cx.wish(X:Cx)(E:VS):Cx:={ X with xe:=E }
abbrev Cx.nox(X:Cx):Cx:=X.wish λ _ _=>False
def Cx.Ok.wish{X:Cx}(ok:X.Ok)(E:VS):(X.wish E).Ok :=
 ⟨ok.mod,ok.kind,ok.glob,ok.blt,ok.above,ok.inj,ok.has,ok.cab,ok.hd,ok.frames,ok.stk,ok.exf,ok.bs,ok.bsz,ok.noex,ok.exfs,ok.funs,ok.frf⟩
def Cx.Ok.unwish{X:Cx}(ok:(X.wish E).Ok):X.Ok :=
 ⟨ok.mod,ok.kind,ok.glob,ok.blt,ok.above,ok.inj,ok.has,ok.cab,ok.hd,ok.frames,ok.stk,ok.exf,ok.bs,ok.bsz,ok.noex,ok.exfs,ok.funs,ok.frf⟩
section
variable {pins:LO}{σ:St}{H:Hp}{s:Shared}{E:VS}
def Inv.wish(I:Inv X pins σ H s)(E:VS):Inv (X.wish E) pins σ H s:=⟨I.ok.wish E,I.os,I.bare,I.base,I.loc,I.cell,I.free,I.freeC,I.pin,I.hok,I.len⟩
def Inv.unwish(I:Inv (X.wish E) pins σ H s):Inv X pins σ H s:=⟨I.ok.unwish,I.os,I.bare,I.base,I.loc,I.cell,I.free,I.freeC,I.pin,I.hok,I.len⟩
def SP.unwish(h:SP (X.wish E) pins D f s'):SP X pins D f s':=by
 cases f with
 |next=>obtain⟨σ',H',I,q⟩:=h;exact⟨σ',H',I.unwish,q⟩
 |brk=>obtain⟨σ',H',I,q⟩:=h;exact⟨σ',H',I.unwish,q⟩
 |cont=>obtain⟨σ',H',I,q⟩:=h;exact⟨σ',H',I.unwish,q⟩
 |ret u=>obtain⟨v,σ',H',I,r,q⟩:=h;exact⟨v,σ',H',I.unwish,r,q⟩
def PSs.nox{st:List Stmt}(h:PSs X.nox st t):PSs X st t:=λ pins s σ H D I hw=>
 cy (h pins s σ H D (I.wish _) hw) (λ _ _ q=>q.unwish) λ _ _ z=>False.elim z
end
section
variable {st:Stmt}{rest:List Stmt}{t u:TS}{e:Expr}{te:TE}{pos:Pos}
def zm:TS:=λ D σ H=>D.nx σ H
def zn(t u:TS):TS:=λ D σ H=>t { D with nx:=u D } σ H
def pss_nil:PSs X [] zm:=λ _ _ σ H _ I h=>oH ⟨σ,H,I,h⟩
def fk(h1:PS X st t)(h2:PSs X rest u):PSs X (st::rest) (zn t u):=by
 intro pins s σ H D I h;refine wpAny_execs_cons (thn (h1 pins s σ H { D with nx:=u D } I h) λ f s1 q=>?_)
 cases f with
 |next=>
  obtain⟨σ',H',I',q⟩:=q;exact h2 pins s1 σ' H' D I' q
 |ret v=>exact q
 |brk=>exact q
 |cont=>exact q
def Inv.quiet(I:Inv X pins σ H s):interactive X.env=false:=by simp[interactive,I.ok.kind]
def zq(te:TE):TS:=λ D σ H=>te σ H λ _ H1=>D.nx σ H1
def sk(he:PE X e te)(hs:swapsWith e none pos.line X.env=pure false:=by rfl):PS X (.Expr e pos) (zq te):=by
 intro pins s σ H D I h;exact wpAny_Expr_any (thn (he pins s σ H _ I h) λ v s1 ⟨x,H1,I1,r1,q1⟩=>⟨σ,H1,I1,q1⟩) I.quiet hs
def zr(te:TE):TS:=λ D σ H=>te σ H D.rt
def zu(he:PE X e te):PS X (.Return (some e) pos) (zr te):=by
 intro pins s σ H D I h;exact wpAny_Return_some (thn (he pins s σ H _ I h) λ v s1 ⟨x,H1,I1,r1,q1⟩=>⟨x,σ,H1,I1,r1,q1⟩)
noncomputable def zw(c:TT)(t u:TS):TS:=λ D σ H=>c σ H λ b H1=>if b=true then t D σ H1 else u D σ H1
def zx(hc:PT X c tc)(ha:PSs X a t)(hb:PSs X b u):PS X (.If c a b pos) (zw tc t u):=by
 intro pins s σ H D I h;refine wpAny_If (thn (hc pins s σ H _ I h) λ d s1 ⟨H1,I1,q1⟩=>?_)
 cases d with
 |true=>exact ha pins s1 σ H1 D I1 q1
 |false=>exact hb pins s1 σ H1 D I1 q1
def zy:TS:=λ _ _ _=>False
def pss_never:PSs X sts zy:=λ _ _ _ _ _ _ h=>h.elim
end
abbrev TG:=V->St->Hp->(St->Hp->Prop)->Prop
abbrev TGs:=List V->St->Hp->(St->Hp->Prop)->Prop
noncomputable def PG(X:Cx)(target:Expr)(t:TG):Prop :=
 ∀(pins:LO) (s:Shared) (σ:St) (H:Hp) (v:V) (u:Value) (Q:St->Hp->Prop),Inv X pins σ H s->RelV v u->t v σ H Q ->
  wpAny (model X.prog X.w) X.A (assign target X.env u) (λ _ s'=>∃σ' H',Inv X pins σ' H' s'/\Q σ' H') X.xe s
noncomputable def PGs(X:Cx)(ts:List Expr)(t:TGs):Prop :=
 ∀(pins:LO) (s:Shared) (σ:St) (H:Hp) (vs:List V) (us:LV) (Q:St->Hp->Prop),Inv X pins σ H s->Vals vs us->t vs σ H Q ->
  wpAny (model X.prog X.w) X.A (assignInOrder ((assignEach ts X.env).map (·.2)) us) (λ _ s'=>∃σ' H',Inv X pins σ' H' s'/\Q σ' H') X.xe s
abbrev sn:=V->V->V->Hp->(Hp->Prop)->Prop
noncomputable def sr(X:Cx)(t:sn):Prop :=
 ∀(pins:LO) (s:Shared) (σ:St) (H:Hp) (o i v:V) (ov iv u:Value) (Q:Hp->Prop),Inv X pins σ H s->RelV o ov->RelV i iv->RelV v u->t o i v H Q ->
  wpAny (model X.prog X.w) X.A (setItem ov iv u) (λ _ s'=>∃H',Inv X pins σ H' s'/\Q H') X.xe s
section
variable {pos:Pos}
def dL(i:Nat):TG:=λ v σ H Q=>Q (σ.set i (some v)) H
def su{i:Nat}(hN:X.N.Nodup)(hi:X.N[i]?=some x)(hx:Loc X.env.scope x)(hf:X.fn x=true\/X.env.scope.names.lookup x=some .local:=by first|exact .inl rfl|exact .inr rfl|assumption):PG X (.Name x pos) (dL i):=by
 intro pins s σ H v u Q I r h;exact wpAny_assign_Name (sh I hN hi hx r (λ s' I'=>⟨_,H,I',h⟩) hf)
def oJ:TGs:=λ vs σ H Q=>vs=[]/\Q σ H
noncomputable def jb(t:TG)(u:TGs):TGs:=λ vs σ H Q=>∃v r,vs=v::r/\t v σ H λ σ' H'=>u r σ' H' Q
def sv:PGs X [] oJ:=by
 intro pins s σ H vs us Q I r h;obtain⟨e,h⟩:=h;subst e;cases r;exact assignInOrder_nil ⟨σ,H,I,h⟩
theorem ki(h1:PG X e t)(h2:PGs X es u)
  (hs:(assignEach (e::es) X.env).map (·.2)=assign e X.env::(assignEach es X.env).map (·.2):=by rfl):PGs X (e::es) (jb t u):=by
 intro pins s σ H vs us Q I r h;obtain⟨v,vr,e1,h⟩:=h;subst e1
 cases r with
 |cons r rr=>
  rw[hs];refine assignInOrder_cons (thn (h1 pins s σ H _ _ _ I r h) λ _ s1 ⟨σ1,H1,I1,q1⟩=>?_);exact h2 pins s1 σ1 H1 _ _ Q I1 rr q1
noncomputable def oK(K:FG)(n:Nat)(t:TGs):TG:=λ v σ H Q=>∃a xs,v=.ref a/\SqT K H a xs/\xs.length=n/\t xs σ H Q
theorem sw{n:Nat}(hc:X.calm=true)(h:PGs X es t)
  (hn:(assignEach es X.env).length=n:=by rfl) (hst:(assignEach es X.env).findIdx? (·.1)=none:=by rfl):PG X (.Tuple es k pos) (oK X.K n t):=by
 intro pins s σ H v u Q I r hw;obtain⟨a,xs,e1,hq,hl,hw⟩:=hw;subst e1;cases r;obtain⟨its,rv,ht,hz⟩:=I.tuple hq;refine assign_Tuple_tuple (I.ok.hd hc) ht (by simp[hn,<- hl,rv.length]) hst λ h' hx=>?_;have I1:Inv X pins σ H { s with heap:=h' }:=I.kept (t':=s.toks) λ b o e=>hx b o (aK (aC e)) e;exact h pins _ σ H xs _ Q I1 (by simpa using rv) hw
noncomputable def zz(to ti:TE)(t:sn):TG:=λ v σ H Q=>to σ H λ o H1=>ti σ H1 λ i H2=>t o i v H2 λ H3=>Q σ H3
theorem zA(ho:PE X o to)(hi:PE X i ti)(hs:sr X t)
  (ha:∀v,assign (.Subscript o i pos) X.env v=(do
   let ov <- holding [v] (eval o X.env)
   let iv <- holding [v,ov] (eval i X.env)
   standAt pos
   holding [v,ov,iv] (setItem ov iv v)
   release [v,ov,iv] []):=by intro _;rfl):PG X (.Subscript o i pos) (zz to ti t):=by
 intro pins s σ H v u Q I r h;rw[ha];refine af (bU (thn (ho pins s σ H _ I h) λ ov s1 ⟨x,H1,I1,r1,q1⟩=>?_));refine af (bU (thn (hi pins s1 σ H1 _ I1 q1) λ iv s2 ⟨y,H2,I2,r2,q2⟩=>?_));refine af (ip (af (bU (thn (hs pins s2 σ H2 x y v ov iv u _ I2 r1 r2 r q2) λ _ s3 ⟨H3,I3,q3⟩=>?_))));exact wpAny_release ⟨σ,H3,I3,q3⟩
noncomputable def jc(te:TE)(g:TG):TS:=λ D σ H=>te σ H λ x H1=>g x σ H1 D.nx
theorem sx(he:PE X e te)(hg:PG X tg g)(hs:swapsWithSole [tg] e pos.line X.env=pure false:=by rfl)(hw:swappedStores [tg] e X.env=pure none:=by rfl)
  (h1:(assignEach [tg] X.env).map (·.2)=[assign tg X.env]:=by rfl):PS X (.Assign [tg] e pos) (jc te g):=by
 intro pins s σ H D I h;refine wpAny_Assign_stores (thn (he pins s σ H _ I h) λ v s1 ⟨x,H1,I1,r1,q1⟩=>?_) hs hw;rw[h1];exact thn (hg pins s1 σ H1 x v _ I1 r1 q1) λ _ s2 q=>q
theorem sB{i:Nat}(hN:X.N.Nodup)(hi:X.N[i]?=some x)(hx:Loc X.env.scope x)(he:PE X e te)(hs:swapsWith e (some (.Name x pos')) pos.line X.env=pure false:=by rfl)(hf:X.fn x=true\/X.env.scope.names.lookup x=some .local:=by first|exact .inl rfl|exact .inr rfl|assumption) :
  PS X (.Assign [.Name x pos'] e pos) (jc te (dL i)):=by
 intro pins s σ H D I h;refine wpAny_Assign_Name (thn (he pins s σ H _ I h) λ v s1 ⟨y,H1,I1,r1,q1⟩=>?_) hs;exact sh I1 hN hi hx r1 (λ s2 I2=>⟨_,H1,I2,q1⟩) hf
end
section
variable {pos:Pos}
end
structure It where
 go:Nat->Hp->Prop
 yld:Nat->Hp->V->Hp->Prop
 stop:Nat->Hp->Prop
noncomputable def gC(X:Cx)(pins:LO)(H:Hp)(b:Addr):Prop :=
 H b=none/\b≠X.env.locals/\b ∉ X.fs/\(b∈X.ex\/X.s₀.heap.objs.size<=b)/\(∀x c,X.env.cells.lookup x=some c->c≠b)/\∀p∈X.pn++pins,p.1≠b
def Inv.fpOk{H H':Hp}{b:Addr}(I:Inv X pins σ H s)(hb:s.heap.objs.size<=b)(hn:H' b=none):gC X pins H' b:=by
 refine⟨hn,fq (bR I.lt hb),I.nofs hb,.inr (bB I.sz hb),λ x c e z=>?_,λ p hp z=>?_⟩
 ·obtain⟨v,q⟩:=I.cell x c e;exact absurd (bR q.lt (by rw[z];exact hb)) (cg _)
 ·exact absurd (bR (aC (I.pin p hp).1) (by rw[z];exact hb)) (cg _)
structure Turn (P:Program)(w:World)(K:FG)(tg:Expr)(J:It)(fp:List Addr)(it:Addr)(tn:Nat->Heap->Prop):Prop where
 mem:it∈fp
 obj:∀i h,tn i h->∀b∈fp,∃o,h.get? b=some o/\∀v,o.data≠.cell v
 keep:∀i h h',tn i h->(∀b∈fp,∀o,h.get? b=some o->h'.get? b=some o)->tn i h'
 item:∀(X:Cx),X.prog=P->X.w=w->X.K=K->X.calm=true->∀(i:Nat) (pins:LO) (s:Shared) (σ:St) (H:Hp) (E:VS),Inv X pins σ H s->(∀b∈fp,gC X pins H b)->tn i s.heap->J.go i H ->
  wpAny (model P w) X.A (pyNext (.ref it)) (λ r s1=>∃u,r=some u /\
   wpAny (model P w) X.A (letOwnedTupleGo tg (.ref it) u) (λ _ s2=>∃x H',Inv X pins σ H' s2/\RelV x u/\J.yld i H x H'/\tn (i+1) s2.heap/\∀b∈fp,H' b=none) E s1) E s
 done:∀(X:Cx),X.prog=P->X.w=w->X.K=K->X.calm=true->∀(i:Nat) (pins:LO) (s:Shared) (σ:St) (H:Hp) (E:VS),Inv X pins σ H s->(∀b∈fp,gC X pins H b)->tn i s.heap->J.stop i H ->
  wpAny (model P w) X.A (pyNext (.ref it)) (λ r s1=>r=none/\Inv X pins σ H s1) E s
 self:∀(A:Around) (i:Nat) (s:Shared) (Q:VS) (E:VS),tn i s.heap->Q (.ref it) s->wpAny (model P w) A (pyIter (.ref it)) Q E s
abbrev TI:=St->Hp->(It->Hp->Prop)->Prop
noncomputable def PIE(X:Cx)(pins:LO)(σ:St)(tg:Expr)(R:It->Hp->Prop)(itv:Value)(s2:Shared):Prop :=
 ∃(it:Addr) (fp:List Addr) (tn:Nat->Heap->Prop) (J:It) (H':Hp),itv=.ref it/\Inv X pins σ H' s2/\Turn X.prog X.w X.K tg J fp it tn/\tn 0 s2.heap/\(∀b∈fp,gC X pins H' b)/\R J H'
noncomputable def PI(X:Cx)(tg iter:Expr)(wi:TI):Prop :=
 ∀(pins:LO) (s:Shared) (σ:St) (H:Hp) (R:It->Hp->Prop),Inv X pins σ H s->wi σ H R ->
  wpAny (model X.prog X.w) X.A (eval iter X.env) (λ v s1=>wpAny (model X.prog X.w) X.A (pyIter v) (PIE X pins σ tg R) X.xe s1) X.xe s
theorem lF{s:Shared}{it:Addr}{vs:Array Value}{Q:Unit->Shared->Prop}(ho:s.heap.get? it=some o)(hc:o.cls=.type n)(hd:o.data=.fields vs)
    (hn:["enumerate","zip","dict_itemiterator","dict_reverseitemiterator","odict_iterator","itertools.zip_longest","itertools.pairwise"].contains n=false) (hQ:Q () s):wpAny M A (letOwnedTupleGo tg (.ref it) u) Q E s:=by
  unfold letOwnedTupleGo
  cases tg<;>first
    |exact ag hQ
    | (cases u<;>first
        |exact ag hQ
        | (refine af (jd ho ?_)
           rw[hc,hd];show wpAny M A (if (["enumerate","zip","dict_itemiterator","dict_reverseitemiterator","odict_iterator","itertools.zip_longest","itertools.pairwise"].contains n&&vs[0]? == some (rawInt _))=true then _ else _) Q E s;rw[if_neg (by intro h;rw[hn,lG] at h;cases h)]
           exact ag hQ))
noncomputable def Itl(K:FG)(a:Addr):It :=
 ⟨λ i H=>∃xs x,SqL K H a xs/\xs[i]?=some x,λ i H x H'=>H'=H/\∀xs,SqL K H a xs->xs[i]?=some x,λ i H=>∃xs,SqL K H a xs/\xs.length<=i⟩
noncomputable def Itt(K:FG)(a:Addr):It :=
 ⟨λ i H=>∃xs x,SqT K H a xs/\xs[i]?=some x,λ i H x H'=>H'=H/\∀xs,SqT K H a xs->xs[i]?=some x,λ i H=>∃xs,SqT K H a xs/\xs.length<=i⟩
noncomputable def Itr(lo:Int)(n:Nat):It:=⟨λ i _=>i<n,λ i H x H'=>H'=H/\x=.int (lo+i),λ i _=>n<=i⟩
theorem zB{K:FG}(a it:Addr):Turn P w K tg (Itl K a) [it] it (λ i h=>h.IsListIter it a i) where
 mem:=pv
 obj:=λ i h st b hb=>by
  have e:b=it:=by simpa using hb
  subst e;obtain⟨o,e,c,d⟩:=st;exact⟨o,e,λ v z=>by rw[d] at z;cases z⟩
 keep:=λ i h h' st k=>st.at λ o e=>k it pv o e
 item:=by
  intro X hP hw hK hc i pins s σ H E I hf st hg;subst hP hw hK;obtain⟨xs,x,hq,hx⟩:=hg;obtain⟨its,rv,p,hz⟩:=I.list hq;obtain⟨u,hu,ru⟩:=rv.get hx;obtain⟨f0,f1,f2,f3,f4,f5⟩:=hf it pv;refine wpAny_pyNext_list_item st p.isList (x:=u) (by simpa using hu) λ h' st' sb=>?_;have I1:Inv X pins σ H { s with heap:=h' }:=I.turned (t':=s.toks) (λ b o hb e=>(sb.2 b hb).trans e) f0 f1 f3 f4 f5;obtain⟨o,e,c,d⟩:=id st';exact⟨u,O,lF (s:={ s with heap:=h' }) e c d on ⟨x,H,I1,ru,⟨O,λ ys hy=>by rw[I.list_inj hy hq];exact hx⟩,st',λ b hb=>(hf b hb).1⟩⟩
 done:=by
  intro X hP hw hK hc i pins s σ H E I hf st hg;subst hP hw hK;obtain⟨xs,hq,hx⟩:=hg;obtain⟨its,rv,p,hz⟩:=I.list hq;obtain⟨f0,f1,f2,f3,f4,f5⟩:=hf it pv;have hl:=rv.length;exact wpAny_pyNext_list_end (I.ok.hd hc) st p.isList (by simp;lia) λ h' eb=>⟨O,I.turned (t':=s.toks) (λ b o hb e=>eb b o hb e) f0 f1 f3 f4 f5⟩
 self:=λ _ _ _ _ _ st h=>wpAny_pyIter_listiter st h
theorem zD{K:FG}(a it:Addr):Turn P w K tg (Itt K a) [it] it (λ i h=>h.IsTupleIter it a i) where
 mem:=pv
 obj:=λ i h st b hb=>by
  have e:b=it:=by simpa using hb
  subst e;obtain⟨o,e,c,d⟩:=st;exact⟨o,e,λ v z=>by rw[d] at z;cases z⟩
 keep:=λ i h h' st k=>st.at λ o e=>k it pv o e
 item:=by
  intro X hP hw hK hc i pins s σ H E I hf st hg;subst hP hw hK;obtain⟨xs,x,hq,hx⟩:=hg;obtain⟨its,rv,p,hz⟩:=I.tuple hq;obtain⟨u,hu,ru⟩:=rv.get hx;obtain⟨f0,f1,f2,f3,f4,f5⟩:=hf it pv;refine wpAny_pyNext_tuple_item st (show s.heap.IsTuple a its.toArray from p) (x:=u) (by simpa using hu) λ h' st' sb=>?_;have I1:Inv X pins σ H { s with heap:=h' }:=I.turned (t':=s.toks) (λ b o hb e=>(sb.2 b hb).trans e) f0 f1 f3 f4 f5;obtain⟨o,e,c,d⟩:=id st';exact⟨u,O,lF (s:={ s with heap:=h' }) e c d on ⟨x,H,I1,ru,⟨O,λ ys hy=>by rw[I.tuple_inj hy hq];exact hx⟩,st',λ b hb=>(hf b hb).1⟩⟩
 done:=by
  intro X hP hw hK hc i pins s σ H E I hf st hg;subst hP hw hK;obtain⟨xs,hq,hx⟩:=hg;obtain⟨its,rv,p,hz⟩:=I.tuple hq;obtain⟨f0,f1,f2,f3,f4,f5⟩:=hf it pv;have hl:=rv.length;exact wpAny_pyNext_tuple_end (I.ok.hd hc) st (show s.heap.IsTuple a its.toArray from p) (by simp;lia) λ h' eb=>⟨O,I.turned (t':=s.toks) (λ b o hb e=>eb b o hb e) f0 f1 f3 f4 f5⟩
 self:=λ _ _ _ _ _ st h=>wpAny_pyIter_tupleiter st h
theorem zE{K:PySem.W.Frag}(it:Addr)(lo:Int)(n:Nat):Turn P w K tg (Itr lo n) [it] it (λ i h=>IsRangeIter h it (lo+(i:Nat)*1) ((n:Int)-(i:Nat)) 1) where
 mem:=pv
 obj:=λ i h st b hb=>by
  have e:b=it:=by simpa using hb
  subst e
  exact⟨_,st,λ v z=>by
   have z':Data.fields _=Data.cell v:=z
   cases z'⟩
 keep:=λ i h h' st k=>k it pv _ st
 item:=by
  intro X hP hw hK hc i pins s σ H E I hf st hg;subst hP hw hK;obtain⟨f0,f1,f2,f3,f4,f5⟩:=hf it pv;have W:=Walks.range (prog:=X.prog) (w:=X.w) (I.ok.hd hc) it lo 1 n;refine W.item i s _ _ hg st λ v h' tk hv st' kk=>?_;obtain⟨t,rfl⟩:=hv;have I1:Inv X pins σ H { s with heap:=h',toks:=tk }:=I.turned (λ b o hb e=>kk b o (by simpa using hb) e) f0 f1 f3 f4 f5;refine⟨_,O,lF (s:={ s with heap:=h',toks:=tk }) (n := "range_iterator") st' rfl rfl on ⟨.int (lo+i),H,I1,⟨t,?_⟩,⟨O,O⟩,st',λ b hb=>(hf b hb).1⟩⟩;rw[s0q]
 done:=by
  intro X hP hw hK hc i pins s σ H E I hf st hg;subst hP hw hK;obtain⟨f0,f1,f2,f3,f4,f5⟩:=hf it pv;exact sC (I.ok.hd hc) st (by have:n<=i:=hg;lia) λ h' eb=>⟨O,I.turned (t':=s.toks) (λ b o hb e=>eb b o hb e) f0 f1 f3 f4 f5⟩
 self:=λ _ _ _ _ _ st h=>sD st h
section
variable {tg:Expr}
theorem zF{R:It->Hp->Prop}{lo hi:Int}{tk:Nat}(I:Inv X pins σ H s)(h1:-(2 ^ 62)<=lo)(h2:lo<2 ^ 62)(h3:-(2 ^ 62)<=hi)(h4:hi<2 ^ 62)
  (q:R (Itr lo (hi-lo).toNat) H):wpAny (model X.prog X.w) X.A (pyIter (.ref s.heap.objs.size)) (PIE X pins σ tg R) E { s with heap:=s.heap.push { cls:=.type "range",data:=.fields #[.int lo t,.int hi u,.int 1 v] },toks:=tk }:=by
 refine s1a (IsRange.new ..) (small_one h1 h2 h3 h4) ?_;have I1:Inv X pins σ H { s with heap:=s.heap.push { cls:=.type "range",data:=.fields #[.int lo t,.int hi u,.int 1 v] },toks:=tk }:=I.kept λ b o e=>aA _ e
 refine⟨(s.heap.push { cls:=.type "range",data:=.fields #[.int lo t,.int hi u,.int 1 v] }).objs.size,[(s.heap.push { cls:=.type "range",data:=.fields #[.int lo t,.int hi u,.int 1 v] }).objs.size],_,_,H,O,
  I1.kept (t':=tk) λ b o e=>aA _ e,zE _ lo (hi-lo).toNat,?_,λ b hb=>?_,q⟩
 ·have e1:lo+((0:Nat):Int)*1=lo:=by simp
  have e2:(((hi-lo).toNat:Nat):Int)-((0:Nat):Int)=Builtin.Range.rangeSize lo hi 1:=by rw[rangeSize_one];split<;>lia
  show IsRangeIter _ _ (lo+((0:Nat):Int)*1) ((((hi-lo).toNat:Nat):Int)-((0:Nat):Int)) 1;rw[e1,e2];exact aM _ rfl
 ·have e:b=(s.heap.push { cls:=.type "range",data:=.fields #[.int lo t,.int hi u,.int 1 v] }).objs.size:=by simpa using hb
  subst e;exact I1.fpOk (ar _) (I1.hok.fresh (ar _))
noncomputable def zG(ta:TA):TI:=λ σ H R=>ta σ H λ vs H1=>∃j:Int,vs=[.int j]/\-(2 ^ 62)<=j/\j<2 ^ 62/\R (Itr 0 j.toNat) H1
def zH{a:Expr}{p pos:Pos}(hg:Gl X "range")(hm:X.mg "range"=none)(ha:PA X [a] ta)(hs:starEach [a] X.env=[(false,eval a X.env)]:=by rfl):PI X tg (.Call (.Name "range" p) [a] [] pos) (zG ta):=by
 intro pins s σ H R I h;refine Call_ (dA I hg hm boot_range (fD (thn (ha pos pins s σ H _ I h) λ us s1 ⟨vs,H1,I1,r1,q1⟩=>?_) hs rfl));obtain⟨j,e,q1,q2,q⟩:=q1;subst e
 cases r1 with
 |cons r rr=>
  cases rr;obtain⟨t,rfl⟩:=r;exact call_range_1 (zF I1 fu fu q1 q2 (by simpa using q))
noncomputable def zI(wi:TI)(g:TG)(tb:TS):TS:=λ D σ H=>wi σ H λ J H1=>∃W:Nat->Nat->St->Hp->Prop,(∃m,W 0 m σ H1)/\∀i m σ H,W i m σ H ->
 (J.stop i H/\D.nx σ H)\/(J.go i H/\∃N:St->Hp->Prop,(∀σ' H',N σ' H'->∃m',m'<m/\W (i+1) m' σ' H')/\∀x H',J.yld i H x H'->g x σ H' λ σ2 H2=>tb { D with nx:=N,ct:=N,bk:=D.nx } σ2 H2)
noncomputable def lH(fp:List Addr)(h:Heap):LO:=fp.filterMap λ b=>(h.get? b).map λ o=>(b,o)
def jf{fp:List Addr}{h:Heap}{b:Addr}(hb:b∈fp)(e:h.get? b=some o):(b,o)∈lH fp h:=s1b.mpr ⟨b,hb,by rw[e];rfl⟩
def zJ{fp:List Addr}{h:Heap}{p:Addr×Obj}(hp:p∈lH fp h):p.1∈fp/\h.get? p.1=some p.2:=by
 obtain⟨b,hb,e⟩:=s1b.mp hp
 cases q:h.get? b with
 |none=>rw[q] at e;cases e
 |some o=>
  rw[q] at e;have e':(b,o)=p:=bS e;subst e';exact⟨hb,q⟩
def Inv.pinned{fp:List Addr}(I:Inv X pins σ H s)(hf:∀b∈fp,gC X pins H b)(ho:∀b∈fp,∃o,s.heap.get? b=some o/\∀v,o.data≠.cell v):Inv X (pins++lH fp s.heap) σ H s :=
 I.pins_of λ p hp=>(bO.mp hp).elim (λ z=>I.pin p (bz _ z)) λ z=>by
  obtain⟨hb,e⟩:=zJ z;obtain⟨f0,f1,f2,_⟩:=hf p.1 hb;obtain⟨o,e',d⟩:=ho p.1 hb;rw[e] at e';cases e';exact⟨e,f0,f1,f2,d⟩
def Inv.unpinned{pins pl:LO}(I:Inv X (pins++pl) σ H s):Inv X pins σ H s:=I.pins_of λ p hp=>I.pin p (bz _ (iZ _ hp))
theorem zK{iter:Expr}(hp:PassesOwn (model X.prog X.w) X.A X.env X.xe)(hc:X.calm=true)(hi:PI X tg iter wi)(hg:PG X tg g)(hb:PSs X body tb)
  (hs:∀x,foldedSetIterable iter X.env x=pure x:=by intro _;rfl):PS X (.For tg iter body [] pos) (zI wi g tb):=by
 intro pins s σ H D I h;refine wpAny_For (thn (hi pins s σ H _ I h) λ v s1 h1=>thn h1 λ itv s2 h2=>?_) hs;obtain⟨it,fp,tn,J,H2,e,I2,T,st2,f2,W,⟨m0,w0⟩,turn⟩:=h2;subst e;have stat:∀ {H':Hp},(∀b∈fp,H' b=none)->∀b∈fp,gC X pins H' b:=λ hn b hb=>⟨hn b hb,(f2 b hb).2⟩;refine codeAny_forLoop_any (λ n s'=>∃i σ' H',Inv X pins σ' H' s'/\tn i s'.heap/\(∀b∈fp,H' b=none)/\W i n σ' H') ?_ m0 ⟨0,σ,H2,I2,st2,λ b hb=>(f2 b hb).1,w0⟩;rintro n s3 ⟨i,σ3,H3,I3,st3,fr3,w3⟩
 rcases turn i n σ3 H3 w3 with ⟨stop,qn⟩|⟨go,N,hN,step⟩
 ·refine kj hp (thn (T.done X rfl rfl rfl hc i pins s3 σ3 H3 X.xe I3 (stat fr3) st3 stop) λ r s4 ⟨hr,I4⟩=>?_);subst hr;exact oH ⟨σ3,H3,I4,qn⟩
 ·refine kj hp (thn (T.item X rfl rfl rfl hc i pins s3 σ3 H3 X.xe I3 (stat fr3) st3 go) λ r s4 ⟨u,hr,h4⟩=>?_);subst hr;refine kj hp (thn h4 λ _ s5 ⟨x,H5,I5,r5,y5,st5,fr5⟩=>?_);have I5':=I5.pinned (stat fr5) (T.obj _ _ st5);refine kj hp (thn (hg _ s5 σ3 H5 x u _ I5' r5 (step x H5 y5)) λ _ s6 ⟨σ6,H6,I6,q6⟩=>?_);refine kj hp (thn (hb _ s6 σ6 H6 _ I6 q6) λ f s7 q7=>?_)
  have again:∀ {σ7:St}{H7:Hp},Inv X (pins++lH fp s5.heap) σ7 H7 s7->N σ7 H7->∃m,m<n/\∃i σ' H',Inv X pins σ' H' s7/\tn i s7.heap/\(∀b∈fp,H' b=none)/\W i m σ' H':=λ {σ7 H7} I7 n7=>by
   obtain⟨m',hm,w7⟩:=hN σ7 H7 n7;refine⟨m',hm,i+1,σ7,H7,I7.unpinned,T.keep _ _ _ st5 λ b hb o e=>(I7.pin (b,o) (bz _ (bz _ (jf hb e)))).1,λ b hb=>?_,w7⟩;obtain⟨o,e,d⟩:=T.obj _ _ st5 b hb;exact(I7.pin (b,o) (bz _ (bz _ (jf hb e)))).2.1
  cases f with
  |next=>obtain⟨σ7,H7,I7,n7⟩:=q7;exact again I7 n7
  |cont=>obtain⟨σ7,H7,I7,n7⟩:=q7;exact again I7 n7
  |brk=>obtain⟨σ7,H7,I7,q7⟩:=q7;exact⟨σ7,H7,I7.unpinned,q7⟩
  |ret v=>obtain⟨x7,σ7,H7,I7,r7,q7⟩:=q7;exact⟨x7,σ7,H7,I7.unpinned,r7,q7⟩
end
abbrev R2:=V->V->Hp->VK->Prop
noncomputable def OpR(X:Cx)(f:Value->Value->Sem Value)(r:R2):Prop :=
 ∀(pins:LO) (s:Shared) (σ:St) (H:Hp) (x y:V) (v u:Value) (Q:VK),Inv X pins σ H s->RelV x v->RelV y u->r x y H Q ->
  wpAny (model X.prog X.w) X.A (f v u) (EP X pins σ Q) X.xe s
noncomputable def UnR(X:Cx)(f:Value->Sem Value)(r:V->Hp->VK->Prop):Prop :=
 ∀(pins:LO) (s:Shared) (σ:St) (H:Hp) (x:V) (v:Value) (Q:VK),Inv X pins σ H s->RelV x v->r x H Q ->
  wpAny (model X.prog X.w) X.A (f v) (EP X pins σ Q) X.xe s
noncomputable def bo(X:Cx)(f:Value)(r:List V->Hp->VK->Prop):Prop :=
 ∀(pins:LO) (s:Shared) (σ:St) (H:Hp) (xs:List V) (us:LV) (Q:VK),Inv X pins σ H s->Vals xs us->r xs H Q ->
  wpAny (model X.prog X.w) X.A (call f us) (EP X pins σ Q) X.xe s
noncomputable def tOp(r:R2)(ta tb:TE):TE:=λ σ H Q=>ta σ H λ x H1=>tb σ H1 λ y H2=>r x y H2 Q
noncomputable def tUn(r:V->Hp->VK->Prop)(ta:TE):TE:=λ σ H Q=>ta σ H λ x H1=>r x H1 Q
noncomputable def rI(C:Int->Int->Prop)(g:Int->Int->V):R2:=λ x y H Q=>oE x y λ i j=>C i j/\Q (g i j) H
noncomputable def rI0(g:Int->Int->V):R2:=λ x y H Q=>oE x y λ i j=>Q (g i j) H
noncomputable def rU(g:Int->V):V->Hp->VK->Prop:=λ x H Q=>isI x λ i=>Q (g i) H
section
variable {a b c:Expr}{ta tb tc:TE}{pos:Pos}
theorem oM(ha:PE X a ta)(hb:PE X b tb){R:V->V->Hp->Prop}(I:Inv X pins σ H s)
  (h:ta σ H λ x H1=>tb σ H1 λ y H2=>R x y H2){f:Value->Value->Sem Value}
  (hf:∀v u s2 x y H2,Inv X pins σ H2 s2->RelV x v->RelV y u->R x y H2->wpAny (model X.prog X.w) X.A (f v u) Q X.xe s2) :
  wpAny (model X.prog X.w) X.A (eval a X.env) (λ v s₁=>wpAny (model X.prog X.w) X.A (eval b X.env) (λ u s₂=>wpAny (model X.prog X.w) X.A (f v u) Q X.xe s₂) X.xe s₁) X.xe s:=by
 refine thn (ha pins s σ H _ I h) λ v s1 ⟨x,H1,I1,r1,q1⟩=>?_;refine thn (hb pins s1 σ H1 _ I1 q1) λ u s2 ⟨y,H2,I2,r2,q2⟩=>?_;exact hf v u s2 x y H2 I2 r1 r2 q2
def zM(ho:OpR X (binaryOp op) r)(ha:PE X a ta)(hb:PE X b tb):PE X (.BinOp a op b pos) (tOp r ta tb):=by
 intro pins s σ H Q I h;exact wpAny_BinOp (oM ha hb I h λ v u s2 x y H2 I2 rx ry q=>ho pins s2 σ H2 x y v u Q I2 rx ry q)
def zN(ho:UnR X (unaryOp op) r)(ha:PE X a ta):PE X (.UnaryOp op a pos) (tUn r ta):=by
 intro pins s σ H Q I h;exact UnaryOp_ (thn (ha pins s σ H _ I h) λ v s1 ⟨x,H1,I1,r1,q1⟩=>ho pins s1 σ H1 x v Q I1 r1 q1)
theorem opI{f:Value->Value->Sem Value}{C:Int->Int->Prop}{g:Int->Int->Int}
  (rule:∀(i j:Int) (t u:Tok) (s:Shared) (Q:VS) (E:VS),C i j->Q (.int (g i j) s.toks) { s with toks:=s.toks+1 }->wpAny (model X.prog X.w) X.A (f (.int i t) (.int j u)) Q E s) :
  OpR X f (rI C λ i j=>.int (g i j)):=by
 intro pins s σ H x y v u Q I rx ry h;obtain⟨i,j,rfl,rfl,hc,q⟩:=oF h;obtain⟨t,rfl⟩:=rx;obtain⟨t',rfl⟩:=ry;exact rule i j t t' s _ _ hc ⟨.int (g i j),H,I.tok _,⟨_,O⟩,q⟩
theorem ko{f:Value->Value->Sem Value}{g:Int->Int->Int}
  (rule:∀(i j:Int) (t u:Tok) (s:Shared) (Q:VS) (E:VS),Q (.int (g i j) s.toks) { s with toks:=s.toks+1 }->wpAny (model X.prog X.w) X.A (f (.int i t) (.int j u)) Q E s) :
  OpR X f (rI0 λ i j=>.int (g i j)):=by
 intro pins s σ H x y v u Q I rx ry h;obtain⟨i,j,rfl,rfl,q⟩:=oF h;obtain⟨t,rfl⟩:=rx;obtain⟨t',rfl⟩:=ry;exact rule i j t t' s _ _ ⟨.int (g i j),H,I.tok _,⟨_,O⟩,q⟩
theorem lJ{f:Value->Value->Sem Value}{g:Int->Int->Bool}
  (rule:∀(i j:Int) (t u:Tok) (s:Shared) (Q:VS) (E:VS),Q (.bool (g i j)) s->wpAny (model X.prog X.w) X.A (f (.int i t) (.int j u)) Q E s) :
  OpR X f (rI0 λ i j=>.bl (g i j)):=by
 intro pins s σ H x y v u Q I rx ry h;obtain⟨i,j,rfl,rfl,q⟩:=oF h;obtain⟨t,rfl⟩:=rx;obtain⟨t',rfl⟩:=ry;exact rule i j t t' s _ _ ⟨.bl (g i j),H,I,O,q⟩
def kq(i j:Int):Prop:=0<=j/\j<=1000000/\i.natAbs<2 ^ 64
noncomputable def CMul(i j:Int):Prop:=(-(2 ^ 64)<i/\i<2 ^ 64)\/(-(2 ^ 64)<j/\j<2 ^ 64)
def CMul.ok(h:CMul i j):IntMulOk i j:=by
 rcases h with ⟨h1,h2⟩|⟨h1,h2⟩
 ·exact .of_left (intBits_le_64 h1 h2)
 ·exact .of_right (intBits_le_64 h1 h2)
def zO(k:Nat):(0:Int)<=2 ^ k:=by
 rw[two_pow_cast];exact s1c _
def zP:OpR X (binaryOp .Add) (rI0 λ i j=>.int (i+j)):=ko λ _ _ _ _ _ _ _ q=>add_int q
def zQ:OpR X (binaryOp .Sub) (rI0 λ i j=>.int (i-j)):=ko λ _ _ _ _ _ _ _ q=>sub_int q
def zR:OpR X (binaryOp .Mod) (rI (λ _ j=>0<j) λ i j=>.int (i%j)):=opI λ i j _ _ _ _ _ hc q=>by
 have h1:(0:Int)<j:=hc;exact mod_int' fu (by rw[sG i fu];exact q)
def zU:OpR X (binaryOp .Mod) (rI (λ _ j=>j≠0) λ i j=>.int (i.fmod j)):=opI λ _ _ _ _ _ _ _ hc q=>mod_int' hc q
def zV:OpR X (binaryOp .Pow) (rI kq λ i j=>.int (i ^ j.toNat)):=opI λ _ _ _ _ _ _ _ hc q=>pow_int_small hc.1 hc.2.1 hc.2.2 q
def zW:OpR X (binaryOp .RShift) (rI (λ _ j=>0<=j) λ i j=>.int (i/2 ^ j.toNat)):=opI λ i j _ _ _ _ _ hc q=>
 rshift_int hc (by rw[lK i (zO _)];exact q)
def zX:OpR X (binaryOp .BitAnd) (rI0 λ i j=>.int (Builtin.bitAnd i j)):=ko λ _ _ _ _ _ _ _ q=>and_int q
def zY:OpR X (binaryOp .BitOr) (rI0 λ i j=>.int (Builtin.bitOr i j)):=ko λ _ _ _ _ _ _ _ q=>or_int q
def zZ:OpR X (binaryOp .BitXor) (rI0 λ i j=>.int (Builtin.bitXor i j)):=ko λ _ _ _ _ _ _ _ q=>xor_int q
theorem unI{f:Value->Sem Value}{g:Int->Int}
  (rule:∀(i:Int) (t:Tok) (s:Shared) (Q:VS) (E:VS),Q (.int (g i) s.toks) { s with toks:=s.toks+1 }->wpAny (model X.prog X.w) X.A (f (.int i t)) Q E s) :
  UnR X f (rU λ i=>.int (g i)):=by
 intro pins s σ H x v Q I rx h;obtain⟨i,rfl,q⟩:=yL h;obtain⟨t,rfl⟩:=rx;exact rule i t s _ _ ⟨.int (g i),H,I.tok _,⟨_,O⟩,q⟩
def Aa:UnR X (unaryOp .USub) (rU λ i=>.int (-i)):=unI λ _ _ _ _ _ q=>neg_int q
end
noncomputable def bq:V->V->Bool
 |.non,.non=>true|.non,.int _=>true|.int _,.non=>true|.non,.bl _=>true|.bl _,.non=>true|.non,.str _=>true|.str _,.non=>true
 |.int _,.int _=>true|.bl _,.bl _=>true|.str _,.str _=>true|.byt _,.byt _=>true
 |.int _,.str _=>true|.str _,.int _=>true|.bl _,.str _=>true|.str _,.bl _=>true
 |_,_=>false
noncomputable def rEq:R2:=λ x y H Q=>match x,y with
 |.int i,.int j=>Q (.bl (decide (i=j))) H
 |.str i,.str j=>Q (.bl (decide (i=j))) H
 |x,y=>bq x y=true/\Q (.bl (decide (x=y))) H
def dcI(i j:Int):decide (V.int i=V.int j)=decide (i=j):=oN.mpr ⟨λ h=>V.int.inj h,λ h=>h ▸ rfl⟩
def dcS(i j:Str):decide (V.str i=V.str j)=decide (i=j):=oN.mpr ⟨λ h=>V.str.inj h,λ h=>h ▸ rfl⟩
def lL(p:Prop):p=(true=true/\p):=propext ⟨λ h=>⟨rfl,h⟩,λ h=>h.2⟩
def rEq_ex:rEq x y H Q=(bq x y=true/\Q (.bl (decide (x=y))) H):=by
 cases x<;>cases y<;>first|rfl|(rw[dcI];exact lL _)|(rw[dcS];exact lL _)
def Ab(h:rEq x y H Q):bq x y=true/\Q (.bl (decide (x=y))) H:=rEq_ex.mp h
noncomputable def rNe:R2:=λ x y H Q=>match x,y with
 |.int i,.int j=>Q (.bl (!decide (i=j))) H
 |.str i,.str j=>Q (.bl (!decide (i=j))) H
 |x,y=>bq x y=true/\Q (.bl (!decide (x=y))) H
def rNe_ex:rNe x y H Q=(bq x y=true/\Q (.bl (!decide (x=y))) H):=by
 cases x<;>cases y<;>first|rfl|(rw[dcI];exact lL _)|(rw[dcS];exact lL _)
def Ac(h:rNe x y H Q):bq x y=true/\Q (.bl (!decide (x=y))) H:=rNe_ex.mp h
def sH:decide (V.int i=V.int j)=(i == j):=by
 rw[lM];simp
def sJ:decide (V.bl i=V.bl j)=(i == j):=by
 rw[lM];simp
def sK:decide (V.str i=V.str j)=(i == j):=by
 rw[lM];simp
def sM:decide (V.byt i=V.byt j)=(i.toList == j.toList):=by
 rw[lM];cases i;cases j;simp
section
variable {a b c:Expr}{ta tb tc:TE}{pos:Pos}
def aW{Q:VK}{k k':Bool}(I:Inv X pins σ H s)(q:Q (.bl k) H)(e:k=k'):EP X pins σ Q (.bool k') s:=by
 subst e;exact⟨.bl k,H,I,O,q⟩
def dW:OpR X (compareOp .Eq) rEq:=by
 intro pins s σ H x y v u Q I rx ry h;obtain⟨hs,q⟩:=Ab h
 cases x with
 |non=>
  cases rx
  cases y with
  |non=>cases ry;exact PySem.EqNone.eq_none_none (aW I q pv)
  |bl j=>cases ry;exact PySem.EqNone.eq_none_bool (aW I q pv)
  |int j=>obtain⟨t',rfl⟩:=ry;exact PySem.EqNone.eq_none_int (aW I q pv)
  |str j=>obtain⟨t',rfl⟩:=ry;exact PySem.EqNone.eq_none_str (aW I q pv)
  |_=>exact absurd (show false=true from hs) br
 |bl i=>
  cases rx
  cases y with
  |non=>cases ry;exact PySem.EqNone.eq_bool_none (aW I q pv)
  |bl j=>cases ry;exact eq_bool (aW I q sJ)
  |str j=>obtain⟨t',rfl⟩:=ry;exact PySem.EqMixed.eq_bool_str (aW I q pv)
  |_=>exact absurd (show false=true from hs) br
 |int i=>
  obtain⟨t,rfl⟩:=rx
  cases y with
  |non=>cases ry;exact PySem.EqNone.eq_int_none (aW I q pv)
  |int j=>obtain⟨t',rfl⟩:=ry;exact eq_int (aW I q sH)
  |str j=>obtain⟨t',rfl⟩:=ry;exact PySem.EqMixed.eq_int_str (aW I q pv)
  |_=>exact absurd (show false=true from hs) br
 |str i=>
  obtain⟨t,rfl⟩:=rx
  cases y with
  |non=>cases ry;exact PySem.EqNone.eq_str_none (aW I q pv)
  |bl j=>cases ry;exact PySem.EqMixed.eq_str_bool (aW I q pv)
  |int j=>obtain⟨t',rfl⟩:=ry;exact PySem.EqMixed.eq_str_int (aW I q pv)
  |str j=>obtain⟨t',rfl⟩:=ry;exact eq_str (aW I q sK)
  |_=>exact absurd (show false=true from hs) br
 |byt i=>
  obtain⟨t,rfl⟩:=rx
  cases y with
  |byt j=>obtain⟨t',rfl⟩:=ry;exact W.eq_bytes (aW I q sM)
  |_=>exact absurd (show false=true from hs) br
 |_=>cases y<;>exact absurd (show false=true from hs) br
def dX:OpR X (compareOp .NotEq) rNe:=by
 intro pins s σ H x y v u Q I rx ry h;obtain⟨hs,q⟩:=Ac h
 cases x with
 |non=>
  cases rx
  cases y with
  |non=>cases ry;exact PySem.EqNone.ne_none_none (aW I q pv)
  |bl j=>cases ry;exact PySem.EqNone.ne_none_bool (aW I q pv)
  |int j=>obtain⟨t',rfl⟩:=ry;exact PySem.EqNone.ne_none_int (aW I q pv)
  |str j=>obtain⟨t',rfl⟩:=ry;exact PySem.EqNone.ne_none_str (aW I q pv)
  |_=>exact absurd (show false=true from hs) br
 |bl i=>
  cases rx
  cases y with
  |non=>cases ry;exact PySem.EqNone.ne_bool_none (aW I q pv)
  |bl j=>cases ry;exact ne_bool (aW I q (bK not sJ))
  |str j=>obtain⟨t',rfl⟩:=ry;exact PySem.EqMixed.ne_bool_str (aW I q pv)
  |_=>exact absurd (show false=true from hs) br
 |int i=>
  obtain⟨t,rfl⟩:=rx
  cases y with
  |non=>cases ry;exact PySem.EqNone.ne_int_none (aW I q pv)
  |int j=>obtain⟨t',rfl⟩:=ry;exact ne_int (aW I q (bK not sH))
  |str j=>obtain⟨t',rfl⟩:=ry;exact PySem.EqMixed.ne_int_str (aW I q pv)
  |_=>exact absurd (show false=true from hs) br
 |str i=>
  obtain⟨t,rfl⟩:=rx
  cases y with
  |non=>cases ry;exact PySem.EqNone.ne_str_none (aW I q pv)
  |bl j=>cases ry;exact PySem.EqMixed.ne_str_bool (aW I q pv)
  |int j=>obtain⟨t',rfl⟩:=ry;exact PySem.EqMixed.ne_str_int (aW I q pv)
  |str j=>obtain⟨t',rfl⟩:=ry;exact ne_str (aW I q (bK not sK))
  |_=>exact absurd (show false=true from hs) br
 |byt i=>
  obtain⟨t,rfl⟩:=rx
  cases y with
  |byt j=>obtain⟨t',rfl⟩:=ry;exact W.ne_bytes (aW I q (bK not sM))
  |_=>exact absurd (show false=true from hs) br
 |_=>cases y<;>exact absurd (show false=true from hs) br
def Ad:OpR X (compareOp .Lt) (rI0 λ i j=>.bl (decide (i<j))):=lJ λ _ _ _ _ _ _ _ q=>lt_int q
def Ae:OpR X (compareOp .LtE) (rI0 λ i j=>.bl (decide (i<=j))):=lJ λ _ _ _ _ _ _ _ q=>le_int q
def Af:OpR X (compareOp .Gt) (rI0 λ i j=>.bl (decide (j<i))):=lJ λ _ _ _ _ _ _ _ q=>gt_int q
def Ag:OpR X (compareOp .GtE) (rI0 λ i j=>.bl (decide (j<=i))):=lJ λ _ _ _ _ _ _ _ q=>ge_int q
def Ah:OpR X (compareOp .Is) (λ x y H Q=>y=.non/\Q (.bl (decide (x=.non))) H):=by
 intro pins s σ H x y v u Q I rx ry h;obtain⟨rfl,q⟩:=h;cases ry;refine is_none_gen (aW I q ?_)
 cases x<;>first
  |(cases rx;rfl)
  |(obtain⟨t,rfl⟩:=rx;rfl)
def Ai:OpR X (compareOp .IsNot) (λ x y H Q=>y=.non/\Q (.bl (!decide (x=.non))) H):=by
 intro pins s σ H x y v u Q I rx ry h;obtain⟨rfl,q⟩:=h;cases ry;refine isnot_none_gen (aW I q ?_)
 cases x<;>first
  |(cases rx;rfl)
  |(obtain⟨t,rfl⟩:=rx;rfl)
def Aj(ho:OpR X (compareOp op) r)(ha:PE X a ta)(hb:PE X b tb)(hm:behindInMarks op b=false):PE X (.Compare a [op] [b] pos) (tOp r ta tb):=by
 intro pins s σ H Q I h;exact wpAny_Compare1 (oM ha hb I h λ v u s2 x y H2 I2 rx ry q=>ho pins s2 σ H2 x y v u Q I2 rx ry q) hm
def sO(t:TE):TT:=λ σ H Q=>t σ H λ x H'=>isB x λ k=>Q k H'
def Ak(ho:OpR X (compareOp op) r)(ha:PE X a ta)(hb:PE X b tb)(hm:behindInMarks op b=false):PT X (.Compare a [op] [b] pos) (sO (tOp r ta tb)):=by
 intro pins s σ H Q I h
 refine wpAny_isTrue_Compare1 (thn (ha pins s σ H _ I h) λ v s1 ⟨x,H1,I1,r1,q1⟩=>thn (hb pins s1 σ H1 _ I1 q1) λ u s2 ⟨y,H2,I2,r2,q2⟩ =>
  thn (ho pins s2 σ H2 x y v u _ I2 r1 r2 q2) λ c s3 ⟨z,H3,I3,r3,q3⟩=>?_) hm
 obtain⟨k,e,q3⟩:=ja q3;subst e;cases r3;exact fj ⟨H3,I3,q3⟩
noncomputable def sP(r r':R2)(ta tb tc:TE):TE:=λ σ H Q=>ta σ H λ x H1=>tb σ H1 λ y H2=>r x y H2 λ z H3=>∃k,z=.bl k /\
 (if k=true then tc σ H3 λ w' H4=>r' y w' H4 Q else Q (.bl false) H3)
theorem Al(ho:OpR X (compareOp op) r)(ho':OpR X (compareOp op') r')(ha:PE X a ta)(hb:PE X b tb)(hc:PE X c tc)
  (hm:lastMarks [op,op'] [b,c]=false:=by with_unfolding_all rfl):PE X (.Compare a [op,op'] [b,c] pos) (sP r r' ta tb tc):=by
 intro pins s σ H Q I h
 refine Compare_chain (thn (ha pins s σ H _ I h) λ v s1 ⟨x,H1,I1,r1,q1⟩=>chain_link (thn (hb pins s1 σ H1 _ I1 q1) λ u s2 ⟨y,H2,I2,r2,q2⟩ =>
  thn (ho pins s2 σ H2 x y v u _ I2 r1 r2 q2) λ d s3 ⟨z,H3,I3,r3,k,e,q3⟩=>?_)) hm
 subst e;cases r3;refine fj ?_
 cases k with
 |false=>exact ite_ff ⟨.bl false,H3,I3,rfl,q3⟩
 |true=>exact ite_tt (chain_last (thn (hc pins s3 σ H3 _ I3 q3) λ w' s4 ⟨z',H4,I4,r4,q4⟩=>ho' pins s4 σ H4 y z' u w' Q I4 r2 r4 q4))
theorem Am(ho:OpR X (compareOp op) r)(ho':OpR X (compareOp op') r')(ha:PE X a ta)(hb:PE X b tb)(hc:PE X c tc)
  (hm:lastMarks [op,op'] [b,c]=false:=by with_unfolding_all rfl):PT X (.Compare a [op,op'] [b,c] pos) (sO (sP r r' ta tb tc)):=by
 intro pins s σ H Q I h
 refine isTrue_chain (thn (ha pins s σ H _ I h) λ v s1 ⟨x,H1,I1,r1,q1⟩=>test_link (thn (hb pins s1 σ H1 _ I1 q1) λ u s2 ⟨y,H2,I2,r2,q2⟩ =>
  thn (ho pins s2 σ H2 x y v u _ I2 r1 r2 q2) λ d s3 ⟨z,H3,I3,r3,k,e,q3⟩=>?_)) hm
 subst e;cases r3;refine fj ?_
 cases k with
 |false=>
  obtain⟨k',e',q'⟩:=ja (show isB (V.bl false) (λ k=>Q k H3) from q3);cases e';exact ite_ff ⟨H3,I3,q'⟩
 |true=>
  refine ite_tt (test_last (thn (hc pins s3 σ H3 _ I3 q3) λ w' s4 ⟨z',H4,I4,r4,q4⟩=>thn (ho' pins s4 σ H4 y z' u w' _ I4 r2 r4 q4) λ d' s5 ⟨z2,H5,I5,r5,q5⟩=>?_));obtain⟨k2,e2,q5⟩:=ja q5;subst e2;cases r5;exact fj ⟨H5,I5,q5⟩
def jg:(sizeLine:Nat)<2 ^ 63:=by rw[kr];decide
def bL{x:V}(r:Vals [x] us):∃u,us=[u]/\RelV x u:=by
 cases r with
 |cons r1 r2=>cases r2;exact⟨_,rfl,r1⟩
def jh{x y:V}(r:Vals [x,y] us):∃u w',us=[u,w']/\RelV x u/\RelV y w':=by
 cases r with
 |cons r1 r2=>
  cases r2 with
  |cons r3 r4=>cases r4;exact⟨_,_,rfl,r1,r3⟩
def Ao:bo X (.builtin "abs") (λ xs H Q=>∃i,xs=[.int i]/\Q (.int (if i<0 then -i else i)) H):=by
 intro pins s σ H xs us Q I r h;obtain⟨i,rfl,q⟩:=h;obtain⟨u,rfl,t,rfl⟩:=bL r;exact call_abs_int λ u tk=>⟨.int (if i<0 then -i else i),H,I.tok _,⟨_,O⟩,q⟩
def Ap(hc:X.calm=true):bo X (.builtin "max") (λ xs H Q=>∃i j,xs=[.int i,.int j]/\Q (.int (if j > i then j else i)) H):=by
 intro pins s σ H xs us Q I r h;obtain⟨i,j,rfl,q⟩:=h;obtain⟨u,w',rfl,⟨t,rfl⟩,⟨t',rfl⟩⟩:=jh r;refine max_two_ints (I.ok.hd hc) λ h' tk k=>⟨_,H,I.kept k,?_,q⟩;by_cases hj:j > i
 ·rw[if_pos hj,if_pos hj];exact⟨_,rfl⟩
 ·rw[if_neg hj,if_neg hj];exact⟨_,rfl⟩
def Aq(hc:X.calm=true):bo X (.builtin "min") (λ xs H Q=>∃i j,xs=[.int i,.int j]/\Q (.int (if j<i then j else i)) H):=by
 intro pins s σ H xs us Q I r h;obtain⟨i,j,rfl,q⟩:=h;obtain⟨u,w',rfl,⟨t,rfl⟩,⟨t',rfl⟩⟩:=jh r;refine min_two_ints (I.ok.hd hc) λ h' tk k=>⟨_,H,I.kept k,?_,q⟩;by_cases hj:j<i
 ·rw[if_pos hj,if_pos hj];exact⟨_,rfl⟩
 ·rw[if_neg hj,if_neg hj];exact⟨_,rfl⟩
def sQ:bo X (.type "int") (λ xs H Q=>(∃i,xs=[.int i]/\Q (.int i) H)\/∃k,xs=[.bl k]/\Q (.int (if k then 1 else 0)) H):=by
 intro pins s σ H xs us Q I r h
 rcases h with ⟨i,rfl,q⟩|⟨k,rfl,q⟩
 ·obtain⟨u,rfl,t,rfl⟩:=bL r;exact call_int_int ⟨.int i,H,I,⟨_,O⟩,q⟩
 ·obtain⟨u,rfl,r1⟩:=bL r;cases r1;exact call_int_bool ⟨.int (if k then 1 else 0),H,I.tok _,⟨_,O⟩,q⟩
end
section
variable {prog:Program}{w:World}{A:Around}{E:VS}{s:Shared}{K:FG}{x dx C f:Addr}{mA:SV}{name:Str}{v:Value}
end
def RelO.some_of(r:RelO (some v) o):∃u,o=some u/\RelV v u:=by
 cases o with
 |none=>exact(show False from r).elim
 |some u=>exact⟨u,rfl,r⟩
section
variable {P:Program}{w:World}{H H':Hp}{h h':Heap}{a C dx:Addr}{fs fs':List (Str×V)}
end
section
variable {pins:LO}{σ:St}{H:Hp}{s:Shared}{a C dx:Addr}{fs:List (Str×V)}{f:Str}{v:V}{A:Around}{E:VS}
end
section
variable {o e value:Expr}{f:Str}{pos pos' tpos:Pos}{ta tv:TE}
end
section
variable {pins:LO}{σ:St}{H:Hp}{s:Shared}{A:Around}{E:VS}{Q:VS}{c:Value}{b:Bool}
end
structure Room (k:Nat)(A:Around):Prop where
 hd:A.handled=none
 dp:A.depth+3*k+5<recursionLimit
 un:A.units+16*k+200<cLine
def Room.mono{j k:Nat}(r:Room k A)(h:j<=k):Room j A:=⟨r.hd,by have:=r.dp;lia,by have:=r.un;lia⟩
def Room.deeper{k:Nat}(r:Room (k+1) A)(env:Env):Room k (A.deeper env) :=
 ⟨r.hd,by have:=r.dp;show A.depth+1+3*k+5<_;lia,by have:=r.un;show A.units+3+16*k+200<_;lia⟩
def Room.depth(r:Room k A):A.depth<recursionLimit:=by have:=r.dp;lia
def sR:TA:=λ _ H Q=>Q [] H
noncomputable def oO(ta:TE)(tr:TA):TA:=λ σ H Q=>ta σ H λ x H1=>tr σ H1 λ xs H2=>Q (x::xs) H2
section
variable {e:Expr}{es:List Expr}{te:TE}{t:TA}{pos:Pos}
def pa_nil:PA X [] sR:=λ _ _ _ _ H Q I h=>lN ⟨[],H,I,.nil,h⟩
def cO(ha:PE X e te)(hr:PA X es t)(hs:starEach (e::es) X.env=(false,eval e X.env)::starEach es X.env:=by rfl):PA X (e::es) (oO te t):=by
 intro pos pins s σ H Q I h;rw[hs];show wpAny _ _ (spliced ((false,eval e X.env)::backTo pos (starEach es X.env))) _ _ s;refine lO (thn (ha pins s σ H _ I h) λ u s1 ⟨x,H1,I1,r1,q1⟩=>?_);exact thn (hr pos pins s1 σ H1 _ I1 q1) λ us s2 ⟨xs,H2,I2,r2,q2⟩=>⟨x::xs,H2,I2,.cons r1 r2,q2⟩
noncomputable def Ar(t:TA):TE:=λ σ H Q=>t σ H λ xs H1=>xs.length<=sizeLine/\∀p,H1 p=none->Q (.ref p) (upd H1 p (.tup xs))
noncomputable def As(t:TA):TE:=λ σ H Q=>t σ H λ xs H1=>xs.length<=sizeLine/\∀p,H1 p=none->Q (.ref p) (upd H1 p (.lst xs))
def At{x1}(h:PA X es t):PE X (.Tuple es x1 pos) (Ar t):=by
 intro pins s σ H Q I hq;refine wpAny_Tuple_spliced (thn (h pos pins s σ H _ I hq) λ us s1 ⟨xs,H1,I1,r,z,q⟩=>⟨by rw[<- r.length];exact z,?_⟩);have hf:H1 s1.heap.objs.size=none:=I1.hok.fresh (ar _);refine⟨.ref s1.heap.objs.size,upd H1 s1.heap.objs.size (.tup xs),I1.laid (t':=s1.toks) (λ b u e=>aA _ e) (ar _) ?_,O,q _ hf⟩;exact⟨z,us,r,⟨_,aM _ rfl,⟨O,_,O⟩,O⟩⟩
def Au(h:PA X es t):PE X (.List es pos) (As t):=by
 intro pins s σ H Q I hq;refine wpAny_List_spliced (thn (h pos pins s σ H _ I hq) λ us s1 ⟨xs,H1,I1,r,z,q⟩=>⟨by rw[<- r.length];exact z,?_⟩);have hf:H1 s1.heap.objs.size=none:=I1.hok.fresh (ar _);refine⟨.ref s1.heap.objs.size,upd H1 s1.heap.objs.size (.lst xs),I1.laid (t':=s1.toks) (λ b u e=>aA _ e) (ar _) ?_,O,q _ hf⟩;exact⟨z,us,0,r,aM _ rfl⟩
end
abbrev Sp:=List V->Hp->VK->XK->Prop
abbrev CXT:=List Env->Hp->Shared->XK->VS
structure Env0 (P:Program)(w:World)(K:FG)(mg:SV)(base:Heap)(A:Around)(outer:List Env)(s:Shared)(H:Hp):Prop where
 frames:A.frames=some outer
 mod:Mod K mg base
 bs:∀b o,base.get? b=some o->s.heap.get? b=some o/\H b=none
 bsz:base.objs.size<=s.heap.objs.size
 funs:s.heap.FunFrames base outer
 frf:∀b∈frs outer,H b=none
 hok:HOk P w H s.heap
 bare:AllBare s.gens
noncomputable def CE(outer:List Env)(P:Program)(w:World)(H:Hp)(s:Shared)(Q:VK)(u:Value)(s':Shared):Prop :=
 ∃v H',s'.os=s.os/\AllBare s'.gens/\Un (frs outer) [] H H' s.heap s'.heap/\HOk P w H' s'.heap/\RelV v u/\Q v H'
noncomputable def CR(CX:CXT)(outer:List Env)(P:Program)(w:World)(H:Hp)(s:Shared)(Q:VK)(E:XK)(r:Result)(s':Shared):Prop :=
 match r with
 |.ok (.ret u)=>CE outer P w H s Q u s'
 |.ok _=>False
 |.error e=>CX outer H s E e s'
structure FnOk (P:Program)(w:World)(K:FG)(mg:SV)(base:Heap)(CX:CXT)(k:Nat)(f:Addr)(fd:FuncData)(ps:List Str)(sp:Sp):Prop where
 len:∀vs H Q E,sp vs H Q E->vs.length=ps.length
 run:∀(A:Around) (outer:List Env) (s:Shared) (H:Hp) (args:Args) (us:LV) (vs:List V) (Q:VK) (E:XK),Room k A->Env0 P w K mg base A outer s H->BindsTo s fd args (ps.zip us)->Vals vs us->sp vs H Q E ->
  codeAny (model P w) A (.call (.ref f) args) (CR CX outer P w H s Q E) s
theorem FnOk.mono{K:FG}{j k:Nat}(F:FnOk P w K mg base CX j f fd ps sp)(h:j<=k) :
  FnOk P w K mg base CX k f fd ps sp:=⟨F.len,λ A outer s H args us vs Q E hr=>F.run A outer s H args us vs Q E (hr.mono h)⟩
theorem FnOk.imp{K:FG}{sp sp':Sp}(F:FnOk P w K mg base CX k f fd ps sp)
  (h:∀vs H Q E,sp' vs H Q E->sp vs H Q E):FnOk P w K mg base CX k f fd ps sp' :=
 ⟨λ vs H Q E q=>F.len vs H Q E (h _ _ _ _ q),λ A outer s H args us vs Q E hr he hb hv hs=>F.run A outer s H args us vs Q E hr he hb hv (h _ _ _ _ hs)⟩
section
variable {pins:LO}{σ:St}{H:Hp}{s s':Shared}
def Inv.env0(I:Inv X pins σ H s):Env0 X.prog X.w X.K X.mg X.base X.A X.stack s H :=
 ⟨I.ok.frames,I.ok.mod,I.bs,bB I.ok.bsz I.sz,I.stack,I.stkFree,I.hok,I.bare⟩
def Inv.after(I:Inv X pins σ H s)(h:CE X.stack X.prog X.w H s Q u s'):EP X pins σ Q u s':=by
 obtain⟨v,H',os,bare,un,hok,r,q⟩:=h;obtain⟨hh,g,d,t,os'⟩:=s';obtain rfl:os'=s.os:=os;exact⟨v,H',I.call (h':=hh) (g':=g) (d':=d) (t':=t) (ch:=[]) un hok bare (λ b z=>absurd z pv),r,q⟩
end
noncomputable def sU(sp:Sp)(dvs:List V)(E:XK)(t:TA):TE:=λ σ H Q=>t σ H λ vs H1=>sp (vs++dvs) H1 Q E
noncomputable def Binds(K:FG)(fd:FuncData)(ps:List Str)(ds:LV):Prop :=
 ∀(s:Shared) (us:LV),K.In s.heap->(us++ds).length=ps.length->BindsTo s fd ⟨us,[]⟩ (ps.zip (us++ds))
def Binds.all{K:FG}{ps:List Str}(h:∀us:LV,us.length=ps.length->bindArgs fd ⟨us,[]⟩=pure (ps.zip us)):Binds K fd ps []:=λ s us _ hl=>by
 rw[gE] at hl ⊢;exact .of_eq (h us hl)
noncomputable def lP(CX:CXT)(X:Cx)(E:XK):Prop:=∀(pins:LO) (σ:St) (H:Hp) (s:Shared) (e:Value) (s':Shared),Inv X pins σ H s->CX X.stack H s E e s'->X.xe e s'
section
variable {CX:CXT}{k:Nat}{f C:Addr}{fd:FuncData}{ps:List Str}{sp:Sp}{dvs:List V}{ds:LV}{E:XK}{x m:Str}{p pos apos:Pos}{e o:Expr}{es:List Expr}{ta:TE}{t:TA}
theorem Av{vs:List V}(F:FnOk X.prog X.w X.K X.mg X.base CX k f fd ps sp)(hr:Room k X.A)(hb:Binds X.K fd ps ds)(hd:Vals dvs ds)(hx:lP CX X E)
  (I:Inv X pins σ H s) (r:Vals vs us) (h:sp (vs++dvs) H Q E):wpAny (model X.prog X.w) X.A (call (.ref f) us) (EP X pins σ Q) X.xe s:=by
 have r2:Vals (vs++dvs) (us++ds):=r.append hd;have hl:(us++ds).length=ps.length:=by rw[<- r2.length];exact F.len _ _ _ _ h
 refine wpAny_call (iq (F.run X.A X.stack s H ⟨us,[]⟩ (us++ds) (vs++dvs) Q E hr I.env0 (hb s us I.kIn hl) r2 h) λ r s' hq=>?_)
 cases r with
 |error e=>exact hx pins σ H s e s' I hq
 |ok fl=>
  cases fl with
  |ret u=>exact I.after hq
  |next=>exact False.elim hq
  |brk=>exact False.elim hq
  |cont=>exact False.elim hq
theorem Aw(F:FnOk X.prog X.w X.K X.mg X.base CX k f fd ps sp)(hr:Room k X.A)(hg:Gl X x)(hm:X.mg x=some (.ref f))(hk:W.keepIn X.K (.ref f)=true)(hb:Binds X.K fd ps ds)(hd:Vals dvs ds)(hx:lP CX X E)
  (ha:PA X (e::es) t) (hdb:(x == ("__debug__" : Str))=false:=by decide) (he:starEach (e::es) X.env=(false,eval e X.env)::starEach es X.env:=by rfl) (hpl:(backTo pos (starEach es X.env)).any (·.1)=false:=by rfl) :
  PE X (.Call (.Name x p) (e::es) [] pos) (sU sp dvs E t):=by
 intro pins s σ H Q I h;refine lQ (oG I hg hm ?_ hdb);refine W.callWith_K (h₀:=X.base) I.ok.mod.kin hk (thn (ha pos pins s σ H _ I h) λ us s1 ⟨vs,H1,I1,r,q⟩=>⟨I1.kIn,?_⟩) he hpl;exact Av F hr hb hd hx I1 r q
end
section
variable {CX:CXT}{k:Nat}{f C:Addr}{fd:FuncData}{ps ks:List Str}{sp:Sp}{E:XK}{x m:Str}{p pos apos kpos:Pos}{e o:Expr}{es:List Expr}{kws:List Keyword}{te ta:TE}{t tk:TA}{nm:Option Str}
variable {g:LV->LV->LV}{gV:List V->List V->List V}
end
structure FnScope (N P:List Str)(sc:Scope):Prop where
 kind:sc.kind=.function
 co:sc.isCoroutine=false
 gen:sc.isGenerator=false
 nd:N.Nodup
 pre:N.take P.length=P
 par:∀x∈P,sc.names.lookup x=some .local\/sc.names.lookup x=some .cell
 nofree:∀y∈sc.names,y.2≠.free
theorem sV{kindOf:Str->Option NameKind}{x:Str}:∀ {binds:List (Str×Value)}{m:SV},(∀v,(x,v) ∉ binds)->bindL kindOf binds m x=m x
 |[],_,_=>rfl
 |(n,v)::r,m,h=>by
  unfold bindL;rw[sV λ w hw=>h w (cX _ hw)];split
  ·have:x≠n:=by rintro rfl;exact h v dz
   simp[this]
  ·rfl
theorem sW{kindOf:Str->Option NameKind}{x:Str}:∀ {binds:List (Str×Value)}{m:SV},(∀v,(x,v) ∉ binds)->bindC kindOf binds m x=m x
 |[],_,_=>rfl
 |(n,v)::r,m,h=>by
  unfold bindC;rw[sW λ w hw=>h w (cX _ hw)];split
  ·rfl
  ·have:x≠n:=by rintro rfl;exact h v dz
   simp[this]
theorem sX{kindOf:Str->Option NameKind}:∀ {P:List Str}{vs:LV}{i:Nat}{m:SV},P.Nodup->P[i]?=some x->vs[i]?=some v->kindOf x=some .local ->
  bindL kindOf (P.zip vs) m x=some v
 |[],_,_,_,_,h,_,_=>by simp at h
 |_::_,[],_,_,_,_,h,_=>by simp at h
 |p::P,w::vs,0,m,nd,h1,h2,hk=>by
  simp at h1 h2;subst h1;subst h2;show bindL kindOf ((p,w)::P.zip vs) m p=_;unfold bindL;rw[sV λ v hv=>(lS.mp nd).1 (oP hv).1,if_pos hk];simp
 |p::P,w::vs,i+1,m,nd,h1,h2,hk=>by
  show bindL kindOf ((p,w)::P.zip vs) m x=_;unfold bindL;exact sX (i:=i) (lS.mp nd).2 (by simpa using h1) (by simpa using h2) hk
theorem sY{kindOf:Str->Option NameKind}:∀ {P:List Str}{vs:LV}{i:Nat}{m:SV},P.Nodup->P[i]?=some x->vs[i]?=some v->kindOf x≠some .local ->
  bindC kindOf (P.zip vs) m x=some v
 |[],_,_,_,_,h,_,_=>by simp at h
 |_::_,[],_,_,_,_,h,_=>by simp at h
 |p::P,w::vs,0,m,nd,h1,h2,hk=>by
  simp at h1 h2;subst h1;subst h2;show bindC kindOf ((p,w)::P.zip vs) m p=_;unfold bindC;rw[sW λ v hv=>(lS.mp nd).1 (oP hv).1,if_neg hk];simp
 |p::P,w::vs,i+1,m,nd,h1,h2,hk=>by
  show bindC kindOf ((p,w)::P.zip vs) m x=_;unfold bindC;exact sY (i:=i) (lS.mp nd).2 (by simpa using h1) (by simpa using h2) hk
noncomputable def dY(N:List Str)(vs:List V):St:=vs.map some++List.replicate (N.length-vs.length) none
noncomputable def iu(CX:CXT)(P:Program)(w:World)(K:FG)(mg:SV)(base:Heap)(N:List Str)(qual:Str)(scope:Scope)(f:Addr)(cd:Value)(A:Around)(outer:List Env)(s:Shared)(H:Hp)(E:XK):Cx where
 prog:=P
 w:=w
 K:=K
 mg:=mg
 base:=base
 A:=A.deeper (envOfC qual scope s.heap.objs.size f cd)
 N:=N
 s₀:=s
 H₀:=H
 env:=envOfC qual scope s.heap.objs.size f cd
 outer:=outer
 stack:=envOfC qual scope s.heap.objs.size f cd::outer
 ex:=[]
 calm:=true
 fn:=λ _=>true
 pn:=[]
 xe:=λ e s'=>wpAny (model P w) (A.deeper (envOfC qual scope s.heap.objs.size f cd)) (leaving (envOfC qual scope s.heap.objs.size f cd) e) (λ _ s''=>CX outer H s E e s'') (λ e' s''=>CX outer H s E e' s'') s'
def sZ{sc:Scope}(h:sc.names.lookup x=some .cell):∃c,(cellsFrom n sc.names []).lookup x=some c:=by
 have q:=W.cellsFrom_some sc.names n [] (.inl h);exact Option.isSome_iff_exists.mp q
theorem Ax{K:FG}{A:Around}{s s1:Shared}{vs:List V}
  (S:FnScope N ps scope) (hd:A.handled=none) (e0:Env0 P w K mg base A outer s H) (hl:vs.length=ps.length) (r:Vals vs us)
  (x:InCallC s s.heap.objs.size (bindL (envOfC qual scope s.heap.objs.size f cd).kindOf (ps.zip us) λ _=>none) (cellsFrom (s.heap.objs.size+1) scope.names []) (bindC (envOfC qual scope s.heap.objs.size f cd).kindOf (ps.zip us) λ _=>none) s1) :
  Inv (iu CX P w K mg base N qual scope f cd A outer s H E) [] (dY N vs) H s1:=by
 have hpl:ps.length<=N.length:=by have:=bK List.length S.pre;rw[be] at this;lia
 obtain⟨h1,tk,rfl,hk⟩:=x.done;have noA:∀b:Addr,b ∉ (iu CX P w K mg base N qual scope f cd A outer s H E).ex:=λ b z=>absurd (show b∈([]:List Addr) from z) pv
 refine⟨⟨e0.mod,S.kind,O,O,ar _,λ y z c h1 h2=>?_,λ y hy=>?_,λ y c _ h=>?_,λ _=>hd,Around.frames_deeper e0.frames,.inr ⟨O,O⟩,λ b z=>absurd z (noA b),e0.bs,e0.bsz,λ b _ _=>noA b,λ b z=>absurd z (noA b),e0.funs,e0.frf⟩,
  rfl,e0.bare,Un.kept hk,⟨_,x.toInCall.ns,λ i y v h1 h2 h3=>?_⟩,λ y c h=>⟨_,x.cell y c h⟩,e0.hok.fresh (ar _),λ y c h=>?_,λ p hp=>absurd (show p∈([]:LO) from hp) pv,e0.hok.kept hk,?_⟩
 ·exact name_of_addr x.apart (kt h1) (kt h2)
 ·have hy:scope.names.lookup y=some .cell\/scope.names.lookup y=some .free:=hy
  rcases hy with hy|hy
  ·exact sZ hy
  ·exact absurd rfl (S.nofree _ (kt hy))
 ·exact cj (x.above y c (kt h))
 ·have hi:i<vs.length:=by
   unfold dY at h2;by_cases hi:i<vs.length
   ·exact hi
   ·rw[cP (by simpa using hi)] at h2;rw[jk] at h2;split at h2<;>cases h2
  have ha:vs[i]?=some v:=by
   unfold dY at h2;rw[cY (by simpa using hi),aX] at h2
   cases e:vs[i]? with
   |none=>rw[e] at h2;cases h2
   |some a=>rw[e] at h2;cases h2;rfl
  obtain⟨u,hu,rv⟩:=r.get ha
  have hp:ps[i]?=some y:=by
   rw[<- S.pre,oQ fu];exact h1
  have ndP:ps.Nodup:=by rw[<- S.pre];exact S.nd.sublist (List.take_sublist _ _)
  refine⟨u,rv,?_⟩
  rcases S.par y (bg hp) with k|k
  ·exact .inl ⟨k,sX ndP hp hu k⟩
  ·obtain⟨c,e⟩:=sZ (n:=s.heap.objs.size+1) k;refine .inr ⟨.inl k,c,e,?_⟩;have q:=x.cell y c e;rw[sY ndP hp hu (by show scope.names.lookup y≠_;rw[k];decide)] at q;exact q
 ·exact e0.hok.fresh (cj (x.above y c (kt h)))
 ·unfold dY;show _=N.length;rw[aQ,ah,iw];lia
theorem Ay{K:FG}{dV kV doc pm cdv ct oc:Value}{an od:OA}
  {osl:AV}{sp:Sp}(lk:K.lookup f=some ⟨oc,od,.func (W.fnOf name qual params body scope dV kV doc pm an cdv ct),osl⟩) (hcd:W.codeIn K cdv qual=true) (S:FnScope N ps scope)
  (len:∀vs H Q E,sp vs H Q E->vs.length=ps.length)
  (hbody:∀(A:Around) (outer:List Env) (s:Shared) (H:Hp) (vs:List V) (Q:VK) (E:XK),Room k (A.deeper (envOfC qual scope s.heap.objs.size f cdv))->sp vs H Q E ->
   ∃t,PSs (iu CX P w K mg base N qual scope f cdv A outer s H E) body t/\t { nx:=λ _ H'=>Q .non H',rt:=Q } (dY N vs) H) :
  FnOk P w K mg base CX (k+1) f (W.fnOf name qual params body scope dV kV doc pm an cdv ct) ps sp:=by
 refine⟨len,λ A outer s H args us vs Q E hr e0 hb r hsp=>?_⟩;have hl:=len _ _ _ _ hsp;have KX:K.In s.heap:=e0.mod.kin.keeps λ b o e=>(e0.bs b o e).1;have lim:s.heap.NoLimit:=e0.mod.nolimit.keeps λ b o e=>(e0.bs b o e).1
 have hkind:∀y∈ps.zip us,scope.names.lookup y.1=some .local\/(scope.names.lookup y.1=some .cell/\((cellsFrom (s.heap.objs.size+1) scope.names []).lookup y.1).isSome=true):=λ⟨n,v⟩ hy=>by
  rcases S.par n (oP hy).1 with q|q
  ·exact .inl q
  ·exact .inr ⟨q,W.cellsFrom_some _ _ _ (.inl q)⟩
 refine codeAny_call_function hr.depth (KX _ _ lk) rfl S.co S.gen rfl (W.codeRec_of KX hcd) (hb _ _ _ _ ?_);refine wpAny_newFunctionEnv_cells S.kind hkind λ env he s1 x=>?_;subst he;refine⟨lim.keeps x.toInCall.keep,codeAny_func ?_⟩;obtain⟨t,ht,hq⟩:=hbody A outer s H vs Q E (hr.deeper _) hsp;have I:Inv (iu CX P w K mg base N qual scope f cdv A outer s H E) [] (dY N vs) H s1:=Ax S hr.hd e0 hl r x;refine cy (ht [] s1 (dY N vs) H _ I hq) (λ fl s' hs=>?_) λ e s' hs=>hs
 have fin:∀ {σ':St}{H':Hp}{v:V}{u:Value},Inv (iu CX P w K mg base N qual scope f cdv A outer s H E) [] σ' H' s'->RelV v u->Q v H'->CE outer P w H s Q u s' :=
  λ {σ' H' v u} J rv q=>⟨v,H',J.os,J.bare,J.base,J.hok,rv,q⟩
 cases fl with
 |ret u=>
  obtain⟨v,σ',H',J,rv,q⟩:=hs;exact fin J rv q
 |next=>
  obtain⟨σ',H',J,q⟩:=hs;exact fin (v:=V.non) (u:=Value.none) J rfl q
 |brk=>
  obtain⟨_,_,_,q⟩:=hs;exact False.elim q
 |cont=>
  obtain⟨_,_,_,q⟩:=hs;exact False.elim q
section
variable {x:Str}{p pos:Pos}{e:Expr}{es:List Expr}{t:TA}{id T:String}{r:List V->Hp->VK->Prop}
noncomputable def tCB(r:List V->Hp->VK->Prop)(t:TA):TE:=λ σ H Q=>t σ H λ vs H1=>r vs H1 Q
theorem oR(hc:bo X (.builtin id) r)(hg:Gl X x)(hm:X.mg x=none)(hv:bootBuiltins x=some (.builtin id))(ha:PA X (e::es) t)(hn:x ≠ "__name__" := by decide)(hdb:(x == ("__debug__" : Str))=false:=by decide)
  (he:starEach (e::es) X.env=(false,eval e X.env)::starEach es X.env:=by rfl) (hpl:(backTo pos (starEach es X.env)).any (·.1)=false:=by rfl):PE X (.Call (.Name x p) (e::es) [] pos) (tCB r t):=by
 intro pins s σ H Q I h;refine lQ (dA I hg hm hv ?_ hn hdb);exact PyProof.Rows.callWith_builtin1 (thn (ha pos pins s σ H _ I h) λ us s1 ⟨vs,H1,I1,r1,q1⟩=>hc pins s1 σ H1 vs us Q I1 r1 q1) he hpl
theorem jo(hc:bo X (.type T) r)(hg:Gl X x)(hm:X.mg x=none)(hv:bootBuiltins x=some (.type T))(ha:PA X (e::es) t)(hn:x ≠ "__name__" := by decide)(hdb:(x == ("__debug__" : Str))=false:=by decide)
  (he:starEach (e::es) X.env=(false,eval e X.env)::starEach es X.env:=by rfl) (hpl:(backTo pos (starEach es X.env)).any (·.1)=false:=by rfl):PE X (.Call (.Name x p) (e::es) [] pos) (tCB r t):=by
 intro pins s σ H Q I h;refine lQ (dA I hg hm hv ?_ hn hdb);exact fD (thn (ha pos pins s σ H _ I h) λ us s1 ⟨vs,H1,I1,r1,q1⟩=>hc pins s1 σ H1 vs us Q I1 r1 q1) he hpl
end
end _L
namespace _H
open PySem PyProof.Rows
section
open PySem.SeqAt
open PySem.AutoSeq1 (wpAny_loadPart')
open PySem.MeetsSeq PySem.MeetsSeq2 PySem.MeetsSeq3
end
section
variable {prog:Program}{w:World}{A:Around}{E:VS}{s:Shared}
theorem cat_tup{vs ws:LV}{Q:VS}(ht:IsTup s.heap t vs.toArray)(hb:IsTup s.heap b ws.toArray)(hv:vs≠[])
  (h1:ws=[]->Q (.ref t) s) (h2:ws≠[]->Q (.ref s.heap.objs.size) { s with heap:=s.heap.push { cls:=.type "tuple",data:=.seq (vs++ws).toArray } })
  (hsz:vs.length+ws.length<=sizeLine):wpAny (model prog w) A (binaryOp .Add (.ref t) (.ref b)) Q E s:=by
 obtain⟨⟨cls,dd,data,sl⟩,ho,hc,n,hd⟩:=id ht;obtain⟨⟨cls2,dd2,data2,sl2⟩,ho2,hc2,n2,hd2⟩:=id hb;simp only at hc hd hc2 hd2;subst hc hd hc2 hd2;have e:vs.toArray++ws.toArray=(vs++ws).toArray:=pv;by_cases hw:ws=[]
 ·exact lU ⟨_,ho,O⟩ ⟨_,ho2,O⟩ oS s1d oU oV (oW _ _)
   (tuple_addW1 t b vs.toArray ws.toArray n n2 dd dd2 sl sl2 (by simpa using hv) (by simp[hw])) ⟨ho,ho2,h1 hw⟩
 ·refine lU ⟨_,ho,O⟩ ⟨_,ho2,O⟩ oS s1d oU oV (oW _ _)
   (tuple_addW2 t b vs.toArray ws.toArray n n2 dd dd2 sl sl2 (by simpa using hv) (by simpa using hw) (by rw[aO,aO];exact hsz)) ⟨ho,ho2,?_⟩
  rw[e];exact h2 hw
noncomputable def sIx(n d:Nat):Option Int->Nat
 |none=>d
 |some v=>if v<0 then (v+(n:Int)).toNat else min v.toNat n
def Az(n d:Nat)(hd:d<=n)(o:Option Int):sIx n d o<=n:=by
 cases o with
 |none=>exact hd
 |some v=>
  show(if v<0 then (v+(n:Int)).toNat else min v.toNat n)<=n;by_cases hv:v<0
  ·rw[if_pos hv];lia
  ·rw[if_neg hv];exact Nat.min_le_right _ _
def tj(v:Int)(n d:Nat):(if v<0 then max (v+(n:Int)) 0 else min v (n:Int))=((sIx n d (some v):Nat):Int):=by
 show(if v<0 then max (v+(n:Int)) 0 else min v (n:Int))=(((if v<0 then (v+(n:Int)).toNat else min v.toNat n):Nat):Int);by_cases hv:v<0
 ·simp only[if_pos hv];lia
 ·simp only[if_neg hv];lia
def AA(lo hi:Option Int)(n:Nat):Builtin.Slice.sliceAdjust lo hi 1 (n:Int)=(((sIx n 0 lo:Nat):Int),((sIx n n hi:Nat):Int)):=by
 have h1:¬((1:Int)<0):=fu;unfold Builtin.Slice.sliceAdjust;simp only[h1,s1e];refine Prod.ext ?_ ?_
 ·cases lo with
  |none=>rfl
  |some v=>exact tj v n 0
 ·cases hi with
  |none=>rfl
  |some v=>exact tj v n n
def AB(i j:Nat):Builtin.Slice.slicePlaces (i:Int) (j:Int) 1=j-i:=by
 unfold Builtin.Slice.slicePlaces;have h1:(1:Int) > 0:=fu;simp only[h1,dZ,Int.ediv_one];split<;>lia
def tm{Q:Option Int->Shared->Prop}(p:IsPart v o)(h:Q o s):wpAny (model prog w) A (Builtin.Slice.slicePartIndex v) Q E s:=by
 cases p with
 |none=>exact slicePart_none h
 |int i t=>exact slicePart_int h
theorem tq{lo hi:Option Int}{Q:Int×Int×Nat->Shared->Prop}(hs:s.heap.IsSliceOf sl vl vu .none)(pl:IsPart vl lo)(pu:IsPart vu hi)
  (h:Q (((sIx n 0 lo:Nat):Int),1,sIx n n hi-sIx n 0 lo) s):wpAny (model prog w) A (Builtin.Slice.sliceApplied (.ref sl) (pure (n:Int))) Q E s:=by
 obtain⟨os,hos,hcs,hds⟩:=id hs;unfold Builtin.Slice.sliceApplied Builtin.Slice.sliceFields;refine af (af (cn hos hds (x:=vl) rfl (af (cn hos hds (x:=vu) rfl (af (cn hos hds (x:=.none) rfl (ag ?_)))))));refine af (slicePart_none ?_);show wpAny _ _ (if ((1:Int) == 0)=true then _ else _) _ _ s;rw[if_neg on];refine af (tm pl (af (tm pu (af (ag ?_)))));show wpAny _ _ (match Builtin.Slice.sliceAdjust lo hi 1 (n:Int) with|(lo,hi)=>pure (lo,(1:Int),Builtin.Slice.slicePlaces lo hi 1)) _ _ s;rw[AA lo hi n];show wpAny _ _ (pure (((sIx n 0 lo:Nat):Int),(1:Int),Builtin.Slice.slicePlaces ((sIx n 0 lo:Nat):Int) ((sIx n n hi:Nat):Int) 1)) _ _ s;rw[AB];exact ag h
def AC(xs:Array Value)(i k:Nat):((List.range k).filterMap λ(m:Nat)=>xs[((i:Int)+(m:Int)*1).toNat]?).toArray=((xs.toList.drop i).take k).toArray:=by
 have e:(λ(m:Nat)=>xs[((i:Int)+(m:Int)*1).toNat]?)=λ m=>xs[i+m]?:=by
  funext m;have:((i:Int)+(m:Int)*1).toNat=i+m:=fu;rw[this]
 rw[e];have:=pick_run xs i k;rw[List.filterMap_map] at this;have e2:((λ x=>xs[x]?) ∘ λ x=>i+x)=λ m=>xs[i+m]?:=rfl;rw[e2] at this;rw[this]
theorem getItem_tuple_cut{lo hi:Option Int}{Q:VS}(ht:IsTup s.heap t items)(hs:s.heap.IsSliceOf sl vl vu .none)(pl:IsPart vl lo)(pu:IsPart vu hi)
  (hw:¬(sIx items.size 0 lo=0/\sIx items.size items.size hi=items.size))
  (h:Q (.ref s.heap.objs.size) { s with heap:=s.heap.push { cls:=.type "tuple",data:=.seq ((items.toList.drop (sIx items.size 0 lo)).take (sIx items.size items.size hi-sIx items.size 0 lo)).toArray } })
  (hsz:items.size<=sizeLine):wpAny (model prog w) A (getItem (.ref t) (.ref sl)) Q E s:=by
 have htake:sizeOk (.seq ((items.toList.drop (sIx items.size 0 lo)).take (sIx items.size items.size hi-sIx items.size 0 lo)).toArray):=by
  show((items.toList.drop (sIx items.size 0 lo)).take (sIx items.size items.size hi-sIx items.size 0 lo)).toArray.size<=sizeLine;rw[aO,be,eh,Array.length_toList];omega
 have hj:sIx items.size items.size hi<=items.size:=Az _ _ (ar _) hi;obtain⟨os,hos,hcs,hds⟩:=id hs;have hTs:s.TypeIs (.ref sl) "slice" := ⟨os,hos,hcs⟩;unfold getItem;try with_reducible refine bU ?_
 first|refine af (ag ?_)|skip
 refine af (wpAny_sequenceKey ht.typeIs on ?_)
 refine af (fY (name:=Str.ofString "__getitem__") ht.typeIs lV
  (cZ lV ht.typeIs s0r ?_ (s1f _ _)))
 show wpAny _ _ (Builtin.Tuple.tupleItemsOf (.ref t) >>= _) _ _ s;refine af (tupleItemsOf_ ht ?_);refine af (eo hTs ?_);rw[if_pos on];refine af (tq hs pl pu ?_)
 have hno:¬((((sIx items.size 0 lo:Nat):Int) == 0&&(1:Int) == 1&&(sIx items.size items.size hi-sIx items.size 0 lo) == items.size)=true):=by
  intro q;rw[bu,bu] at q;have q1:((sIx items.size 0 lo:Nat):Int)=0:=eq_of_beq q.1.1;have q2:sIx items.size items.size hi-sIx items.size 0 lo=items.size:=eq_of_beq q.2;exact hw ⟨by omega,by omega⟩
 show wpAny _ _ (if (((sIx items.size 0 lo:Nat):Int) == 0&&(1:Int) == 1&&(sIx items.size items.size hi-sIx items.size 0 lo) == items.size)=true then _ else _) _ _ s;rw[if_neg hno,AC]
 first
  |exact af (m:=Builtin.Tuple.tupleExact _) (bF (ag ⟨_,rfl,ag h⟩) htake)
  |exact af (m:=Builtin.Tuple.tupleExact _) (bF (af (ag (ag ⟨_,rfl,ag h⟩))) htake)
  |exact af (af (m:=Builtin.Tuple.tupleExact _) (bF (ag (ag ⟨_,rfl,ag h⟩)) htake))
  |exact af (af (m:=Builtin.Tuple.tupleExact _) (bF (ag ⟨_,rfl,ag h⟩) htake))
end
end _H
namespace _L
open PySem PySem.Spec PyProof.Rows
abbrev TO:=St->Hp->(Option Int->Hp->Prop)->Prop
noncomputable def PO(X:Cx)(e:Option Expr)(t:TO):Prop :=
 ∀(pins:LO) (s:Shared) (σ:St) (H:Hp) (Q:Option Int->Hp->Prop),Inv X pins σ H s->t σ H Q ->
  wpAny (model X.prog X.w) X.A (evalPart e X.env) (λ u s'=>∃o H',Inv X pins σ H' s'/\IsPart u o/\Q o H') X.xe s
def AD:TO:=λ _ H Q=>Q none H
def jp{ns:LI}:∀ {us:LV},Vals (ns.map V.int) us->IntsAre us ns:=by
 induction ns with
 |nil=>intro us r;rw[kw] at r;cases r;exact .nil
 |cons n ns ih=>
  intro us r;rw[cz] at r
  cases r with
  |cons r1 r2=>
   obtain⟨t,e⟩:=r1;subst e;exact .cons n t (ih r2)
variable {X:Cx}
section
variable {e:Expr}{te:TE}{lo hi:Option Expr}{tl th:TO}{pos p2:Pos}
def AE:PO X none AD:=by
 intro pins s σ H Q I h;rw[evalPart_none];exact ag ⟨none,H,I,.none,h⟩
noncomputable def SlR(X:Cx)(r:V->Option Int->Option Int->Hp->VK->Prop):Prop :=
 ∀(pins:LO) (s:Shared) (σ:St) (H:Hp) (x:V) (v vl vu:Value) (lo hi:Option Int) (sl:Addr) (Q:VK),Inv X pins σ H s->RelV x v->s.heap.IsSliceOf sl vl vu .none->IsPart vl lo->IsPart vu hi->r x lo hi H Q ->
  ∃T id,typeLookup (.type T) "__getitem__"=pure (some (.builtin id))/\s.TypeIs v T/\wpAny (model X.prog X.w) X.A (getItem v (.ref sl)) (EP X pins σ Q) X.xe s
noncomputable def tSl(r:V->Option Int->Option Int->Hp->VK->Prop)(te:TE)(tl th:TO):TE:=λ σ H Q=>te σ H λ x H1=>tl σ H1 λ l H2=>th σ H2 λ u H3=>r x l u H3 Q
def AF(hr:SlR X r)(he:PE X e te)(hl:PO X lo tl)(hu:PO X hi th):PE X (.Subscript e (.Slice lo hi none p2) pos) (tSl r te tl th):=by
 intro pins s σ H Q I h;refine Subscript_ (thn (he pins s σ H _ I h) λ v s1 ⟨x,H1,I1,r1,q1⟩=>?_);refine wpAny_Slice (thn (hl pins s1 σ H1 _ I1 q1) λ vl s2 ⟨l,H2,I2,pl,q2⟩=>thn (hu pins s2 σ H2 _ I2 q2) λ vu s3 ⟨u,H3,I3,pu,q3⟩=>?_);rw[evalPart_none];refine ag ?_;have I4:Inv X pins σ H3 { s3 with heap:=s3.heap.push { cls:=.type "slice",data:=.fields #[vl,vu,.none] } }:=I3.kept (t':=s3.toks) λ b ob q=>aA _ q;obtain⟨T,id,hT,ht,hg⟩:=hr pins { s3 with heap:=s3.heap.push { cls:=.type "slice",data:=.fields #[vl,vu,.none] } } σ H3 x v vl vu l u s3.heap.objs.size Q I4 r1 (Heap.IsSliceOf.new ..) pl pu q3;show wpAny (model X.prog X.w) X.A (subscriptTail e (.Slice lo hi none p2) v (.ref s3.heap.objs.size)) (EP X pins σ Q) X.xe { s3 with heap:=s3.heap.push { cls:=.type "slice",data:=.fields #[vl,vu,.none] } };exact tail_any (ops:=[.ref s3.heap.objs.size,v]) ht hT hg (by with_unfolding_all rfl)
noncomputable def fZ(xs:List V)(lo hi:Option Int):List V:=(xs.drop (_H.sIx xs.length 0 lo)).take (_H.sIx xs.length xs.length hi-_H.sIx xs.length 0 lo)
def tu(xs:List V)(lo hi:Option Int):(fZ xs lo hi).length<=xs.length:=by
 unfold fZ;rw[be,eh];lia
noncomputable def AG(K:FG):V->Option Int->Option Int->Hp->VK->Prop:=λ x lo hi H Q=>∃a xs,x=.ref a/\SqT K H a xs /\
 ¬(_H.sIx xs.length 0 lo=0/\_H.sIx xs.length xs.length hi=xs.length)/\∀p,H p=none->Q (.ref p) (upd H p (.tup (fZ xs lo hi)))
def AH:SlR X (AG X.K):=by
 intro pins s σ H x v vl vu lo hi sl Q I rx hs pl pu h;obtain⟨a,xs,rfl,hx,hw,q⟩:=h;cases rx;obtain⟨its,r,ht,hz⟩:=I.tuple hx;have hlen:its.toArray.size=xs.length:=by rw[aO];exact r.length.symm
 refine⟨"tuple",_,PyProof.Rows.slot_tuple_getitem.lookup,ht.typeIs,?_⟩;refine _H.getItem_tuple_cut ht hs pl pu (by rw[hlen];exact hw) ?_ (by rw[hlen];exact hz);rw[hlen];refine⟨.ref s.heap.objs.size,_,I.laid (t':=s.toks) (o:=.tup (fZ xs lo hi)) (λ b ob q=>aA _ q) (ar _) ?_,O,q _ (I.hok.fresh (ar _))⟩;exact⟨bB (tu xs lo hi) hz,_,(r.drop (_H.sIx xs.length 0 lo)).take (_H.sIx xs.length xs.length hi-_H.sIx xs.length 0 lo),TupO.new _ _⟩
noncomputable def AI(K:FG):R2:=λ x y H Q=>∃a b xs ys,x=.ref a/\y=.ref b/\SqT K H a xs/\SqT K H b ys/\xs≠[]/\xs.length+ys.length<=sizeLine /\
 (ys=[]->Q (.ref a) H)/\(ys≠[]->∀p,H p=none->Q (.ref p) (upd H p (.tup (xs++ys))))
def Vals.nil_iff(r:Vals xs us):us=[] ↔ xs=[]:=by
 cases r with
 |nil=>simp
 |cons _ _=>simp
def AJ:OpR X (binaryOp .Add) (AI X.K):=by
 intro pins s σ H x y v u Q I rx ry h;obtain⟨a,b,xs,ys,rfl,rfl,ha,hb,hx,hz,q1,q2⟩:=h;cases rx;cases ry;obtain⟨its,r1,p1,_⟩:=I.tuple ha;obtain⟨its2,r2,p2,_⟩:=I.tuple hb;refine _H.cat_tup p1 p2 (λ z=>hx (r1.nil_iff.mp z)) (λ z=>⟨.ref a,H,I,O,q1 (r2.nil_iff.mp z)⟩) (λ z=>?_) (by rw[<- r1.length,<- r2.length];exact hz);refine⟨.ref s.heap.objs.size,_,I.laid (t':=s.toks) (o:=.tup (xs++ys)) (λ b ob q=>aA _ q) (ar _) ?_,O,q2 (λ w=>z (r2.nil_iff.mpr w)) _ (I.hok.fresh (ar _))⟩;exact⟨by rw[aQ];exact hz,_,r1.append r2,TupO.new _ _⟩
end
noncomputable def ixN(n:Nat)(i:Int):Option Nat:=if 0<=i then (if i<n then some i.toNat else none) else if -(n:Int)<=i then some (i+n).toNat else none
noncomputable def atI{α:Type}(xs:List α)(i:Int):Option α:=(ixN xs.length i).bind λ j=>xs[j]?
def tw(h:ixN n i=some j):seqIndex? i n=some j/\j<n/\-(n:Int)<=i/\i<n:=by
 unfold ixN at h;by_cases h0:0<=i
 ·rw[if_pos h0] at h;by_cases h1:i<n
  ·rw[if_pos h1] at h;have e:i.toNat=j:=bS h;exact⟨by rw[s1s h0 h1,e],fu,fu,h1⟩
  ·rw[if_neg h1] at h;cases h
 ·rw[if_neg h0] at h;by_cases h1:-(n:Int)<=i
  ·rw[if_pos h1] at h;have e:(i+n).toNat=j:=bS h;exact⟨by rw[s1o fu h1,e],fu,h1,fu⟩
  ·rw[if_neg h1] at h;cases h
def oX{α:Type}{xs:List α}{v:α}(h:atI xs i=some v):∃j,seqIndex? i xs.length=some j/\xs[j]?=some v/\j<xs.length/\-(xs.length:Int)<=i/\i<xs.length:=by
 unfold atI at h
 cases e:ixN xs.length i with
 |none=>rw[e] at h;cases h
 |some j=>
  rw[e] at h;obtain⟨h1,h2,h3,h4⟩:=tw e;exact⟨j,h1,h,h2,h3,h4⟩
def bv{α:Type}{xs:List α}{j:Nat}{v:α}(h:xs[j]?=some v):atI xs (j:Int)=some v:=by
 have hj:j<xs.length:=(bc.mp h).1
 have e:ixN xs.length (j:Int)=some j:=by
  unfold ixN;rw[if_pos fu,if_pos fu];simp
 unfold atI;rw[e];exact h
noncomputable def tz(b:Expr):Prop:=∀o i,subscripted b false o i=operate [o,i] (getItem o i)
noncomputable def IxR(X:Cx)(r:R2):Prop :=
 ∀(value slice:Expr) (pins:LO) (s:Shared) (σ:St) (H:Hp) (x y:V) (v u:Value) (Q:VK),Inv X pins σ H s->RelV x v->RelV y u->r x y H Q ->
  subscripted slice false v u=operate [v,u] (getItem v u)->wpAny (model X.prog X.w) X.A (subscriptTail value slice v u) (EP X pins σ Q) X.xe s
noncomputable def MtR(X:Cx)(id:String)(r:V->List V->Hp->VK->Prop):Prop :=
 ∀(pins:LO) (s:Shared) (σ:St) (H:Hp) (x:V) (xs:List V) (v:Value) (us:LV) (Q:VK),Inv X pins σ H s->RelV x v->Vals xs us->r x xs H Q ->
  wpAny (model X.prog X.w) X.A (call (.builtin id) (v::us)) (EP X pins σ Q) X.xe s
section
variable {a b:Expr}{ta tb:TE}{pos:Pos}
def IxR.or(h:IxR X r)(h':IxR X r'):IxR X (λ x y H Q=>r x y H Q\/r' x y H Q):=by
 intro value slice pins s σ H x y v u Q I rx ry q hs
 rcases q with q|q
 ·exact h value slice pins s σ H x y v u Q I rx ry q hs
 ·exact h' value slice pins s σ H x y v u Q I rx ry q hs
def AK(hr:IxR X r)(ha:PE X a ta)(hb:PE X b tb)(hs:tz b):PE X (.Subscript a b pos) (tOp r ta tb):=by
 intro pins s σ H Q I h;exact Subscript_ (oM ha hb I h λ v u s2 x y H2 I2 rx ry q=>hr a b pins s2 σ H2 x y v u Q I2 rx ry q (hs _ _))
noncomputable def tD(K:FG):R2:=λ x y H Q=>∃p xs i v,x=.ref p/\y=.int i/\SqL K H p xs/\atI xs i=some v/\Q v H
noncomputable def tE(K:FG):R2:=λ x y H Q=>∃p xs i v,x=.ref p/\y=.int i/\SqT K H p xs/\atI xs i=some v/\Q v H
noncomputable def tF:R2:=λ x y H Q=>∃z i c,x=.str z/\y=.int i/\z.length<=sizeLine/\atI z.cps.toList i=some c/\Q (.str ⟨#[c]⟩) H
def ix_list:IxR X (tD X.K):=by
 intro value slice pins s σ H x y v u Q I rx ry h hs;obtain⟨p,xs,i,z,rfl,rfl,hq,he,q⟩:=h;cases rx;obtain⟨t,rfl⟩:=ry;obtain⟨its,r,pl,hz⟩:=I.list hq;obtain⟨j,h1,h2,h3,h4,h5⟩:=oX he;obtain⟨w,ew,rw'⟩:=r.get h2;have hl:=r.length;have hn:=jg;have fin:EP X pins σ Q w s:=⟨z,H,I,rw',q⟩;by_cases h0:0<=i
 ·have hj:i.toNat=j:=by
   rw[s1s h0 h5] at h1;exact bS h1
  exact item_listR pl.isList h0 fu (by rw[hj];simpa using ew) fin hs
 ·have hj:(i+(its.toArray.size:Int)).toNat=j:=by
   rw[s1o fu h4] at h1;rw[aO,<- hl];exact bS h1
  exact tG (x:=w) pl.isList.typeIs slot_list_getitem.lookup
   (wpAny_getItem_list_neg (Q:=λ r s'=>r=w/\EP X pins σ Q r s') pl.isList fu (by rw[aO]<;>lia) fu (by rw[hj];simpa using ew) ⟨rfl,fin⟩) hs
def ix_tup:IxR X (tE X.K):=by
 intro value slice pins s σ H x y v u Q I rx ry h hs;obtain⟨p,xs,i,z,rfl,rfl,hq,he,q⟩:=h;cases rx;obtain⟨t,rfl⟩:=ry;obtain⟨its,r,pl,hz⟩:=I.tuple hq;obtain⟨j,h1,h2,h3,h4,h5⟩:=oX he;obtain⟨w,ew,rw'⟩:=r.get h2;have hl:=r.length;have hn:=jg;have fin:EP X pins σ Q w s:=⟨z,H,I,rw',q⟩
 exact tG (x:=w) pl.typeIs slot_tuple_getitem.lookup
  (getItem_tuple (j:=j) (Q:=λ r s'=>r=w/\EP X pins σ Q r s') pl fu fu (by rw[aO,<- hl];exact h1) (by simpa using ew) ⟨rfl,fin⟩) hs
def AL:IxR X tF:=by
 intro value slice pins s σ H x y v u Q I rx ry h hs;obtain⟨z,i,c,rfl,rfl,hz,he,q⟩:=h;obtain⟨t,rfl⟩:=rx;obtain⟨t',rfl⟩:=ry;obtain⟨j,h1,h2,h3,h4,h5⟩:=oX he;have hl:z.cps.toList.length=z.length:=by simp[Str.length]
 rw[hl] at h1 h4 h5;have hn:=jg
 exact tail_any (typeIs_str s z t) slot_str_getitem.lookup (getItem_str (c:=c) (by
  have e1:decide (i < -(2 ^ 63:Int))=false:=aP fu;have e2:decide (i ≥ 2 ^ 63)=false:=aP fu
  rw[e1,e2,Bool.or_false]) (by rw[h1];simpa using h2) ⟨.str ⟨#[c]⟩,H,I.tok _,⟨_,rfl⟩,q⟩) hs
noncomputable def rIx(K:FG):R2:=λ x y H Q=>tD K x y H Q\/tE K x y H Q\/tF x y H Q
def oY:IxR X (rIx X.K):=ix_list.or (ix_tup.or AL)
def AM(its:LV)(n j:Nat)(u:Value):Obj.mapSeq (·.setIfInBounds j u) { cls:=.type "list",data:=.seq its.toArray n }={ cls:=.type "list",data:=.seq (its.set j u).toArray n }:=by
 simp[Obj.mapSeq]
theorem Inv.lst(I:Inv X pins σ H s)(h:H p=some (.lst xs)) :
  ∃(its:LV) (n:Nat),Vals xs its/\s.heap.get? p=some { cls:=.type "list",data:=.seq its.toArray n }/\xs.length<=sizeLine:=by
 obtain⟨z,its,n,r,e⟩:=I.hok p _ h;exact⟨its,n,r,e,z⟩
theorem Inv.lstUpd{its its':LV}{f:Obj->Obj}(I:Inv X pins σ H s)(h:H p=some (.lst xs))
  (ho:s.heap.get? p=some { cls:=.type "list",data:=.seq its.toArray n }) (hf:f { cls:=.type "list",data:=.seq its.toArray n }={ cls:=.type "list",data:=.seq its'.toArray n' }) (r:Vals ys its') (hz:ys.length<=sizeLine) (t:Nat) :
  Inv X pins σ (upd H p (.lst ys)) { s with heap:=s.heap.update p f,toks:=t }:=by
 have e:(s.heap.update p f).get? p=some { cls:=.type "list",data:=.seq its'.toArray n' }:=by
  rw[eE f ho (by rw[hf]<;>rfl),hf]
 refine I.write (x:=p) (e:=p) (by rw[h];trivial) (.inl rfl) (λ b u hb q=>(dB _ _ (bx hb)).trans q) ⟨_,e⟩ ?_;exact⟨hz,its',n',r,e⟩
noncomputable def AN:V->V->V->Hp->(Hp->Prop)->Prop:=λ o i v H Q=>∃p xs k j,o=.ref p/\i=.int k/\H p=some (.lst xs)/\ixN xs.length k=some j/\Q (upd H p (.lst (xs.set j v)))
def AO:sr X AN:=by
 intro pins s σ H o i v ov iv u Q I ro ri rv h;obtain⟨p,xs,k,j,rfl,rfl,hp,hj,q⟩:=h;cases ro;obtain⟨t,rfl⟩:=ri;obtain⟨its,n,r,ho,hz⟩:=I.lst hp;obtain⟨h1,h2,h3,h4⟩:=tw hj;have hl:=r.length;have hn:=jg
 have I':Inv X pins σ (upd H p (.lst (xs.set j v))) { s with heap:=s.heap.update p (Obj.mapSeq (·.setIfInBounds j u)) } :=
  I.lstUpd hp ho (AM its n j u) (r.set rv j) (by rw[eF];exact hz) s.toks
 by_cases h0:0<=k
 ·have hk:k.toNat=j:=by
   rw[s1s h0 h4] at h1;exact bS h1
  exact W.ki_setAt ho h0 fu (by rw[aO,<- hl];exact h4) (by rw[hk];exact⟨_,I',q⟩)
 ·have hk:(k+(its.toArray.size:Int)).toNat=j:=by
   rw[s1o fu h3] at h1;rw[aO,<- hl];exact bS h1
  exact W.ki_setBack ho fu (by rw[aO,<- hl];exact h3) fu (by rw[hk];exact⟨_,I',q⟩)
def AQ(lo hi:Option Int)(n:Nat):(sliceBounds lo hi none n).1=((_H.sIx n 0 lo:Nat):Int)/\(sliceBounds lo hi none n).2.1=((_H.sIx n n hi:Nat):Int)/\(sliceBounds lo hi none n).2.2=1:=by
 refine⟨?_,?_,O⟩
 ·cases lo with
  |none=>simp[sliceBounds,_H.sIx]
  |some i=>
   simp only[sliceBounds,_H.sIx,Option.getD_none,show(1:Int) > 0 by decide,dZ];by_cases h:i<0
   ·simp only[h,dZ]<;>lia
   ·simp only[h,s1e]<;>lia
 ·cases hi with
  |none=>simp[sliceBounds,_H.sIx]
  |some i=>
   simp only[sliceBounds,_H.sIx,Option.getD_none,show(1:Int) > 0 by decide,dZ];by_cases h:i<0
   ·simp only[h,dZ]<;>lia
   ·simp only[h,s1e]<;>lia
def AR(its:LV)(lo hi:Option Int):slicePick its.toArray lo hi none=((its.drop (_H.sIx its.length 0 lo)).take (_H.sIx its.length its.length hi-_H.sIx its.length 0 lo)).toArray:=by
 obtain⟨h1,h2,h3⟩:=AQ lo hi its.toArray.size;unfold slicePick;rw[h1,h2,h3];simp only[sliceRange_one,pick_run,aO]<;>rfl
noncomputable def AS(K:FG):V->Option Int->Option Int->Hp->VK->Prop:=λ x lo hi H Q=>∃a xs,x=.ref a/\SqL K H a xs/\∀p,H p=none->Q (.ref p) (upd H p (.lst (fZ xs lo hi)))
def AT:SlR X (AS X.K):=by
 intro pins s σ H x v vl vu lo hi sl Q I rx hs pl pu h;obtain⟨a,xs,rfl,hx,q⟩:=h;cases rx;obtain⟨its,r,ht,hz⟩:=I.list hx;have hlen:=r.length;refine⟨"list",_,slot_list_getitem.lookup,ht.isList.typeIs,?_⟩;refine wpAny_getItem_list_slice ht.isList hs pl pu .none pv ?_ (by rw[aO]<;>lia);rw[AR,<- hlen];refine⟨.ref s.heap.objs.size,_,I.laid (t':=s.toks) (o:=.lst (fZ xs lo hi)) (λ b ob q=>aA _ q) (ar _) ?_,O,q _ (I.hok.fresh (ar _))⟩;exact⟨bB (tu xs lo hi) hz,_,0,(r.drop (_H.sIx xs.length 0 lo)).take (_H.sIx xs.length xs.length hi-_H.sIx xs.length 0 lo),aM _ rfl⟩
noncomputable def fE:V->Bool
 |.non=>true
 |.bl _=>true
 |.int _=>true
 |.str _=>true
 |_=>false
noncomputable def eqV:V->V->Bool
 |.non,.non=>true
 |.bl a,.bl b=>a == b
 |.bl a,.int b=>(if a then 1 else 0) == b
 |.int a,.bl b=>a == (if b then 1 else 0)
 |.int a,.int b=>a == b
 |.str a,.str b=>a == b
 |_,_=>false
def ky(ry:RelV y u)(rx:RelV x v)(fy:fE y=true)(fx:fE x=true):SeqAt.EqAt A s u v (eqV y x):=by
 cases y with
 |non=>
  cases ry
  cases x with
  |non=>cases rx;exact oZ _
  |bl b=>cases rx;exact SeqAt.EqAt.none_bool b
  |int b=>obtain⟨t,rfl⟩:=rx;exact SeqAt.EqAt.none_int b t
  |str b=>obtain⟨t,rfl⟩:=rx;exact SeqAt.EqAt.none_str b t
  |_=>exact absurd (show false=true from fx) br
 |bl a=>
  cases ry
  cases x with
  |non=>cases rx;exact SeqAt.EqAt.bool_none a
  |bl b=>cases rx;exact SeqAt.EqAt.bool_bool a b
  |int b=>obtain⟨t,rfl⟩:=rx;exact SeqAt.EqAt.bool_int a b t
  |str b=>obtain⟨t,rfl⟩:=rx;exact SeqAt.EqAt.bool_str a b t
  |_=>exact absurd (show false=true from fx) br
 |int a=>
  obtain⟨t',rfl⟩:=ry
  cases x with
  |non=>cases rx;exact SeqAt.EqAt.int_none a t'
  |bl b=>cases rx;exact SeqAt.EqAt.int_bool a t' b
  |int b=>obtain⟨t,rfl⟩:=rx;exact SeqAt.EqAt.int_int a t' b t
  |str b=>obtain⟨t,rfl⟩:=rx;exact s0y a t' b t
  |_=>exact absurd (show false=true from fx) br
 |str a=>
  obtain⟨t',rfl⟩:=ry
  cases x with
  |non=>cases rx;exact SeqAt.EqAt.str_none a t'
  |bl b=>cases rx;exact SeqAt.EqAt.str_bool a t' b
  |int b=>obtain⟨t,rfl⟩:=rx;exact s0z a t' b t
  |str b=>obtain⟨t,rfl⟩:=rx;exact SeqAt.EqAt.str_str a t' b t
  |_=>exact absurd (show false=true from fx) br
 |_=>exact absurd (show false=true from fy) br
noncomputable def eqU(x:V)(u:Value):Bool:=match u with
 |.none=>eqV .non x
 |.bool b=>eqV (.bl b) x
 |.int i _=>eqV (.int i) x
 |.str z _=>eqV (.str z) x
 |_=>false
def tH(r:RelV y u)(f:fE y=true):eqU x u=eqV y x:=by
 cases y with
 |non=>cases r;rfl
 |bl b=>cases r;rfl
 |int i=>obtain⟨t,rfl⟩:=r;rfl
 |str z=>obtain⟨t,rfl⟩:=r;rfl
 |_=>exact absurd (show false=true from f) br
theorem kz:∀ {xs:List V}{us:LV},Vals xs us->xs.all fE=true->us.any (eqU x)=xs.any λ y=>eqV y x
 |_,_,.nil,_=>rfl
 |y::xs,u::us,.cons r t,f=>by
  rw[da,bu] at f;rw[kA,kA,tH r f.1,kz t f.2]
theorem kB(rx:RelV x v)(fx:fE x=true):∀ {xs:List V}{us:LV},Vals xs us->xs.all fE=true->∀u∈us,SeqAt.EqAt A s u v (eqU x u)
 |_,_,.nil,_=>λ u hu=>by cases hu
 |y::xs,u::us,.cons r t,f=>λ u' hu=>by
  rw[da,bu] at f
  rcases aG.mp hu with rfl|hu
  ·rw[tH r f.1];exact ky r rx f.1 fx
  ·exact kB rx fx t f.2 u' hu
def inV(x:V)(xs:List V):Bool:=xs.any λ y=>eqV y x
noncomputable def rIn(K:FG)(neg:Bool):R2:=λ x y H Q=>∃p xs,y=.ref p/\(SqL K H p xs\/SqT K H p xs)/\fE x=true/\xs.all fE=true/\Q (.bl (if neg then !inV x xs else inV x xs)) H
def AU:OpR X (compareOp .In) (rIn X.K false):=by
 intro pins s σ H x y v u Q I rx ry h;obtain⟨p,xs,rfl,hq,fx,fs,q⟩:=h;cases ry
 rcases hq with hq|hq
 ·obtain⟨its,r,pl,hz⟩:=I.list hq;refine SeqAt.in_listAt (eqU x) pl.isList (λ w hw=>kB rx fx r fs w (by simpa using hw)) ⟨.bl _,H,I,O,?_⟩;rw[show its.toArray.any (eqU x)=its.any (eqU x) by simp,kz r fs];exact q
 ·obtain⟨its,r,pl,hz⟩:=I.tuple hq;refine SeqAt.in_tupleAt (eqU x) pl (λ w hw=>kB rx fx r fs w (by simpa using hw)) ⟨.bl _,H,I,O,?_⟩;rw[show its.toArray.any (eqU x)=its.any (eqU x) by simp,kz r fs];exact q
def AW:OpR X (compareOp .NotIn) (rIn X.K true):=by
 intro pins s σ H x y v u Q I rx ry h;obtain⟨p,xs,rfl,hq,fx,fs,q⟩:=h;cases ry
 rcases hq with hq|hq
 ·obtain⟨its,r,pl,hz⟩:=I.list hq;refine SeqAt.notIn_listAt (eqU x) pl.isList (λ w hw=>kB rx fx r fs w (by simpa using hw)) ⟨.bl _,H,I,O,?_⟩;rw[show its.toArray.any (eqU x)=its.any (eqU x) by simp,kz r fs];exact q
 ·obtain⟨its,r,pl,hz⟩:=I.tuple hq;refine SeqAt.notIn_tupleAt (eqU x) pl (λ w hw=>kB rx fx r fs w (by simpa using hw)) ⟨.bl _,H,I,O,?_⟩;rw[show its.toArray.any (eqU x)=its.any (eqU x) by simp,kz r fs];exact q
def AX:bo X (.builtin "len") (λ xs H Q=>∃p ys,xs=[.ref p]/\(SqL X.K H p ys\/SqT X.K H p ys)/\Q (.int ys.length) H):=by
 intro pins s σ H xs us Q I r h;obtain⟨p,ys,rfl,hq,q⟩:=h;obtain⟨u,rfl,rx⟩:=bL r;cases rx;have hn:=jg
 rcases hq with hq|hq
 ·obtain⟨its,r',pl,hz⟩:=I.list hq;have hlen:=r'.length;exact Calls.call_len_list pl.isList (by simp only[aO]<;>lia) ⟨.int ys.length,H,I.tok _,⟨s.toks+1,by rw[aO,hlen]⟩,q⟩
 ·obtain⟨its,r',pl,hz⟩:=I.tuple hq;have hlen:=r'.length;exact s1g pl (by simp only[aO]<;>lia) ⟨.int ys.length,H,I.tok _,⟨s.toks+1,by rw[aO,hlen]⟩,q⟩
def AY:bo X (.builtin "len") (λ xs H Q=>∃z,xs=[.str z]/\z.length<=sizeLine/\Q (.int z.length) H):=by
 intro pins s σ H xs us Q I r h;obtain⟨z,rfl,hz,q⟩:=h;obtain⟨u,rfl,t,rfl⟩:=bL r;have hn:=jg;exact len_str fu ⟨.int z.length,H,I.tok _,⟨_,O⟩,q⟩
def AZ:bo X (.type "list") (λ xs H Q=>∃p ys,xs=[.ref p]/\(SqL X.K H p ys\/SqT X.K H p ys)/\∀l,H l=none->Q (.ref l) (upd H l (.lst ys))):=by
 intro pins s σ H xs us Q I r h;obtain⟨p,ys,rfl,hq,q⟩:=h;obtain⟨u,rfl,rx⟩:=bL r;cases rx
 have fin:∀(its:LV),Vals ys its->ys.length<=sizeLine->∀(h':Heap) (c':Nat),(∀b o',s.heap.get? b=some o'->h'.get? b=some o') ->
   h'.get? s.heap.objs.size=some { cls:=.type "list",dict:=none,data:=.seq its.toArray c',slots:=#[] }->EP X pins σ Q (.ref s.heap.objs.size) { s with heap:=h' }:=λ its r' hz h' c' kp e=>
  ⟨.ref s.heap.objs.size,_,I.laid (t':=s.toks) kp (ar _) (show ObjOk X.prog X.w _ h' _ (.lst ys) from ⟨hz,its,c',r',e⟩),rfl,q _ (I.hok.fresh (ar _))⟩
 rcases hq with hq|hq
 ·obtain⟨its,r',pl,hz⟩:=I.list hq;have hlen:=r'.length;obtain⟨o,ho,hc,n,hd⟩:=pl.isList;exact call_list_seq p (.inl rfl) ho hc hd (λ h' c' kp e=>fin its r' hz h' c' kp e) (by simp only[aO]<;>lia)
 ·obtain⟨its,r',pl,hz⟩:=I.tuple hq;have hlen:=r'.length;obtain⟨o,ho,hc,n,hd⟩:=pl;exact call_list_seq p (.inr rfl) ho hc hd (λ h' c' kp e=>fin its r' hz h' c' kp e) (by simp only[aO]<;>lia)
def Ba:bo X (.type "tuple") (λ xs H Q=>∃p ys,xs=[.ref p]/\((SqL X.K H p ys/\∀l,H l=none->Q (.ref l) (upd H l (.tup ys)))\/(SqT X.K H p ys/\Q (.ref p) H))):=by
 intro pins s σ H xs us Q I r h;obtain⟨p,ys,rfl,h⟩:=h;obtain⟨u,rfl,rx⟩:=bL r;cases rx
 rcases h with ⟨hq,q⟩|⟨hq,q⟩
 ·obtain⟨its,r',pl,hz⟩:=I.list hq;have hlen:=r'.length;refine call_tuple_list pl.isList (λ h' kp=>?_) (by simp only[aO]<;>lia);have I1:Inv X pins σ H { s with heap:=h' }:=I.kept (t':=s.toks) kp
  have I2:Inv X pins σ (upd H h'.objs.size (.tup ys)) { s with heap:=h'.push { cls:=.type "tuple",data:=.seq its.toArray } } :=
   I1.laid (t':=s.toks) (λ b o e=>aA _ e) (ar _) (show ObjOk X.prog X.w _ _ _ (.tup ys) from ⟨hz,its,r',TupO.new _ _⟩)
  exact⟨.ref h'.objs.size,_,I2,O,q _ (I1.hok.fresh (ar _))⟩
 ·obtain⟨its,r',pl,hz⟩:=I.tuple hq;exact call_tuple_same pl ⟨.ref p,H,I,O,q⟩
noncomputable def tyV(K:FG)(T:String)(x:V)(H:Hp):Prop:=match x with
 |.str _=>T="str"
 |.int _=>T="int"
 |.ref p=>(T="list" /\ ∃xs,SqL K H p xs)\/(T="tuple" /\ ∃o,K.lookup p=some o/\o.cls=.type "tuple" /\ o.dict=none) \/
   (T="dict" /\ ((∃kvs,H p=some (.dK kvs))\/∃kvs,H p=some (.dT kvs)))\/(T="set" /\ ∃S n,H p=some (.set S n))
 |_=>False
theorem tJ(I:Inv X pins σ H s)(r:RelV x v)(ty:tyV X.K T x H) :
  s.TypeIs v T/\∀a,v=.ref a->∃ob,s.heap.get? a=some ob/\ob.dict=none:=by
 cases x with
 |str z=>
  obtain⟨t,rfl⟩:=r;cases (show T="str" from ty);exact⟨typeIs_str s z t,λ _ e=>nomatch e⟩
 |int i=>
  obtain⟨t,rfl⟩:=r;cases (show T="int" from ty);exact⟨typeIs_int s i t,λ _ e=>nomatch e⟩
 |ref p=>
  cases r
  rcases ty with ⟨rfl,xs,hq⟩|⟨rfl,o,hk,hc,hd⟩|⟨rfl,hk⟩|⟨rfl,S,n,hk⟩
  ·obtain⟨its,_,pl,_⟩:=I.list hq;refine⟨pl.isList.typeIs,λ a e=>?_⟩;cases e;obtain⟨o,n,e,c,hd,_⟩:=pl;exact⟨o,e,hd⟩
  ·refine⟨⟨o,I.kIn p o hk,hc⟩,λ a e=>?_⟩;cases e;exact⟨o,I.kIn _ o hk,hd⟩
  ·have z:∃o,s.heap.get? p=some o/\o.ExactDict:=by
    rcases hk with ⟨kvs,hk⟩|⟨kvs,hk⟩
    ·obtain⟨_,_,_,_,o,_,_,e,ex,_⟩:=I.hok p _ hk;exact⟨o,e,ex⟩
    ·obtain⟨_,_,_,_,o,_,_,e,ex,_⟩:=I.hok p _ hk;exact⟨o,e,ex⟩
   obtain⟨o,e,ex⟩:=z;refine⟨⟨o,e,ex.1⟩,λ a e2=>?_⟩;cases e2;exact⟨o,e,ex.2.1⟩
  ·obtain⟨o,_,_,_,e,ex,_⟩:=I.hok p _ hk;refine⟨⟨o,e,ex.1⟩,λ a e2=>?_⟩;cases e2;exact⟨o,e,ex.2.1⟩
 |_=>exact False.elim ty
noncomputable def Bb(K:FG)(T:String)(r:V->List V->Hp->VK->Prop)(to:TE):TE:=λ σ H Q=>to σ H λ x H1=>tyV K T x H1/\r x [] H1 Q
noncomputable def tBM(K:FG)(T:String)(r:V->List V->Hp->VK->Prop)(to:TE)(t:TA):TE:=λ σ H Q=>to σ H λ x H1=>tyV K T x H1/\t σ H1 λ xs H2=>r x xs H2 Q
variable {o e:Expr}{es:List Expr}{to:TE}{t:TA}{name:Str}{apos cpos:Pos}{T id:String}{r:V->List V->Hp->VK->Prop}
theorem Bc(pa:PlainAttrs T)(slot:Slot T name id)(hty:typeOf (.builtin id)=pure (.type "method_descriptor"))(hm:MtR X id r)(ho:PE X o to)
  (hbase:attributeBase o name X.env (eval o X.env)=eval o X.env:=by rfl) (hline:(apos.endLine == cpos.line)=true:=by rfl):PE X (.Call (.Attribute o name apos) [] [] cpos) (Bb X.K T r to):=by
 intro pins s σ H Q I h;refine wpAny_Call_method0_late hbase hline (thn (ho pins s σ H _ I h) λ v s1 ⟨x,H1,I1,r1,ty,q1⟩=>?_);obtain⟨h1,h2⟩:=tJ I1 r1 ty;exact⟨T,id,pa,slot,hty,h1,h2,pc rfl (PySem.evalArgs_none (hm pins s1 σ H1 x [] v [] Q I1 r1 .nil q1))⟩
theorem pd(pa:PlainAttrs T)(slot:Slot T name id)(hty:typeOf (.builtin id)=pure (.type "method_descriptor"))(hm:MtR X id r)(ho:PE X o to)(ha:PA X (e::es) t)
  (hbase:attributeBase o name X.env (eval o X.env)=eval o X.env:=by rfl)
  (hfew:((backTo cpos (starEach (e::es) X.env)).all (λ x=>!x.1) && (backToKw cpos (keywordEach [] X.env)).all (λ x=>x.1.isSome)
   && decide ((e::es).length+([]:List Keyword).length+(if ([]:List Keyword).isEmpty then 0 else 1)<30))=true:=by rfl)
  (hline:(apos.endLine == cpos.line)=true:=by rfl) (hs:starEach (e::es) X.env=(false,eval e X.env)::starEach es X.env:=by rfl) (hplain:(backTo cpos (starEach es X.env)).any (·.1)=false:=by rfl) :
  PE X (.Call (.Attribute o name apos) (e::es) [] cpos) (tBM X.K T r to t):=by
 intro pins s σ H Q I h;refine wpAny_Call_method_late hbase hfew hline rfl (thn (ho pins s σ H _ I h) λ v s1 ⟨x,H1,I1,r1,ty,q1⟩=>?_);obtain⟨h1,h2⟩:=tJ I1 r1 ty;refine⟨T,id,pa,slot,hty,h1,h2,?_⟩;have hA:=ha cpos pins s1 σ H1 _ I1 q1;rw[hs] at hA ⊢;refine pc (by show(false || (backTo cpos (starEach es X.env)).any (·.1))=false;rw[hplain]<;>rfl) (s0c ?_);exact thn hA λ us s2 ⟨vs,H2,I2,r2,q2⟩=>hm pins s2 σ H2 x vs v us Q I2 r1 r2 q2
end
noncomputable def MtM(X:Cx)(id:String)(r:V->List V->Hp->VK->Prop):Prop :=
 ∀(pins:LO) (s:Shared) (σ:St) (H:Hp) (x:V) (xs:List V) (v:Value) (us:LV) (Q:VK),Inv X pins σ H s->RelV x v->Vals xs us->r x xs H Q ->
  wpAny (model X.prog X.w) X.A (call (.builtin id) (v::us)) (EP X pins σ Q) X.xe s
theorem Vals.one:∀ {x:V}{us:LV},Vals [x] us->∃u,us=[u]/\RelV x u
 |_,_,.cons r .nil=>⟨_,rfl,r⟩
theorem Vals.zero:∀ {us:LV},Vals [] us->us=[]
 |_,.nil=>rfl
def Vals.dropLast(h:Vals xs us):Vals xs.dropLast us.dropLast:=by
 induction h with
 |nil=>exact .nil
 |cons r t ih=>
  cases t with
  |nil=>exact .nil
  |cons q t'=>exact .cons r ih
theorem Vals.eraseIdx:∀ {xs:List V}{us:LV}(i:Nat),Vals xs us->Vals (xs.eraseIdx i) (us.eraseIdx i)
 |_,_,_,.nil=>.nil
 |_,_,0,.cons _ t=>t
 |_,_,i+1,.cons r t=>.cons r (Vals.eraseIdx i t)
def Vals.reverse(h:Vals xs us):Vals xs.reverse us.reverse:=by
 induction h with
 |nil=>exact .nil
 |cons r t ih=>rw[lW,lW];exact Vals.append ih (.cons r .nil)
theorem Vals.rep(h:Vals xs us):∀k:Nat,Vals (List.replicate k xs).flatten (List.replicate k us).flatten
 |0=>.nil
 |k+1=>by
  rw[iy,iy,jq,jq];exact Vals.append h (Vals.rep h k)
def Bd{α:Type}(l:List α):l.eraseIdx (l.length-1)=l.dropLast:=by
 induction l with
 |nil=>rfl
 |cons a r ih=>
  cases r with
  |nil=>rfl
  |cons b r=>
   have e:(a::b::r).length-1=((b::r).length-1)+1:=by
    have h1:(a::b::r).length=r.length+2:=rfl;have h2:(b::r).length=r.length+1:=rfl;lia
   rw[e,List.eraseIdx_cons_succ,ih];all_goals rfl
theorem tK{α:Type}:∀(l:List α) (i:Nat),(l.eraseIdx i).length<=l.length
 |[],_=>ar _
 |_::_,0=>Nat.le_succ _
 |_::r,i+1=>jr (tK r i)
theorem tL(its:LV):∀(k:Nat) (acc:LV),
  List.foldl (λ x1 x2=>x1++x2) acc.toArray (List.replicate k its.toArray)=(acc++(List.replicate k its).flatten).toArray
 |0,acc=>by simp
 |k+1,acc=>by
  have e:acc.toArray++its.toArray=(acc++its).toArray:=pv
  have e2:(acc++its)++(List.replicate k its).flatten=acc++(List.replicate (k+1) its).flatten:=by
   rw[iy,jq,eO]
  rw[<- e2,<- tL its k (acc++its),<- e,iy,lX]
section
variable {pins:LO}{σ:St}{H:Hp}{s:Shared}{l b:Addr}{xs ys zs:List V}
theorem Inv.lset{its its':LV}{f:Array Value->Array Value}{t':Nat}(I:Inv X pins σ H s)(hH:H l=some (.lst xs))
  (e:s.heap.get? l=some { cls:=.type "list",data:=.seq its.toArray n }) (hf:f its.toArray=its'.toArray) (hv:Vals ys its') (hz:ys.length<=sizeLine) :
  Inv X pins σ (upd H l (.lst ys)) { s with heap:=s.heap.update l (Obj.mapSeq f),toks:=t' }:=by
 have q:=PySem.IsL.update e f;rw[hf] at q;refine I.write (x:=l) (e:=l) (by rw[hH];exact trivial) (.inl rfl) (λ b' u hb hu=>(dB s.heap (Obj.mapSeq f) (bx hb)).trans hu) ⟨_,q⟩ ?_;exact⟨hz,its',_,hv,q⟩
theorem Inv.lnew{t':Nat}(I:Inv X pins σ H s)(hv:Vals ys its)(hz:ys.length<=sizeLine) :
  Inv X pins σ (upd H s.heap.objs.size (.lst ys)) { s with heap:=s.heap.push { cls:=.type "list",data:=.seq its.toArray },toks:=t' } :=
 I.laid (λ _ _ q=>aA _ q) (ar _) ⟨hz,its,0,hv,aM _ rfl⟩
def Inv.fresh(I:Inv X pins σ H s):H s.heap.objs.size=none:=I.hok.fresh (ar _)
def Inv.lstM(I:Inv X pins σ H s)(hH:H l=some (.lst xs)):xs.length<=sizeLine/\∃(its:LV) (n:Nat),Vals xs its/\xs.length=its.length/\s.heap.get? l=some { cls:=.type "list",data:=.seq its.toArray n }:=by
 obtain⟨z,its,n,r,e⟩:=I.hok l _ hH;exact⟨z,its,n,r,r.length,e⟩
def Be{n:Nat}(h:n<=sizeLine):Builtin.List.listTooLong n=false:=by
 unfold Builtin.List.listTooLong;exact aP fu
end
noncomputable def lY:V->List V->Hp->VK->Prop:=λ x vs H Q=>∃l xs y,x=.ref l/\vs=[y]/\H l=some (.lst xs)/\xs.length<sizeLine/\Q .non (upd H l (.lst (xs++[y])))
def Bf:MtM X "list.append" lY:=by
 intro pins s σ H x vs v us Q I rx rv h;obtain⟨l,xs,y,rfl,rfl,hH,hz,q⟩:=h;cases rx;obtain⟨u,rfl,ru⟩:=rv.one;obtain⟨z,its,n,r,hl,e⟩:=I.lstM hH;refine gG s1h ⟨_,e,O⟩ s0s (s0d _ _) (PySem.list_append l its.toArray n u (by rw[aO];lia)) ⟨e,?_⟩;refine⟨.non,_,I.lset (its':=its++[u]) hH e pv (r.append (.cons ru .nil)) ?_,O,q⟩;rw[aQ,fF];lia
noncomputable def lZ:V->List V->Hp->VK->Prop:=λ x vs H Q=>∃l xs y,x=.ref l/\vs=[]/\H l=some (.lst xs)/\xs[xs.length-1]?=some y/\Q y (upd H l (.lst xs.dropLast))
def Bg:MtM X "list.pop" lZ:=by
 intro pins s σ H x vs v us Q I rx rv h;obtain⟨l,xs,y,rfl,rfl,hH,hy,q⟩:=h;cases rx;have hus:=rv.zero;subst hus;obtain⟨z,its,n,r,hl,e⟩:=I.lstM hH;obtain⟨u,hu,ru⟩:=r.get hy
 have hy':its.toArray[its.toArray.size-1]?=some u:=by
  show its.toArray[its.length-1]?=some u;rw[<- db,<- hl];exact hu
 refine gG F.slot_list_pop ⟨_,e,O⟩ F.entry_list_pop (F.args_list_pop_1 _) (MeetsSeq.list_pop_last l its.toArray n u hy' (by rw[aO];lia)) ⟨e,?_⟩;refine⟨y,_,I.lset (its':=its.dropLast) hH e ?_ r.dropLast ?_,ru,q⟩
 ·show its.toArray.eraseIdxIfInBounds (its.toArray.size-1)=its.dropLast.toArray;rw[aO,tM,Bd]
 ·rw[List.length_dropLast];lia
noncomputable def kC:V->List V->Hp->VK->Prop:=λ x vs H Q=>∃l xs i k y,x=.ref l/\vs=[.int i]/\H l=some (.lst xs)/\-(2 ^ 63)<=i/\i<2 ^ 63/\seqIndex? i xs.length=some k/\xs[k]?=some y/\Q y (upd H l (.lst (xs.eraseIdx k)))
def Bh:MtM X "list.pop" kC:=by
 intro pins s σ H x vs v us Q I rx rv h;obtain⟨l,xs,i,k,y,rfl,rfl,hH,h1,h2,hk,hy,q⟩:=h;cases rx;obtain⟨u,rfl,ru⟩:=rv.one;obtain⟨t,rfl⟩:=ru;obtain⟨z,its,n,r,hl,e⟩:=I.lstM hH;obtain⟨w,hw,rw'⟩:=r.get hy
 refine gG F.slot_list_pop ⟨_,e,O⟩ F.entry_list_pop (F.args_list_pop_2 _ _)
  (MeetsSeq.list_pop_at l its.toArray n i t k w (s0j h1 h2) (by rw[aO,<- hl];exact hk) (by rw[<- db];exact hw) (by rw[aO];lia)) ⟨e,?_⟩
 refine⟨y,_,I.lset (its':=its.eraseIdx k) hH e ?_ (r.eraseIdx k) ?_,rw',q⟩
 ·show its.toArray.eraseIdxIfInBounds k=(its.eraseIdx k).toArray;rw[tM]
 ·have:=tK xs k;lia
noncomputable def Bi:R2:=λ x y H Q=>∃l k xs,x=.ref l/\y=.int k/\H l=some (.lst xs)/\-(2 ^ 63)<=k/\k<2 ^ 63/\xs.length*k.toNat<=sizeLine /\
 ∀p,H p=none->Q (.ref p) (upd H p (.lst (List.replicate k.toNat xs).flatten))
def Bj{α:Type}(xs:List α)(k:Nat):(List.replicate k xs).flatten.length=k*xs.length:=by
 induction k with
 |zero=>simp
 |succ k ih=>rw[iy,jq,aQ,ih,Nat.succ_mul,Nat.add_comm]
def Bk:OpR X (binaryOp .Mult) Bi:=by
 intro pins s σ H x y v u Q I rx ry h;obtain⟨l,k,xs,rfl,rfl,hH,h1,h2,hz,q⟩:=h;cases rx;obtain⟨t,rfl⟩:=ry;obtain⟨z,its,n,r,hl,e⟩:=I.lstM hH;have hlen:its.toArray.size*k.toNat<=sizeLine:=by rw[aO,<- hl];exact hz
 have hcap:¬its.toArray.size*k.toNat > (2 ^ 63-1)/8:=by
  have:(sizeLine:Nat)<=(2 ^ 63-1)/8:=on;lia
 have hfit:¬(!Builtin.List.listFitsIndex k)=true:=by
  rw[s0j h1 h2];exact br
 have hlong:¬Builtin.List.listTooLong (its.toArray.size*k.toNat)=true:=by
  rw[Be hlen];exact br
 have hnew:List.foldl (λ x1 x2=>x1++x2) #[] (List.replicate (if its.toArray.isEmpty=true then 0 else k.toNat) its.toArray)=(List.replicate k.toNat its).flatten.toArray:=by
  have f0:∀m:Nat,List.foldl (λ x1 x2=>x1++x2) #[] (List.replicate m its.toArray)=(List.replicate m its).flatten.toArray:=λ m=>by
   have:=tL its m [];rw[List.nil_append] at this;exact this
  rw[f0]
  cases its with
  |nil=>simp
  |cons a r'=>rw[if_neg pv]
 refine wpAny_binaryOp_repeat_ref (T := "list") (U := "int") on ⟨_,e,O⟩ (λ s'=>typeIs_int s' k t) noFill_list_mul F.fills_int_mul F.slot_int_rmul repeat_list F.slot_int_index.lookup
  (gG F.slot_int_rmul (typeIs_int s k t) F.entry_int_rmul (F.args_int_rmul_2 _ _) (int___rmul___int_list k t l its.toArray n)
   ⟨e,rfl,⟨_,e,rfl⟩,gG F.slot_list_mul ⟨_,e,rfl⟩ F.entry_list_mul (F.args_list_mul_2 _ _) (AutoListH.list___mul___list_int_3 l its.toArray n k t hfit hcap hlong) ⟨e,?_⟩⟩)
 rw[hnew];exact⟨.ref _,_,I.lnew (t':=s.toks) (r.rep k.toNat) (by rw[Bj,Nat.mul_comm];exact hz),O,q _ I.fresh⟩
section
variable {prog:Program}{w:World}{A:Around}{E:VS}{s:Shared}
end
end _L
namespace Att
open PySem PySem.W PySem.Calls PyProof.Rows
def Bl:∀(ns:LI) (vs:LV),WellAll P h vs (ns.map WData.int)->IntsAre vs ns:=by
 intro ns
 induction ns with
 |nil=>
  intro vs w;rw[kw] at w;cases w;exact .nil
 |cons n ns ih=>
  intro vs w;rw[cz] at w
  cases w with
  |cons a b=>
   cases a;exact .cons _ _ (ih _ b)
theorem Bm{l:OpenLaw}(hn:l.most=some n)
  (hpre:l.row.toRowW.claim.pre args=true) (hwl:WellAll P h vals args) :
  ∃a vs ns,vals=[Value.ref a]/\args=[WData.list (ns.map WData.int)]/\h.get? a=some { cls:=.type "list",data:=.seq vs.toArray }/\IntsAre vs ns/\ns.length<=n:=by
 have hsh:WShape.hasAll [] args [.list .int]=true:=(pre_splitW hpre).1;have hc:l.pre.holds [] { args:=args }=true:=(pre_splitW hpre).2;obtain⟨d,r,rfl,h1,h2⟩:=hasAllW_cons hsh;obtain rfl:=hasAllW_nil h2;obtain⟨xs,rfl,h3⟩:=hasW_list h1;obtain⟨ns,rfl⟩:=items_int h3
 have hlen:ns.length<=n:=by
  unfold OpenLaw.pre at hc
  have h4:(WTm.not (.lt (.lit (.int (n:Int))) (.len (.arg 0)))).holds [] { args:=[.list (ns.map .int)] }=true:=by
   have h4:=(holds_andW hc).1;rw[hn] at h4;exact h4
  have h5:=condW_of h4 (w_not (w_lt w_lit (w_len_list (w_arg rfl))));rw[ah] at h5;refine Nat.le_of_not_lt λ q=>?_;have q':(n:Int)<((ns.length:Nat):Int):=fu
  first
   |(rw[bf q'] at h5;exact absurd h5 on)
   |(simp at h5;lia)
 cases hwl with
 |cons w1 w2=>
  cases w2
  cases w1 with
  |list ho hall=>exact⟨_,_,ns,rfl,rfl,ho,Bl ns _ hall,hlen⟩
def Bn(l:OpenLaw)(args:List WData):l.row.toRowW.claim.post args (.bool true) args=true :=
 postW_of (r:=l.row.toRowW) (X:=(true == true))
  (show WShape.has [] (.bool true) .bool=true by first|rfl|decide|simp[WShape.has,WShape.arms,WShape.armsAll])
  (show(WTm.eq .res (.lit (.bool true))).value [] { args:=args,res:=some (.bool true),after:=args }=some (.bool (true == true)) from w_eq_bool (w_res rfl) w_lit) rfl
theorem attach_call{l:OpenLaw}{YP:World->Heap->Prop}{d:DefRec}
  (hn:l.most=some n) (hdf:d.params.defaults=[])
  (call:∀(w:World) (s₀ s₁:Shared) (mg mb:SV) (fa:Addr) (o:Obj) (pm cd doc:Value) (a:Addr) (vs:LV) (ns:LI),
   Ground q loose [] XP w s₀ mg mb s₁.heap->YP w s₁.heap ->
   s₁.heap.get? fa=some o->o.data=.func (docDef d.name d.params d.body d.scope pm cd doc)->s₁.heap.CodeRec cd d.name->mg d.name=some (.ref fa) ->
   s₁.heap.get? a=some { cls:=.type "list",data:=.seq vs.toArray }->IntsAre vs ns->ns.length<=n->s₁.gens=#[] ->
   codeAny (model l.prog w) callerA (.call (.ref fa) ⟨[.ref a],[]⟩) (λ r s'=>r=.ok (.ret (.bool true))/\OldK s₁.heap s'.heap/\s'.os=s₁.os/\AllBare s'.gens) s₁) :
  WalkO q loose XP YP l.row.toRowW d [] (λ f vs=>PySem.call f vs):=by
 intro w s₀ s₁ mg mb G Y fa o pm cd doc dV kV ho hd hcd hD hmg hg args vals as hpre hlay hrd hwl hlo;obtain rfl:dV=.none:=Dflts.none hD hdf;obtain rfl:kV=.none:=Dflts.noKw hD;obtain⟨a,vs,ns,rfl,rfl,hobj,hints,hlen⟩:=Bm hn hpre hwl;refine enter_call (iq (call w s₀ s₁ mg mb fa o pm cd doc a vs ns G Y ho (fd_plain hd) hcd hmg hobj hints hlen hg) λ r s' hq=>?_);obtain⟨rfl,h2,h3,h4⟩:=hq;exact⟨.inl ⟨.bool true,.bool true,[],O,λ _=>rfl,.bool true,Bn l _,λ _=>⟨List.Pairwise.nil,λ _ hm=>(nomatch hm)⟩⟩,h2,h3,h4⟩
section
variable {prog:Program}{w:World}{A:Around}{E:VS}{s:Shared}{K:Frag}
end
end Att
namespace _L
open PySem PySem.Spec PyProof.Rows
theorem ma:∀ {vs:LV}{ns:LI},IntsAre vs ns->Vals (ns.map V.int) vs
 |_,_,.nil=>.nil
 |_,_,.cons n t h=>.cons ⟨t,rfl⟩ (ma h)
noncomputable def pf(H:Hp):Prop:=∀b,H b=none\/∃o xs,H b=some (.frz o (.lst xs))
theorem Bo{K:FG}{fa a:Addr}{x:Str}{s₁:Shared}{vs:LV}
  (KX:K.In s₁.heap) (hns:s₁.heap.Ns mainGlobals mg) (hb:s₁.heap.Ns builtinsNs mb) (hbb:∀x:Str,x ≠ "__name__" -> mb x=bootBuiltins x) (hlim:s₁.heap.NoLimit) (hg:s₁.gens=#[])
  (ha:s₁.heap.get? a=some { cls:=.type "list",data:=.seq vs.toArray }) (hi:IntsAre vs ns) (hl:ns.length<=sizeLine) (hr:Room k callerA)
  (F:∀base:Heap,K.In base->base.Ns mainGlobals mg->FnOk P w K mg base CX k fa fd [x] sp) (hbind:∀(s:Shared) (u:Value),BindsTo s fd ⟨[u],[]⟩ [(x,u)])
  (hsp:∀H:Hp,pf H->SqL K H a (ns.map V.int)->sp [.ref a] H (λ v _=>v=.bl true) λ _ _ _=>False)
  (hCX:∀H e s',CX [] H s₁ (λ _ _ _=>False) e s'->False) :
  codeAny (model P w) callerA (.call (.ref fa) ⟨[.ref a],[]⟩) (λ r s'=>r=.ok (.ret (.bool true))/\OldK s₁.heap s'.heap/\s'.os=s₁.os/\AllBare s'.gens) s₁:=by
 have rv:=ma hi;have lenV:=hi.length
 have core:∀H:Hp,pf H->SqL K H a (ns.map V.int)->HOk P w H s₁.heap->(∀b,H b≠none->b=a)->(H a≠none->K.lookup a=none) ->
   codeAny (model P w) callerA (.call (.ref fa) ⟨[.ref a],[]⟩) (λ r s'=>r=.ok (.ret (.bool true))/\OldK s₁.heap s'.heap/\s'.os=s₁.os/\AllBare s'.gens) s₁:=by
  intro H hO hS hok hA hK;have base_of:∀ {b:Addr}{o:Obj},s₁.heap.get? b=some o->H b=none->(fX s₁.heap H).get? b=some o:=λ e n=>yH e n
  have noA:∀ {b:Addr}{o:Obj}{es:Array DictEntry}{ep:Nat},s₁.heap.get? b=some o->o.data=.dict es ep->H b=none:=λ {b o es ep} e d=>by
   cases q:H b with
   |none=>rfl
   |some u=>
    have e':b=a:=hA b (by rw[q];simp);subst e';rw[ha] at e;cases e;have d':Data.seq vs.toArray _=Data.dict es ep:=d;cases d'
  have nsK:∀ {b:Addr}{m:SV},s₁.heap.Ns b m->(fX s₁.heap H).Ns b m:=λ {b m} ⟨o,es,ep,e,d,r⟩=>⟨o,es,ep,base_of e (noA e d),d,r⟩
  have hKb:K.In (fX s₁.heap H):=λ b o e=>base_of (KX b o e) (by
   cases q:H b with
   |none=>rfl
   |some u=>
    have e':b=a:=hA b (by rw[q];simp);subst e'
    rw[hK (by rw[q];simp)] at e;cases e)
  have hM:Mod K mg (fX s₁.heap H):=⟨hKb,nsK hns,⟨mb,nsK hb,hbb⟩,let ⟨mc,h1,h2⟩:=hlim;⟨mc,nsK h1,h2⟩⟩;have e0:Env0 P w K mg (fX s₁.heap H) callerA [] s₁ H:=⟨rfl,hM,λ b o e=>yI e,Nat.le_of_eq (yG _ _),trivial,λ b hb=>absurd (show b∈([]:List Addr) from hb) pv,hok,.of_eq hg⟩;refine iq ((F _ hKb (nsK hns)).run callerA [] s₁ H ⟨[.ref a],[]⟩ [.ref a] [.ref a] _ _ hr e0 (hbind s₁ (.ref a)) (.cons rfl .nil) (hsp H hO hS)) λ r s' h=>?_
  cases r with
  |error e=>exact(hCX H e s' h).elim
  |ok fl=>
   cases fl with
   |next=>exact False.elim h
   |brk=>exact False.elim h
   |cont=>exact False.elim h
   |ret u=>
    obtain⟨v,H',os,bare,un,hok',r',q⟩:=h;have q':v=.bl true:=q;subst q';obtain rfl:u=Value.bool true:=r';refine⟨O,OldK.of_keep λ b o e=>?_,os,bare⟩
    cases q:H b with
    |none=>exact un.keep b o e q (by intro z;exact absurd (show b∈([]:List Addr) from z) pv) pv
    |some u=>
     rcases hO b with z|⟨ob,xs,z⟩
     ·rw[q] at z;cases z
     ·have z2:=un.frzs b ob _ z;obtain⟨e1,_⟩:=hok b _ z;obtain⟨e2,_⟩:=hok' b _ z2;rw[e] at e1;cases e1;exact e2
 cases hk:K.lookup a with
 |some o=>
  have e:=KX a o hk;rw[ha] at e;cases e;refine core (λ _=>none) (λ _=>.inl rfl) (.inr ⟨_,vs.toArray,_,hk,O,O,O,by rw[aO,lenV];exact hl,by simpa using rv⟩) (λ b u z=>by have z':(none:Option HO)=some u:=z;cases z') (λ b z=>absurd rfl z) λ z=>absurd rfl z
 |none=>
  refine core (λ b=>if b=a then some (.frz { cls:=.type "list",data:=.seq vs.toArray } (.lst (ns.map V.int))) else none) (λ b=>?_) (.inl (.inr ⟨{ cls:=.type "list",data:=.seq vs.toArray },if_pos rfl⟩)) (λ b u z=>?_) (λ b z=>?_) λ _=>hk
  ·by_cases hb:b=a
   ·exact .inr ⟨_,_,if_pos hb⟩
   ·exact .inl (if_neg hb)
  ·by_cases hb:b=a
   ·have z':=(if_pos hb).symm.trans z;cases z';subst hb;exact⟨ha,by rw[ah];exact hl,vs,_,rv,ha⟩
   ·have z':=(if_neg hb).symm.trans z;cases z'
  ·by_cases hb:b=a
   ·exact hb
   ·exact absurd (if_neg hb) z
theorem walk_of{l:W.OpenLaw}{YP:World->Heap->Prop}{d:DefRec}{K:Params->FG}{CX:World->CXT}{sp:World->Sp}{x:Str}
  (hn:l.most=some n) (hn2:n<=sizeLine) (hdf:d.params.defaults=[]) (hr:Room k callerA)
  (hY:∀(w:World) (h:Heap),YP w h->(K w.params).In h)
  (F:∀(w:World) (mg:SV) (fa:Addr) (h:Heap),(K w.params).In h->h.Ns mainGlobals mg->mg d.name=some (.ref fa) ->
   ∃fd:FuncData,(∀(s:Shared) (u:Value),BindsTo s fd ⟨[u],[]⟩ [(x,u)]) /\
    ∀base:Heap,(K w.params).In base->base.Ns mainGlobals mg->FnOk l.prog w (K w.params) mg base (CX w) k fa fd [x] (sp w))
  (hsp:∀(w:World) (H:Hp) (a:Addr) (ns:LI),ns.length<=n->pf H->SqL (K w.params) H a (ns.map V.int)->sp w [.ref a] H (λ v _=>v=.bl true) λ _ _ _=>False)
  (hCX:∀(w:World) (H:Hp) (s:Shared) (e:Value) (s':Shared),CX w [] H s (λ _ _ _=>False) e s'->False) :
  W.WalkO q loose XP YP l.row.toRowW d [] (λ f vs=>PySem.call f vs):=by
 refine Att.attach_call hn hdf λ w s₀ s₁ mg mb fa o pm cd doc a vs ns G Y ho hd hcd hmg hobj hints hlen hg=>?_;have KX:=hY w _ Y;obtain⟨fd,hb,hF⟩:=F w mg fa _ KX G.T.g hmg;exact Bo KX G.T.g G.T.b G.T.builtins G.T.nolimit hg hobj hints (bB hlen hn2) hr hF hb (λ H hO hS=>hsp w H a ns hlen hO hS) λ H e s'=>hCX w H s₁ e s'
noncomputable def jt(s:Stmt):Arguments:=match s with
 |.FunctionDef _ a _ _ _ _ _ _ _ _=>a
 |_=>{ posonlyargs:=[],args:=[],vararg:=none,kwonlyargs:=[],kw_defaults:=[],kwarg:=none,defaults:=[] }
noncomputable def eP(s:Stmt):List Stmt:=match s with
 |.FunctionDef _ _ b _ _ _ _ _ _ _=>b
 |_=>[]
noncomputable def cB(s:Stmt):Scope:=match s with
 |.FunctionDef _ _ _ _ _ _ sc _ _ _=>sc
 |_=>{ kind:=.function,names:=[],isGenerator:=false,isCoroutine:=false }
abbrev CX0:CXT:=λ _ _ _ _ _ _=>False
abbrev E0:XK:=λ _ _ _=>False
def Bp:lP CX0 X E0:=λ _ _ _ _ _ _ _ h=>h.elim
structure Fun (K:FG)(x qual:Str)(st:Stmt)(f:Addr)(fd:FuncData):Prop where
 ex:∃(oc:Value) (od:OA) (kV doc pm:Value) (an:OA) (cdv ct:Value) (osl:AV),
  fd=W.fnOf x qual (jt st) (eP st) (cB st) .none kV doc pm an cdv ct/\K.lookup f=some ⟨oc,od,.func fd,osl⟩/\W.codeIn K cdv qual=true
 kp:W.keepIn K (.ref f)=true
section
variable {P:Program}{w:World}{K:FG}{mg:SV}{base:Heap}
theorem Fun.ok{st:Stmt}{sp:Sp}(F:Fun K x qual st f fd)(S:FnScope N ps (cB st))(len:∀vs H Q E,sp vs H Q E->vs.length=ps.length)
  (hbody:∀(cdv:Value) (A:Around) (outer:List Env) (s:Shared) (H:Hp) (vs:List V) (Q:VK) (E:XK),Room k (A.deeper (envOfC qual (cB st) s.heap.objs.size f cdv))->sp vs H Q E ->
   ∃t,PSs (iu CX0 P w K mg base N qual (cB st) f cdv A outer s H E).nox (eP st) t/\t { nx:=λ _ H'=>Q .non H',rt:=Q } (dY N vs) H):FnOk P w K mg base CX0 (k+1) f fd ps sp:=by
 obtain⟨oc,od,kV,doc,pm,an,cdv,ct,osl,rfl,lk,hcd⟩:=F.ex;refine Ay lk hcd S len λ A outer s H vs Q E hr hsp=>?_;obtain⟨t,h,q⟩:=hbody cdv A outer s H vs Q E hr hsp;exact⟨t,h.nox,q⟩
theorem Fun.binds{st:Stmt}{ps:List Str}(F:Fun K x qual st f fd)
  (h:∀(kV doc pm:Value) (an:OA) (cdv ct:Value) (us:LV),us.length=ps.length->bindArgs (W.fnOf x qual (jt st) (eP st) (cB st) .none kV doc pm an cdv ct) ⟨us,[]⟩=pure (ps.zip us)):Binds K fd ps []:=by
 obtain⟨oc,od,kV,doc,pm,an,cdv,ct,osl,rfl,lk,hcd⟩:=F.ex;exact .all (h kV doc pm an cdv ct)
theorem Bq{st:Stmt}{oc:Value}{od an:OA}{osl:AV}{kV doc pm cdv ct:Value}(l:K.lookup f=some ⟨oc,od,.func (W.fnOf x qual (jt st) (eP st) (cB st) .none kV doc pm an cdv ct),osl⟩)
  (c:W.codeIn K cdv qual=true) (k:W.keepIn K (.ref f)=true):Fun K x qual st f (W.fnOf x qual (jt st) (eP st) (cB st) .none kV doc pm an cdv ct):=⟨⟨oc,od,kV,doc,pm,an,cdv,ct,osl,rfl,l,c⟩,k⟩
end
def aR{n:Nat}(h:n<=1000):n<sizeLine:=ph h on
variable {X:Cx}
end _L
set_option maxHeartbeats 4000000
namespace _L
open PySem PySem.Spec PyProof.Rows
section
variable {prog:Program}{w:World}{A:Around}{R:Result->Shared->Prop}{s:Shared}
theorem Br{elt target iter:Expr}{it acc:Value}(I:Nat->Shared->Prop)
  (turn:∀n s,I n s->wpAny (model prog w) A (pyNext it) (λ r s₁=>match r with
   |none=>R (.ok .next) s₁
   | some v=>wpAny (model prog w) A (letOwnedTupleGo target it v) (λ _ s₀=>wpAny (model prog w) A (assign target env v) (λ _ s₂=>wpAny (model prog w) A (eval elt env) (λ x s₃ =>
     wpAny (model prog w) A (call (.builtin "list.append") [acc,x]) (λ _ s₄=>∃m,m<n/\I m s₄) (λ _ _=>False) s₃)
     (λ _ _=>False) s₂) (λ _ _=>False) s₀) (λ _ _=>False) s₁) (λ _ _=>False) s)
  (n:Nat) (h:I n s) :
  codeAny (model prog w) A (.compLoop (.ListComp elt [⟨target,iter,[],0⟩] scope pos) 0 it acc env) R s:=by
 refine codeAny_loop rfl I (λ n s hI=>?_) n h;show wpAny _ _ ((compTurn (.ListComp elt [⟨target,iter,[],0⟩] scope pos) 0 it acc env).onRaise (λ x=>do noteFrame x env;theTreesLotGoes x)) _ _ s;refine wpAny_noted ?_;rw[compTurn_list1];refine af (ip (af (cy (turn n s hI) (λ r s₁ h₁=>?_) λ _ _ h'=>h'.elim)))
 cases r with
 |none=>exact ag h₁
 |some v=>
  refine af (cy h₁ (λ _ s₀ h₀=>?_) λ _ _ h'=>h'.elim)
  exact af (cy h₀ (λ _ s₂ h₂=>af (af (cy h₂ (λ x s₃ h₃=>af (cy h₃
   (λ _ s₄ h₄=>ag (ag ⟨rfl,h₄⟩)) λ _ _ h'=>h'.elim)) λ _ _ h'=>h'.elim))) λ _ _ h'=>h'.elim)
end
noncomputable def bh(X:Cx)(N:List Str)(scope:Scope)(cl:LA)(C:Addr)(ex:List Addr)(s:Shared)(H:Hp):Cx where
 prog:=X.prog
 w:=X.w
 K:=X.K
 mg:=X.mg
 base:=X.base
 A:=X.A
 N:=N
 s₀:=s
 H₀:=H
 env:=compEnvC scope cl C X.env
 outer:=X.stack
 stack:=X.stack
 ex:=ex
 fn:=λ _=>false
 calm:=X.calm
 pn:=X.pn
 xe:=λ _ _=>False
noncomputable def cQ(k:Nat)(js:List Nat)(σ:St):St:=List.replicate k none++js.map λ j=>(σ[j]?).join
noncomputable def ju(wi:TI)(k:Nat)(js:List Nat)(g:TG)(te:TE):TE:=λ σ H Q=>wi σ H λ J H1=>
 ∃W:Nat->Nat->List V->St->Hp->Prop,(∃m,W 0 m [] (cQ k js σ) H1)/\∀i m ys σ' H',W i m ys σ' H' ->
  (J.stop i H'/\∀p,H' p=none->Q (.ref p) (upd H' p (.lst ys))) \/
  (J.go i H'/\ys.length < sizeLine/\∃N:List V->St->Hp->Prop,(∀zs σ2 H2,N zs σ2 H2->∃m',m' < m/\W (i+1) m' zs σ2 H2) /\
   ∀x H2,J.yld i H' x H2->g x σ' H2 λ σ3 H3=>te σ3 H3 λ v H4=>N (ys++[v]) σ3 H4)
structure Cap (X:Cx)(scope:Scope)(cl:LA)(x:Str)(j:Nat):Prop where
 at_:X.N[j]?=some x
 out:X.env.scope.names.lookup x=some .cell\/X.env.scope.names.lookup x=some .free
 inn:(relabel scope X.env).names.lookup x=some .cell\/(relabel scope X.env).names.lookup x=some .free
def Bs{σ:St}{j:Nat}(h:(σ[j]?).join=some v):σ[j]?=some (some v):=by
 cases e:σ[j]? with
 |none=>rw[e] at h;cases h
 |some o=>
  rw[e] at h
  cases o with
  |none=>cases h
  |some u=>cases h;rfl
noncomputable def iz(wi:TI)(k:Nat)(js:List Nat)(g:TG)(tc:TT)(te:TE):TE:=λ σ H Q=>wi σ H λ J H1=>
 ∃W:Nat->Nat->List V->St->Hp->Prop,(∃m,W 0 m [] (cQ k js σ) H1)/\∀i m ys σ' H',W i m ys σ' H' ->
  (J.stop i H'/\∀p,H' p=none->Q (.ref p) (upd H' p (.lst ys))) \/
  (J.go i H'/\ys.length < sizeLine/\∃N:List V->St->Hp->Prop,(∀zs σ2 H2,N zs σ2 H2->∃m',m' < m/\W (i+1) m' zs σ2 H2) /\
   ∀x H2,J.yld i H' x H2->g x σ' H2 λ σ3 H3=>tc σ3 H3 λ b H4=>if b=true then te σ3 H4 λ v H5=>N (ys++[v]) σ3 H5 else N ys σ3 H4)
noncomputable abbrev mf:=Program->World->Around->Env->(Bool->Shared->Prop)->Shared->Prop
noncomputable def pi(ifs:List Expr)(T:mf):Prop:=(∀ {prog:Program}{w:World}{A:Around}{R:Result->Shared->Prop}{s:Shared}{elt target iter:Expr}{scope:Scope}{pos:Pos}{it acc:Value}{env:Env}(I:Nat->Shared->Prop),
  (∀n s,I n s->wpAny (model prog w) A (pyNext it) (λ r s₁=>match r with
   |none=>R (.ok .next) s₁
   | some v=>wpAny (model prog w) A (letOwnedTupleGo target it v) (λ _ s₀=>wpAny (model prog w) A (assign target env v) (λ _ s₂=>T prog w A env (λ b s₃ =>
     if b=true then wpAny (model prog w) A (eval elt env) (λ x s₄ =>
      wpAny (model prog w) A (call (.builtin "list.append") [acc,x]) (λ _ s₅=>∃m,m<n/\I m s₅) (λ _ _=>False) s₄) (λ _ _=>False) s₃
     else ∃m,m<n/\I m s₃) s₂) (λ _ _=>False) s₀) (λ _ _=>False) s₁) (λ _ _=>False) s)->∀n,I n s ->
  codeAny (model prog w) A (.compLoop (.ListComp elt [⟨target,iter,ifs,0⟩] scope pos) 0 it acc env) R s) /\
 ∀ {p w A e k k' s},T p w A e k s->(∀b s,k b s->k' b s)->T p w A e k' s
def tN:mf:=λ _ _ _ _ k s=>k true s
def Bt:pi [] tN:=⟨λ I t n h=>Br I t n h,λ h m=>m _ _ h⟩
noncomputable def PM(X:Cx)(T:mf)(tc:TT):Prop:=∀(pins:LO) (s:Shared) (σ:St) (H:Hp) (K:Bool->Hp->Prop),Inv X pins σ H s->tc σ H K->T X.prog X.w X.A X.env (λ b s'=>∃H',Inv X pins σ H' s'/\K b H') s
theorem tO{X:Cx}{elt tg iter:Expr}{cl:LA}{own fv:List Str}{js:List Nat}
    (hc:X.calm=true) (hi:PI X tg iter wi) (hclos:closureFor scope X.env=pure cl) (hcell:∀y∈scope.names,y.2≠.cell) (hkind:scope.kind=.function)
    (hnames:∀y∈scope.names,y.2=.local->scope.names.lookup y.1=some .local)
    (hcl:∀x c,cl.lookup x=some c->X.env.cells.lookup x=some c)
    (hhas:∀x,((relabel scope X.env).names.lookup x=some .cell\/(relabel scope X.env).names.lookup x=some .free)->∃c,cl.lookup x=some c)
    (hlen:js.length=fv.length) (hcap:∀(i:Nat) x j,fv[i]?=some x->js[i]?=some j->Cap X scope cl x j)
    (hg:∀(C:Addr) (ex:List Addr) (s:Shared) (H:Hp),PG (bh X (own++fv) scope cl C ex s H) tg g)
    (he:∀(C:Addr) (ex:List Addr) (s:Shared) (H:Hp),PE (bh X (own++fv) scope cl C ex s H) elt te)
    (ht:∀(C:Addr) (ex:List Addr) (s:Shared) (H:Hp),PM (bh X (own++fv) scope cl C ex s H) T0 tc) (lp:pi ifs T0)
    (hs:∀x,foldedSetIterable iter X.env x=pure x)(I:Inv X pins σ H s) (h:iz wi own.length js g tc te σ H Q)
    (fin:∀(a C:Addr) (s5:Shared) (H5:Hp) (fl:Flow),Inv X pins σ H5 s5->H5 C=none->C≠X.env.locals->X.s₀.heap.objs.size<=C->(∀x c,X.env.cells.lookup x=some c->c≠C)->(∀p∈X.pn++pins,p.1≠C)->(∃m,s5.heap.Ns C m)->Q (.ref a) H5->compPost (model X.prog X.w) X.A X.xe use QQ (.ref a) C (.ok fl) s5) :
    wpAny (model X.prog X.w) X.A (comprehension (.ListComp elt [⟨tg,iter,ifs,0⟩] scope pos) scope X.env fpos (newList []) false (firstIter [⟨tg,iter,ifs,0⟩] X.env) use) QQ X.xe s:=by
  refine wpAny_comprehension_free (use:=use) rfl hs hclos hkind hnames (thn (hi pins s σ H _ I h) λ v s1 h1=>thn h1 λ itv s2 h2=>?_);obtain⟨it,fp,tn,J,H2,e,I2,T,st2,f2,W,⟨m0,w0⟩,turn⟩:=h2;subst e;refine bF (wpAny_newFunctionEnv hcell (by intro y hy;simp at hy) (λ h₁ hns₁ hsb₁=>?_) hkind);dsimp only at hns₁ hsb₁ ⊢;generalize hHp:s2.heap.push { cls:=.type "list",dict:=none,data:=.seq ([]:LV).toArray }=hL at hns₁ hsb₁ ⊢;have hC:hL.objs.size=s2.heap.objs.size+1:=by rw[<- hHp,df]
  have hDC:s2.heap.objs.size≠hL.objs.size:=by rw[hC];exact aK (fG _)
  have ltC:∀b,b<s2.heap.objs.size->b≠hL.objs.size:=λ b hb=>by rw[hC];exact aK (cJ hb)
  have old:∀b o,s2.heap.get? b=some o->h₁.get? b=some o:=λ b o e=>hsb₁.extBut b o (ltC b (aC e)) (aA _ (hHp ▸ aA _ e));have hacc:h₁.get? s2.heap.objs.size=some { cls:=.type "list",data:=.seq ([]:LV).toArray 0 }:=hsb₁.extBut _ _ hDC (aA _ (hHp ▸ aM _ rfl));have hfresh:∀a,s2.heap.objs.size<=a->H2 a=none:=λ a ha=>I2.hok.fresh ha
  have fpL:∀b∈fp,b<s2.heap.objs.size:=λ b hb=>by
    obtain⟨o,e,_⟩:=T.obj _ _ st2 b hb;exact aC e
  have cellL:∀x c,cl.lookup x=some c->c<s2.heap.objs.size:=λ x c e=>by
    obtain⟨v,q⟩:=I2.cell x c (hcl x c e);exact q.lt
  have pinL:∀p∈X.pn++pins,p.1<s2.heap.objs.size:=λ p hp=>aC (I2.pin p hp).1;generalize hX:bh X (own++fv) scope cl hL.objs.size fp s2 H2=Y
  have ok:Y.Ok:=by
    subst hX
    refine⟨I2.ok.mod,hkind,I2.ok.glob,I2.ok.blt,by show s2.heap.objs.size≤hL.objs.size;lia,λ x y c h1 h2=>I2.ok.inj x y c (hcl x c h1) (hcl y c h2),λ x hx=>hhas x hx,
      λ x c hf=>absurd hf (by show ¬(false=true);decide),I2.ok.hd,I2.ok.frames,.inl rfl,λ b hb=>⟨ltC b (fpL b hb),λ x c e=>(f2 b hb).2.2.2.2.1 x c (hcl x c e)⟩,I2.bs,bB I2.ok.bsz I2.sz,λ b o e hb=>?_,λ b hb hz=>?_,I2.stack,I2.stkFree⟩
    · rcases(f2 b hb).2.2.2.1 with z|z
      · exact I2.ok.noex b o e z
      · exact absurd (bR (aC e) (bB I2.ok.bsz z)) (cg _)
    · rcases aG.mp (I2.stkSub b hz) with z|z
      · exact(f2 b hb).2.1 z
      · exact(f2 b hb).2.2.1 z
  have hYl:Y.env.locals=hL.objs.size:=by subst hX;rfl
  have hYs:Y.s₀=s2:=by subst hX;rfl
  have hYH:Y.H₀=H2:=by subst hX;rfl
  have hYx:Y.ex=fp:=by subst hX;rfl
  have hYf:Y.fs=frs X.stack:=by subst hX;rfl
  have hYc:Y.env.cells=cl:=by subst hX;rfl
  have hYp:Y.pn=X.pn:=by subst hX;rfl
  have pinOk:∀p∈X.pn++pins,s2.heap.get? p.1=some p.2/\H2 p.1=none/\p.1≠hL.objs.size/\p.1 ∉ frs X.stack/\∀v,p.2.data≠.cell v:=λ p hp=>by
    obtain⟨e,n,ne,nf,d⟩:=I2.pin p hp;refine⟨e,n,ltC _ (aC e),λ z=>?_,d⟩
    rcases aG.mp (I2.stkSub _ z) with q|q
    · exact ne q
    · exact nf q
  have stkL:∀b∈frs X.stack,b<s2.heap.objs.size:=λ b hb=>by
    obtain⟨_,o,ho,_⟩:=I2.stack.mem hb;exact aC ho
  have I3:Inv Y (pins++[(s2.heap.objs.size,{ cls:=.type "list",data:=.seq ([]:LV).toArray 0 })]) (cQ own.length js σ) H2 { s2 with heap:=h₁,toks:=s2.toks+([]:List (Str×Value)).length }:=by
    refine⟨ok,by subst hX;rfl,I2.bare,by rw[hYH,hYs];exact Un.kept old,⟨_,by rw[hYl];exact hns₁,λ i x v e1 e2 e3=>?_⟩,λ x c e=>?_,by rw[hYl];exact hfresh _ fu,λ x c e=>?_,λ p hp=>?_,by subst hX;exact I2.hok.kept old,?_⟩
    · subst hX;have e1:(own++fv)[i]?=some x:=e1;unfold cQ at e2;by_cases hi:i<own.length
      · rw[cY (by simpa using hi),jk] at e2;split at e2<;>cases e2
      · rw[cP (by simpa using hi),iw,aX] at e2;rw[cP fu] at e1
        cases ej:js[i-own.length]? with
        |none=>rw[ej] at e2;cases e2
        |some j=>
          rw[ej] at e2;have cp:=hcap _ x j e1 ej;have e2':σ[j]?=some (some v):=Bs (bS e2);obtain⟨m,hn,hl⟩:=I2.loc;obtain⟨u,r,l⟩:=hl j x v cp.at_ e2' (cp.out.elim (λ z=>.inr (.inl z)) λ z=>.inr (.inr z));refine⟨u,r,.inr ⟨cp.inn,?_⟩⟩;obtain⟨c,ec⟩:=hhas x cp.inn
          rcases l with ⟨k,_⟩|⟨_,c',ec',z⟩
          · have k:X.env.scope.names.lookup x=some .local:=k
            rcases cp.out with q|q<;>rw[q] at k<;>cases k
          · rw[hcl x c ec] at ec';cases ec';obtain⟨o,ho,hd⟩:=z;exact⟨c,ec,o,old _ _ ho,hd⟩
    · rw[hYc] at e;obtain⟨v,o,ho,hd⟩:=I2.cell x c (hcl x c e);exact⟨v,o,old _ _ ho,hd⟩
    · rw[hYc] at e;exact I2.freeC x c (hcl x c e)
    · rw[hYp] at hp;rw[hYl,hYf]
      rcases bO.mp hp with z|z
      · obtain⟨a,b,c,d,f⟩:=pinOk p (iZ _ z);exact⟨old _ _ a,b,c,d,f⟩
      · rcases bO.mp z with z|z
        · obtain⟨a,b,c,d,f⟩:=pinOk p (bz _ z);exact⟨old _ _ a,b,c,d,f⟩
        · have e:p=_:=bd.mp z;subst e;exact⟨hacc,hfresh _ (ar _),hDC,λ z=>absurd (stkL _ z) (cg _),λ v z=>by cases z⟩
    · subst hX;unfold cQ;show _=(own++fv).length;simp[hlen]
  have hYprog:Y.prog=X.prog:=by subst hX;rfl
  have hYw:Y.w=X.w:=by subst hX;rfl
  have hYK:Y.K=X.K:=by subst hX;rfl
  have hYA:Y.A=X.A:=by subst hX;rfl
  have hYcalm:Y.calm=true:=by subst hX;exact hc
  have hYxe:Y.xe=λ _ _=>False:=by subst hX;rfl
  have hYenv:Y.env=compEnvC scope cl hL.objs.size X.env:=by subst hX;rfl
  have hg':=hg hL.objs.size fp s2 H2;have he':=he hL.objs.size fp s2 H2;have ht':=ht hL.objs.size fp s2 H2;rw[hX] at hg' he' ht'
  have fpOk:∀ {H':Hp}{pn:LO},(∀b∈fp,H' b=none)->(∀p∈pn,p.1=s2.heap.objs.size\/p∈pins)->∀b∈fp,gC Y pn H' b:=λ hn hp b hb=>by
    refine⟨hn b hb,by rw[hYl];exact ltC b (fpL b hb),?_,.inl (by rw[hYx];exact hb),λ x c e=>?_,λ p hq=>?_⟩
    · rw[hYf];intro hz
      rcases aG.mp (I2.stkSub b hz) with z|z
      · exact(f2 b hb).2.1 z
      · exact(f2 b hb).2.2.1 z
    · rw[hYc] at e;exact(f2 b hb).2.2.2.2.1 x c (hcl x c e)
    · rw[hYp] at hq
      rcases bO.mp hq with z|z
      · exact(f2 b hb).2.2.2.2.2 p (iZ _ z)
      · rcases hp p z with q|q
        · rw[q];exact bx (aK (fpL b hb))
        · exact(f2 b hb).2.2.2.2.2 p (bz _ q)
  have loop:∀s₃:Shared,s₃={ s2 with heap:=h₁,toks:=s2.toks+([]:List (Str×Value)).length } ->
      codeAny (model X.prog X.w) X.A (.compLoop (.ListComp elt [⟨tg,iter,ifs,0⟩] scope pos) 0 (.ref it) (.ref s2.heap.objs.size) (compEnvC scope cl hL.objs.size X.env))
        (compPost (model X.prog X.w) X.A X.xe use QQ (.ref s2.heap.objs.size) hL.objs.size) s₃:=by
    rintro s₃ rfl
    refine lp.1 (λ n s'=>∃i ys its k σ' H',Inv Y (pins++[(s2.heap.objs.size,{ cls:=.type "list",data:=.seq (its:LV).toArray k })]) σ' H' s'/\tn i s'.heap/\(∀b∈fp,H' b=none)/\Vals ys its/\ys.length<=sizeLine/\W i n ys σ' H') ?_ m0
      ⟨0,[],[],0,_,H2,I3,T.keep _ _ _ st2 λ b _ o e=>old b o e,λ b hb=>(f2 b hb).1,.nil,bC _,w0⟩
    rintro n s4 ⟨i,ys,its,k,σ4,H4,I4,st4,fr4,rv,hz,w4⟩
    have pinD:∀p∈(pins++[(s2.heap.objs.size,({ cls:=.type "list",data:=.seq (its:LV).toArray k }:Obj))]),p.1=s2.heap.objs.size\/p∈pins:=λ p hp=>by
      rcases bO.mp hp with z|z
      · exact .inr z
      · rw[bd.mp z];exact .inl rfl
    have F4:=fpOk (pn:=pins++[(s2.heap.objs.size,{ cls:=.type "list",data:=.seq (its:LV).toArray k })]) fr4 pinD
    rcases turn i n ys σ4 H4 w4 with ⟨stop,qn⟩|⟨go,hlt,N,hN,step⟩
    · have d:=T.done Y hYprog hYw hYK hYcalm i _ s4 σ4 H4 (λ _ _=>False) I4 F4 st4 stop;rw[hYA] at d;refine thn d λ r s5 ⟨hr,I5⟩=>?_;subst hr;obtain⟨m,hn,_⟩:=id I5.loc;rw[hYl] at hn;have hD:=I5.pin (s2.heap.objs.size,{ cls:=.type "list",data:=.seq (its:LV).toArray k }) (bz _ (bz _ (bd.mpr rfl)));have hDn:H4 s2.heap.objs.size=none:=hD.2.1;have kp:∀b o,b≠hL.objs.size->s5.heap.get? b=some o->s5.heap.get? b=some o:=λ b o _ e=>e;have B:=I5.base;rw[hYH,hYs,hYx,hYf] at B;have s2C:∀b o,s2.heap.get? b=some o->b≠hL.objs.size:=λ b o e=>ltC b (aC e);have trk:∀b u,H4 b=some u->b≠s2.heap.objs.size:=λ b u e z=>by rw[z,hDn] at e;cases e
      have trC:∀b u,H4 b=some u->b≠hL.objs.size:=λ b u e z=>by
        have:=I5.free;rw[hYl,<- z,e] at this;cases this
      have hH2:∀b u,H2 b=some u->b≠s2.heap.objs.size:=λ b u e z=>by rw[z,hfresh _ (ar _)] at e;cases e
      have IX:Inv X pins σ (upd H4 s2.heap.objs.size (.lst ys)) s5:=by
       refine I2.call' (ch:=fp) (by show s5.os=s2.os;rw[I5.os,hYs]) ⟨λ b o e n hb hx=>kp b o (s2C b o e) (B.keep b o e n hb hx),λ b o e n hb hx=>?_,λ b o e n hx=>?_,λ b o e hx=>?_,λ b xs e=>?_,λ b o u e=>?_,λ b ps e=>?_⟩ ?_ I5.bare (λ b hb=>⟨(f2 b hb).2.2.2.1,(f2 b hb).2.1,(f2 b hb).2.2.2.2.1,(f2 b hb).2.2.2.2.2⟩)
       · obtain⟨sl,q⟩:=B.slot b o e n hb hx;exact⟨sl,kp b _ (s2C b o e) q⟩
       · rw[aL (aK (aC e))];exact B.free b o e n hx
       · obtain⟨o',q⟩:=B.there b o e hx;exact⟨o',kp b o' (s2C b o e) q⟩
       · rw[aL (hH2 b _ e)];exact B.tups b xs e
       · rw[aL (hH2 b _ e)];exact B.frzs b o u e
       · obtain⟨more,q⟩:=B.tbls b ps e;exact⟨more,by rw[aL (hH2 b _ e)];exact q⟩
       · intro b u e;by_cases hb:b=s2.heap.objs.size
         · subst hb;rw[cV] at e;cases e;exact⟨hz,its,k,rv,kp _ _ hDC hD.1⟩
         · rw[aL hb] at e;have okb:=I5.hok b u e;rw[hYprog,hYw] at okb;refine okb.stay (λ c v hc q=>kp c v ?_ q) (λ c q=>by rw[aL (trk c _ q)];exact q) λ c xs q=>by rw[aL (trk c _ q)];exact q
           rcases hc with z|z
           · rw[z];exact trC b u e
           · exact trC c _ z
      have zC:upd H4 s2.heap.objs.size (.lst ys) hL.objs.size=none:=by
        rw[aL (bx hDC)];have:=I5.free
        rwa [hYl] at this
      exact fin s2.heap.objs.size hL.objs.size s5 _ _ IX zC (bx (ltC _ I2.lt)) (by have:=I2.sz;lia) (λ x c e=>ltC c (by obtain⟨v,q⟩:=I2.cell x c e;exact q.lt)) (λ p hp=>ltC _ (pinL p hp)) ⟨m,hn⟩ (qn _ hDn)
    · have d:=T.item Y hYprog hYw hYK hYcalm i _ s4 σ4 H4 (λ _ _=>False) I4 F4 st4 go;rw[hYA] at d;refine thn d λ r s5 ⟨u,hr,h5⟩=>?_;subst hr;refine thn h5 λ _ s6 ⟨x,H6,I6,r6,y6,st6,fr6⟩=>?_;have I6':=I6.pinned (fpOk (pn:=pins++[(s2.heap.objs.size,{ cls:=.type "list",data:=.seq (its:LV).toArray k })]) fr6 pinD) (T.obj _ _ st6);have d7:=hg' _ s6 σ4 H6 x u _ I6' r6 (step x H6 y6);rw[hYprog,hYw,hYA,hYxe,hYenv] at d7;refine thn d7 λ _ s7 ⟨σ7,H7,I7,q7⟩=>?_;have dt:=ht' _ s7 σ7 H7 _ I7 q7;rw[hYprog,hYw,hYA,hYenv] at dt;refine lp.2 dt λ bb s7 ⟨H7,I7,q7⟩=>?_
      cases bb with
      |false=>
        obtain⟨m',hm,w8⟩:=hN _ _ _ q7;have tn8:tn (i+1) s7.heap:=T.keep _ _ _ st6 λ b hb o e=>(I7.pin (b,o) (bz _ (bz _ (jf hb e)))).1
        have fr8:∀b∈fp,H7 b=none:=λ b hb=>by
          obtain⟨o,e,d⟩:=T.obj _ _ st6 b hb;exact(I7.pin (b,o) (bz _ (bz _ (jf hb e)))).2.1
        exact⟨m',hm,i+1,ys,its,k,σ7,H7,I7.unpinned,tn8,fr8,rv,hz,w8⟩
      |true=>
        have q7:te σ7 H7 _:=q7;show wpAny _ _ (eval elt _) _ _ s7;have d8:=he' _ s7 σ7 H7 _ I7 q7;rw[hYprog,hYw,hYA,hYxe,hYenv] at d8;refine thn d8 λ u8 s8 ⟨v8,H8,I8,r8,n8⟩=>?_;obtain⟨m',hm,w8⟩:=hN _ _ _ n8;have pD:=I8.pin (s2.heap.objs.size,{ cls:=.type "list",data:=.seq (its:LV).toArray k }) (bz _ (iZ _ (bz _ (bd.mpr rfl))));have tn8:tn (i+1) s8.heap:=T.keep _ _ _ st6 λ b hb o e=>(I8.pin (b,o) (bz _ (bz _ (jf hb e)))).1
        have fr8:∀b∈fp,H8 b=none:=λ b hb=>by
          obtain⟨o,e,d⟩:=T.obj _ _ st6 b hb;exact(I8.pin (b,o) (bz _ (bz _ (jf hb e)))).2.1
        have J8:Inv Y pins σ7 H8 s8:=I8.unpinned.unpinned;have eD:s8.heap.get? s2.heap.objs.size=some { cls:=.type "list",data:=.seq its.toArray k }:=pD.1;refine gG s1h ⟨_,eD,O⟩ s0s (s0d _ _) (PySem.list_append _ its.toArray k u8 (by rw[aO,<- rv.length];lia)) ⟨eD,?_⟩;have other:∀b o,b≠s2.heap.objs.size->s8.heap.get? b=some o->(s8.heap.update s2.heap.objs.size (Obj.mapSeq λ xs=>xs.push u8)).get? b=some o:=λ b o nb e=>(dB s8.heap _ (bx nb)).trans e
        have J9:=J8.turned (t':=s8.toks) (it:=s2.heap.objs.size) (h':=s8.heap.update s2.heap.objs.size (Obj.mapSeq λ xs=>xs.push u8)) other pD.2.1 (by rw[hYl];exact hDC) (.inr (by rw[hYs];exact ar _))
          (λ x c e=>by rw[hYc] at e;exact aK (cellL x c e)) (λ p hp=>by rw[hYp] at hp;exact aK (pinL p hp))
        have ep:(its.toArray.push u8)=(its++[u8]).toArray:=pv
        obtain⟨kk,upD⟩:∃kk,(s8.heap.update s2.heap.objs.size (Obj.mapSeq λ xs=>xs.push u8)).get? s2.heap.objs.size=some { cls:=.type "list",data:=.seq (its++[u8]).toArray kk }:=by
          have z:=PySem.IsL.update eD (λ xs=>xs.push u8);rw[ep] at z;exact⟨_,z⟩
        refine⟨m',hm,i+1,ys++[v8],its++[u8],kk,σ7,H8,J9.pins_of λ p hp=>?_,T.keep _ _ _ tn8 λ b hb o e=>other b o (aK (fpL b hb)) e,fr8,rv.append (.cons r8 .nil),?_,w8⟩
        · rcases bO.mp hp with z|z
          · exact J9.pin p (bz _ z)
          · rw[bd.mp z];exact⟨upD,pD.2.1,by rw[hYl];exact hDC,by rw[hYf];exact λ z=>absurd (stkL _ z) (cg _),λ v z=>by cases z⟩
        · rw[aQ,fF];lia
  exact codeAny_compStart_list (loop _ rfl) (T.self _ 0 _ _ _ (T.keep _ _ _ st2 λ b _ o e=>old b o e) (loop _ rfl))
def Bu:iz wi k js g (λ σ H K=>K true H) te=ju wi k js g te:=by
 unfold iz ju;simp only[dZ]
def pm0:PM X tN (λ σ H K=>K true H):=λ _ _ _ H _ I k=>⟨H,I,k⟩
theorem tP{X:Cx}{elt tg iter:Expr}{cl:LA}{own fv:List Str}{js:List Nat}
  (hc:X.calm=true) (hi:PI X tg iter wi) (hclos:closureFor scope X.env=pure cl) (hcell:∀y∈scope.names,y.2≠.cell) (hkind:scope.kind=.function)
  (hnames:∀y∈scope.names,y.2=.local->scope.names.lookup y.1=some .local)
  (hcl:∀x c,cl.lookup x=some c->X.env.cells.lookup x=some c)
  (hhas:∀x,((relabel scope X.env).names.lookup x=some .cell\/(relabel scope X.env).names.lookup x=some .free)->∃c,cl.lookup x=some c)
  (hlen:js.length=fv.length) (hcap:∀(i:Nat) x j,fv[i]?=some x->js[i]?=some j->Cap X scope cl x j)
  (hg:∀(C:Addr) (ex:List Addr) (s:Shared) (H:Hp),PG (bh X (own++fv) scope cl C ex s H) tg g)
  (he:∀(C:Addr) (ex:List Addr) (s:Shared) (H:Hp),PE (bh X (own++fv) scope cl C ex s H) elt te)
  (hs:∀x,foldedSetIterable iter X.env x=pure x)(I:Inv X pins σ H s) (h:ju wi own.length js g te σ H Q)
  (fin:∀(a C:Addr) (s5:Shared) (H5:Hp) (fl:Flow),Inv X pins σ H5 s5->H5 C=none->C≠X.env.locals->X.s₀.heap.objs.size<=C->(∀x c,X.env.cells.lookup x=some c->c≠C)->(∀p∈X.pn++pins,p.1≠C)->(∃m,s5.heap.Ns C m)->Q (.ref a) H5->compPost (model X.prog X.w) X.A X.xe use QQ (.ref a) C (.ok fl) s5) :
  wpAny (model X.prog X.w) X.A (comprehension (.ListComp elt [⟨tg,iter,[],0⟩] scope pos) scope X.env fpos (newList []) false (firstIter [⟨tg,iter,[],0⟩] X.env) use) QQ X.xe s :=
 tO hc hi hclos hcell hkind hnames hcl hhas hlen hcap hg he (λ _ _ _ _=>pm0) Bt hs I (by rw[Bu];exact h) fin
theorem Bv{X:Cx}{elt tg iter:Expr}{cl:LA}{own fv:List Str}{js:List Nat}
  (hc:X.calm=true) (hi:PI X tg iter wi) (hclos:closureFor scope X.env=pure cl) (hcell:∀y∈scope.names,y.2≠.cell) (hkind:scope.kind=.function)
  (hnames:∀y∈scope.names,y.2=.local->scope.names.lookup y.1=some .local)
  (hcl:∀x c,cl.lookup x=some c->X.env.cells.lookup x=some c)
  (hhas:∀x,((relabel scope X.env).names.lookup x=some .cell\/(relabel scope X.env).names.lookup x=some .free)->∃c,cl.lookup x=some c)
  (hlen:js.length=fv.length) (hcap:∀(i:Nat) x j,fv[i]?=some x->js[i]?=some j->Cap X scope cl x j)
  (hg:∀(C:Addr) (ex:List Addr) (s:Shared) (H:Hp),PG (bh X (own++fv) scope cl C ex s H) tg g)
  (he:∀(C:Addr) (ex:List Addr) (s:Shared) (H:Hp),PE (bh X (own++fv) scope cl C ex s H) elt te)
  (hs:∀x,foldedSetIterable iter X.env x=pure x:=by intro _;rfl) :
  PE X (.ListComp elt [⟨tg,iter,[],0⟩] scope pos) (ju wi own.length js g te):=by
 intro pins s σ H Q I h;rw[eval_ListComp];refine tP (use:=none) (QQ:=EP X pins σ Q) hc hi hclos hcell hkind hnames hcl hhas hlen hcap hg he hs I h λ a C s5 H5 fl I5 zC zL zS zc zp ⟨m,hn⟩ q=>⟨m,hn,λ h' sc=>?_⟩;exact⟨.ref a,H5,I5.turned (t':=s5.toks) (it:=C) (λ d o nd e=>sc.extBut d o nd e) zC zL (.inr zS) zc zp,O,q⟩
section
variable {P:Program}{w:World}{K:FG}{mg:SV}{base:Heap}{N:List Str}{qual:Str}{scope:Scope}{f:Addr}{cd:Value}{A:Around}{outer:List Env}{s:Shared}{H:Hp}{E:XK}
end
section
variable {P:Program}{w:World}{K:FG}{mg:SV}{base:Heap}
end
variable {X:Cx}
section
variable {pins:LO}{σ:St}{H:Hp}{s:Shared}
theorem Inv.track(I:Inv X pins σ H s)(hn:H a=none)(new:ObjOk X.prog X.w (upd H a o) s.heap a o)(h1:a≠X.env.locals)(h2:∀x c,X.env.cells.lookup x=some c->c≠a)(h3:∀p∈X.pn++pins,p.1≠a)
  (h4:X.s₀.heap.get? a=none):Inv X pins σ (upd H a o) s:=by
 have ne:∀b u,H b=some u->b≠a:=λ b u e z=>by rw[z,hn] at e;cases e
 have n0:∀b u,X.s₀.heap.get? b=some u->b≠a:=λ b u e z=>by rw[z,h4] at e;cases e
 refine⟨I.ok,I.os,I.bare,⟨I.base.keep,I.base.slot,λ b u e n hx=>?_,I.base.there,λ b xs e=>?_,λ b u v e=>?_,λ b ps e=>?_⟩,I.loc,I.cell,?_,λ x c e=>?_,λ p hp=>?_,λ b u e=>?_,I.len⟩
 ·rw[aL (n0 b u e)];exact I.base.free b u e n hx
 ·have q:=I.base.tups b xs e;rw[aL (ne b _ q)];exact q
 ·have q:=I.base.frzs b u v e;rw[aL (ne b _ q)];exact q
 ·obtain⟨more,q⟩:=I.base.tbls b ps e;exact⟨more,by rw[aL (ne b _ q)];exact q⟩
 ·rw[aL (bx h1)];exact I.free
 ·rw[aL (h2 x c e)];exact I.freeC x c e
 ·obtain⟨e,n,ne,nf,d⟩:=I.pin p hp;exact⟨e,by rw[aL (h3 p hp)];exact n,ne,nf,d⟩
 ·by_cases hb:b=a
  ·subst hb;rw[cV] at e;cases e;exact new
  ·rw[aL hb] at e;exact(I.hok b u e).stay (λ c v _ q=>q) (λ c q=>by rw[aL (ne c _ q)];exact q) λ c xs q=>by rw[aL (ne c _ q)];exact q
end
noncomputable abbrev Cx.more(X:Cx)(xe:VS)(pn:LO):Cx:={ X with xe:=xe,pn:=pn }
def Cx.Ok.more{X:Cx}(ok:X.Ok)(xe:VS)(pn:LO):(X.more xe pn).Ok :=
 ⟨ok.mod,ok.kind,ok.glob,ok.blt,ok.above,ok.inj,ok.has,ok.cab,ok.hd,ok.frames,ok.stk,ok.exf,ok.bs,ok.bsz,ok.noex,ok.exfs,ok.funs,ok.frf⟩
section
variable {CX:CXT}{k:Nat}{f:Addr}{fd:FuncData}{ps:List Str}{sp:Sp}{dvs:List V}{ds:LV}{EE:St->XK}{x:Str}{p pos:Pos}{e:Expr}{es:List Expr}{t:TA}
end
structure Callee (P:Program)(w:World)(K:FG)(mg:SV)(base:Heap)(CX:CXT)(k:Nat)(x:Str)(ps:List Str)(sp:Sp):Prop where
 has:∃(f:Addr) (fd:FuncData),FnOk P w K mg base CX k f fd ps sp/\mg x=some (.ref f)/\W.keepIn K (.ref f)=true/\Binds K fd ps []
theorem Callee.mk'{K:FG}{mg:SV}{st:Stmt}(F:Fun K x qual st f fd)(m:mg x=some (.ref f))(b:Binds K fd ps [])
  (ok:FnOk P w K mg base CX k f fd ps sp):Callee P w K mg base CX k x ps sp:=⟨⟨f,fd,ok,m,F.kp,b⟩⟩
def Callee.mono{K:FG}{j k:Nat}(c:Callee P w K mg base CX j x ps sp)(h:j<=k):Callee P w K mg base CX k x ps sp :=
 let ⟨f,fd,ok,m,kp,b⟩:=c.has;⟨⟨f,fd,ok.mono h,m,kp,b⟩⟩
section
variable {CX:CXT}{k:Nat}{ps:List Str}{sp:Sp}{E:XK}{x:Str}{p pos:Pos}{e:Expr}{es:List Expr}{t:TA}
theorem Bw(c:Callee X.prog X.w X.K X.mg X.base CX k x ps sp)(hr:Room k X.A)(hg:Gl X x)(hx:lP CX X E)(ha:PA X (e::es) t)(hdb:(x == ("__debug__" : Str))=false:=by decide)
  (he:starEach (e::es) X.env=(false,eval e X.env)::starEach es X.env:=by rfl) (hpl:(backTo pos (starEach es X.env)).any (·.1)=false:=by rfl):PE X (.Call (.Name x p) (e::es) [] pos) (sU sp [] E t):=by
 obtain⟨f,fd,ok,m,kp,b⟩:=c.has;exact Aw ok hr hg m kp b .nil hx ha hdb he hpl
end
noncomputable def Bx(i j:Int):Prop:=j≠0/\-18446744073709551616<j/\j<18446744073709551616
def By{y:Int}(h0:-18446744073709551616<y)(h1:y<18446744073709551616):y.natAbs.log2<9000:=by
 by_cases z:y.natAbs=0
 ·rw[z];decide
 ·exact bR ((Nat.log2_lt z).mpr (show y.natAbs<2 ^ 64 by lia)) on
def Bz:OpR X (binaryOp .FloorDiv) (rI Bx λ i j=>.int (i.fdiv j)):=opI λ _ _ _ _ _ _ _ hc q=>floordiv_int hc.1 q (.inl (tQ (By hc.2.1 hc.2.2)))
section
variable {K:FG}
end
noncomputable def pq(t n:String):Bool:=t == n || (t == "bool" && n == "int")
def BA{K:FG}(e:(if (Value.type t == Value.type n)=true then some true else if W.kitMeta n=true then (fastBuiltinMro t).map (·.contains (.type n)) else none)=some b):W.kitOne K (.type t) (.type n)=some b:=by
 unfold W.kitOne;split at e
 ·rename_i h;rw[if_pos h];exact e
 ·rename_i h;rw[if_neg h];exact e
def small{n:Nat}(h:n<=1000):n<=sizeLine:=cj (aR h)
end _L
namespace _L
open PySem PySem.Spec PyProof.Rows PySem.W PySem.Calls
section
variable {prog:Program}{w:World}{A:Around}{E:VS}{K:FG}{h:Heap}{g:Array GenState}{d:Drawn}{t:Nat}{os:OsState}{a C:Addr}{ox:Obj}
end
variable {X:Cx}
noncomputable def jv(t:Addr)(i:Int):Obj:={ cls:=.type "reversed",data:=.fields #[.ref t,rawInt i] }
noncomputable def IsRv(h:Heap)(a t:Addr)(i:Int):Prop:=∃o,h.get? a=some o/\o.cls=.type "reversed" /\ o.data=.fields #[.ref t,rawInt i]
def IsRv.typeIs{s:Shared}(x:IsRv s.heap a t i):s.TypeIs (.ref a) "reversed" := let ⟨o,ho,hc,_⟩:=x;⟨o,ho,hc⟩
def BB:typeLookup (.type "tuple") "__reversed__"=pure none:=by rw[dM,dN];kernel_rfl
def tR:typeLookup (.type "tuple") "__getitem__"=pure (some (.builtin "tuple.__getitem__")):=by rw[dM,dN];kernel_rfl
def BC:isSubtype (.type "tuple") (.type "dict")=pure false:=by rw[fH];kernel_rfl
def BD:Slot "reversed" "__init__" "object.__init__" :=
 .of (owner := "object") (n := "__init__") (by rw[dM,dN];kernel_rfl) (by decide +kernel) (by decide +kernel) (by decide +kernel) (.inl (by decide +kernel)) (by rw[fH];kernel_rfl)
def rv_next:Slot "reversed" "__next__" "reversed.__next__" :=
 .of (owner := "reversed") (n := "__next__") (by rw[dM,dN];kernel_rfl) (by decide +kernel) (by decide +kernel) (by decide +kernel) (.inl (by decide +kernel)) (by rw[fH];kernel_rfl)
def tS:Slot "reversed" "__iter__" "reversed.__iter__" :=
 .of (owner := "reversed") (n := "__iter__") (by rw[dM,dN];kernel_rfl) (by decide +kernel) (by decide +kernel) (by decide +kernel) (.inl (by decide +kernel)) (by rw[fH];kernel_rfl)
def tT:entryFor table "reversed.__next__"=some Builtin.«reversed.__next__»:=mh (by kernel_rfl)
def BE:entryFor table "reversed.__iter__"=some Builtin.«dict_keyiterator.__iter__» :=
 s0k (id' := "dict_keyiterator.__iter__") (by kernel_rfl) (by first|rfl|decide +kernel) (by decide +kernel) (by kernel_rfl)
def tU(a:Value):argsOk "reversed.__next__" ⟨[a],[]⟩:=by unfold argsOk;kernel_rfl
def BF(a:Value):argsOk "reversed.__iter__" ⟨[a],[]⟩:=by unfold argsOk;kernel_rfl
def BG:TypeCalled "reversed" "reversed.__new__" "object.__init__" :=
 ⟨by decide +kernel,PySem.F.create_reversed,⟨_,_,PySem.F.mro_reversed⟩,PySem.F.made_reversed,PySem.F.plain_reversed_new,PySem.F.sub_reversed_self,BD⟩
theorem BH(t:Addr)(items:Array Value)(hz:(items.size:Int)<2 ^ 63):Meets (Builtin.«reversed.__new__» ⟨[.type "reversed",.ref t],[]⟩)
  (λ _ R s=>IsTup s.heap t items/\∀tk,R (.ok (.ret (.ref s.heap.objs.size))) { s with heap:=s.heap.push (jv t ((items.size:Int)-1)),toks:=tk }) :=
 .of_wp λ prog w A R s h=>by
  obtain⟨ht,h⟩:=h;have hT:s.TypeIs (.ref t) "tuple" := ht.typeIs;unfold Builtin.«reversed.__new__»;refine af (cK (PySem.newClass_reversed _) ?_);try dsimp only
  refine af (cK (a:=()) (by first|rfl|kernel_rfl) ?_);refine af (cK (a:=()) (by first|rfl|kernel_rfl) ?_);try dsimp only
  refine af (ga hT BB ?_);try dsimp only
  refine af ?_
  k_delta "hasItemSlot"
  refine af (gH (T := "tuple") (b:=false) hT BC ?_);rw[if_neg br];refine af (ga hT tR ?_);dsimp only;rw[if_pos (by decide +kernel)];refine ag ?_;rw[if_neg on];refine af (s1g ht hz ?_);refine af (cK (a:=some (items.size:Int)) rfl ?_);dsimp only;refine af ?_;unfold Builtin.SmallTypes.newRecord;refine bF (ag ⟨_,O,h _⟩)
section
variable {prog:Program}{w:World}{A:Around}{E:VS}{s:Shared}
theorem BJ{Q:VS}(ht:IsTup s.heap t items)(hz:(items.size:Int)<2 ^ 63)
  (h:∀tk,Q (.ref s.heap.objs.size) { s with heap:=s.heap.push (jv t ((items.size:Int)-1)),toks:=tk }):wpAny (model prog w) A (call (.type "reversed") [.ref t]) Q E s :=
 s1p BG on (PySem.F.typeCall_reversed_1 _) (PySem.F.newCall_reversed_1 _) (λ obj=>kD obj _) PySem.F.entry_reversed_new (BH t items hz)
  ⟨ht,λ tk=>⟨⟨_,aM _ rfl,rfl⟩,h tk⟩⟩
theorem BK{i:Nat}{Q:Option Value->Shared->Prop}(hit:IsRv s.heap it t (i:Int))(ht:IsTup s.heap t items)(hx:items[i]?=some x)(hz:(items.size:Int)<2 ^ 63)
  (hQ:∀h' tk,IsRv h' it t ((i:Int)-1)->Heap.SameBut it s.heap h'->Q (some x) { s with heap:=h',toks:=tk }):wpAny (model prog w) A (pyNext (.ref it)) Q E s:=by
 obtain⟨o,ho,hc,hd⟩:=id hit;have hT:s.TypeIs (.ref t) "tuple" := ht.typeIs;have hi:i<items.size:=(pr.mp hx).1;unfold pyNext;refine af (iA (fY (name:=Str.ofString "__next__") hit.typeIs rv_next (cZ rv_next hit.typeIs tT ?_ (tU _))));unfold Builtin.«reversed.__next__»;refine af (cK (a:=(Value.ref it,[])) rfl ?_);try dsimp only
 refine af (cn ho hd (x:=.ref t) rfl ?_);refine af (cn ho hd (x:=rawInt (i:Int)) rfl ?_);show wpAny _ _ (if (i:Int)<0 then _ else _) _ _ s;rw[if_neg fu];refine af (ga hT tR ?_);rw[if_neg on];refine af (wpAny_mkInt ?_);refine af (iA (getItem_tuple (k:=(i:Int)) (j:=i) ht fu fu (by simp[seqIndex?];lia) hx ?_));dsimp only;refine af (cn ho hd (x:=rawInt (i:Int)) rfl ?_);show wpAny _ _ (setField (.ref it) 1 (rawInt ((i:Int)-1)) >>= _) _ _ _;refine af (kE ho hd pv ?_);refine ag ⟨x,O,ag (hQ _ _ ?_ (jw ..))⟩;exact⟨_,eE _ ho (py (jx hd _)),(Obj.cls_mapFields ..).trans hc,by rw[jx hd];simp⟩
def BL{Q:Option Value->Shared->Prop}(hh:A.handled=none)(hit:IsRv s.heap it t (-1))(hQ:∀h' tk,Heap.ExtBut it s.heap h'->Q none { s with heap:=h',toks:=tk }):wpAny (model prog w) A (pyNext (.ref it)) Q E s:=by
 obtain⟨o,ho,hc,hd⟩:=id hit;unfold pyNext;refine af (iA (fY (name:=Str.ofString "__next__") hit.typeIs rv_next (cZ rv_next hit.typeIs tT ?_ (tU _))));unfold Builtin.«reversed.__next__»;refine af (cK (a:=(Value.ref it,[])) rfl ?_);try dsimp only
 refine af (cn ho hd (x:=.ref t) rfl ?_);refine af (cn ho hd (x:=rawInt (-1)) rfl ?_);show wpAny _ _ (if (-1:Int)<0 then _ else _) _ _ s;rw[if_pos on];refine af (fI ?_);refine af ?_
 k_delta "reversedEnd"
 refine af (kE ho hd pv ?_);refine kE (eE _ ho (py (jx hd _))) (jx hd _) pv ?_;refine af ?_
 have other:∀b u,b≠it->s.heap.get? b=some u->((s.heap.update it (Obj.mapFields λ x=>x.setIfInBounds 1 (rawInt (-1)))).update it (Obj.mapFields λ x=>x.setIfInBounds 0 Value.none)).get? b=some u:=λ b u nb e=>by
  rw[dB _ _ (bx nb),dB _ _ (bx nb)];exact e
 generalize ((s.heap.update it (Obj.mapFields λ x=>x.setIfInBounds 1 (rawInt (-1)))).update it (Obj.mapFields λ x=>x.setIfInBounds 0 Value.none))=hU at *;show wpAny _ _ (newExc (.type "StopIteration") [] >>= _) _ _ _;refine af ?_;simp only[newExc,newTuple];refine af (bF ?_ (by size_fits));refine af (m:=firstArgMember _ _) (cK (a:=Value.none) (by first|rfl|(simp only[firstArgMember];rfl)) ?_);refine bF ?_ (by size_fits);simp only[raiseNew];refine af (s1i ?_);rw[show A.in1.handled=none from hh];refine af (ag (s1t ?_));refine af (gH (T := "StopIteration") (b:=true) ⟨_,aM _ rfl,O⟩ mi ?_);exact ag (hQ _ _ λ b u nb e=>aA _ (aA _ (other b u nb e)))
def BM{Q:VS}(hit:IsRv s.heap it t i)(h:Q (.ref it) s):wpAny (model prog w) A (pyIter (.ref it)) Q E s:=by
 refine pA hit.typeIs tS (cZ tS hit.typeIs BE ?_ (BF _));show wpAny _ _ (ret (.ref it)) _ _ s;exact ag ⟨_,O,"reversed",_,hit.typeIs,rv_next.lookup,h⟩
end
def tV:(sizeLine:Int)<2 ^ 63:=by rw[kr];decide
section
variable {tg:Expr}
end
def BO:typeLookup (.type "list_reverseiterator") "__len__"=pure none:=by rw[dM,dN];kernel_rfl
def BP:typeLookup (.type "list_reverseiterator") "__length_hint__"=pure (some (.builtin "list_reverseiterator.__length_hint__")):=by rw[dM,dN];kernel_rfl
section
variable {pg:Program}{wd:World}{B:Around}{X0:VS}{s0:Shared}{J:Addr}{fs ws:List Addr}{Gg:Array GenState->Array GenState->Prop}{m:Nat}{Pr:Nat->Value->Prop}{Sx:Nat->Shared->Prop}
theorem BQ{R:LV->Shared->Prop}(wk:WalksS pg wd B.in1 J fs ws Gg m Pr Sx)(ty:∀j z,Sx j z->z.TypeIs (.ref J) "list_reverseiterator")(z0:Sx 0 s0)(lt:∀b∈fs,b<s0.heap.objs.size)(mJ:J∈fs)(sm:m<=sizeLine)
  (fin:∀z' ac,Moved ws Gg s0 z'->ItemsOf Pr ac m->R ac.toList z'):wpAny (model pg wd) B (collect (.ref J)) R X0 s0:=by
 have out:s0.heap.objs.size ∉ fs:=λ q=>absurd (lt _ q) (cg _);have neJ:s0.heap.objs.size≠J:=by rintro rfl;exact out mJ
 let nu:Obj:={ cls:=.type "list",data:=.seq ([]:LV).toArray }
 unfold collect;refine af (kF (bV pE ?_));rw[cq pF _];show wpAny _ B.in1 (newList [] >>= λ q=>again (.builtin "list.__iadd__" ⟨[q,.ref J],[]⟩)) _ _ s0;refine af (bF ?_);refine ag ⟨bW jy _,bV pG ?_⟩;rw[cq jy _];have z1:=wk.frame 0 s0 (s0.heap.push nu) s0.toks z0 (ar _) λ b _ o e=>aA _ e;have at1:(s0.heap.push nu).get? s0.heap.objs.size=some nu:=aM _ rfl;have dif:Builtin.List.listSameRef (.ref s0.heap.objs.size) (.ref J)=false:=by simp[Builtin.List.listSameRef,neJ]
 show wpAny _ B.in1 (Builtin.List.listExtendWith (.ref s0.heap.objs.size) (.ref J) (.ref s0.heap.objs.size)) _ _ _;unfold Builtin.List.listExtendWith;refine af (eo (ty 0 _ z1) ?_);rw[if_neg (by rw[dif];decide)];refine af (wk.self 0 _ _ _ z1 ?_);refine af (bU ?_);unfold Builtin.List.listLengthHint;refine af (ga (ty 0 _ z1) BO ?_);show wpAny _ B.in1 (specialOf (Value.ref J) (Str.ofString "__length_hint__") >>= _) _ _ _;refine af (ga (ty 0 _ z1) BP ?_)
 (generalize hid:("list_reverseiterator.__length_hint__" : String)=id0;wp_delta;rw[show splitId id0=some ("list_reverseiterator","__length_hint__") from by subst hid;decide +kernel];subst hid)
 refine af (gH (b:=true) (ty 0 _ z1) (by rw[fH];kernel_rfl) ?_);refine ag ?_;rw[if_neg on];refine ag ⟨bW pH _,mj wk sm _ out _ m 0 _ _ _ rfl (bC _) z1 at1 (s0t Pr) λ z' ac cc mv at2 its=>?_⟩;show wpAny _ B (load s0.heap.objs.size >>= _) _ _ z';exact af (jd at2 (ag (fin z' ac (s0l (o:=nu) (tk:=s0.toks) mv (ar _)) its)))
theorem BR{R:VS}(wk:WalksS pg wd B.in1.in1 J fs ws Gg m Pr Sx)(ty:∀j z,Sx j z->z.TypeIs (.ref J) "list_reverseiterator")(z0:Sx 0 s0)(lt:∀b∈fs,b<s0.heap.objs.size)(mJ:J∈fs)(sm:m<=sizeLine)
  (fin:∀z' ac,Moved ws Gg s0 z'->ItemsOf Pr ac m->R (.ref z'.heap.objs.size) { z' with heap:=z'.heap.push { cls:=.type "tuple",data:=.seq ac } }) :
  codeAny (model pg wd) B (.call (.builtin "tuple.__new__") ⟨[.type "tuple",.ref J],[]⟩) (wants R X0) s0:=by
 refine kG ?_;show wpAny _ B.in1 (do checkBuiltinCall "tuple.__new__" ⟨[.type "tuple",.ref J],[]⟩;again (.builtin "tuple.__new__" ⟨[.type "tuple",.ref J],[]⟩)) _ _ s0;refine af (cK (pI _) (ag ⟨bW jz _,bV pJ ?_⟩));rw[cq jz _];have q1:=s0m;have q2:=pK;have q3:=s0n;have q4:=ty 0 s0 z0;wp_walk using eo q4,BQ (sm:=sm) wk ty z0 lt mJ;intro z' ac mv its;show wpAny _ _ (Builtin.Tuple.tupleExact ac.toList.toArray >>= λ q=>ret q) _ _ _;have e:ac.toList.toArray=ac:=pv;rw[e];unfold Builtin.Tuple.tupleExact;exact af (bF (ag (fin z' ac mv its)) (by show ac.size<=sizeLine;rw[its.1];exact sm))
theorem BS{R:VS}(wk:WalksS pg wd B.in1.in1.in1 J fs ws Gg m Pr Sx)(ty:∀j z,Sx j z->z.TypeIs (.ref J) "list_reverseiterator")(z0:Sx 0 s0)(lt:∀b∈fs,b<s0.heap.objs.size)(mJ:J∈fs)(sm:m<=sizeLine)
  (fin:∀z' ac,Moved ws Gg s0 z'->ItemsOf Pr ac m->R (.ref z'.heap.objs.size) { z' with heap:=z'.heap.push { cls:=.type "tuple",data:=.seq ac } }) :
  wpAny (model pg wd) B (call (.type "tuple") [.ref J]) R X0 s0 :=
 mq (Q₁:=λ ob z=>z.TypeIs ob "tuple" /\ R ob z) s0o (pL _) pM
  (BR (sm:=sm) wk ty z0 lt mJ λ z' ac mv its=>⟨⟨_,aM _ rfl,rfl⟩,fin z' ac mv its⟩)
  λ ob z q=>⟨q.1,kD ob _,pN F.called_tuple.init.lookup F.called_tuple.made on pg wd B.in1 _ z ⟨q.1,rfl,q.2⟩⟩
end
noncomputable def BU(K:FG)(te:TE):TE:=λ σ H Q=>te σ H λ x H1=>∃a xs,x=.ref a/\SqL K H1 a xs/\∀p,H1 p=none->Q (.ref p) (upd H1 p (.tup xs.reverse))
theorem BV{p1 p2 pos pos':Pos}(hc:X.calm=true)(ht:Gl X "tuple")(hr:Gl X "reversed")(mt:X.mg "tuple"=none)(mr:X.mg "reversed"=none)(he:PE X e te)(hs:starEach [e] X.env=[(false,eval e X.env)]:=by rfl) :
  PE X (.Call (.Name "tuple" p1) [.Call (.Name "reversed" p2) [e] [] pos'] [] pos) (BU X.K te):=by
 intro pins s σ H Q I h;refine Call_ (dA I ht mt boot_tuple (fD ?_ rfl rfl));refine lO ?_;have hA:=(cO he (pa_nil (X:=X)) hs) pos' pins s σ H (λ vs H1=>match vs with|[x]=>∃a xs,x=.ref a/\SqL X.K H1 a xs/\∀p,H1 p=none->Q (.ref p) (upd H1 p (.tup xs.reverse))|_=>False) I h;refine Call_ (dA I hr mr boot_reversed (fD (thn hA λ us s1 ⟨vs,H1,I1,r1,q1⟩=>?_) hs rfl))
 match vs,q1 with
 |[x],⟨a,xs,e,hq,q⟩=>
  subst e;obtain⟨u,rfl,ru⟩:=bL r1;cases (show u=Value.ref a from ru);obtain⟨its,rv,pl,hz⟩:=I1.list hq;have hl:=rv.length;refine call_reversed_list pl.isList ?_;refine lN ?_;have I2:Inv X pins σ H1 { s1 with heap:=s1.heap.push (revObj a ((its.toArray.size:Int)-1)) }:=I1.kept (t':=s1.toks) λ b o e=>aA _ e;have al:a<s1.heap.objs.size:=by obtain⟨o,ho,_⟩:=pl.isList;exact aC ho
  have hne:a≠s1.heap.objs.size:=aK al
  have ir:(s1.heap.push (revObj a ((its.toArray.size:Int)-1))).IsRevIter s1.heap.objs.size a ((its.toArray.size:Int)-1-((0:Nat):Int)):=by
   refine⟨_,aM _ rfl,O,?_⟩;have e:(its.toArray.size:Int)-1-((0:Nat):Int)=(its.toArray.size:Int)-1:=fu;rw[e];rfl
  have sz:(s1.heap.push (revObj a ((its.toArray.size:Int)-1))).objs.size=s1.heap.objs.size+1:=by simp[Heap.push]
  have ff:=I1.fpOk (ar s1.heap.objs.size) (I1.hok.fresh (ar _))
  refine BS (Walks.listRev (A:=X.A.in1.in1.in1) (I.ok.hd hc) s1.heap.objs.size a hne its.toArray).toS (λ j z q=>let ⟨o,ho,hk,_⟩:=q.2.1;⟨o,ho,hk⟩)
   ⟨bC _,ir,pl.isList.at λ o e=>aA _ e⟩ (λ b hb=>?_) (dz ..) (by simp only[aO];lia) λ z' ac mv io=>?_
  ·show b<(s1.heap.push (revObj a ((its.toArray.size:Int)-1))).objs.size;rw[sz];simp only[aG,aU,aY] at hb
   rcases hb with rfl|rfl
   ·exact fG _
   ·exact cJ al
  have I3:Inv X pins σ H1 z':=by
   obtain⟨zh,zg,zd,zt,zo⟩:=z';have e1:zg=s1.gens:=mv.gens;have e2:zd=s1.drawn:=mv.drawn;have e3:zo=s1.os:=mv.os;subst e1 e2 e3;obtain⟨f0,f1,f2,f3,f4,f5⟩:=ff;exact I1.turned (t':=zt) (λ b o hb e=>mv.heap b o (by simpa using hb) (aA _ e)) f0 f1 f3 f4 f5
  have er:ac=its.reverse.toArray:=by
   have sz2:ac.size=its.length:=by simpa using io.1
   apply Array.ext
   ·simp[sz2]
   ·intro j h1 h2;have q:=io.2 j _ (dO h1);simp only[aO,jA] at q;have q2:its.reverse[j]?=some ac[j]:=by rw[tW fu];exact q
    rw[s0e];exact(bS ((aF (by simpa using h2)).symm.trans q2)).symm
  subst er
  have I4:Inv X pins σ (upd H1 z'.heap.objs.size (.tup xs.reverse)) { z' with heap:=z'.heap.push { cls:=.type "tuple",data:=.seq its.reverse.toArray } } :=
   I3.laid (t':=z'.toks) (λ b o e=>aA _ e) (ar _) (show ObjOk X.prog X.w _ _ _ (.tup xs.reverse) from ⟨by simpa using hz,its.reverse,rv.reverse,TupO.new _ _⟩)
  exact⟨.ref z'.heap.objs.size,_,I4,O,q _ (I3.hok.fresh (ar _))⟩
noncomputable def BW(K:FG):R2:=λ x y H Q=>∃a b xs ys,x=.ref a/\y=.ref b/\SqT K H a xs/\SqT K H b ys/\xs.length+ys.length<=sizeLine /\
 (xs=[]->Q (.ref b) H)/\(xs≠[]->ys=[]->Q (.ref a) H)/\(xs≠[]->ys≠[]->∀p,H p=none->Q (.ref p) (upd H p (.tup (xs++ys))))
def BX:OpR X (binaryOp .Add) (BW X.K):=by
 intro pins s σ H x y v u Q I rx ry h;obtain⟨a,b,xs,ys,rfl,rfl,ha,hb,hz,q0,q1,q2⟩:=h;by_cases hx:xs=[]
 ·cases rx;cases ry;obtain⟨its,r1,p1,_⟩:=I.tuple ha;obtain⟨its2,r2,p2,_⟩:=I.tuple hb;have e1:its=[]:=r1.nil_iff.mpr hx;obtain⟨⟨c1,d1,z1,l1⟩,g1,hc1,n1,hd1⟩:=id p1;obtain⟨⟨c2,d2,z2,l2⟩,g2,hc2,n2,hd2⟩:=id p2;simp only at hc1 hd1 hc2 hd2;subst hc1 hd1 hc2 hd2
  exact lU ⟨_,g1,O⟩ ⟨_,g2,O⟩ oS s1d oU oV (oW _ _)
   (tuple_addW0 a b its.toArray its2.toArray n1 n2 d1 d2 l1 l2 (by simp[e1])) ⟨g1,g2,.ref b,H,I,rfl,q0 hx⟩
 ·exact AJ pins s σ H _ _ v u Q I rx ry ⟨a,b,xs,ys,O,O,ha,hb,hx,hz,q1 hx,q2 hx⟩
section
variable {pg:Program}{wd:World}{B:Around}{X0:VS}{s0:Shared}
theorem tX{R:VS}(p:s0.heap.IsTupleIter j t k)(q:s0.heap.IsTuple t its)(e:its[k]?=some x)
  (f:∀h',h'.IsTupleIter j t (k+1)->Heap.SameBut j s0.heap h'->R x { s0 with heap:=h' }):wpAny (model pg wd) B (Builtin.SmallTypes.nextOf (.ref j)) R X0 s0:=by
 obtain⟨o,g,c,d⟩:=id p;obtain⟨ot,gt,_,nt,dt⟩:=q;unfold Builtin.SmallTypes.nextOf;refine af (fY (name:=Str.ofString "__next__") p.typeIs mx (cZ mx p.typeIs tY ?_ (tZ _)));show wpAny _ _ (field (.ref j) 0 >>= _) _ _ s0;refine af (cn g d (x:=.ref t) rfl ?_);show wpAny _ _ (if (Value.ref t == Value.none)=true then _ else _) _ _ s0;rw[if_neg (show ¬((Value.ref t == Value.none)=true) from br)];show wpAny _ _ (field (.ref j) 1 >>= _) _ _ s0;refine af (cn g d (x:=.int k 0) rfl ?_);show wpAny _ _ (seqItems? (.ref t) >>= _) _ _ s0;refine af (fJ gt dt ?_);simp only[Int.toNat_natCast,e];refine af (kE g d pv (ag ⟨x,O,ag (f _ ?_ (jw ..))⟩));exact⟨_,eE _ g (py (jx d _)),(Obj.cls_mapFields ..).trans c,by rw[jx d];simp[rawInt]⟩
theorem pO(hh:B.handled=none)(p:s0.heap.IsTupleIter j t k)(q:s0.heap.IsTuple t its)(e:its[k]?=none)
  (f:∀h' z,Heap.ExtBut j s0.heap h'->(∃o,h'.get? z=some o/\o.cls=.type "StopIteration")->X0 (.ref z) { s0 with heap:=h' }):wpAny (model pg wd) B (Builtin.SmallTypes.nextOf (.ref j)) R X0 s0:=by
 obtain⟨o,g,c,d⟩:=id p;obtain⟨ot,gt,_,nt,dt⟩:=q;unfold Builtin.SmallTypes.nextOf;refine af (fY (name:=Str.ofString "__next__") p.typeIs mx (cZ mx p.typeIs tY ?_ (tZ _)));show wpAny _ _ (field (.ref j) 0 >>= _) _ _ s0;refine af (cn g d (x:=.ref t) rfl ?_);show wpAny _ _ (if (Value.ref t == Value.none)=true then _ else _) _ _ s0;rw[if_neg (show ¬((Value.ref t == Value.none)=true) from br)];show wpAny _ _ (field (.ref j) 1 >>= _) _ _ s0;refine af (cn g d (x:=.int k 0) rfl ?_);show wpAny _ _ (seqItems? (.ref t) >>= _) _ _ s0;refine af (fJ gt dt ?_);simp only[Int.toNat_natCast,e];refine af (fI (af (kE g d pv ?_)));show wpAny _ _ (newExc (.type "StopIteration") [] >>= _) _ _ _;refine af ?_;simp only[newExc,newTuple];refine af (bF ?_ (by size_fits));refine af (m:=firstArgMember _ _) (cK (a:=Value.none) (by first|rfl|(simp only[firstArgMember];rfl)) ?_);refine bF ?_ (by size_fits);simp only[raiseNew];refine af (s1i ?_);first|rw[show B.in1.handled=none from hh]|rw[hh]
 refine af (ag (s1t ?_));exact f _ _ (((jw ..).extBut.push _).push _) ⟨_,aM _ rfl,O⟩
def pP{h h':Heap}(p:h.IsTupleIter j t k)(f:∀o,h.get? j=some o->h'.get? j=some o):h'.IsTupleIter j t k:=let ⟨o,g,r⟩:=p;⟨o,f o g,r⟩
def my{h h':Heap}(p:h.IsTuple t its)(f:∀o,h.get? t=some o->h'.get? t=some o):h'.IsTuple t its:=let ⟨o,g,r⟩:=p;⟨o,f o g,r⟩
end
def Inv.turnedL{h':Heap}{t':Nat}{fl:List Addr}(I:Inv X pins σ H s)(kk:∀b o,b ∉ fl->s.heap.get? b=some o->h'.get? b=some o)(fo:∀b∈fl,gC X pins H b):Inv X pins σ H { s with heap:=h',toks:=t' }:=by
 have out:∀b u,H b=some u->b ∉ fl:=λ b u e z=>by rw[(fo b z).1] at e;cases e
 refine I.step (g':=s.gens) (d':=s.drawn) (ch:=fl) (λ b hb=>?_) (λ b o _ _ hc e _=>kk b o hc e) (λ b o _ _ hc e _=>⟨o.slots,kk b o hc e⟩) (λ _ _ _ _ q=>q)
  (λ b o hc e=>⟨o,kk b o hc e⟩) (λ _ _ e=>e) (λ _ _ _ e=>e) (λ b ps e=>⟨#[],by rw[e];simp⟩) (λ m hm=>?_) (λ b u e=>?_) I.bare
 ·obtain⟨_,f1,_,f3,f4,f5⟩:=fo b hb;exact⟨f3,f1,f4,f5⟩
 ·obtain⟨o,es,ep,ho,r⟩:=hm;exact⟨o,es,ep,kk _ o (λ z=>(fo _ z).2.1 rfl) ho,r⟩
 ·refine(I.hok b u e).stay (λ c v hc q=>kk c v ?_ q) (λ _ q=>q) λ _ _ q=>q
  rcases hc with z|z
  ·rw[z];exact out b u e
  ·exact out c _ z
section
variable {es:List Expr}{x1:Nat}{pp:Pos}
end
def BY(hc:X.calm=true):bo X (.builtin "sum") (λ xs H Q=>∃(a:Addr) (ns:LI),xs=[.ref a]/\SqL X.K H a (ns.map V.int)/\Q (.int ns.sum) H):=by
 intro pins s σ H xs us Q I r h;obtain⟨a,ns,rfl,hq,q⟩:=h;obtain⟨u,rfl,ru⟩:=bL r;cases (show u=Value.ref a from ru);obtain⟨its,rv,pl,hz⟩:=I.list hq;have hi:=jp rv;have hn:=hi.numsOf;obtain⟨ps,e⟩:=hi.allInts.items;have hl:s.heap.IsList a (intItems ps):=e ▸ pl.isList;refine sum_intListG (I.ok.hd hc) hl λ h' tk t' kk=>?_
 have e2:preSum (numAt ps) ps.size=ns.sum:=by
  rw[preSum_eq,jB pv,<- s1j,<- e];exact bK List.sum hn
 rw[e2];exact⟨.int ns.sum,H,I.kept kk,⟨t',O⟩,q⟩
noncomputable def Its(lo st:Int)(n:Nat):It:=⟨λ i _=>i<n,λ i H x H'=>H'=H/\x=.int (lo+i*st),λ i _=>n<=i⟩
theorem BZ{K:PySem.W.Frag}(it:Addr)(lo st:Int)(n:Nat):Turn P w K tg (Its lo st n) [it] it (λ i h=>IsRangeIter h it (lo+(i:Nat)*st) ((n:Int)-(i:Nat)) st) where
 mem:=pv
 obj:=λ i h q b hb=>by
  have e:b=it:=by simpa using hb
  subst e
  exact⟨_,q,λ v z=>by
   have z':Data.fields _=Data.cell v:=z
   cases z'⟩
 keep:=λ i h h' q k=>k it pv _ q
 item:=by
  intro X hP hw hK hc i pins s σ H E I hf q hg;subst hP hw hK;obtain⟨f0,f1,f2,f3,f4,f5⟩:=hf it pv;have W:=Walks.range (prog:=X.prog) (w:=X.w) (I.ok.hd hc) it lo st n;refine W.item i s _ _ hg q λ v h' tk hv q' kk=>?_;obtain⟨t,rfl⟩:=hv;have I1:Inv X pins σ H { s with heap:=h',toks:=tk }:=I.turned (λ b o hb e=>kk b o (by simpa using hb) e) f0 f1 f3 f4 f5;exact⟨_,O,lF (s:={ s with heap:=h',toks:=tk }) (n := "range_iterator") q' rfl rfl on ⟨.int (lo+i*st),H,I1,⟨t,O⟩,⟨O,O⟩,q',λ b hb=>(hf b hb).1⟩⟩
 done:=by
  intro X hP hw hK hc i pins s σ H E I hf q hg;subst hP hw hK;obtain⟨f0,f1,f2,f3,f4,f5⟩:=hf it pv;exact sC (I.ok.hd hc) q (by have:n<=i:=hg;lia) λ h' eb=>⟨O,I.turned (t':=s.toks) (λ b o hb e=>eb b o hb e) f0 f1 f3 f4 f5⟩
 self:=λ _ _ _ _ _ q h=>sD q h
noncomputable def Ca(ta:TA):TI:=λ σ H R=>ta σ H λ vs H1=>∃i j c:Int,vs=[.int i,.int j,.int c]/\(c≠0/\c.natAbs<1073741824/\Builtin.Range.small i j c=true)/\R (Its i c (Builtin.Range.rangeSize i j c).toNat) H1
def Cb(i j c:Int)(hc:c≠0):0<=Builtin.Range.rangeSize i j c:=by
 unfold Builtin.Range.rangeSize;split
 ·split
  ·have:=Int.ediv_nonneg (show 0<=j-i-1 by lia) (show 0<=c by lia);lia
  ·lia
 ·split
  ·have:=Int.ediv_nonneg (show 0<=i-j-1 by lia) (show 0<=-c by lia);lia
  ·lia
theorem Cc{tg a b c:Expr}{p pos:Pos}(hg:Gl X "range")(hm:X.mg "range"=none)(ha:PA X [a,b,c] ta)(hs:starEach [a,b,c] X.env=[(false,eval a X.env),(false,eval b X.env),(false,eval c X.env)]:=by rfl)
  (hs2:starEach [b,c] X.env=[(false,eval b X.env),(false,eval c X.env)]:=by rfl):PI X tg (.Call (.Name "range" p) [a,b,c] [] pos) (Ca ta):=by
 intro pins s σ H R I h;refine Call_ (dA I hg hm boot_range (fD (thn (ha pos pins s σ H _ I h) λ us s1 ⟨vs,H1,I1,r1,q1⟩=>?_) (by rw[hs,hs2]) (by rw[hs2];rfl)));obtain⟨i,j,k,e,⟨c0,c1,c2⟩,q⟩:=q1;subst e
 cases r1 with
 |cons r rr=>
  cases rr with
  |cons r' rr=>
   cases rr with
   |cons r'' rr=>
    cases rr;obtain⟨t,rfl⟩:=r;obtain⟨t',rfl⟩:=r';obtain⟨t'',rfl⟩:=r'';refine call_range_3 c0 ?_ (.inl (PyProof.noPylong_small c1));refine s1a (IsRange.new ..) c2 ?_;have I2:Inv X pins σ H1 { s1 with heap:=s1.heap.push { cls:=.type "range",data:=.fields #[.int i t,.int j t',.int k t''] },toks:=s1.toks }:=I1.kept λ b o e=>aA _ e;generalize s1.heap.push { cls:=.type "range",data:=.fields #[.int i t,.int j t',.int k t''] }=hr at I2 ⊢;refine⟨hr.objs.size,[hr.objs.size],_,_,H1,O,I2.kept (t':=s1.toks) λ b o e=>aA _ e,BZ _ i k (Builtin.Range.rangeSize i j k).toNat,?_,λ b hb=>?_,q⟩
    ·have e1:i+((0:Nat):Int)*k=i:=by simp
     have e2:(((Builtin.Range.rangeSize i j k).toNat:Nat):Int)-((0:Nat):Int)=Builtin.Range.rangeSize i j k:=by have:=Cb i j k c0;lia
     show IsRangeIter _ _ (i+((0:Nat):Int)*k) ((((Builtin.Range.rangeSize i j k).toNat:Nat):Int)-((0:Nat):Int)) k;rw[e1,e2];exact aM _ rfl
    ·have e:b=hr.objs.size:=by simpa using hb
     subst e;exact I2.fpOk (ar _) (I2.hok.fresh (ar _))
open AutoSeq1 (wpAny_loadPart')
section
variable {prog:Program}{w:World}{A:Around}{R:Result->Shared->Prop}{s:Shared}
theorem Ce{elt target iter cnd:Expr}{it acc:Value}(I:Nat->Shared->Prop)
  (turn:∀n s,I n s->wpAny (model prog w) A (pyNext it) (λ r s₁=>match r with
   |none=>R (.ok .next) s₁
   | some v=>wpAny (model prog w) A (letOwnedTupleGo target it v) (λ _ s₀=>wpAny (model prog w) A (assign target env v) (λ _ s₂=>wpAny (model prog w) A (isTrue cnd env (eval cnd env)) (λ b s₃ =>
     if b=true then wpAny (model prog w) A (eval elt env) (λ x s₄ =>
      wpAny (model prog w) A (call (.builtin "list.append") [acc,x]) (λ _ s₅=>∃m,m<n/\I m s₅) (λ _ _=>False) s₄) (λ _ _=>False) s₃
     else ∃m,m<n/\I m s₃)
     (λ _ _=>False) s₂) (λ _ _=>False) s₀) (λ _ _=>False) s₁) (λ _ _=>False) s)
  (n:Nat) (h:I n s) :
  codeAny (model prog w) A (.compLoop (.ListComp elt [⟨target,iter,[cnd],0⟩] scope pos) 0 it acc env) R s:=by
 refine codeAny_loop rfl I (λ n s hI=>?_) n h;show wpAny _ _ ((compTurn (.ListComp elt [⟨target,iter,[cnd],0⟩] scope pos) 0 it acc env).onRaise (λ x=>do noteFrame x env;theTreesLotGoes x)) _ _ s;refine wpAny_noted ?_;rw[compTurn_list];refine af (ip (af (cy (turn n s hI) (λ r s₁ h₁=>?_) λ _ _ h'=>h'.elim)))
 cases r with
 |none=>exact ag h₁
 |some v=>
  refine af (cy h₁ (λ _ s₀ h₀=>?_) λ _ _ h'=>h'.elim);refine af (cy h₀ (λ _ s₂ h₂=>?_) λ _ _ h'=>h'.elim);refine af (cy (wpAny_tests_one h₂) (λ ok s₃ h₃=>?_) λ _ _ h'=>h'.elim)
  cases ok with
  |false=>exact ag ⟨rfl,h₃⟩
  |true=>exact af (af (cy h₃ (λ x s₄ h₄=>af (cy h₄ (λ _ s₅ h₅=>ag (ag ⟨rfl,h₅⟩)) λ _ _ z=>z.elim)) λ _ _ z=>z.elim))
end
noncomputable def ua(cnd:Expr):mf:=λ p w A env k s=>wpAny (model p w) A (isTrue cnd env (eval cnd env)) k (λ _ _=>False) s
def Cf{cnd:Expr}:pi [cnd] (ua cnd):=⟨λ I t n h=>Ce I t n h,λ h m=>cy h m λ _ _ z=>z⟩
def pmI{X:Cx}(hx:X.xe=λ _ _=>False)(h:PT X cnd tc):PM X (ua cnd) tc:=λ pins s σ H K I k=>by
 have z:=h pins s σ H K I k;rw[hx] at z;exact z
theorem ub{X:Cx}{elt tg iter cnd:Expr}{cl:LA}{own fv:List Str}{js:List Nat}
  (hc:X.calm=true) (hi:PI X tg iter wi) (hclos:closureFor scope X.env=pure cl) (hcell:∀y∈scope.names,y.2≠.cell) (hkind:scope.kind=.function)
  (hnames:∀y∈scope.names,y.2=.local->scope.names.lookup y.1=some .local)
  (hcl:∀x c,cl.lookup x=some c->X.env.cells.lookup x=some c)
  (hhas:∀x,((relabel scope X.env).names.lookup x=some .cell\/(relabel scope X.env).names.lookup x=some .free)->∃c,cl.lookup x=some c)
  (hlen:js.length=fv.length) (hcap:∀(i:Nat) x j,fv[i]?=some x->js[i]?=some j->Cap X scope cl x j)
  (hg:∀(C:Addr) (ex:List Addr) (s:Shared) (H:Hp),PG (bh X (own++fv) scope cl C ex s H) tg g)
  (he:∀(C:Addr) (ex:List Addr) (s:Shared) (H:Hp),PE (bh X (own++fv) scope cl C ex s H) elt te)
  (ht:∀(C:Addr) (ex:List Addr) (s:Shared) (H:Hp),PT (bh X (own++fv) scope cl C ex s H) cnd tc)
  (hs:∀x,foldedSetIterable iter X.env x=pure x)(I:Inv X pins σ H s) (h:iz wi own.length js g tc te σ H Q)
  (fin:∀(a C:Addr) (s5:Shared) (H5:Hp) (fl:Flow),Inv X pins σ H5 s5->H5 C=none->C≠X.env.locals->X.s₀.heap.objs.size<=C->(∀x c,X.env.cells.lookup x=some c->c≠C)->(∀p∈X.pn++pins,p.1≠C)->(∃m,s5.heap.Ns C m)->Q (.ref a) H5->compPost (model X.prog X.w) X.A X.xe use QQ (.ref a) C (.ok fl) s5) :
  wpAny (model X.prog X.w) X.A (comprehension (.ListComp elt [⟨tg,iter,[cnd],0⟩] scope pos) scope X.env fpos (newList []) false (firstIter [⟨tg,iter,[cnd],0⟩] X.env) use) QQ X.xe s :=
 tO hc hi hclos hcell hkind hnames hcl hhas hlen hcap hg he (λ C ex s H=>pmI rfl (ht C ex s H)) Cf hs I h fin
theorem Cg{X:Cx}{elt tg iter cnd:Expr}{cl:LA}{own fv:List Str}{js:List Nat}
  (hc:X.calm=true) (hi:PI X tg iter wi) (hclos:closureFor scope X.env=pure cl) (hcell:∀y∈scope.names,y.2≠.cell) (hkind:scope.kind=.function)
  (hnames:∀y∈scope.names,y.2=.local->scope.names.lookup y.1=some .local)
  (hcl:∀x c,cl.lookup x=some c->X.env.cells.lookup x=some c)
  (hhas:∀x,((relabel scope X.env).names.lookup x=some .cell\/(relabel scope X.env).names.lookup x=some .free)->∃c,cl.lookup x=some c)
  (hlen:js.length=fv.length) (hcap:∀(i:Nat) x j,fv[i]?=some x->js[i]?=some j->Cap X scope cl x j)
  (hg:∀(C:Addr) (ex:List Addr) (s:Shared) (H:Hp),PG (bh X (own++fv) scope cl C ex s H) tg g)
  (he:∀(C:Addr) (ex:List Addr) (s:Shared) (H:Hp),PE (bh X (own++fv) scope cl C ex s H) elt te)
  (ht:∀(C:Addr) (ex:List Addr) (s:Shared) (H:Hp),PT (bh X (own++fv) scope cl C ex s H) cnd tc)
  (hs:∀x,foldedSetIterable iter X.env x=pure x:=by intro _;rfl) :
  PE X (.ListComp elt [⟨tg,iter,[cnd],0⟩] scope pos) (iz wi own.length js g tc te):=by
 intro pins s σ H Q I h;rw[eval_ListComp];refine ub (use:=none) (QQ:=EP X pins σ Q) hc hi hclos hcell hkind hnames hcl hhas hlen hcap hg he ht hs I h λ a C s5 H5 fl I5 zC zL zS zc zp ⟨m,hn⟩ q=>⟨m,hn,λ h' sc=>?_⟩;exact⟨.ref a,H5,I5.turned (t':=s5.toks) (it:=C) (λ d o nd e=>sc.extBut d o nd e) zC zL (.inr zS) zc zp,O,q⟩
theorem Ch{B:Around}(hh:B.handled=none)(j t:Addr)(ne:t≠j)(as:Array Value):Draws pg wd B j [j,t] as.size (λ i v=>as[i]?=some v) (λ i h=>h.IsTupleIter j t i/\h.IsTuple t as) where
 live:=λ _ _ q=>let ⟨o,g,_⟩:=q.1;⟨o,g⟩
 frame:=λ _ _ _ q k=>⟨pP q.1 λ o g=>k j pv o g,my q.2 λ o g=>k t pv o g⟩
 item:=λ i s R X0 hi q f=>tX q.1 q.2 (x:=as[i]) (by simp[hi]) λ m p sb=>f _ m s.toks (by simp[hi]) ⟨p,my q.2 λ o g=>sb.extBut _ _ ne g⟩ sb
 done:=λ s R X0 q f=>pO hh q.1 q.2 pv f
section
variable {pg:Program}{wd:World}{B:Around}{X0:VS}{s0:Shared}
theorem Ci{R:Option Value->Shared->Prop}(hh:B.handled=none)(hz:IsEnum s0.heap z j n u)(p:s0.heap.IsTupleIter j t i)(q:s0.heap.IsTuple t as)(ex:as[i]?=none)
  (f:∀m,Heap.ExtBut j s0.heap m->R none { s0 with heap:=m }):wpAny (model pg wd) B (pyNext (.ref z)) R X0 s0:=by
 have ty:s0.TypeIs (.ref z) "enumerate" := ⟨_,hz,rfl⟩;unfold pyNext;refine af (iA (fY (name:=Str.ofString "__next__") ty uc (cZ uc ty F.entry_enumerate_next ?_ (F.args_enumerate_next_1 _))));show wpAny _ _ (field (.ref z) 2 >>= _) _ _ _;refine af (cn hz rfl (x:=.ref j) rfl ?_);refine af (pO hh p q ex λ m w xb hw=>?_);obtain⟨ow,gw,cw⟩:=hw;exact af (gH (T := "StopIteration") (b:=true) ⟨ow,gw,cw⟩ mi (ag (f _ xb)))
set_option tactic.hygienic true in
theorem Cj(t:Addr)(as:Array Value)(n:Nat)(dc:OA)(sl:AV) :
  Meets (Builtin.«enumerate.__new__» ⟨[.type "enumerate",.ref t],[]⟩) (λ _ R s=>s.heap.get? t=some { cls:=.type "tuple",dict:=dc,data:=.seq as n,slots:=sl } /\
   R (.ok (.ret (.ref (s.heap.push { cls:=.type "tuple_iterator",data:=.fields #[.ref t,.int 0 0] }).objs.size))) { s with heap:=(s.heap.push { cls:=.type "tuple_iterator",data:=.fields #[.ref t,.int 0 0] }).push { cls:=.type "enumerate",data:=.fields #[.none,.bool false,.ref s.heap.objs.size,rawInt 0,.none,.none] } }) :=
 .of_wp λ pg wd A R s h=>by
  obtain⟨hp,g,d,tk,os⟩:=s;obtain⟨ht,h⟩:=h;have q0:=sub_enumerate;have q1:Heap.IsTuple (Shared.heap ⟨hp,g,d,tk,os⟩) t as:=⟨_,ht,rfl,n,rfl⟩;wp_walk using pQ ht;refine wpAny_stack_any λ stk=>ag ?_;split
  ·rename_i c _ _ _ _ _;cases (c == Value.type "enumerate")<;>(wp_walk using pQ ht,kH q1)<;>exact⟨_,rfl,h⟩
  ·wp_walk using pQ ht,kH q1;exact⟨_,O,h⟩
theorem Ck{R:VS}(q:s0.heap.IsTuple t as)
  (f:∀m,IsEnum m (s0.heap.objs.size+1) s0.heap.objs.size 0 .none->m.IsTupleIter s0.heap.objs.size t 0->(∀c o,s0.heap.get? c=some o->m.get? c=some o)->R (.ref (s0.heap.objs.size+1)) { s0 with heap:=m }) :
  wpAny (model pg wd) B (call (.type "enumerate") [.ref t]) R X0 s0:=by
 obtain⟨⟨c,dc,dt,sl⟩,ht,hc,n,hd⟩:=q;cases (show c=.type "tuple" from hc);cases (show dt=.seq as n from hd);refine s1p F.called_enumerate on (F.typeCall_enumerate_1 _) (F.newCall_enumerate_1 _) (λ ob=>kD ob _) F.entry_enumerate_new (Cj t as n dc sl) ⟨ht,?_⟩;have n1:(s0.heap.push { cls:=.type "tuple_iterator",data:=.fields #[.ref t,.int 0 0] }).objs.size=s0.heap.objs.size+1:=df ..;show _/\_;have g2:=aM (s0.heap.push { cls:=.type "tuple_iterator",data:=.fields #[.ref t,.int 0 0] }) (o:={ cls:=.type "enumerate",data:=.fields #[.none,.bool false,.ref s0.heap.objs.size,rawInt 0,.none,.none] }) rfl;rw[n1] at g2 ⊢;exact⟨⟨_,g2,O⟩,f _ g2 ⟨_,aA _ (aM _ rfl),O,O⟩ λ c o z=>aA _ (aA _ z)⟩
end
noncomputable def Ite(K:FG)(a:Addr):It:=⟨λ i H=>∃xs x,SqT K H a xs/\xs[i]?=some x,
 λ i H v H'=>∃T x,v=.ref T/\H T=none/\H'=upd H T (.tup [.int i,x])/\∀xs,SqT K H a xs->xs[i]?=some x,λ i H=>∃xs,SqT K H a xs/\xs.length<=i⟩
theorem Cm{K:FG}{a z j:Addr}(zj:z≠j) :
  Turn P w K (.Tuple es x1 pp) (Ite K a) [z,j] z (λ i h=>(∃u,IsEnum h z j i u)/\h.IsTupleIter j a i) where
 mem:=pv
 obj:=λ i h q c hc=>by
  obtain⟨⟨u,q1⟩,⟨o4,g4,_,d4⟩⟩:=q;simp only[aG,aU,aY] at hc
  rcases hc with rfl|rfl
  ·exact⟨_,q1,λ v y=>nomatch y⟩
  ·exact⟨_,g4,λ v y=>by rw[d4] at y;cases y⟩
 keep:=λ i h h' q k=>by
  obtain⟨⟨u,q1⟩,q4⟩:=q;exact⟨⟨u,k _ pv _ q1⟩,pP q4 λ o g=>k _ pv o g⟩
 item:=by
  intro X hP hw hK hc i pins s σ H E I hf st hg;subst hP hw hK;obtain⟨xs,x,hq,hx⟩:=hg;obtain⟨⟨u,q1⟩,q4⟩:=st;obtain⟨as,ra,pa,za⟩:=I.tuple hq;obtain⟨ux,hux,rux⟩:=ra.get hx;have ta:s.heap.IsTuple a as.toArray:=pa;have az:a≠z:=by rintro rfl;obtain⟨o,g,c,_⟩:=ta;rw[q1] at g;cases g;simp at c
  have aj:a≠j:=by rintro rfl;obtain⟨o,g,c,_⟩:=ta;obtain⟨o4,g4,c4,_⟩:=q4;rw[g4] at g;cases g;rw[c4] at c;simp at c
  have il:i<as.toArray.size:=by simpa using (bc.mp hux).1
  refine ud (Ch (B:=X.A.in1) (I.ok.hd hc) j a aj as.toArray) q1 ⟨q4,ta⟩ il zj (by simp only[aG,aU,aY,not_or];exact⟨zj,az.symm⟩) λ y m tk hy zo st' np sz bt=>?_;have yu:y=ux:=by simp only[jA] at hy;rw[hux] at hy;exact(bS hy).symm
  subst yu
  have I1:Inv X pins σ H { s with heap:=m,toks:=tk+1 }:=I.turnedL (t':=tk+1) (fl:=[z,j]) (λ c o hc e=>by
   simp only[aG,aU,aY,not_or] at hc
   exact bt c o hc.1 hc.2 e) hf
  obtain⟨f0,f1,f2,f3,f4,f5⟩:=I.fpOk (ar s.heap.objs.size) (I.hok.fresh (ar _))
  have n0:X.s₀.heap.get? s.heap.objs.size=none:=by
   cases q:X.s₀.heap.get? s.heap.objs.size with
   |none=>rfl
   |some o=>exact absurd (bR (aC q) I.sz) (cg _)
  have I2:Inv X pins σ (upd H s.heap.objs.size (.tup [.int i,x])) { s with heap:=m,toks:=tk+1 }:=I1.track f0 ⟨small pv,[.int i tk,y],.cons (show RelV (V.int i) (Value.int i tk) from ⟨_,rfl⟩) (.cons rux .nil),⟨_,np,⟨rfl,_,rfl⟩,rfl⟩⟩ f1 f4 f5 n0;have lt:∀ {c o},s.heap.get? c=some o->c≠s.heap.objs.size:=λ e=>aK (aC e);have zT:z≠s.heap.objs.size:=lt q1;obtain⟨e0,e1,e2,e3,e4,e5⟩:=hf z pv;refine⟨_,O,ue zo λ h2 z2 sb=>?_⟩;have I3:Inv X pins σ (upd H s.heap.objs.size (.tup [.int i,x])) { s with heap:=h2,toks:=tk+1 }:=Inv.turned (s:={ s with heap:=m,toks:=tk+1 }) (h':=h2) (t':=tk+1) (it:=z) I2 (λ c o hc e=>sb.extBut _ _ hc e) (by rw[aL zT];exact e0) e1 e3 e4 e5;refine⟨.ref s.heap.objs.size,_,I3,O,⟨_,x,O,f0,O,λ xs' k1=>?_⟩,⟨⟨_,by simpa using z2⟩,pP st'.1 λ o g=>sb.extBut _ _ zj.symm g⟩,λ c hc=>?_⟩
  ·rw[I.tuple_inj k1 hq];exact hx
  ·have cT:c≠s.heap.objs.size:=by
    obtain⟨o4,g4,_⟩:=q4;simp only[aG,aU,aY] at hc
    rcases hc with rfl|rfl
    ·exact zT
    ·exact lt g4
   rw[aL cT];exact(hf c hc).1
 done:=by
  intro X hP hw hK hc i pins s σ H E I hf st hg;subst hP hw hK;obtain⟨xs,hq,hx⟩:=hg;obtain⟨⟨u,q1⟩,q4⟩:=st;obtain⟨as,ra,pa,za⟩:=I.tuple hq;have la:=ra.length;refine Ci (I.ok.hd hc) q1 q4 (show s.heap.IsTuple a as.toArray from pa) (by simp;lia) λ m bt=>⟨O,?_⟩
  exact I.turnedL (t':=s.toks) (fl:=[z,j]) (λ c o hc e=>by
   simp only[aG,aU,aY,not_or] at hc
   exact bt c o hc.2 e) hf
 self:=λ _ _ _ _ _ st h=>let ⟨⟨_,q1⟩,_⟩:=st;mB q1 h
section
variable {es:List Expr}{x1:Nat}{pp:Pos}
noncomputable def Cn(K:FG)(te:TE):TI:=λ σ H R=>te σ H λ v H1=>∃a xs,v=.ref a/\SqT K H1 a xs/\R (Ite K a) H1
theorem Co{p pos:Pos}(hg:Gl X "enumerate")(hm:X.mg "enumerate"=none)(he:PE X e te)(hs:starEach [e] X.env=[(false,eval e X.env)]:=by rfl) :
  PI X (.Tuple es x1 pp) (.Call (.Name "enumerate" p) [e] [] pos) (Cn X.K te):=by
 intro pins s σ H R I h;have hA:=(cO he (pa_nil (X:=X)) hs) pos pins s σ H (λ vs H1=>match vs with|[x]=>∃a xs,x=.ref a/\SqT X.K H1 a xs/\R (Ite X.K a) H1|_=>False) I h;refine Call_ (dA I hg hm boot_enumerate (fD (thn hA λ us s1 ⟨vs,H1,I1,r1,q1⟩=>?_) hs rfl))
 match vs,q1 with
 |[x],⟨a,xs,e,hq,q⟩=>
  subst e;obtain⟨u,rfl,ru⟩:=bL r1;cases (show u=Value.ref a from ru);obtain⟨as,va,pa,za⟩:=I1.tuple hq;refine Ck (show s1.heap.IsTuple a as.toArray from pa) λ m w1 w2 kk=>?_;have I2:Inv X pins σ H1 { s1 with heap:=m }:=I1.kept (t':=s1.toks) kk;refine mB w1 ⟨s1.heap.objs.size+1,[s1.heap.objs.size+1,s1.heap.objs.size],_,_,H1,O,I2,Cm (pR _),⟨⟨_,w1⟩,w2⟩,λ c hc=>?_,q⟩
  have ge:s1.heap.objs.size<=c:=by
   simp only[aG,aU,aY] at hc
   rcases hc with rfl|rfl<;>lia
  exact I1.fpOk ge (I1.hok.fresh ge)
end
noncomputable def Cp(i j:Int):Prop:=0<j/\j<1606938044258990275541962092341162602522202993782792835301376
def Cq{y:Int}(h0:0<y)(h1:y<1606938044258990275541962092341162602522202993782792835301376):y.natAbs.log2<9000:=by
 have z:y.natAbs≠0:=by omega
 exact bR ((Nat.log2_lt z).mpr (show y.natAbs<2 ^ 200 by omega)) on
def Cs:OpR X (binaryOp .FloorDiv) (rI Cp λ i j=>.int (i/j)):=opI λ i j _ _ _ _ _ hc q=>floordiv_int (by have:=hc.1;lia) (by rw[lK i (by have:=hc.1;lia)];exact q) (.inl (tQ (Cq hc.1 hc.2)))
end _L
namespace _H
open PySem PySem.Spec PyProof.Rows _L
theorem whole_tup{s:Shared}{lo hi:Option Int}{R:VS}(ht:IsTup s.heap t its)(hs:s.heap.IsSliceOf sl vl vu .none)(pl:IsPart vl lo)(pu:IsPart vu hi)
  (h0:sIx its.size 0 lo=0) (h1:sIx its.size its.size hi=its.size) (h:R (.ref t) s):wpAny (model prog w) A (getItem (.ref t) (.ref sl)) R E s:=by
 obtain⟨os,hos,hcs,hds⟩:=id hs;have hTs:s.TypeIs (.ref sl) "slice" := ⟨os,hos,hcs⟩;unfold getItem;try with_reducible refine bU ?_
 first|refine af (ag ?_)|skip
 refine af (wpAny_sequenceKey ht.typeIs on ?_);refine af (fY (name:=Str.ofString "__getitem__") ht.typeIs lV (cZ lV ht.typeIs s0r ?_ (s1f _ _)));show wpAny _ _ (Builtin.Tuple.tupleItemsOf (.ref t) >>= _) _ _ s;refine af (tupleItemsOf_ ht ?_);refine af (eo hTs ?_);rw[if_pos on];refine af (tq hs pl pu ?_);show wpAny _ _ (if (((sIx its.size 0 lo:Nat):Int) == 0&&(1:Int) == 1&&(sIx its.size its.size hi-sIx its.size 0 lo) == its.size)=true then _ else _) _ _ s;rw[if_pos (by rw[h0,h1];simp)];unfold Builtin.Tuple.tupleIsExact;exact af (af (eo ht.typeIs (ag (af (fI (ag ⟨_,O,ag h⟩))))))
end _H
namespace _L
open PySem PySem.Spec PyProof.Rows
variable {X:Cx}
def Cu:typeLookup (.type "reversed") "__len__"=pure none:=by rw[dM,dN];kernel_rfl
def Cv:typeLookup (.type "reversed") "__length_hint__"=pure (some (.builtin "reversed.__length_hint__")):=by rw[dM,dN];kernel_rfl
theorem Cw{B:Around}(hh:B.handled=none)(I t:Addr)(hne:t≠I)(its:Array Value)(hz:(its.size:Int)<2 ^ 63) :
  Walks pg wd B I [I,t] [I] its.size (λ i v=>its[its.size-1-i]?=some v) (λ i h=>i<=its.size/\IsRv h I t ((its.size:Int)-1-(i:Int))/\IsTup h t its) where
 sub:=λ b hb=>by simp at hb;simp[hb]
 frame:=λ _ _ _ st k=>⟨st.1,let ⟨o,g,r⟩:=st.2.1;⟨o,k I pv o g,r⟩,let ⟨o,g,r⟩:=st.2.2;⟨o,k t pv o g,r⟩⟩
 item:=λ i s R X0 hi st f=>by
  obtain⟨_,q1,q2⟩:=st;have e:(its.size:Int)-1-(i:Int)=((its.size-1-i:Nat):Int):=fu;rw[e] at q1;have hx:its[its.size-1-i]?=some (its[its.size-1-i]' fu):=dO fu;refine BK q1 q2 hx hz λ m tk q sb=>f _ m tk hx ⟨hi,?_,?_⟩ λ b o nb g=>sb.extBut b o (by simpa using nb) g
  ·have e2:((its.size-1-i:Nat):Int)-1=(its.size:Int)-1-((i+1:Nat):Int):=by lia
   rw[e2] at q;exact q
  ·obtain⟨o,g,r⟩:=q2;exact⟨o,sb.extBut _ _ hne g,r⟩
 done:=λ s R X0 st f=>by
  obtain⟨_,q1,q2⟩:=st;have e:(its.size:Int)-1-(its.size:Int)=-1:=fu;rw[e] at q1;exact BL hh q1 λ m tk eb=>f m tk λ b o nb g=>eb b o (by simpa using nb) g
 self:=λ _ _ _ _ st h=>BM st.2.1 h
def Cy(v:Value):bindSpecial (.builtin "reversed.__length_hint__") v=pure (.builtin "reversed.__length_hint__",[v]):=by
 unfold bindSpecial;rw[show typeOf (.builtin "reversed.__length_hint__")=pure (.type "method_descriptor") by show builtinType _=_;rw[builtinType_eq_fast];kernel_rfl];rfl
def Cz:Slot "reversed" "__length_hint__" "reversed.__length_hint__" := .of (owner := "reversed") (n := "__length_hint__") (by rw[dM,dN];kernel_rfl) (by decide +kernel) (by decide +kernel) (by decide +kernel) (.inr (by decide +kernel)) (by rw[fH];kernel_rfl)
def CA:entryFor table "reversed.__length_hint__"=some Builtin.«reversed.__length_hint__»:=mh (by kernel_rfl)
def CB(a:Value):argsOk "reversed.__length_hint__" ⟨[a],[]⟩:=by unfold argsOk;kernel_rfl
theorem CC{R:VS}{z:Shared}{its:Array Value}(q1:IsRv z.heap J t ((its.size:Int)-1))(q2:IsTup z.heap t its)(hz:(its.size:Int)<2 ^ 63)
  (f:∀u tk,z.toks<=tk->R (.int its.size u) { z with toks:=tk }):wpAny (model pg wd) B (call (.builtin "reversed.__length_hint__") [.ref J]) R X0 z:=by
 obtain⟨o,ho,hc,hd⟩:=id q1;refine cZ Cz q1.typeIs CA ?_ (CB _);show wpAny _ _ (field (.ref J) 0 >>= _) _ _ z;refine af (cn ho hd (x:=.ref t) rfl ?_);show wpAny _ _ (if (Value.ref t == Value.none)=true then _ else _) _ _ z;rw[if_neg (show ¬((Value.ref t == Value.none)=true) from br)];show wpAny _ _ (call (.builtin "len") [.ref t] >>= _) _ _ z;refine af (s1g q2 hz ?_);refine af (m:=asInt? _) (ag ?_);show wpAny _ _ (field (.ref J) 1 >>= _) _ _ _;refine af (cn ho hd (x:=rawInt ((its.size:Int)-1)) rfl ?_);show wpAny _ _ (if (its.size:Int)<(its.size:Int)-1+1 then _ else retInt ((its.size:Int)-1+1)) _ _ _;rw[if_neg fu,show(its.size:Int)-1+1=its.size by lia];exact af (wpAny_mkInt (ag ⟨_,O,f _ _ (by show z.toks<=z.toks+1+1+1;lia)⟩))
section
variable {pg:Program}{wd:World}{B:Around}{X0:VS}{s0:Shared}{J:Addr}{fs ws:List Addr}{Gg:Array GenState->Array GenState->Prop}{m:Nat}{Pr:Nat->Value->Prop}{Sx:Nat->Shared->Prop}
theorem CD{R:LV->Shared->Prop}(hint:∀(z:Shared) (R':VS) (E':VS),Sx 0 z->(∀u tk,z.toks<=tk->R' (.int m u) { z with toks:=tk })->wpAny (model pg wd) B.in1 (call (.builtin "reversed.__length_hint__") [.ref J]) R' E' z)(wk:WalksS pg wd B.in1 J fs ws Gg m Pr Sx)(ty:∀j z,Sx j z->z.TypeIs (.ref J) "reversed")(z0:Sx 0 s0)(lt:∀b∈fs,b<s0.heap.objs.size)(mJ:J∈fs)(sm:m<=sizeLine)
  (fin:∀z' ac,Moved ws Gg s0 z'->ItemsOf Pr ac m->R ac.toList z'):wpAny (model pg wd) B (collect (.ref J)) R X0 s0:=by
 have out:s0.heap.objs.size ∉ fs:=λ q=>absurd (lt _ q) (cg _);have neJ:s0.heap.objs.size≠J:=by rintro rfl;exact out mJ
 let nu:Obj:={ cls:=.type "list",data:=.seq ([]:LV).toArray }
 unfold collect;refine af (kF (bV pE ?_));rw[cq pF _];show wpAny _ B.in1 (newList [] >>= λ q=>again (.builtin "list.__iadd__" ⟨[q,.ref J],[]⟩)) _ _ s0;refine af (bF ?_);refine ag ⟨bW jy _,bV pG ?_⟩;rw[cq jy _];have z1:=wk.frame 0 s0 (s0.heap.push nu) s0.toks z0 (ar _) λ b _ o e=>aA _ e;have at1:(s0.heap.push nu).get? s0.heap.objs.size=some nu:=aM _ rfl;have dif:Builtin.List.listSameRef (.ref s0.heap.objs.size) (.ref J)=false:=by simp[Builtin.List.listSameRef,neJ]
 show wpAny _ B.in1 (Builtin.List.listExtendWith (.ref s0.heap.objs.size) (.ref J) (.ref s0.heap.objs.size)) _ _ _;unfold Builtin.List.listExtendWith;refine af (eo (ty 0 _ z1) ?_);rw[if_neg (by rw[dif];decide)];refine af (wk.self 0 _ _ _ z1 ?_);refine af (bU ?_);unfold Builtin.List.listLengthHint;refine af (ga (ty 0 _ z1) Cu ?_);show wpAny _ B.in1 (specialOf (Value.ref J) (Str.ofString "__length_hint__") >>= _) _ _ _;refine af (ga (ty 0 _ z1) Cv ?_)
 (generalize hid:("reversed.__length_hint__" : String)=id0;wp_delta;rw[show splitId id0=some ("reversed","__length_hint__") from by subst hid;decide +kernel];subst hid)
 refine af (gH (b:=true) (ty 0 _ z1) (by rw[fH];kernel_rfl) ?_);rw[if_neg on];dsimp only;rw[if_neg (by decide +kernel)];refine af (fI ?_);refine af (cK (Cy _) ?_);dsimp only;refine af (iA (hint _ _ _ z1 λ u tk htk=>?_));have z2:=wk.frame 0 _ _ tk z1 htk λ b _ o e=>e;have l63:=tV;have fi:Builtin.List.listFitsIndex (m:Int)=true:=by simp[Builtin.List.listFitsIndex];lia
 have tl:Builtin.List.listTooLong (m:Int).toNat=false:=by simp[Builtin.List.listTooLong];lia
 generalize hk:(m:Int)=kk at fi tl ⊢;show wpAny _ B.in1 (asInt? (.int kk u) >>= _) _ _ _;refine af (m:=asInt? (.int kk u)) (ag ?_);dsimp only;rw[if_neg (by rw[fi];decide)];try dsimp only
 rw[if_neg fu];try dsimp only
 rw[if_neg (by rw[tl];decide)];refine ag ?_;by_cases m0:m=0
 ·rw[if_neg (by subst m0;subst hk;decide +kernel)];refine ag ⟨bW pH _,mj wk sm _ out _ m 0 _ _ _ rfl (bC _) z2 at1 (s0t Pr) λ z' ac cc mv at2 its=>?_⟩;show wpAny _ B (load s0.heap.objs.size >>= _) _ _ z';exact af (jd at2 (ag (fin z' ac (s0l (o:=nu) (tk:=tk) mv htk) its)))
 ·rw[if_pos (by simp;left;lia)];refine af (fI ?_);refine af ?_;show wpAny _ B.in1 (updateSeq s0.heap.objs.size (·.push .none) >>= λ _=>updateSeq s0.heap.objs.size (·.pop)) _ _ _;refine af (gI at1 rfl ?_);have a2:=eE (Obj.mapSeq (·.push Value.none)) at1 rfl;refine gI a2 rfl ?_;have a3:=eE (Obj.mapSeq (·.pop)) a2 rfl
  have oth:∀b o,b≠s0.heap.objs.size->(s0.heap.push nu).get? b=some o->(((s0.heap.push nu).update s0.heap.objs.size (Obj.mapSeq (·.push Value.none))).update s0.heap.objs.size (Obj.mapSeq (·.pop))).get? b=some o :=
   λ b o hb e=>(dB _ _ (bx hb)).trans ((dB _ _ (bx hb)).trans e)
  refine ag ⟨bW pH _,mj wk sm _ out _ m 0 _ _ _ rfl (bC _)
   (wk.frame 0 ({ s0 with heap:=s0.heap.push nu,toks:=tk }:Shared) _ tk z2 (ar _) λ b hb o e=>oth b o (λ q=>out (q ▸ hb)) e) a3 (s0t Pr) λ z' ac cc mv at2 its=>?_⟩
  show wpAny _ B (load s0.heap.objs.size >>= _) _ _ z';refine af (jd at2 ?_);refine ag (fin z' ac (s0l (o:=nu) (tk:=tk) (Moved.trans wk.gtrans ((Moved.refl wk.grefl).then_heap (ar _) λ b o hb e=>?_) mv) htk) its);exact oth b o (λ q=>hb (q ▸ dz)) e
theorem CF{R:VS}(hint:∀(z:Shared) (R':VS) (E':VS),Sx 0 z->(∀u tk,z.toks<=tk->R' (.int m u) { z with toks:=tk })->wpAny (model pg wd) B.in1.in1 (call (.builtin "reversed.__length_hint__") [.ref J]) R' E' z)(wk:WalksS pg wd B.in1.in1 J fs ws Gg m Pr Sx)(ty:∀j z,Sx j z->z.TypeIs (.ref J) "reversed")(z0:Sx 0 s0)(lt:∀b∈fs,b<s0.heap.objs.size)(mJ:J∈fs)(sm:m<=sizeLine)
  (fin:∀z' ac,Moved ws Gg s0 z'->ItemsOf Pr ac m->R (.ref z'.heap.objs.size) { z' with heap:=z'.heap.push { cls:=.type "tuple",data:=.seq ac } }) :
  codeAny (model pg wd) B (.call (.builtin "tuple.__new__") ⟨[.type "tuple",.ref J],[]⟩) (wants R X0) s0:=by
 refine kG ?_;show wpAny _ B.in1 (do checkBuiltinCall "tuple.__new__" ⟨[.type "tuple",.ref J],[]⟩;again (.builtin "tuple.__new__" ⟨[.type "tuple",.ref J],[]⟩)) _ _ s0;refine af (cK (pI _) (ag ⟨bW jz _,bV pJ ?_⟩));rw[cq jz _];have q1:=s0m;have q2:=pK;have q3:=s0n;have q4:=ty 0 s0 z0;wp_walk using eo q4,CD (sm:=sm) hint wk ty z0 lt mJ;intro z' ac mv its;show wpAny _ _ (Builtin.Tuple.tupleExact ac.toList.toArray >>= λ q=>ret q) _ _ _;have e:ac.toList.toArray=ac:=pv;rw[e];unfold Builtin.Tuple.tupleExact;exact af (bF (ag (fin z' ac mv its)) (by show ac.size<=sizeLine;rw[its.1];exact sm))
theorem CG{R:VS}(hint:∀(z:Shared) (R':VS) (E':VS),Sx 0 z->(∀u tk,z.toks<=tk->R' (.int m u) { z with toks:=tk })->wpAny (model pg wd) B.in1.in1.in1 (call (.builtin "reversed.__length_hint__") [.ref J]) R' E' z)(wk:WalksS pg wd B.in1.in1.in1 J fs ws Gg m Pr Sx)(ty:∀j z,Sx j z->z.TypeIs (.ref J) "reversed")(z0:Sx 0 s0)(lt:∀b∈fs,b<s0.heap.objs.size)(mJ:J∈fs)(sm:m<=sizeLine)
  (fin:∀z' ac,Moved ws Gg s0 z'->ItemsOf Pr ac m->R (.ref z'.heap.objs.size) { z' with heap:=z'.heap.push { cls:=.type "tuple",data:=.seq ac } }) :
  wpAny (model pg wd) B (call (.type "tuple") [.ref J]) R X0 s0 :=
 mq (Q₁:=λ ob z=>z.TypeIs ob "tuple" /\ R ob z) s0o (pL _) pM
  (CF (sm:=sm) hint wk ty z0 lt mJ λ z' ac mv its=>⟨⟨_,aM _ rfl,rfl⟩,fin z' ac mv its⟩)
  λ ob z q=>⟨q.1,kD ob _,pN F.called_tuple.init.lookup F.called_tuple.made on pg wd B.in1 _ z ⟨q.1,rfl,q.2⟩⟩
end
noncomputable def CH(K:FG)(te:TE):TE:=λ σ H Q=>te σ H λ x H1=>∃a xs,x=.ref a/\SqT K H1 a xs/\∀p,H1 p=none->Q (.ref p) (upd H1 p (.tup xs.reverse))
theorem CI{p1 p2 pos pos':Pos}(hc:X.calm=true)(ht:Gl X "tuple")(hr:Gl X "reversed")(mt:X.mg "tuple"=none)(mr:X.mg "reversed"=none)(he:PE X e te)(hs:starEach [e] X.env=[(false,eval e X.env)]:=by rfl) :
  PE X (.Call (.Name "tuple" p1) [.Call (.Name "reversed" p2) [e] [] pos'] [] pos) (CH X.K te):=by
 intro pins s σ H Q I h;refine Call_ (dA I ht mt boot_tuple (fD ?_ rfl rfl));refine lO ?_;have hA:=(cO he (pa_nil (X:=X)) hs) pos' pins s σ H (λ vs H1=>match vs with|[x]=>∃a xs,x=.ref a/\SqT X.K H1 a xs/\∀p,H1 p=none->Q (.ref p) (upd H1 p (.tup xs.reverse))|_=>False) I h;refine Call_ (dA I hr mr boot_reversed (fD (thn hA λ us s1 ⟨vs,H1,I1,r1,q1⟩=>?_) hs rfl))
 match vs,q1 with
 |[x],⟨a,xs,e,hq,q⟩=>
  subst e;obtain⟨u,rfl,ru⟩:=bL r1;cases (show u=Value.ref a from ru);obtain⟨its,rv,pl,hz⟩:=I1.tuple hq;have hl:=rv.length;have z63:=tV;refine BJ pl (by simp;lia) λ tk=>?_;refine lN ?_;have I2:Inv X pins σ H1 { s1 with heap:=s1.heap.push (jv a ((its.toArray.size:Int)-1)),toks:=tk }:=I1.kept (t':=tk) λ b o e=>aA _ e;have al:a<s1.heap.objs.size:=by obtain⟨o,ho,_⟩:=pl;exact aC ho
  have hne:a≠s1.heap.objs.size:=aK al
  have ir:IsRv (s1.heap.push (jv a ((its.toArray.size:Int)-1))) s1.heap.objs.size a ((its.toArray.size:Int)-1-((0:Nat):Int)):=by
   refine⟨_,aM _ rfl,O,?_⟩;have e:(its.toArray.size:Int)-1-((0:Nat):Int)=(its.toArray.size:Int)-1:=fu;rw[e];rfl
  have sz:(s1.heap.push (jv a ((its.toArray.size:Int)-1))).objs.size=s1.heap.objs.size+1:=by simp[Heap.push]
  have ff:=I1.fpOk (ar s1.heap.objs.size) (I1.hok.fresh (ar _))
  refine CG (m:=its.toArray.size) (Sx:=_) (λ z R' E' q f=>CC (its:=its.toArray) (by have:=q.2.1;rw[show(its.toArray.size:Int)-1-((0:Nat):Int)=(its.toArray.size:Int)-1 by lia] at this;exact this) q.2.2 (by simp;lia) f) (Cw (B:=X.A.in1.in1.in1) (I.ok.hd hc) s1.heap.objs.size a hne its.toArray (by simp;lia)).toS (λ j z q=>let ⟨o,ho,hk,_⟩:=q.2.1;⟨o,ho,hk⟩)
   ⟨bC _,ir,let ⟨o,g,r⟩:=pl;⟨o,aA _ g,r⟩⟩ (λ b hb=>?_) (dz ..) (by simp only[aO];lia) λ z' ac mv io=>?_
  ·show b<(s1.heap.push (jv a ((its.toArray.size:Int)-1))).objs.size;rw[sz];simp only[aG,aU,aY] at hb
   rcases hb with rfl|rfl
   ·exact fG _
   ·exact cJ al
  have I3:Inv X pins σ H1 z':=by
   obtain⟨zh,zg,zd,zt,zo⟩:=z';have e1:zg=s1.gens:=mv.gens;have e2:zd=s1.drawn:=mv.drawn;have e3:zo=s1.os:=mv.os;subst e1 e2 e3;obtain⟨f0,f1,f2,f3,f4,f5⟩:=ff;exact I1.turned (t':=zt) (λ b o hb e=>mv.heap b o (by simpa using hb) (aA _ e)) f0 f1 f3 f4 f5
  have er:ac=its.reverse.toArray:=by
   have sz2:ac.size=its.length:=by simpa using io.1
   apply Array.ext
   ·simp[sz2]
   ·intro j h1 h2;have q:=io.2 j _ (dO h1);simp only[aO,jA] at q;have q2:its.reverse[j]?=some ac[j]:=by rw[tW fu];exact q
    rw[s0e];exact(bS ((aF (by simpa using h2)).symm.trans q2)).symm
  subst er
  have I4:Inv X pins σ (upd H1 z'.heap.objs.size (.tup xs.reverse)) { z' with heap:=z'.heap.push { cls:=.type "tuple",data:=.seq its.reverse.toArray } } :=
   I3.laid (t':=z'.toks) (λ b o e=>aA _ e) (ar _) (show ObjOk X.prog X.w _ _ _ (.tup xs.reverse) from ⟨by simpa using hz,its.reverse,rv.reverse,TupO.new _ _⟩)
  exact⟨.ref z'.heap.objs.size,_,I4,O,q _ (I3.hok.fresh (ar _))⟩
noncomputable def okS(k:Nat)(x:Str):Prop:=x.length<=k/\∀c∈x.cps.toList,c<1000
noncomputable def mC(K:FG)(a:Addr):It:=⟨λ i H=>∃xs x,SqL K H a xs/\xs[i]?=some x,
 λ i H v H'=>∃T x,v=.ref T/\H T=none/\H'=upd H T (.tup [.int i,x])/\∀xs,SqL K H a xs->xs[i]?=some x,λ i H=>∃xs,SqL K H a xs/\xs.length<=i⟩
theorem CJ{K:FG}{a z j:Addr}(zj:z≠j) :
  Turn P w K (.Tuple es x1 pp) (mC K a) [z,j] z (λ i h=>(∃u,IsEnum h z j i u)/\h.IsListIter j a i) where
 mem:=pv
 obj:=λ i h q c hc=>by
  obtain⟨⟨u,q1⟩,⟨o4,g4,_,d4⟩⟩:=q;simp only[aG,aU,aY] at hc
  rcases hc with rfl|rfl
  ·exact⟨_,q1,λ v y=>nomatch y⟩
  ·exact⟨_,g4,λ v y=>by rw[d4] at y;cases y⟩
 keep:=λ i h h' q k=>by
  obtain⟨⟨u,q1⟩,q4⟩:=q;exact⟨⟨u,k _ pv _ q1⟩,q4.at λ o g=>k _ pv o g⟩
 item:=by
  intro X hP hw hK hc i pins s σ H E I hf st hg;subst hP hw hK;obtain⟨xs,x,hq,hx⟩:=hg;obtain⟨⟨u,q1⟩,q4⟩:=st;obtain⟨as,ra,pa,za⟩:=I.list hq;obtain⟨ux,hux,rux⟩:=ra.get hx;have ta:s.heap.IsList a as.toArray:=pa.isList;have az:a≠z:=by rintro rfl;obtain⟨o,g,c,_⟩:=ta;rw[q1] at g;cases g;simp at c
  have aj:a≠j:=by rintro rfl;obtain⟨o,g,c,_⟩:=ta;obtain⟨o4,g4,c4,_⟩:=q4;rw[g4] at g;cases g;rw[c4] at c;simp at c
  have il:i<as.toArray.size:=by simpa using (bc.mp hux).1
  refine ud (Draws.list (A:=X.A.in1) (I.ok.hd hc) j a aj as.toArray) q1 ⟨q4,ta⟩ il zj (by simp only[aG,aU,aY,not_or];exact⟨zj,az.symm⟩) λ y m tk hy zo st' np sz bt=>?_;have yu:y=ux:=by simp only[jA] at hy;rw[hux] at hy;exact(bS hy).symm
  subst yu
  have I1:Inv X pins σ H { s with heap:=m,toks:=tk+1 }:=I.turnedL (t':=tk+1) (fl:=[z,j]) (λ c o hc e=>by
   simp only[aG,aU,aY,not_or] at hc
   exact bt c o hc.1 hc.2 e) hf
  obtain⟨f0,f1,f2,f3,f4,f5⟩:=I.fpOk (ar s.heap.objs.size) (I.hok.fresh (ar _))
  have n0:X.s₀.heap.get? s.heap.objs.size=none:=by
   cases q:X.s₀.heap.get? s.heap.objs.size with
   |none=>rfl
   |some o=>exact absurd (bR (aC q) I.sz) (cg _)
  have I2:Inv X pins σ (upd H s.heap.objs.size (.tup [.int i,x])) { s with heap:=m,toks:=tk+1 }:=I1.track f0 ⟨small pv,[.int i tk,y],.cons (show RelV (V.int i) (Value.int i tk) from ⟨_,rfl⟩) (.cons rux .nil),⟨_,np,⟨rfl,_,rfl⟩,rfl⟩⟩ f1 f4 f5 n0;have lt:∀ {c o},s.heap.get? c=some o->c≠s.heap.objs.size:=λ e=>aK (aC e);have zT:z≠s.heap.objs.size:=lt q1;obtain⟨e0,e1,e2,e3,e4,e5⟩:=hf z pv;refine⟨_,O,ue zo λ h2 z2 sb=>?_⟩;have I3:Inv X pins σ (upd H s.heap.objs.size (.tup [.int i,x])) { s with heap:=h2,toks:=tk+1 }:=Inv.turned (s:={ s with heap:=m,toks:=tk+1 }) (h':=h2) (t':=tk+1) (it:=z) I2 (λ c o hc e=>sb.extBut _ _ hc e) (by rw[aL zT];exact e0) e1 e3 e4 e5;refine⟨.ref s.heap.objs.size,_,I3,O,⟨_,x,O,f0,O,λ xs' k1=>?_⟩,⟨⟨_,by simpa using z2⟩,st'.1.at λ o g=>sb.extBut _ _ zj.symm g⟩,λ c hc=>?_⟩
  ·rw[I.list_inj k1 hq];exact hx
  ·have cT:c≠s.heap.objs.size:=by
    obtain⟨o4,g4,_⟩:=q4;simp only[aG,aU,aY] at hc
    rcases hc with rfl|rfl
    ·exact zT
    ·exact lt g4
   rw[aL cT];exact(hf c hc).1
 done:=by
  intro X hP hw hK hc i pins s σ H E I hf st hg;subst hP hw hK;obtain⟨xs,hq,hx⟩:=hg;obtain⟨⟨u,q1⟩,q4⟩:=st;obtain⟨as,ra,pa,za⟩:=I.list hq;have la:=ra.length;refine wpAny_pyNext_enum_end (I.ok.hd hc) (i:=i) (by simpa using q1) q4 pa.isList (by simp;lia) λ m bt=>⟨O,?_⟩
  exact I.turnedL (t':=s.toks) (fl:=[z,j]) (λ c o hc e=>by
   simp only[aG,aU,aY,not_or] at hc
   exact bt c o hc.2 e) hf
 self:=λ _ _ _ _ _ st h=>let ⟨⟨_,q1⟩,_⟩:=st;mB q1 h
section
variable {es:List Expr}{x1:Nat}{pp:Pos}
noncomputable def CK(K:FG)(te:TE):TI:=λ σ H R=>te σ H λ v H1=>∃a xs,v=.ref a/\SqL K H1 a xs/\R (mC K a) H1
theorem CL{p pos:Pos}(hg:Gl X "enumerate")(hm:X.mg "enumerate"=none)(he:PE X e te)(hs:starEach [e] X.env=[(false,eval e X.env)]:=by rfl) :
  PI X (.Tuple es x1 pp) (.Call (.Name "enumerate" p) [e] [] pos) (CK X.K te):=by
 intro pins s σ H R I h;have hA:=(cO he (pa_nil (X:=X)) hs) pos pins s σ H (λ vs H1=>match vs with|[x]=>∃a xs,x=.ref a/\SqL X.K H1 a xs/\R (mC X.K a) H1|_=>False) I h;refine Call_ (dA I hg hm boot_enumerate (fD (thn hA λ us s1 ⟨vs,H1,I1,r1,q1⟩=>?_) hs rfl))
 match vs,q1 with
 |[x],⟨a,xs,e,hq,q⟩=>
  subst e;obtain⟨u,rfl,ru⟩:=bL r1;cases (show u=Value.ref a from ru);obtain⟨as,va,pa,za⟩:=I1.list hq;refine call_enumerate_list pa.isList λ m w1 w2 sz kk=>?_;have I2:Inv X pins σ H1 { s1 with heap:=m }:=I1.kept (t':=s1.toks) kk;refine mB w1 ⟨s1.heap.objs.size+1,[s1.heap.objs.size+1,s1.heap.objs.size],_,_,H1,O,I2,CJ (pR _),⟨⟨_,w1⟩,w2⟩,λ c hc=>?_,q⟩
  have ge:s1.heap.objs.size<=c:=by
   simp only[aG,aU,aY] at hc
   rcases hc with rfl|rfl<;>lia
  exact I1.fpOk ge (I1.hok.fresh ge)
end
instance (k:Nat)(x:Str):Decidable (okS k x):=by unfold okS;infer_instance
section
variable {tg:Expr}
end
noncomputable def CN(K:FG):R2:=λ x y H Q=>∃l b xs zs,x=.ref l/\y=.ref b/\SqL K H l xs/\SqL K H b zs/\xs.length+zs.length<=sizeLine/\∀p,H p=none->Q (.ref p) (upd H p (.lst (xs++zs)))
def pS:OpR X (binaryOp .Add) (CN X.K):=by
 intro pins s σ H x y v u Q I rx ry h;obtain⟨l,b,xs,zs,rfl,rfl,hH,hB,hz,q⟩:=h;cases rx;cases ry;obtain⟨its,r,⟨⟨c1,d1,z1,l1⟩,n,e,hc,hd,hs⟩,_⟩:=I.list hH;obtain⟨its2,r2,⟨⟨c2,d2,z2,l2⟩,n2,e2,hc2,hd2,hs2⟩,_⟩:=I.list hB;simp only at hc hd hs hc2 hd2 hs2;subst hc hd hs hc2 hd2 hs2;have a1:=r.length;have a2:=r2.length;have ea:its.toArray++its2.toArray=(its++its2).toArray:=pv;refine lU ⟨_,e,O⟩ ⟨_,e2,O⟩ noFill_list_add seq_list_add F.slot_list_add F.entry_list_add (F.args_list_add_2 _ _) (list_addW l b its.toArray its2.toArray n n2 _ _ _ _ (by rw[aO,aO];lia)) ⟨e,e2,?_⟩;rw[ea];exact⟨.ref _,_,I.lnew (t':=s.toks) (r.append r2) (by rw[aQ];lia),O,q _ I.fresh⟩
section
variable {pg:Program}{wd:World}{B:Around}{X0:VS}{s0:Shared}
end
section
variable {es:List Expr}{x1:Nat}{pp:Pos}
end
end _L
namespace _L
open PySem PySem.Spec PyProof.Rows PySem.W PySem.Calls
def CO(i j:Int):Prop:=IntMulOk i j
def CP:OpR X (binaryOp .Mult) (rI CO λ i j=>.int (i*j)):=opI λ _ _ _ _ _ _ _ hc q=>mul_int q hc
section
variable {prog:Program}{w:World}{A:Around}{E:VS}{s:Shared}
theorem uf{l:Addr}{T:String}{vs:LV}{Q:VS}(hT:T="list" \/ T="tuple")(ho:s.heap.get? l=some o)(hc:o.cls=.type T)(hd:o.data=.seq vs.toArray n)(hI:IntsAre vs ns)(h64:vs.length<64)
  (h:∀(h1 h2:Heap) (vs':LV) (ns':LI) (e:Nat),(∀b u,s.heap.get? b=some u->h1.get? b=some u)->(∀b u,h1.get? b=some u->h2.get? b=some u)->h2.get? h1.objs.size=some (seqObj "list" vs'.toArray e)->IntsAre vs' ns'->ns'.Perm ns->ns'.Pairwise (·<=·)->Q (.ref h1.objs.size) { s with heap:=h2 }) :
  wpAny (model prog w) A (call (.builtin "sorted") [.ref l]) Q E s:=by
 refine ug kind_sorted plain_sorted entry_sorted (args_sorted1 _) ?_;unfold Builtin.«sorted»;refine af (m:=checkCount "sorted" 1 1 _) (ag ?_);refine af (wpAny_collect_seq l hT ho hc hd (λ h1 k1=>?_) (by simp only[aO];exact cj (aR fu)));rw[show vs.toArray.toList=vs by simp];refine af (wpAny_newList ?_);have hoL:(h1.push (seqObj "list" vs.toArray 0)).get? h1.objs.size=some (seqObj "list" vs.toArray 0):=aM _ rfl;refine af (bU (cZ slot_list_sort ⟨_,hoL,O⟩ entry_list_sort (list_sort_tree hoL hI h64 λ out ns' a1 a2 a3=>⟨_,O,?_⟩) (args_list_sort _)));refine ag ⟨_,O,?_⟩;obtain⟨e,he⟩:=sortedHeap_at (vs:=vs) (out:=out) hoL;refine h h1 _ out.toList ns' e k1 (λ b u q=>?_) (by rw[mD];exact he) a1 a2 a3;have hlt:=aC q;rw[sortedHeap_old (aK hlt) (by rw[size_push'];exact cJ hlt)];exact aA _ q
end
theorem pU:∀ {xs:List V}{us:LV},xs.length=us.length->(∀(i:Nat) u,us[i]?=some u->∃x,xs[i]?=some x/\RelV x u)->Vals xs us
 |[],[],_,_=>.nil
 |[],_::_,h,_=>by simp at h
 |_::_,[],h,_=>by simp at h
 |x::xs,u::us,h,f=>by
  obtain⟨y,e,r⟩:=f 0 u rfl;cases (bS e);exact .cons r (pU (by simpa using h) λ i v e=>f (i+1) v e)
variable {X:Cx}
def CQ:bo X (.builtin "sorted") (λ xs H Q=>∃p ns,xs=[.ref p]/\(SqL X.K H p (List.map V.int ns)\/SqT X.K H p (List.map V.int ns))/\ns.length<64/\∀ns':LI,ns'.Perm ns->ns'.Pairwise (·<=·)->∀l,H l=none->Q (.ref l) (upd H l (.lst (ns'.map V.int)))):=by
 intro pins s σ H xs us Q I r h;obtain⟨p,ns,rfl,hq,h64,q⟩:=h;obtain⟨u,rfl,rx⟩:=bL r;cases rx
 have fin:∀(h1 h2:Heap) (vs':LV) (ns':LI) (e:Nat),(∀b u,s.heap.get? b=some u->h1.get? b=some u)->(∀b u,h1.get? b=some u->h2.get? b=some u)->h2.get? h1.objs.size=some (seqObj "list" vs'.toArray e)->IntsAre vs' ns'->ns'.Perm ns->ns'.Pairwise (·<=·)->EP X pins σ Q (.ref h1.objs.size) { s with heap:=h2 }:=by
  intro h1 h2 vs' ns' e k1 k2 g a1 a2 a3;have I1:Inv X pins σ H { s with heap:=h1 }:=I.kept (t':=s.toks) k1;have hz:(ns'.map V.int).length<=sizeLine:=by rw[ah,a2.length_eq];exact cj (aR fu)
  have I2:Inv X pins σ (upd H h1.objs.size (.lst (ns'.map V.int))) { s with heap:=h2 }:=I1.laid (t':=s.toks) k2 (ar _) (show ObjOk X.prog X.w _ _ _ (.lst (ns'.map V.int)) from ⟨hz,vs',e,ma a1,g⟩);exact⟨.ref h1.objs.size,_,I2,O,q ns' a2 a3 _ (I1.hok.fresh (ar _))⟩
 rcases hq with hq|hq
 ·obtain⟨its,r',pl,hz⟩:=I.list hq;have hi:=jp r';obtain⟨o,ho,hc,n,hd⟩:=pl.isList;exact uf (.inl rfl) ho hc hd hi (by rw[hi.length];exact h64) fin
 ·obtain⟨its,r',pl,hz⟩:=I.tuple hq;have hi:=jp r';obtain⟨o,ho,hc,n,hd⟩:=pl;exact uf (.inr rfl) ho hc hd hi (by rw[hi.length];exact h64) fin
def CS:bo X (.type "range") (λ xs H Q=>∃j:Int,xs=[.int j]/\∀r,H r=none->Q (.ref r) (upd H r (.rng 0 j))):=by
 intro pins s σ H xs us Q I r h;obtain⟨j,rfl,q⟩:=h;obtain⟨u,rfl,t,rfl⟩:=bL r;refine call_range_1 ⟨.ref s.heap.objs.size,_,I.laid (λ b o e=>aA _ e) (ar _) ?_,O,q _ (I.hok.fresh (ar _))⟩;exact⟨_,_,_,aM _ rfl⟩
def upL(n:Nat):LI:=(List.range n).map λ(i:Nat)=>(i:Int)
def CT(hc:X.calm=true):bo X (.type "list") (λ xs H Q=>∃p n,xs=[.ref p]/\H p=some (.rng 0 (Int.ofNat n))/\n<=1000/\∀l,H l=none->Q (.ref l) (upd H l (.lst ((upL n).map V.int)))):=by
 intro pins s σ H xs us Q I r h;obtain⟨p,n,rfl,hp,hn,q⟩:=h;obtain⟨u,rfl,rx⟩:=bL r;cases rx;obtain⟨t,u,v,e⟩:=I.hok p _ hp
 have hs:Builtin.Range.small 0 (Int.ofNat n) 1=true:=by
  have z:∀m:Fin 1001,Builtin.Range.small 0 (Int.ofNat m.val) 1=true:=by decide +kernel
  exact z ⟨n,fu⟩
 have hsz:Builtin.Range.rangeSize 0 (Int.ofNat n) 1=n:=by
  unfold Builtin.Range.rangeSize;rw[if_pos on];split
  ·show(Int.ofNat n-0-1)/1+1=_;simp; 
  ·simp at *;lia
 refine call_list_range (I.ok.hd hc) e hs hsz fu λ h' tk acc' c' k g it=>?_
 have rv:Vals ((upL n).map V.int) acc'.toList:=by
  refine pU (by simp[upL,it.1]) λ i v e=>?_;rw[db] at e;obtain⟨tt,rfl⟩:=it.2 i v e;have hi:i<n:=by rw[<- it.1];exact(pr.mp e).1
  exact⟨.int i,by simp[upL,hi],tt,pv⟩
 exact⟨.ref s.heap.objs.size,_,I.laid k (ar _) (show ObjOk X.prog X.w _ _ _ (.lst _) from ⟨by simp[upL];exact cj (aR hn),acc'.toList,c',rv,by rw[mD];exact g⟩),O,q _ (I.hok.fresh (ar _))⟩
def CU:MtR X "list.pop" kC:=Bh
theorem CV{X:Cx}{i:Nat}{elt tg iter:Expr}{cl:LA}{pos pos' lpos:Pos}{own fv:List Str}{js:List Nat}
  (hN:X.N.Nodup) (hx1:X.N[i]?=some x) (hx:Loc X.env.scope x) (hf:X.fn x=true\/X.env.scope.names.lookup x=some .local)
  (hc:X.calm=true) (hi:PI X tg iter wi) (hclos:closureFor scope X.env=pure cl) (hcell:∀y∈scope.names,y.2≠.cell) (hkind:scope.kind=.function)
  (hnames:∀y∈scope.names,y.2=.local->scope.names.lookup y.1=some .local)
  (hcl:∀x c,cl.lookup x=some c->X.env.cells.lookup x=some c)
  (hhas:∀x,((relabel scope X.env).names.lookup x=some .cell\/(relabel scope X.env).names.lookup x=some .free)->∃c,cl.lookup x=some c)
  (hlen:js.length=fv.length) (hcap:∀(i:Nat) x j,fv[i]?=some x->js[i]?=some j->Cap X scope cl x j)
  (hg:∀(C:Addr) (ex:List Addr) (s:Shared) (H:Hp),PG (bh X (own++fv) scope cl C ex s H) tg g)
  (he:∀(C:Addr) (ex:List Addr) (s:Shared) (H:Hp),PE (bh X (own++fv) scope cl C ex s H) elt te)
  (hsw:swapsWith (.ListComp elt [⟨tg,iter,[],0⟩] scope lpos) (some (.Name x pos')) pos.line X.env=pure true:=by rfl)
  (hs:∀x,foldedSetIterable iter X.env x=pure x:=by intro _;rfl) :
  PS X (.Assign [.Name x pos'] (.ListComp elt [⟨tg,iter,[],0⟩] scope lpos) pos) (jc (ju wi own.length js g te) (dL i)):=by
 intro pins s σ H D I h;rw[uh _ _ _ _ hsw];refine af (ip ?_);rw[ui];have core:=tP (use:=some (assign (.Name x pos') X.env)) (QQ:=λ _ s'=>SP X pins D .next s') (fpos:=firstIterPos [⟨tg,iter,[],0⟩] lpos) (pos:=lpos) hc hi hclos hcell hkind hnames hcl hhas hlen hcap hg he hs I h (λ a C s5 H5 fl I5 zC zL zS zc zp ⟨m,hn⟩ q=>?_)
 ·refine af (af (thn core λ _ s' hq=>?_));exact ag (ag hq)
 ·show wpAny (model X.prog X.w) X.A (assign (.Name x pos') X.env (.ref a)) _ X.xe s5;show wpAny (model X.prog X.w) X.A (do standAt pos';bindName X.env x (.ref a)) _ X.xe s5;refine af (ip ?_);refine bindName_ ?_;refine oC I5 hN hx1 hx (show RelV (.ref a) (.ref a) from rfl) (λ s6 I6 ⟨b,sb,hb⟩=>?_) hf
  have cb:C≠b:=by
   rcases hb with rfl|hb
   ·exact zL
   ·exact λ z=>zc x b hb z.symm
  obtain⟨o,es,ep,e,r⟩:=hn;refine⟨m,⟨o,es,ep,(sb.2 C cb).trans e,r⟩,λ h' sc=>?_⟩;exact⟨_,H5,I6.turned (t':=s6.toks) (it:=C) (λ d o nd e=>sc.extBut d o nd e) zC zL (.inr zS) zc zp,q⟩
noncomputable def CW:V->Option Int->Option Int->Hp->VK->Prop:=λ x lo hi H Q=>∃z,x=.str z/\z.length<=4000000/\Q (.str (Txt.slice z lo hi)) H
def CY:SlR X CW:=by
 intro pins s σ H x v vl vu lo hi sl Q I rx hs pl pu h;obtain⟨z,rfl,hz,q⟩:=h;obtain⟨t,rfl⟩:=rx;have s20:4000000<=sizeLine:=by rw[kr];decide
 have part:∀ {u:Value}{o:Option Int},IsPart u o->∃l,u=partValue l/\o=l.map λ p:Int×Tok=>p.1:=λ p=>by
  cases p with
  |none=>exact⟨none,rfl,rfl⟩
  |int i t=>exact⟨some (i,t),rfl,rfl⟩
 obtain⟨l,rfl,rfl⟩:=part pl;obtain⟨u,rfl,rfl⟩:=part pu;obtain⟨o,ho,hc,hd⟩:=hs;refine⟨"str",_,F.slot_str_getitem.lookup,typeIs_str _ _ _,wpAny_getItem_str_slice (l:=l) (u:=u) (st:=none) ⟨o,ho,hc,hd⟩ rfl ?_⟩;have le:=Txt.slice_le z (l.map λ p:Int×Tok=>p.1) (u.map λ p:Int×Tok=>p.1);exact post_val_or_str ⟨bB le fu,λ t' k=>⟨.str _,H,I.tok k,⟨t',O⟩,q⟩⟩
theorem uj:∀ {bs:List Bool}{us:LV},Vals (bs.map V.bl) us->us=bs.map Value.bool
 |[],_,.nil=>rfl
 |b::bs,_,.cons r t=>by
  cases (show _=Value.bool b from r);rw[uj t];rfl
def CZ(hc:X.calm=true):bo X (.builtin "any") (λ xs H Q=>∃(a:Addr) (bs:List Bool),xs=[.ref a]/\SqL X.K H a (bs.map V.bl)/\Q (.bl (bs.any id)) H):=by
 intro pins s σ H xs us Q I r h;obtain⟨a,bs,rfl,hq,q⟩:=h;obtain⟨u,rfl,ru⟩:=bL r;cases (show u=Value.ref a from ru);obtain⟨its,rv,pl,hz⟩:=I.list hq;have hl:=pl.isList;have hlt:a<s.heap.objs.size:=by obtain⟨_,e,_⟩:=hl;exact aC e
 have hb:=uj rv;subst hb;refine call_any_walk (kJ hl ?_)
 refine⟨s.heap.objs.size,[s.heap.objs.size,a],[s.heap.objs.size],(bs.map Value.bool).toArray.size,_,_,λ i=>(bs[i]?).getD false,O,Walks.list (A:=X.A.in1) (I.ok.hd hc) _ a (aK hlt) (bs.map Value.bool).toArray,
  ⟨⟨_,aM _ rfl,rfl,rfl⟩,hl.push _⟩,λ i v s' Q' E' hP hQ=>?_,λ h' tk hk=>?_⟩
 ·have hP:(bs.map Value.bool)[i]?=some v:=by simpa using hP
  rw[aX] at hP
  cases e:bs[i]? with
  |none=>rw[e] at hP;cases hP
  |some b=>
   rw[e] at hP;cases hP;simp only[e,Option.getD_some] at hQ;exact fj hQ
 ·have e:((List.range (bs.map Value.bool).toArray.size).any λ i=>(bs[i]?).getD false)=bs.any id:=by
   rw[aO,ah];exact LSm.range_any bs
  rw[e];exact⟨.bl _,H,I.kept (t':=tk) (LSm.kept_iter hk),O,q⟩
section
variable {κ:Type} [DecidableEq κ]
noncomputable def fK(kvs:List (κ×V))(k:κ):Option V:=(kvs.find? λ kv=>decide (kv.1=k)).map (·.2)
def pV{p:κ×V}{r:List (κ×V)}{k:κ}(e:p.1=k):fK (p::r) k=some p.2:=by simp[fK,List.find?_cons,e]
def pW{p:κ×V}{r:List (κ×V)}{k:κ}(e:¬p.1=k):fK (p::r) k=fK r k:=by simp[fK,List.find?_cons,e]
def RelO.getD(r:RelO o u)(rd:RelV d d'):RelV (o.getD d) (u.getD d'):=by
 cases o with
 |none=>cases u with
  |none=>exact rd
  |some _=>exact(show False from r).elim
 |some _=>cases u with
  |none=>exact(show False from r).elim
  |some _=>exact r
def KV.val{vs:List (κ×Value)}(r:KV kvs vs)(k:κ):RelO (fK kvs k) (valueAt vs k):=by
 unfold KV at r
 induction r with
 |nil=>exact jC
 |@cons p q ps qs h t ih=>
  obtain⟨h1,h2⟩:=h;by_cases e:p.1=k
  ·have e':q.1=k:=h1.symm.trans e;have b:valueAt (q::qs) k=some q.2:=by simp[valueAt,List.find?_cons,e']
   rw[pV e,b];exact h2
  ·have e':¬q.1=k:=λ z=>e (h1.trans z);have b:valueAt (q::qs) k=valueAt qs k:=by simp[valueAt,List.find?_cons,e']
   rw[pW e,b];exact ih
end
def pX(r:RelV (kV k) u):(cx P w).is k u=true:=by
 cases k with
 |inl i=>obtain⟨t,e⟩:=(show ∃t,u=Value.int i t from r);subst e;exact yE P w i t
 |inr x=>obtain⟨t,e⟩:=(show ∃t,u=Value.str x t from r);subst e;exact yF P w x t
theorem uk:∀ {ks:List Key}{us:LV},Vals (ks.map kV) us->ItemsAre (cx P w) ks us
 |[],_,r=>by rw[kw] at r;cases r;exact .nil
 |k::ks,_,r=>by
  rw[cz] at r
  cases r with
  |cons h t=>exact .cons (pX h) (uk t)
noncomputable abbrev KT(H:Hp):List (List Key×V)->List (List Key×Addr×Value)->Prop:=Paired λ p q=>p.1=q.1/\H q.2.1=some (.tup (p.1.map kV))/\RelV p.2 q.2.2
def KT.val(r:KT H kvs xs)(k:List Key):RelO (fK kvs k) ((atKey xs k).map (·.2)):=by
 induction r with
 |nil=>exact jC
 |@cons p q ps qs h t ih=>
  obtain⟨h1,_,h2⟩:=h;by_cases e:p.1=k
  ·have e':q.1=k:=h1.symm.trans e;have b:atKey (q::qs) k=some q.2:=by simp[atKey,List.find?_cons,e']
   rw[pV e,b];exact h2
  ·have e':¬q.1=k:=λ z=>e (h1.trans z);have b:atKey (q::qs) k=atKey qs k:=by simp[atKey,List.find?_cons,e']
   rw[pW e,b];exact ih
section
variable {P:Program}{w:World}{H:Hp}{h:Heap}{a:Addr}
def um(ok:HOk P w H h)(e:Rd H a u):ObjOk P w H h a u:=e.ok ok
def mE(ok:HOk P w H h)(e:Rd H a (.dK kvs)):kvs.length<=sizeLine/\(a == sysModules)=false/\∃vs,KV kvs vs/\h.DictOf (cx P w) a vs :=
 show ObjOk P w H h a (.dK kvs) from um ok e
def pY{ks:List Key}(ok:HOk P w H h)(e:H a=some (.tup (ks.map kV))):(tupleKind (cx P w)).is h ks a:=by
 obtain⟨_,its,r,o,h1,⟨h2,n,h3⟩,_⟩:=(show ObjOk P w H h a (.tup (ks.map kV)) from ok a _ e);exact⟨o,its.toArray,n,h1,h2,h3,by simpa using uk r⟩
theorem mF(ok:HOk P w H h)(e:Rd H a (.dT kvs)):kvs.length<=sizeLine/\(a == sysModules)=false /\
  ∃xs,KT H kvs xs/\h.DictOfH (tupleKind (cx P w)) a xs:=by
 obtain⟨z,y,xs,r,o,es,ep,h1,h2,h3,h4,h5⟩:=(show ObjOk P w H h a (.dT kvs) from um ok e);refine⟨z,y,xs,r,o,es,ep,h1,h2,h3,h4,λ x hx=>?_,h5⟩
 have all:∀ {l:List (List Key×V)}{m:List (List Key×Addr×Value)},KT H l m->∀x∈m,(tupleKind (cx P w)).is h x.1 x.2.1:=by
  intro l m q
  induction q with
  |nil=>intro x hx;exact nomatch hx
  |@cons p q ps qs hq t ih=>
   intro x hx
   rcases aG.mp hx with e|hx
   ·subst e;exact pY ok (by rw[<- hq.1];exact hq.2.1)
   ·exact ih x hx
 exact all r x hx
end
noncomputable def kK(H:Hp)(a:Addr)(y:V)(r:Option V):Prop :=
 (∃kvs k,Rd H a (.dK kvs)/\y=kV k/\r=fK kvs k)\/∃kvs k b,Rd H a (.dT kvs)/\y=.ref b/\H b=some (.tup (k.map kV))/\r=fK kvs k
section
variable {pins:LO}{σ:St}{H:Hp}{s:Shared}{a:Addr}{y v:V}{u r:Value}{o:Option V}{A:Around}{E:VS}
def Inv.big(I:Inv X pins σ H s):sysModules<s.heap.objs.size:=by
 have h:mainGlobals<s.heap.objs.size:=(I.mod.glob.keeps I.bk).lt;exact iB on h
theorem Da{Q:VS}(hu:A.units+1<cLine)(I:Inv X pins σ H s)(g:kK H a y (some v))(ry:RelV y u)(h:∀w' s',Inv X pins σ H s'->RelV v w'->Q w' s') :
  wpAny (model X.prog X.w) A (getItem (.ref a) u) Q E s:=by
 rcases g with ⟨kvs,k,e,ey,l⟩|⟨kvs,k,b,e,ey,eb,l⟩
 ·subst ey;obtain⟨z,hd,vs,rel,dd⟩:=mE I.hok e;obtain⟨w',hw,rw'⟩:=RelO.some_of (v:=v) (o:=valueAt vs k) (by rw[l];exact rel.val k);exact wpAny_getItem_of (pX ry) dd.mapOf hw (h w' _ (I.tok _) rw')
 ·subst ey;cases (show u=Value.ref b from ry);obtain⟨z,hd,xs,rel,dd⟩:=mF I.hok e;obtain⟨w',hw,rw'⟩:=RelO.some_of (v:=v) (o:=(atKey xs k).map (·.2)) (by rw[l];exact rel.val k);obtain⟨p,hp,hp2⟩:=mG.mp hw;refine wpAny_getItem_heap (s1k hu) (pY I.hok eb) dd hp ?_;rw[hp2];exact h w' _ (I.tok _) rw'
theorem Db{h':Heap}{kvs:List (Key×V)}{vs:List (Key×Value)}(z:kvs.length<=sizeLine)(hd:(a == sysModules)=false)(rel:KV kvs vs)(dd:h'.DictOf (cx P w) a vs) :
  ObjOk P w H' h' a (.dK kvs):=⟨z,hd,vs,rel,dd⟩
end
section
variable {pins:LO}{σ:St}{H:Hp}{s:Shared}{a:Addr}{kvs:List (Key×V)}{k:Key}{u:Value}{A:Around}{E:VS}
end
noncomputable def pZ(i:Expr):Prop:=∀ov iv,subscripted i false ov iv=operate [ov,iv] (getItem ov iv)
theorem uo{T id:String}
  (hl:typeLookup (.type T) "__getitem__"=pure (some (.builtin id))) (hs:pZ slice)
  (h:wpAny (model prog w) A (eval value env) (λ o s₁=>wpAny (model prog w) A (eval slice env) (λ i s₂=>s₂.TypeIs o T/\wpAny (model prog w) A (getItem o i) Q E s₂) E s₁) E s) :
  wpAny (model prog w) A (eval (.Subscript value slice pos) env) Q E s:=by
 refine Subscript_ (cy h (λ o s₁ h₁=>cy h₁ (λ i s₂ h₂=>?_) λ _ _ x=>x) λ _ _ x=>x);obtain⟨hT,h₂⟩:=h₂;unfold subscriptTail;refine af ?_;rw[getitemInPython_of_ne hT.not_modules];refine af (ga hT hl ?_)
 have fin:wpAny (model prog w) A (subscripted slice false o i) (λ r s₃=>wpAny (model prog w) A (letTemporaryGo value o r >>= λ _=>pure r) Q E s₃) E s₂:=by
  rw[hs o i];exact wpAny_operating (cy h₂ (λ r s₃ h₃=>af (wpAny_letTemporaryGo (ag h₃))) λ _ _ x=>x)
 first
  |exact ag (af fin)
  |exact af (ag (af fin))
  |exact af fin
def Dc(I:Inv X pins σ H s)(g:kK H a y o):s.TypeIs (.ref a) "dict" := by
 rcases g with ⟨kvs,k,e,_,_⟩|⟨kvs,k,b,e,_,_,_⟩
 ·obtain⟨_,_,vs,_,dd⟩:=mE I.hok e;exact dd.typeIs
 ·obtain⟨_,_,xs,_,dd⟩:=mF I.hok e;exact dd.typeIs
noncomputable def Dd(td ty:TE):TE:=λ σ H Q=>td σ H λ x H1=>ty σ H1 λ y H2=>∃a v,x=.ref a/\kK H2 a y (some v)/\Q v H2
section
variable {o i e value:Expr}{pos pos' tpos:Pos}{td ty tv:TE}
def De(hu:X.A.units+1<cLine)(ho:PE X o td)(hi:PE X i ty)(hs:pZ i):PE X (.Subscript o i pos) (Dd td ty):=by
 intro pins s σ H Q I h;refine uo PySem.F.slot_dict_getitem.lookup hs (thn (ho pins s σ H _ I h) λ u s1 ⟨x,H1,I1,rx,q1⟩=>thn (hi pins s1 σ H1 _ I1 q1) λ iv s2 ⟨y,H2,I2,ry,a,v,ex,g,q2⟩=>?_);subst ex;obtain rfl:u=Value.ref a:=rx;exact⟨Dc I2 g,Da hu I2 g ry λ w' s3 I3 rw'=>⟨v,H2,I3,rw',q2⟩⟩
end
section
variable {pos:Pos}
end
structure M1 (X:Cx)(o:Expr)(m:Str)(apos:Pos)(e:Expr)(cpos:Pos):Prop where
 base:attributeBase o m X.env (eval o X.env)=eval o X.env
 few:((backTo cpos (starEach [e] X.env)).all (λ x=>!x.1) && (backToKw cpos (keywordEach [] X.env)).all (λ x=>x.1.isSome)
  && decide (([e]:List Expr).length+([]:List Keyword).length+(if ([]:List Keyword).isEmpty then 0 else 1)<30))=true
 line:(apos.endLine == cpos.line)=true
 trees:backTo cpos (starEach [e] X.env)=[(false,eval e X.env)]
noncomputable def IsD(H:Hp)(a:Addr):Prop:=(∃kvs,Rd H a (.dK kvs))\/∃kvs,Rd H a (.dT kvs)
theorem Df(I:Inv X pins σ H s)(d:IsD H a) :
  s.TypeIs (.ref a) "dict" /\ (∀b,Value.ref a=.ref b->∃ob,s.heap.get? b=some ob/\ob.dict=none)/\(a == sysModules)=false:=by
 rcases d with ⟨kvs,e⟩|⟨kvs,e⟩
 ·obtain⟨_,hd,vs,_,dd⟩:=mE I.hok e;refine⟨dd.typeIs,λ b q=>?_,hd⟩;cases q;obtain⟨ob,_,_,h1,h2,_⟩:=dd;exact⟨ob,h1,h2.2.1⟩
 ·obtain⟨_,hd,xs,_,dd⟩:=mF I.hok e;refine⟨dd.typeIs,λ b q=>?_,hd⟩;cases q;obtain⟨ob,_,_,h1,h2,_⟩:=dd;exact⟨ob,h1,h2.2.1⟩
section
variable {pins:LO}{σ:St}{H:Hp}{s:Shared}{a:Addr}{y d:V}{u r:Value}{o:Option V}{A:Around}{E:VS}
theorem Dg{Q:VS}(hu:A.units+1<cLine)(I:Inv X pins σ H s)(g:kK H a y o)(ry:RelV y u)(h:∀w' s',Inv X pins σ H s'->RelV (o.getD .non) w'->Q w' s') :
  wpAny (model X.prog X.w) A (call (.builtin "dict.get") [.ref a,u]) Q E s:=by
 rcases g with ⟨kvs,k,e,ey,l⟩|⟨kvs,k,b,e,ey,eb,l⟩
 ·subst ey;obtain⟨z,hd,vs,rel,dd⟩:=mE I.hok e;refine call_meetsIn qd dd.typeIs uq (ur _ _) (meets_dict_get (cx X.prog X.w) a (pX ry) hd) ⟨_,dd.mapOf,h _ _ (I.tok _) ?_⟩;rw[l];exact(rel.val k).getD rfl
 ·subst ey;cases (show u=Value.ref b from ry);obtain⟨z,hd,xs,rel,dd⟩:=mF I.hok e;refine call_meetsIn qd dd.typeIs uq (ur _ _) (meetsH_dict_get (tupleKind (cx X.prog X.w)) a b hd) ⟨s1k hu,k,xs,pY I.hok eb,dd,h _ _ (I.tok _) ?_⟩;rw[l];exact(rel.val k).getD rfl
end
noncomputable def Dh(td ty:TE):TE:=λ σ H Q=>td σ H λ x H1=>∃a,x=.ref a/\IsD H1 a/\ty σ H1 λ y H2=>∃o,kK H2 a y o/\Q (o.getD .non) H2
section
variable {o e f:Expr}{apos cpos:Pos}{td ty tx:TE}
def Di(hu:X.A.units+1<cLine)(ho:PE X o td)(he:PE X e ty)(m:M1 X o "get" apos e cpos):PE X (.Call (.Attribute o "get" apos) [e] [] cpos) (Dh td ty):=by
 intro pins s σ H Q I h;refine wpAny_Call_method m.base m.few m.line PySem.F.plainAttrs_dict qd PySem.F.type_dict_get (thn (ho pins s σ H _ I h) λ u s1 ⟨x,H1,I1,rx,a,ex,d,q1⟩=>?_);subst ex;obtain rfl:u=Value.ref a:=rx;obtain⟨t1,t2,_⟩:=Df I1 d;refine⟨t1,t2,?_⟩;rw[m.trees];refine pc rfl (s0c (lO (thn (he pins s1 σ H1 _ I1 q1) λ iv s2 ⟨y,H2,I2,ry,ov,g,q2⟩=>lN ?_)));exact Dg hu I2 g ry λ w' s3 I3 rw'=>⟨_,H2,I3,rw',q2⟩
end
section
variable {pins:LO}{σ:St}{H:Hp}{s:Shared}{a:Addr}{kvs:List (Key×V)}{A:Around}{E:VS}
end
section
variable {pins:LO}{σ:St}{H:Hp}{s:Shared}{a:Addr}{y:V}{u:Value}{A:Around}{E:VS}
end
section
variable {κ:Type} [DecidableEq κ]
end
noncomputable def KTab(P:Program)(w:World)(K:FG)(d:Addr)(kvs:LA):Prop:=(d == sysModules)=false/\∀h:Heap,K.In h->h.DictOf (cx P w) d (kvs.map λ p=>((Sum.inr p.1:Key),Value.ref p.2))
noncomputable def Dj(pm:Params)(l:List (Str×Tok×Addr)):List DictEntry:=l.map λ p=>⟨PyData.keyHash pm p.1,.str p.1 p.2.1,.ref p.2.2⟩
theorem KTab.mk{w:World}{K:FG}{d:Addr}(hd:(d == sysModules)=false)(hl:K.lookup d=some { cls:=.type "dict",data:=.dict es n })(he:es.toList=Dj w.params l)(nd:(l.map (·.1)).Nodup) :
  KTab P w K d (l.map λ p=>(p.1,p.2.2)):=by
 refine⟨hd,λ h KI=>⟨_,es,n,KI d _ hl,⟨O,O,O⟩,O,?_,?_,?_⟩⟩
 ·intro e hm;have hm:e∈es.toList:=Array.mem_toList_iff.mpr hm;rw[he] at hm;obtain⟨p,_,rfl⟩:=aT.mp hm;exact⟨Sum.inr p.1,lD p.1 p.2.1,O⟩
 ·rw[he];clear he nd hl
  induction l with
  |nil=>exact .nil
  |cons p r ih=>exact .cons (lD p.1 p.2.1) rfl ih
 ·rw[aV,aV];have e:((λ x:Key×Value=>x.1) ∘ (λ p:Str×Addr=>((Sum.inr p.1:Key),Value.ref p.2))) ∘ (λ p:Str×Tok×Addr=>(p.1,p.2.2))=(λ x:Str=>(Sum.inr x:Key)) ∘ λ p=>p.1:=rfl;rw[<- aV] at *
  have z:(l.map λ p=>(Sum.inr p.1:Key)).Nodup:=by
   have:(l.map λ p=>(Sum.inr p.1:Key))=(l.map (·.1)).map (λ x:Str=>(Sum.inr x:Key)):=by rw[aV];rfl
   rw[this];exact List.Pairwise.map _ (λ a b (h:a≠b) z=>h (s1r z)) nd
  simpa [aV,Function.comp_def] using z
def Dk{kvs:LA}:valueAt (kvs.map λ p=>((Sum.inr p.1:Key),Value.ref p.2)) (Sum.inr x)=(kvs.lookup x).map Value.ref:=by
 induction kvs with
 |nil=>rfl
 |cons p r ih=>
  obtain⟨k,a⟩:=p;unfold valueAt at *;rw[cz,List.find?_cons,gb];by_cases e:x=k
  ·subst e;simp
  ·have h1:decide ((Sum.inr k:Key)=Sum.inr x)=false:=aP λ z=>e (s1r z).symm;have h2:(x == k)=false:=oA.mpr e;rw[h2];simp only[h1];exact ih
noncomputable def Dl(kvs:LA):V->Hp->VK->Prop:=λ y H Q=>∃x a,y=.str x/\kvs.lookup x=some a/\Q (.ref a) H
noncomputable def Dm(kvs:LA)(te:TE):TE:=λ σ H Q=>te σ H λ y H1=>Dl kvs y H1 Q
theorem Dn(hg:Gl X n)(hm:X.mg n=some (.ref d))(T:KTab X.prog X.w X.K d kvs)(hi:PE X i te)(hs:pZ i)(hdb:(n == ("__debug__" : Str))=false:=by decide) :
  PE X (.Subscript (.Name n np) i pos) (Dm kvs te):=by
 intro pins s σ H Q I h;refine uo PySem.F.slot_dict_getitem.lookup hs (oG I hg hm (thn (hi pins s σ H _ I h) λ iv s2 ⟨y,H2,I2,ry,x,a,ey,l,q⟩=>?_) hdb);subst ey;obtain⟨t,rfl⟩:=ry;have dd:=T.2 s2.heap I2.kIn;refine⟨dd.typeIs,wpAny_getItem_of (lD x t) dd.mapOf (v:=.ref a) (by rw[Dk,l];rfl) ⟨.ref a,H2,I2.tok _,O,q⟩⟩
noncomputable def KTup(K:FG)(a:Addr)(xs:List V):Prop:=∃(o:Obj) (its:Array Value) (n:Nat),K.lookup a=some o/\o.cls=.type "tuple" /\ o.dict=none/\o.data=.seq its n/\its.size<=sizeLine/\Vals xs its.toList
def KTup.sq{K:FG}(h:KTup K a xs):SqT K H a xs:=.inr h
section
variable {pg:Program}{wd:World}{B:Around}{X0:VS}{s0:Shared}
end
section
variable {es:List Expr}{x1:Nat}{pp:Pos}
end
section
variable {P:Program}{w:World}{K:FG}{mg:SV}{base:Heap}
end
section
variable {CX:CXT}{k:Nat}{ps:List Str}{dvs:List V}{sp:Sp}{E:XK}{x:Str}{p pos:Pos}{e:Expr}{es:List Expr}{t:TA}
end
section
open PySem.Builtin PySem.Builtin.Str
end
section
variable {pg:Program}{wd:World}{B:Around}{X0:VS}{s0:Shared}{J d:Addr}{m:Nat}{Pr:Nat->Value->Prop}{OK:Heap->Prop}
end
section
variable {pg:Program}{wd:World}{B:Around}{X0:VS}{z0:Shared}
end
def Do(r:Vals xs us){j:Nat}(h:j<us.toArray.size):∃z,xs[j]?=some z/\RelV z us.toArray[j]:=by
 have l:=r.length;have k:j<xs.length:=by rw[l];simpa using h
 obtain⟨u,hu,ru⟩:=r.get (aF k)
 have e:us.toArray[j]=u:=by
  have z:us[j]?=some (us[j]'(by simpa using h)):=aF _;rw[z] at hu;simpa using hu
 exact⟨_,aF k,by rw[e];exact ru⟩
section
variable {pins:LO}{σ:St}{H:Hp}{s:Shared}
end
noncomputable def Dp(K:FG)(tl:TE):TI:=λ σ H R=>tl σ H λ x H1=>(∃a,x=.ref a/\(∃xs,SqL K H1 a xs)/\R (Itl K a) H1)\/(∃a,x=.ref a/\(∃xs,SqT K H1 a xs)/\R (Itt K a) H1)
def Dq(hl:PE X l tl):PI X tg l (Dp X.K tl):=by
 intro pins s σ H R I h;refine thn (hl pins s σ H _ I h) λ v s1 ⟨x,H1,I1,r1,q1⟩=>?_
 rcases q1 with ⟨a,e,⟨xs,hq⟩,q⟩|⟨a,e,⟨xs,hq⟩,q⟩
 ·subst e;cases r1;obtain⟨its,rv,p,hz⟩:=I1.list hq;refine kJ p.isList ?_;refine⟨s1.heap.objs.size,[s1.heap.objs.size],_,_,H1,O,I1.kept (t':=s1.toks) λ b o e=>aA _ e,zB a _,⟨_,aM _ rfl,O,O⟩,λ b hb=>?_,q⟩;have e:b=s1.heap.objs.size:=by simpa using hb
  subst e;exact I1.fpOk (ar _) (I1.hok.fresh (ar _))
 ·subst e;cases r1;obtain⟨its,rv,p,hz⟩:=I1.tuple hq;refine kH (show s1.heap.IsTuple a its.toArray from p) ?_;refine⟨s1.heap.objs.size,[s1.heap.objs.size],_,_,H1,O,I1.kept (t':=s1.toks) λ b o e=>aA _ e,zD a _,⟨_,aM _ rfl,O,O⟩,λ b hb=>?_,q⟩;have e:b=s1.heap.objs.size:=by simpa using hb
  subst e;exact I1.fpOk (ar _) (I1.hok.fresh (ar _))
section
variable {tg:Expr}
end
section
variable {M:Model}{A:Around}{E:VS}{s₀ s:Shared}{m cm:SV}{env:Env}{cs:LA}
end
section
variable {M:Model}{A:Around}{E:VS}{s:Shared}
end
section
variable {k:Nat}{x:Str}{p pos:Pos}{e:Expr}{es:List Expr}{t:TA}
end
section
variable {params:Arguments}{body:Expr}{scope:Scope}{pos:Pos}{fv:List Str}{c T:Addr}{cl:LA}
end
section
variable {k:Nat}{x:Str}{ps:List Str}{sp:Sp}{p pos:Pos}{e:Expr}{es:List Expr}{t:TA}{fv:List Str}{js:List Nat}{cl:LA}
end
section
variable {params:Arguments}{scope:Scope}{pos:Pos}{fv:List Str}{c T:Addr}{cl:LA}
end
section
variable {prog:Program}{w:World}{A:Around}{R:Result->Shared->Prop}{I:Addr}{fp wr:List Addr}{n:Nat}{P:Nat->Value->Prop}{St:Nat->Heap->Prop}
end
def Dr(hc:X.calm=true):bo X (.builtin "min") (λ xs H Q=>∃a ns,xs=[.ref a]/\SqL X.K H a (List.map V.int ns)/\0<ns.length/\∀M:Int,M∈ns->(∀z∈ns,M<=z)->Q (.int M) H):=by
 intro pins s σ H xs us Q I r h;obtain⟨a,ns,rfl,hq,hne,q⟩:=h;obtain⟨u,rfl,ru⟩:=bL r;cases (show u=Value.ref a from ru);obtain⟨its,rv,pl,hz⟩:=I.list hq;have hi:=jp rv;obtain⟨xs,e⟩:=hi.allInts.items;have hns:ns=xs.toList.map (·.1):=by rw[<- hi.numsOf,<- s1j,<- e]
 have hl:=pl.isList;rw[e] at hl;have hsz:0<xs.size:=by rw[hns,ah,Array.length_toList] at hne;exact hne
 refine min_intList (I.ok.hd hc) hl hsz λ v h' tk hv kk=>?_;obtain⟨t,rfl⟩:=intItems_at hv;obtain⟨h1,h2⟩:=argBest_lt (numAt xs) (xs.size-1);refine⟨.int _,H,I.kept kk,⟨t,O⟩,q _ ?_ λ z hz=>?_⟩
 ·rw[hns,s1u];exact getD_mem (by rw[ah,Array.length_toList];lia)
 ·rw[hns] at hz;obtain⟨j,hj,rfl⟩:=mem_getD hz;rw[ah,Array.length_toList] at hj;rw[<- s1u];exact h2 j fu
def Ds(hc:X.calm=true):bo X (.builtin "max") (λ xs H Q=>∃a ns,xs=[.ref a]/\SqL X.K H a (List.map V.int ns)/\0<ns.length/\∀M:Int,M∈ns->(∀z∈ns,z<=M)->Q (.int M) H):=by
 intro pins s σ H xs us Q I r h;obtain⟨a,ns,rfl,hq,hne,q⟩:=h;obtain⟨u,rfl,ru⟩:=bL r;cases (show u=Value.ref a from ru);obtain⟨its,rv,pl,hz⟩:=I.list hq;have hi:=jp rv;obtain⟨xs,e⟩:=hi.allInts.items;have hns:ns=xs.toList.map (·.1):=by rw[<- hi.numsOf,<- s1j,<- e]
 have hl:=pl.isList;rw[e] at hl;have hsz:0<xs.size:=by rw[hns,ah,Array.length_toList] at hne;exact hne
 refine max_intList (I.ok.hd hc) hl hsz λ v h' tk hv kk=>?_;obtain⟨t,rfl⟩:=intItems_at hv;obtain⟨h1,h2⟩:=argBest_gt (numAt xs) (xs.size-1);refine⟨.int _,H,I.kept kk,⟨t,O⟩,q _ ?_ λ z hz=>?_⟩
 ·rw[hns,s1u];exact getD_mem (by rw[ah,Array.length_toList];lia)
 ·rw[hns] at hz;obtain⟨j,hj,rfl⟩:=mem_getD hz;rw[ah,Array.length_toList] at hj;rw[<- s1u];exact h2 j fu
section
variable {pg:Program}{wd:World}{B:Around}{X0:VS}{s0:Shared}
end
section
variable {es:List Expr}{x1:Nat}{pp:Pos}
end
noncomputable def mH:V->List V->Hp->VK->Prop:=λ x vs H Q=>∃l xs i y,x=.ref l/\vs=[.int i,y]/\H l=some (.lst xs)/\0<=i/\i<=xs.length/\xs.length<sizeLine/\Q .non (upd H l (.lst (xs.take i.toNat++y::xs.drop i.toNat)))
def Dt:MtR X "list.insert" mH:=by
 intro pins s σ H x vs v us Q I rx rv h;obtain⟨l,xs,i,y,rfl,rfl,hH,i0,i1,hz,q⟩:=h;cases rx;obtain⟨u,w,rfl,⟨t,rfl⟩,rw'⟩:=jh rv;obtain⟨z,its,n,r,hl,e⟩:=I.lstM hH;have s63:sizeLine<=2 ^ 62:=by rw[kr];decide
 have hf:Builtin.List.listFitsIndex i=true:=s0j fu fu
 refine gG F.slot_list_insert ⟨_,e,O⟩ F.entry_list_insert (F.args_list_insert_3 _ _ _)
  (AutoSeq1.list_insert_list_int_val_1 l its.toArray n i t w (by simp[hf]) (by rw[aO];lia)) ⟨e,?_⟩
 refine⟨.non,_,I.lset (its':=its.take i.toNat++w::its.drop i.toNat) hH e ?_ ((r.take _).append (.cons rw' (r.drop _))) ?_,O,q⟩
 ·show(its.toArray.extract 0 (if i<0 then (i+(its.toArray.size:Int)).toNat else min i.toNat its.toArray.size)).push w++its.toArray.extract (if i<0 then (i+(its.toArray.size:Int)).toNat else min i.toNat its.toArray.size)=_;rw[if_neg fu,aO,jD fu];apply Array.ext';simp[List.extract_eq_take_drop,jB]
 ·rw[aQ,List.length_cons,be,eh];lia
section
variable {pg:Program}{wd:World}{B:Around}{X0:VS}{s0:Shared}
end
section
variable {es:List Expr}{x1:Nat}{pp:Pos}
end
section
variable {prog:Program}{w:World}{A:Around}{R:Result->Shared->Prop}{I:Addr}{fp wr:List Addr}{n:Nat}{P:Nat->Value->Prop}{St:Nat->Heap->Prop}
noncomputable def ut(h0:Heap)(S:Addr)(wr:List Addr)(kf:Nat->Int)(P:Nat->Value->Prop):Prop:=∀i v,P i v->∃a its,v=.ref a/\¬a∈wr/\a≠S/\h0.IsTuple a its/\(its.size:Int)<2 ^ 63/\kf i=its.size
noncomputable def qe(kf:Nat->Int)(m i:Nat):Prop:=∀j,j<m->kf j<=kf i/\(j<i->kf j<kf i)
theorem Du(W:Walks prog w A.in1 I fp wr n P St)(kf:Nat->Int)(S:Addr)(hSf:¬S∈fp)(h0:Heap)(hk:ut h0 S wr kf P):∀(k j i:Nat) (s:Shared) (vb:Value) (tb:Tok) (c:Nat),n-(j+1)=k->j+1<=n->St (j+1) s.heap->P i vb->i<=j->qe kf (j+1) i->(∀b o,¬b∈wr->b≠S->h0.get? b=some o->s.heap.get? b=some o)->s.heap.get? S=some ⟨.type "list",none,.seq #[vb,.int (kf i) tb] c,#[]⟩ ->
  (∀i v h' tk,P i v->i<n->qe kf n i->(∀b o,¬b∈wr->b≠S->h0.get? b=some o->h'.get? b=some o)->R (.ok (.ret v)) { s with heap:=h',toks:=tk })->codeAny (model prog w) A (.builtin "max.loop" ⟨[.ref I,.builtin "len",.ref S],[]⟩) R s:=by
 have hSw:¬S∈wr:=λ h=>hSf (W.sub _ h);have nm:(toString "max" ++ toString ".loop" : String)="max.loop" := by decide
 intro k;induction k with
 |zero=>
  intro j i s vb tb c hk' hj hst hPb hij hb kp0 hS hR;have e0:j+1=n:=fu;refine bV qg ?_;rw[cq iC _];show wpAny (model prog w) A.in1 (seqItems? (.ref S) >>= _) _ _ s;refine af (m:=seqItems? (.ref S)) (fJ hS rfl ?_);show wpAny (model prog w) A.in1 (tryCatch (pyNext (.ref I)) _ >>= _) _ _ s;refine af (m:=tryCatch (pyNext (.ref I)) _) (iD (W.done s _ _ (e0 ▸ hst) λ h' tk kp=>?_));have hS1:=kp S _ hSw hS;show wpAny (model prog w) A.in1 (updateSeq S (λ _=>#[]) >>= _) _ _ _;refine af (m:=updateSeq S (λ _=>#[])) (gI hS1 rfl (af (kL (ag ?_))));exact hR i vb _ tk hPb fu (e0 ▸ hb) λ b o hbw hbS e=>(dB _ _ (bx hbS)).trans (kp b o hbw (kp0 b o hbw hbS e))
 |succ k ih=>
  intro j i s vb tb c hk' hj hst hPb hij hb kp0 hS hR;have lt0:j+1<n:=fu;refine bV qg ?_;rw[cq iC _];show wpAny (model prog w) A.in1 (seqItems? (.ref S) >>= _) _ _ s;refine af (m:=seqItems? (.ref S)) (fJ hS rfl ?_);show wpAny (model prog w) A.in1 (tryCatch (pyNext (.ref I)) _ >>= _) _ _ s;refine af (m:=tryCatch (pyNext (.ref I)) _) (iD (W.item (j+1) s _ _ lt0 hst λ v h' tk hP hst1 kp=>?_));have hS1:=kp S _ hSw hS;have kp1:∀b o,¬b∈wr->b≠S->h0.get? b=some o->h'.get? b=some o:=λ b o hbw hbS e=>kp b o hbw (kp0 b o hbw hbS e);obtain⟨a,its,rfl,aw,aS,at0,a63,ek⟩:=hk _ _ hP;show wpAny (model prog w) A.in1 (tryCatch (holding [.ref a] (call (.builtin "len") [.ref a])) _ >>= _) _ _ _;refine af (iD (bU (s1g (my at0 λ o e=>kp1 a o aw aS e) a63 ?_)));rw[<- ek];show wpAny (model prog w) A.in1 (tryCatch (holding [.ref a,.int (kf (j+1)) _] (richCompare .Gt (.int (kf (j+1)) _) (.int (kf i) tb) >>= _)) _ >>= _) _ _ _;refine af (iD (bU (af (CmpOf.ints_gt (prog:=prog) (w:=w) (A:=A.in1) (P:=λ i v=>∃t,v=.int (kf i) t) kf (λ i v h=>h) (j+1) i _ _ _ _ _ ⟨_,O⟩ ⟨tb,O⟩ ?_))));refine af (bU (fj ?_));refine af (kL (ag ?_));by_cases hb':kf (j+1) > kf i
  ·simp only[hb',decide_true,dZ];refine af (m:=updateSeq S _) (gI hS1 rfl (af (kL ?_)));rw[nm];refine ag (a:=_) ⟨bW iC _,ih (j+1) (j+1) _ (.ref a) _ _ fu lt0 (W.frame _ _ _ hst1 λ b hbf o e=>(dB _ _ (λ h:S=b=>hSf (by rw[h];exact hbf))).trans e) hP (ar _) (λ j' hj'=>?_) (λ b o hbw hbS e=>(dB _ _ (bx hbS)).trans (kp1 b o hbw hbS e)) (eE _ hS1 rfl) λ i2 v2 h2 tk2 q1 q2 q3 q4=>hR i2 v2 h2 tk2 q1 q2 q3 q4⟩;by_cases e:j'=j+1
   ·subst e;exact⟨iE _,λ z=>absurd z (cg _)⟩
   ·have:=(hb j' fu).1;exact⟨fu,λ _=>by lia⟩
  ·simp only[hb',decide_false,mI,s1e];refine af (m:=letGo _) (kL ?_);rw[nm];refine ag (a:=_) ⟨bW iC _,ih (j+1) i _ vb tb c fu lt0 hst1 hPb fu (λ j' hj'=>?_) kp1 hS1 λ i2 v2 h2 tk2 q1 q2 q3 q4=>hR i2 v2 h2 tk2 q1 q2 q3 q4⟩;by_cases e:j'=j+1
   ·subst e;exact⟨fu,λ z=>by lia⟩
   ·exact hb j' fu
theorem Dv(W:Walks prog w A.in1 I fp wr n P St)(kf:Nat->Int)(S:Addr)(hSf:¬S∈fp)(h0:Heap)(hk:ut h0 S wr kf P)(hn:0<n){s:Shared}(hst:St 0 s.heap)(kp0:∀b o,¬b∈wr->b≠S->h0.get? b=some o->s.heap.get? b=some o)(hS:s.heap.get? S=some ⟨.type "list",none,.seq #[] c,#[]⟩)
  (hR:∀i v h' tk,P i v->i<n->qe kf n i->(∀b o,¬b∈wr->b≠S->h0.get? b=some o->h'.get? b=some o)->R (.ok (.ret v)) { s with heap:=h',toks:=tk }):codeAny (model prog w) A (.builtin "max.loop" ⟨[.ref I,.builtin "len",.ref S],[]⟩) R s:=by
 have hSw:¬S∈wr:=λ h=>hSf (W.sub _ h);have nm:(toString "max" ++ toString ".loop" : String)="max.loop" := by decide
 refine bV qg ?_;rw[cq iC _];show wpAny (model prog w) A.in1 (seqItems? (.ref S) >>= _) _ _ s;refine af (m:=seqItems? (.ref S)) (fJ hS rfl ?_);show wpAny (model prog w) A.in1 (tryCatch (pyNext (.ref I)) _ >>= _) _ _ s;refine af (m:=tryCatch (pyNext (.ref I)) _) (iD (W.item 0 s _ _ hn hst λ v h' tk hP hst1 kp=>?_));have hS1:=kp S _ hSw hS;have kp1:∀b o,¬b∈wr->b≠S->h0.get? b=some o->h'.get? b=some o:=λ b o hbw hbS e=>kp b o hbw (kp0 b o hbw hbS e);obtain⟨a,its,rfl,aw,aS,at0,a63,ek⟩:=hk _ _ hP;show wpAny (model prog w) A.in1 (tryCatch (holding [.ref a] (call (.builtin "len") [.ref a])) _ >>= _) _ _ _;refine af (iD (bU (s1g (my at0 λ o e=>kp1 a o aw aS e) a63 ?_)));rw[<- ek];show wpAny (model prog w) A.in1 (updateSeq S (λ _=>#[.ref a,.int (kf 0) _]) >>= _) _ _ _;refine af (m:=updateSeq S _) (gI hS1 rfl ?_);rw[nm];refine ag (a:=_) ⟨bW iC _,Du W kf S hSf h0 hk _ 0 0 _ (.ref a) _ _ rfl hn (W.frame _ _ _ hst1 λ b hbf o e=>(dB _ _ (λ h:S=b=>hSf (by rw[h];exact hbf))).trans e) hP (ar _) (λ j' hj'=>?_) (λ b o hbw hbS e=>(dB _ _ (bx hbS)).trans (kp1 b o hbw hbS e)) (eE _ hS1 rfl) λ i2 v2 h2 tk2 q1 q2 q3 q4=>hR i2 v2 h2 tk2 q1 q2 q3 q4⟩;have z:j'=0:=fu;subst z;exact⟨iE _,λ z=>absurd z (cg _)⟩
end
section
variable {st:Stmt}{rest:List Stmt}{t u:TS}{e:Expr}{es:List Expr}{te:TE}{ta:TA}{pos:Pos}
end
section
variable {prog:Program}{w:World}{A:Around}
def Dw(a b v:Value):argsOk "max" ⟨[a,b],[(Str.ofString "key",v)]⟩:=by unfold argsOk;kernel_rfl
theorem Dx{s:Shared}{i1 i2:Array Value}{Q:VS}(hh:A.handled=none)(h1:s.heap.IsTuple a1 i1)(h2:s.heap.IsTuple a2 i2)(z1:(i1.size:Int)<2 ^ 63)(z2:(i2.size:Int)<2 ^ 63)
  (hQ:∀v h' tk,(v=.ref a1/\i2.size<=i1.size\/v=.ref a2/\i1.size<i2.size)->(∀b o,s.heap.get? b=some o->h'.get? b=some o)->Q v { s with heap:=h',toks:=tk }):wpAny (model prog w) A (call (.builtin "max") [.ref a1,.ref a2] [(Str.ofString "key",.builtin "len")]) Q E s:=by
 have nm:(toString "max" ++ toString ".loop" : String)="max.loop" := by decide
 have hT:(s.heap.push { cls:=.type "tuple",data:=.seq #[.ref a1,.ref a2] }).IsTuple s.heap.objs.size #[.ref a1,.ref a2]:=⟨_,aM _ rfl,rfl,0,rfl⟩;have hsz:(s.heap.push { cls:=.type "tuple",data:=.seq #[.ref a1,.ref a2] }).objs.size=s.heap.objs.size+1:=df ..;refine kmb_tree PySem.F.kind_max PySem.F.plain_max PySem.F.entry_max (Dw _ _ _) ?_;show wpAny _ A.in1 (Builtin.Builtins.bindParams "max" ["key","default"] 0 ⟨[],[(Str.ofString "key",.builtin "len")]⟩ >>= _) _ _ s;refine af (cK (show Builtin.Builtins.bindParams "max" ["key","default"] 0 ⟨[],[(Str.ofString "key",.builtin "len")]⟩=pure [some (.builtin "len"),none] from rfl) ?_);show wpAny _ A.in1 (newTuple [.ref a1,.ref a2] >>= _) _ _ s;refine af (bF ?_);refine af (m:=pyIter _) (kH hT ?_);refine af (m:=newList _) (bF ?_);rw[nm];have W:=Walks.tuple (prog:=prog) (w:=w) (A:=A.in1) hh (s.heap.push { cls:=.type "tuple",data:=.seq #[.ref a1,.ref a2] }).objs.size s.heap.objs.size (by rw[hsz];exact aK (fG _)) #[.ref a1,.ref a2];have hI:((s.heap.push { cls:=.type "tuple",data:=.seq #[.ref a1,.ref a2] }).push { cls:=.type "tuple_iterator",data:=.fields #[.ref s.heap.objs.size,.int 0 0] }).objs.size=s.heap.objs.size+2:=by rw[df,hsz]
 have e1:a1<s.heap.objs.size:=by obtain⟨o,g,_⟩:=h1;exact aC g
 have e2:a2<s.heap.objs.size:=by obtain⟨o,g,_⟩:=h2;exact aC g
 refine ag (a:=_) ⟨bW iC _,Dv W (λ i=>([(i1.size:Int),(i2.size:Int)].getD i 0)) ((s.heap.push { cls:=.type "tuple",data:=.seq #[.ref a1,.ref a2] }).push { cls:=.type "tuple_iterator",data:=.fields #[.ref s.heap.objs.size,.int 0 0] }).objs.size ?_ s.heap (λ i v hv=>?_) (kM _) ?_ (λ b o _ _ e=>aA _ (aA _ (aA _ e))) (aM _ rfl) λ i v h' tk q1 q2 q3 q4=>?_⟩
 ·rw[hI,hsz];intro z
  rcases aG.mp z with z|z
  ·exact absurd z (pR _)
  ·exact absurd (bd.mp z) (fq (cJ (fG _)))
 ·have nw:∀a,a<s.heap.objs.size->¬a∈[(s.heap.push { cls:=.type "tuple",data:=.seq #[.ref a1,.ref a2] }).objs.size]:=λ a h z=>by
   have:=bd.mp z;rw[hsz] at this;exact aK (cJ h) this
  match i,hv with
  |0,hv=>cases hv;exact⟨a1,i1,rfl,nw _ e1,by rw[hI];exact aK (cJ (cJ e1)),h1,z1,rfl⟩
  |1,hv=>cases hv;exact⟨a2,i2,rfl,nw _ e2,by rw[hI];exact aK (cJ (cJ e2)),h2,z2,rfl⟩
  |i+2,hv=>simp at hv
 ·exact W.frame _ _ _ ⟨⟨_,aM _ rfl,O,O⟩,hT.push _⟩ λ b _ o e=>aA _ e
 ·have kp:∀b o,s.heap.get? b=some o->h'.get? b=some o:=λ b o e=>by
   have bl:=aC e;exact q4 b o (λ z=>by have:=bd.mp z;rw[hsz] at this;exact aK (cJ bl) this) (by rw[hI];exact aK (cJ (cJ bl))) e
  match i,q1 with
  |0,q1=>
   cases q1;have b:=(q3 1 (fG _)).1;have b:(i2.size:Int)<=(i1.size:Int):=b;exact hQ _ _ _ (.inl ⟨O,fu⟩) kp
  |1,q1=>
   cases q1;have b:=(q3 0 (kM _)).2 (kM _);have b:(i1.size:Int)<(i2.size:Int):=b;exact hQ _ _ _ (.inr ⟨O,fu⟩) kp
  |i+2,q1=>simp at q1
end
noncomputable def Dy(r:V->V->Hp->VK->Prop)(te tf:TE):TE:=λ σ H Q=>te σ H λ x H1=>tf σ H1 λ y H2=>r x y H2 Q
theorem Dz{X:Cx}{i:Nat}{elt tg iter cnd:Expr}{cl:LA}{pos pos' lpos:Pos}{own fv:List Str}{js:List Nat}
  (hN:X.N.Nodup) (hx1:X.N[i]?=some x) (hx:Loc X.env.scope x) (hf:X.fn x=true\/X.env.scope.names.lookup x=some .local)
  (hc:X.calm=true) (hi:PI X tg iter wi) (hclos:closureFor scope X.env=pure cl) (hcell:∀y∈scope.names,y.2≠.cell) (hkind:scope.kind=.function)
  (hnames:∀y∈scope.names,y.2=.local->scope.names.lookup y.1=some .local)
  (hcl:∀x c,cl.lookup x=some c->X.env.cells.lookup x=some c)
  (hhas:∀x,((relabel scope X.env).names.lookup x=some .cell\/(relabel scope X.env).names.lookup x=some .free)->∃c,cl.lookup x=some c)
  (hlen:js.length=fv.length) (hcap:∀(i:Nat) x j,fv[i]?=some x->js[i]?=some j->Cap X scope cl x j)
  (hg:∀(C:Addr) (ex:List Addr) (s:Shared) (H:Hp),PG (bh X (own++fv) scope cl C ex s H) tg g)
  (he:∀(C:Addr) (ex:List Addr) (s:Shared) (H:Hp),PE (bh X (own++fv) scope cl C ex s H) elt te)
  (ht:∀(C:Addr) (ex:List Addr) (s:Shared) (H:Hp),PT (bh X (own++fv) scope cl C ex s H) cnd tc)
  (hsw:swapsWith (.ListComp elt [⟨tg,iter,[cnd],0⟩] scope lpos) (some (.Name x pos')) pos.line X.env=pure true:=by rfl)
  (hs:∀x,foldedSetIterable iter X.env x=pure x:=by intro _;rfl) :
  PS X (.Assign [.Name x pos'] (.ListComp elt [⟨tg,iter,[cnd],0⟩] scope lpos) pos) (jc (iz wi own.length js g tc te) (dL i)):=by
 intro pins s σ H D I h;rw[uh _ _ _ _ hsw];refine af (ip ?_);rw[ui];have core:=ub (use:=some (assign (.Name x pos') X.env)) (QQ:=λ _ s'=>SP X pins D .next s') (fpos:=firstIterPos [⟨tg,iter,[cnd],0⟩] lpos) (pos:=lpos) hc hi hclos hcell hkind hnames hcl hhas hlen hcap hg he ht hs I h (λ a C s5 H5 fl I5 zC zL zS zc zp ⟨m,hn⟩ q=>?_)
 ·refine af (af (thn core λ _ s' hq=>?_));exact ag (ag hq)
 ·show wpAny (model X.prog X.w) X.A (assign (.Name x pos') X.env (.ref a)) _ X.xe s5;show wpAny (model X.prog X.w) X.A (do standAt pos';bindName X.env x (.ref a)) _ X.xe s5;refine af (ip ?_);refine bindName_ ?_;refine oC I5 hN hx1 hx (show RelV (.ref a) (.ref a) from rfl) (λ s6 I6 ⟨b,sb,hb⟩=>?_) hf
  have cb:C≠b:=by
   rcases hb with rfl|hb
   ·exact zL
   ·exact λ z=>zc x b hb z.symm
  obtain⟨o,es,ep,e,r⟩:=hn;refine⟨m,⟨o,es,ep,(sb.2 C cb).trans e,r⟩,λ h' sc=>?_⟩;exact⟨_,H5,I6.turned (t':=s6.toks) (it:=C) (λ d o nd e=>sc.extBut d o nd e) zC zL (.inr zS) zc zp,q⟩
section
variable {M:Model}{A:Around}{E:VS}{s:Shared}{B:Heap}{env:Env}{outer:List Env}{L e dx:Addr}{cls:Value}
end
end _L
namespace _L
open PySem PySem.Spec PyProof.Rows Builtin Builtin.ObjectAttr
section
variable {prog:Program}{w:World}{A:Around}{E:VS}{h:Heap}{g:Array GenState}{dr:Drawn}{tk:Nat}{os:OsState}{C:Addr}{bmB:LV}{B nid initId:String}
end
section
variable {prog:Program}{w:World}{A:Around}{E:VS}{h:Heap}{g:Array GenState}{dr:Drawn}{tk:Nat}{os:OsState}{C x:Addr}{bmB:LV}{B nid initId:String}{K:FG}
end
section
variable {P:Program}{w:World}{K:FG}{mg:SV}{base:Heap}{N:List Str}{qual:Str}{scope:Scope}{f:Addr}{cd:Value}{A:Around}{outer:List Env}{s:Shared}{H:Hp}{E:XK}
end
section
variable {M:Model}{A:Around}{E:VS}{env:Env}{C:Addr}{bmB:LV}{nid:String}
end
end _L
namespace _L
open PySem PySem.Spec PyProof.Rows PySem.W
variable {X:Cx}
section
variable {o e value:Expr}{f:Str}{pos pos' tpos:Pos}{ta tv:TE}
end
section
variable {CX:CXT}{k:Nat}{f C:Addr}{fd:FuncData}{ps:List Str}{sp:Sp}{dvs:List V}{ds:LV}{E:XK}{EE:St->XK}{x m:Str}{p pos apos:Pos}{e o:Expr}{es:List Expr}{ta:TE}{t:TA}
end
section
open PySem.Builtin PySem.Builtin.Str
end
section
variable {a b e:Expr}{es:List Expr}{ta tb te:TE}{t:TA}{u v:TS}{st:Stmt}{rest bl:List Stmt}{pos p pos':Pos}{x:Str}
end
noncomputable def ca:List Prop->Nat->Prop
 |[],_=>True
 |a::_,0=>a
 |_::l,j+1=>ca l j
section
variable {k j:Nat}{ps:List Str}{sp:Sp}{E:XK}{x:Str}{p pos:Pos}{e:Expr}{es:List Expr}{t:TA}
end
end _L
namespace _L
open PySem PyProof.Rows
section
variable {a p q:Addr}{b:Bool}{i j:Int}{x y:Str}{v:V}{vs:List V}{r:_L.St}{H:Hp}{Q:VK}{K:FG}{o:Option V}{n:Nat}{α β:Type}
end
variable {X:Cx}
section
variable {st:Stmt}{rest:List Stmt}{t u:TS}{e a b:Expr}{es:List Expr}{te tb:TE}{ta:TA}{pos:Pos}
end
section
variable {CX:CXT}{k:Nat}{f:Addr}{fd:FuncData}{ps:List Str}{sp:Sp}{E:XK}{x:Str}{p pos:Pos}{e:Expr}{es:List Expr}{te:TE}{t:TA}{st:Stmt}{rest:List Stmt}{ts u:TS}
end
section
open PySem.W
end
end _L
namespace _L
open PySem PySem.Spec PyProof.Rows PySem.W PySem.Calls
theorem DA{X:Cx}{h₀:ExceptHandler}{hl:List ExceptHandler}(hb:∀(xe:VS) (pn:LO),PSs (X.more xe pn) body tb) :
  PS X (.Try body (h₀::hl) [] [] pos) tb:=by
 intro pins s σ H D I h;refine wpAny_Try_except ?_;generalize (λ e s₁=>wpAny (model X.prog X.w) X.A (noteFrame e X.env) (λ _ s₂=>wpAny (model X.prog X.w) X.A (setFlight e none) (λ _ s₃=>wpAny (model X.prog X.w) X.A (handleBy e X.env (h₀::hl)) (SP X pins D) X.xe s₃) X.xe s₂) X.xe s₁:VS)=XE;have toY:Inv (X.more XE (X.pn++pins)) [] σ H s:=⟨I.ok.more _ _,I.os,I.bare,I.base,I.loc,I.cell,I.free,I.freeC,λ p hp=>I.pin p (by simpa using hp),I.hok,I.len⟩;have ofY:∀ {σ':St}{H':Hp}{s':Shared}{pp:LO},Inv (X.more XE (X.pn++pins)) pp σ' H' s'->Inv X pins σ' H' s':=λ J=>⟨I.ok,J.os,J.bare,J.base,J.loc,J.cell,J.free,J.freeC,λ p hp=>J.pin p (iZ _ hp),J.hok,J.len⟩;refine thn (hb XE (X.pn++pins) [] s σ H D toY h) λ fl s' q=>?_
 cases fl with
 |next=>obtain⟨σ',H',J,z⟩:=q;exact oH ⟨σ',H',ofY J,z⟩
 |brk=>obtain⟨σ',H',J,z⟩:=q;exact⟨σ',H',ofY J,z⟩
 |cont=>obtain⟨σ',H',J,z⟩:=q;exact⟨σ',H',ofY J,z⟩
 |ret u=>obtain⟨v,σ',H',J,r,z⟩:=q;exact⟨v,σ',H',ofY J,r,z⟩
variable {X:Cx}
section
variable {pg:Program}{wd:World}{B:Around}{X0:VS}{s0:Shared}{r:Addr}{j:Int}{t u v:Tok}{n:Nat}
theorem DB{R:LV->Shared->Prop}(hh:B.handled=none)(e:IsRange s0.heap r 0 j 1 t u v)(hs:Builtin.Range.small 0 j 1=true)(hz:Builtin.Range.rangeSize 0 j 1=n)(hn:n<=2 ^ 24)
  (fin:∀(h':Heap) (tk:Nat) (ac:Array Value),(∀b o,s0.heap.get? b=some o->h'.get? b=some o)->ItemsOf (λ i v=>∃t,v=Value.int (0 + ↑i*1) t) ac n->R ac.toList { s0 with heap:=h',toks:=tk }):wpAny (model pg wd) B (collect (.ref r)) R X0 s0:=by
 have at1:(s0.heap.push { cls:=.type "list",data:=.seq ([]:LV).toArray }).get? s0.heap.objs.size=some { cls:=.type "list",data:=.seq ([]:LV).toArray }:=aM _ rfl
 have key:∀R0:Result->Shared->Prop,(∀(h':Heap) (tk:Nat) (ac:Array Value) (c':Nat),(∀b o,b≠s0.heap.objs.size->(s0.heap.push { cls:=.type "list",data:=.seq ([]:LV).toArray }).get? b=some o->h'.get? b=some o)->h'.get? s0.heap.objs.size=some { cls:=.type "list",data:=.seq ac c' }->ItemsOf (λ i v=>∃t,v=Value.int (0 + ↑i*1) t) ac n->R0 (.ok (.ret (.ref s0.heap.objs.size))) { s0 with heap:=h',toks:=tk }) ->
   codeAny (model pg wd) B (.builtin "list.__iadd__" ⟨[.ref s0.heap.objs.size,.ref r],[]⟩) R0 { s0 with heap:=s0.heap.push { cls:=.type "list",data:=.seq ([]:LV).toArray } }:=λ R0 f=>by
  refine bV pG ?_;rw[cq jy _];exact wpAny_extend_range (s:={ s0 with heap:=s0.heap.push { cls:=.type "list",data:=.seq ([]:LV).toArray } }) hh (aA _ e) hs hz hn _ _ 0 at1 f
 unfold collect;refine af (kF (bV pE ?_));rw[cq pF _];show wpAny _ B.in1 (newList [] >>= λ q=>again (.builtin "list.__iadd__" ⟨[q,.ref r],[]⟩)) _ _ s0;refine af (bF ?_);refine ag ⟨bW jy _,key _ λ h' tk ac c' kp at2 it=>?_⟩;show wpAny _ B (load s0.heap.objs.size >>= _) _ _ _;exact af (jd at2 (ag (fin h' tk ac (λ b o q=>kp b o (aK (aC q)) (aA _ q)) it)))
theorem DC{R:VS}(hh:B.handled=none)(e:IsRange s0.heap r 0 j 1 t u v)(hs:Builtin.Range.small 0 j 1=true)(hz:Builtin.Range.rangeSize 0 j 1=n)(hn:n<=1000)
  (fin:∀(h':Heap) (tk:Nat) (ac:Array Value),(∀b o,s0.heap.get? b=some o->h'.get? b=some o)->ItemsOf (λ i v=>∃t,v=Value.int (0 + ↑i*1) t) ac n->R (.ref h'.objs.size) { s0 with heap:=h'.push { cls:=.type "tuple",data:=.seq ac },toks:=tk }) :
  wpAny (model pg wd) B (call (.type "tuple") [.ref r]) R X0 s0:=by
 have new:codeAny (model pg wd) B.in1 (.call (.builtin "tuple.__new__") ⟨[.type "tuple",.ref r],[]⟩) (wants (λ ob z=>z.TypeIs ob "tuple" /\ R ob z) X0) s0:=by
  refine kG ?_;show wpAny _ B.in1.in1 (do checkBuiltinCall "tuple.__new__" ⟨[.type "tuple",.ref r],[]⟩;again (.builtin "tuple.__new__" ⟨[.type "tuple",.ref r],[]⟩)) _ _ s0;refine af (cK (pI _) (ag ⟨bW jz _,bV pJ ?_⟩));rw[cq jz _];have q1:=s0m;have q2:=pK;have q3:=s0n;have q4:s0.TypeIs (.ref r) "range" := ⟨_,e,rfl⟩;wp_walk using eo q4,DB (B:=B.in1.in1) hh e hs hz fu;intro h' tk ac kp its;show wpAny _ _ (Builtin.Tuple.tupleExact ac.toList.toArray >>= λ q=>ret q) _ _ _;have e:ac.toList.toArray=ac:=pv;rw[e];unfold Builtin.Tuple.tupleExact;exact af (bF (ag ⟨⟨_,aM _ rfl,O⟩,fin h' tk ac kp its⟩) (by show ac.size<=sizeLine;rw[its.1];exact cj (aR hn)))
 exact mq (Q₁:=λ ob z=>z.TypeIs ob "tuple" /\ R ob z) s0o (pL _) pM new
  λ ob z q=>⟨q.1,kD ob _,pN F.called_tuple.init.lookup F.called_tuple.made on pg wd B.in1 _ z ⟨q.1,rfl,q.2⟩⟩
end
def DD(hc:X.calm=true):bo X (.type "tuple") (λ xs H Q=>∃p n,xs=[.ref p]/\H p=some (.rng 0 (Int.ofNat n))/\n<=1000/\∀l,H l=none->Q (.ref l) (upd H l (.tup ((upL n).map V.int)))):=by
 intro pins s σ H xs us Q I r h;obtain⟨p,n,rfl,hp,hn,q⟩:=h;obtain⟨u,rfl,rx⟩:=bL r;cases rx;obtain⟨t,u,v,e⟩:=I.hok p _ hp
 have hs:Builtin.Range.small 0 (Int.ofNat n) 1=true:=by
  have z:∀m:Fin 1001,Builtin.Range.small 0 (Int.ofNat m.val) 1=true:=by decide +kernel
  exact z ⟨n,fu⟩
 have hsz:Builtin.Range.rangeSize 0 (Int.ofNat n) 1=n:=by
  unfold Builtin.Range.rangeSize;rw[if_pos on];split
  ·show(Int.ofNat n-0-1)/1+1=_;simp; 
  ·simp at *;lia
 refine DC (I.ok.hd hc) e hs hsz hn λ h' tk acc' k it=>?_
 have rv:Vals ((upL n).map V.int) acc'.toList:=by
  refine pU (by simp[upL,it.1]) λ i v e=>?_;rw[db] at e;obtain⟨tt,rfl⟩:=it.2 i v e;have hi:i<n:=by rw[<- it.1];exact(pr.mp e).1
  exact⟨.int i,by simp[upL,hi],tt,pv⟩
 have I1:Inv X pins σ H { s with heap:=h',toks:=tk }:=I.kept k
 have I2:Inv X pins σ (upd H h'.objs.size (.tup ((upL n).map V.int))) { s with heap:=h'.push { cls:=.type "tuple",data:=.seq acc' },toks:=tk } :=
  I1.laid (t':=tk) (λ b o e=>aA _ e) (ar _) (show ObjOk X.prog X.w _ _ _ (.tup _) from ⟨by simp[upL];exact cj (aR hn),acc'.toList,rv,by rw[mD];exact TupO.new h' acc'⟩)
 exact⟨.ref h'.objs.size,_,I2,O,q _ (I1.hok.fresh (ar _))⟩
end _L
namespace _H
open PySem PyProof.Rows
section
open PySem.SeqAt
open PySem.AutoSeq1 (wpAny_loadPart')
open PySem.MeetsSeq PySem.MeetsSeq2 PySem.MeetsSeq3
end
section
variable {prog:Program}{w:World}{A:Around}{E:VS}{s:Shared}
end
end _H
namespace _L
open PySem PySem.Spec PyProof.Rows
variable {X:Cx}
end _L
namespace _L
open PySem PySem.Spec PyProof.Rows
noncomputable def Wk(h:Heap)(c:Bool)(j t:Addr)(k:Nat):Prop:=cond c (h.IsTupleIter j t k) (h.IsListIter j t k)
noncomputable def Wq(h:Heap)(c:Bool)(t:Addr)(its:Array Value):Prop:=cond c (h.IsTuple t its) (h.IsList t its)
def Wk.out(p:Wk h c j t k):∃o,h.get? j=some o/\(∀v,o.data≠.cell v)/\∀h':Heap,h'.get? j=some o->Wk h' c j t k:=by
 cases c<;>obtain⟨o,g,r,d⟩:=p<;>exact⟨o,g,λ v z=>(by rw[d] at z;cases z),λ h' e=>⟨o,e,r,d⟩⟩
def Wq.out(p:Wq h c t its):∃o,h.get? t=some o/\∀h':Heap,h'.get? t=some o->Wq h' c t its:=by
 cases c<;>obtain⟨o,g,r⟩:=p<;>exact⟨o,g,λ h' e=>⟨o,e,r⟩⟩
def Wk.to{h h':Heap}(p:Wk h c j t k)(f:∀o,h.get? j=some o->h'.get? j=some o):Wk h' c j t k:=let ⟨o,g,_,q⟩:=p.out;q h' (f o g)
def Wq.to{h h':Heap}(p:Wq h c t its)(f:∀o,h.get? t=some o->h'.get? t=some o):Wq h' c t its:=let ⟨o,g,q⟩:=p.out;q h' (f o g)
noncomputable abbrev TuO(us:LV):Obj:={ cls:=.type "tuple",data:=.seq us.toArray }
structure Zs (S:List (Bool×Addr))(N:Nat)(f0:Value)(us:LV)(kk:Nat->Nat)(h:Heap):Prop where
 z:IsZip h (N+S.length+2) (N+S.length) (N+S.length+1) f0
 ti:h.get? (N+S.length)=some (TuO ((List.range' N S.length).map Value.ref))
 ox:h.get? (N+S.length+1)=some (TuO us)
 ul:us.length=S.length
 it:∀(i:Nat) (s:Bool×Addr),S[i]?=some s->Wk h s.1 (N+i) s.2 (kk i)
def nl{a b:Nat}(h:a<b\/b<a):a≠b:=fu
def DE{a c:Nat}(h1:a<=c)(h2:c<a+3):c=a\/c=a+1\/c=a+2:=fu
def eQ{α:Type}{S:List α}{i:Nat}{s:α}(h:S[i]?=some s):i<S.length:=by
 obtain⟨q,_⟩:=bc.mp h;exact q
section
variable {pg:Program}{wd:World}{B:Around}{X0:VS}{s0:Shared}
theorem DF{R:VS}(p:Wk s0.heap c j t k)(q:Wq s0.heap c t its)(e:its[k]?=some x)
  (f:∀h',Wk h' c j t (k+1)->Heap.SameBut j s0.heap h'->R x { s0 with heap:=h' }):wpAny (model pg wd) B (Builtin.SmallTypes.nextOf (.ref j)) R X0 s0:=by
 cases c
 ·exact wpAny_nextOf_list_item p q e f
 ·exact tX p q e f
theorem DG(hh:B.handled=none)(p:Wk s0.heap c j t k)(q:Wq s0.heap c t its)(e:its[k]?=none)
  (f:∀h' z,Heap.ExtBut j s0.heap h'->(∃o,h'.get? z=some o/\o.cls=.type "StopIteration")->X0 (.ref z) { s0 with heap:=h' }):wpAny (model pg wd) B (Builtin.SmallTypes.nextOf (.ref j)) R X0 s0:=by
 cases c
 ·exact wpAny_nextOf_list_end hh p q e f
 ·exact pO hh p q e f
theorem DH{T:Addr}{Q:Unit->Shared->Prop}(hT:s0.heap.get? T=some (TuO us))(hz:us.length<=1000)
  (h:∀h':Heap,h'.get? T=some (TuO (us.set k x))->Heap.SameBut T s0.heap h'->Q () { s0 with heap:=h' }):wpAny (model pg wd) B (updateSeq T (·.setIfInBounds k x)) Q X0 s0:=by
 refine gI hT rfl (h _ ?_ (jw ..)) (small (by simpa using hz)) (Nat.le_succ_of_le (small (by simpa using hz)));rw[eE _ hT rfl];simp[Obj.mapSeq]
theorem uu{S:List (Bool×Addr)}{N k e:Nat}{xs:Nat->Value}{R:Option Value->Shared->Prop}(hh:B.handled=none)(hn:S≠[])(hz9:S.length<=1000)(Z:Zs S N .none us (λ _=>k) s0.heap)(lo:∀(i:Nat) (s:Bool×Addr),S[i]?=some s->s.2<N)
  (src:∀(i:Nat) (s:Bool×Addr),S[i]?=some s->∃its,Wq s0.heap s.1 s.2 its/\(i<e->its[k]?=some (xs i))/\(i=e->its[k]?=none))
  (fi:S.length<=e->∀h' us',(∀i,i<S.length->us'[i]?=some (xs i))->Zs S N (rawInt s0.heap.objs.size) us' (λ _=>k+1) h'->h'.get? s0.heap.objs.size=some (TuO us')->(∀c o,c<N\/N+S.length+2<c->s0.heap.get? c=some o->h'.get? c=some o)->R (some (.ref s0.heap.objs.size)) { s0 with heap:=h' })
  (fe:e<S.length->∀h',(∀c o,c<N\/N+S.length+2<c->s0.heap.get? c=some o->h'.get? c=some o)->R none { s0 with heap:=h' }) :
  wpAny (model pg wd) B (pyNext (.ref (N+S.length+2))) R X0 s0:=by
 have n0:0<S.length:=iF.mpr hn;obtain⟨hz,hi,ho,ul,hit⟩:=Z;have ty:s0.TypeIs (.ref (N+S.length+2)) "zip" := ⟨_,hz,rfl⟩;unfold pyNext;refine af (iA (fY (name:=Str.ofString "__next__") ty F.slot_zip_next (cZ F.slot_zip_next ty F.entry_zip_next ?_ (F.args_zip_next_1 _))));show wpAny _ _ (field (.ref (N+S.length+2)) 2 >>= _) _ _ _;refine af (cn hz rfl (x:=.bool false) rfl ?_);show wpAny _ _ (field (.ref (N+S.length+2)) 3 >>= _) _ _ _;refine af (cn hz rfl (x:=.ref (N+S.length)) rfl ?_);refine af (fJ hi rfl ?_);have ne:((List.range' N S.length).map Value.ref).toArray.isEmpty=false:=by simp;lia
 simp only[ne];show wpAny _ _ (Builtin.SmallTypes.ownedTupleIsFree (.ref (N+S.length+2)) >>= _) _ _ _;refine af ?_;unfold Builtin.SmallTypes.ownedTupleIsFree;refine af (cn hz rfl (x:=.none) rfl (ag ?_));simp only[dZ];refine af (fI ?_);refine af (cn hz rfl (x:=.ref (N+S.length+1)) rfl ?_);refine af (fN hz pv λ m1 zm1 sb1=>?_);refine af ?_
 refine wpAny_forIn_list _ (λ rest b s'=>b.1=none/\∃d m us',s'={ s0 with heap:=m }/\rest=((List.range' N S.length).map Value.ref).zipIdx.drop d/\d≤S.length/\d≤e/\m.objs.size=s0.heap.objs.size/\(∀i,i < d->us'[i]?=some (xs i)) /\
  Zs S N .ellipsis us' (λ i=>if i<d then k+1 else k) m/\∀c o,c<N\/N+S.length+2<c->s0.heap.get? c=some o->m.get? c=some o) _ ?_ ?_ _ _ ⟨rfl,0,m1,us,rfl,rfl,bC _,bC _,sb1.1,λ i q=>absurd q (gJ _),⟨zm1,sb1.extBut _ _ (nl fu) hi,sb1.extBut _ _ (nl fu) ho,ul,λ i s q=>(hit i s q).to λ o g=>sb1.extBut _ _ (nl (by have:=eQ q;lia)) g⟩,λ c o q g=>sb1.extBut _ _ (nl fu) g⟩
 ·rintro⟨x,d'⟩ rest ⟨b1,b2⟩ s' ⟨hb,d,m,us',rfl,hr,h1,h2,h3,h4,Z,out⟩;simp only at hb;subst hb
  have hd:d<S.length:=by
   have:=bK List.length hr;simp at this;lia
  rw[iG (by simpa using hd)] at hr
  injection hr with hx hr
  rw[List.getElem_zipIdx] at hx;simp at hx;obtain⟨rfl,rfl⟩:=hx;obtain⟨s,hs⟩:∃s,S[d']?=some s:=⟨S[d'],aF hd⟩;have w:Wk m s.1 (N+d') s.2 k:=by simpa using Z.it d' s hs
  obtain⟨its,q,e1,e2⟩:=src d' s hs;have q:Wq m s.1 s.2 its:=q.to λ o g=>out _ o (.inl (lo d' s hs)) g;refine af (wpAny_onRaise ?_);show wpAny _ _ (Builtin.SmallTypes.nextOf (.ref (N+d')) >>= _) _ _ _
  rcases Nat.lt_or_eq_of_le h2 with hlt|heq
  ·refine af (DF w q (e1 hlt) λ m2 pm2 sb2=>ag ?_);have om2:m2.get? (N+S.length+1)=some (TuO us'):=sb2.extBut _ _ (nl fu) Z.ox;refine af (fJ om2 rfl ?_);refine af (DH om2 (by rw[Z.ul];exact hz9) λ m3 om3 sb3=>?_);refine af (kL (ag ?_));have to3:∀c o,c≠N+d'->c≠N+S.length+1->m.get? c=some o->m3.get? c=some o:=λ c o a1 a2 g=>sb3.extBut _ _ a2 (sb2.extBut _ _ a1 g);refine⟨O,d' + 1,m3,us'.set d' (xs d'),O,hr,hd,hlt,by rw[sb3.1,sb2.1];exact h3,λ i hi=>?_,⟨to3 _ _ (nl fu) (nl fu) Z.z,to3 _ _ (nl fu) (nl fu) Z.ti,om3,by rw[eF];exact Z.ul,λ i s' hs'=>?_⟩,λ c o a g=>to3 c o (nl fu) (nl fu) (out c o a g)⟩
   ·by_cases hid:i=d'
    ·subst hid;rw[lE (by rw[Z.ul];exact hd)]
    ·rw[oD (bx hid)];exact h4 i fu
   ·have li:=eQ hs';by_cases hid:i=d'
    ·subst hid;rw[hs] at hs';cases hs';rw[if_pos (fG _)];exact pm2.to λ o g=>sb3.extBut _ _ (nl fu) g
    ·have:=(Z.it i s' hs').to (h':=m3) λ o g=>to3 _ o (nl fu) (nl fu) g;by_cases hl:i<d'
     ·rw[if_pos hl] at this;rw[if_pos fu];exact this
     ·rw[if_neg hl] at this;rw[if_neg fu];exact this
  ·refine af (DG hh w q (e2 heq) λ m2 e' xb he=>?_);obtain⟨oe,ge,ce⟩:=he;have zm2:IsZip m2 (N+S.length+2) (N+S.length) (N+S.length+1) .ellipsis:=xb _ _ (nl fu) Z.z;have ez:e'≠N+S.length+2:=λ q=>by subst q;rw[zm2] at ge;cases ge;simp at ce
   exact fN zm2 pv λ m3 _ sb3=>af (gH (T := "StopIteration") (b:=true) ⟨oe,sb3.extBut _ _ ez ge,ce⟩ mi (ag (fe (heq ▸ hd) _ λ c o a g=>sb3.extBut _ _ (nl fu) (xb _ _ (nl fu) (out c o a g)))))
 ·rintro⟨b1,b2⟩ s' ⟨hb,d,m,us',rfl,hr,h1,h2,h3,h4,Z,out⟩;simp only at hb;subst hb
  have hd:d=S.length:=by
   have:=bK List.length hr;simp at this;lia
  subst hd;refine af (fJ Z.ox rfl ?_);refine af (mK ?_ (small (by simpa [Z.ul] using hz9)));have zlt:N+S.length+2<m.objs.size:=aC Z.z;show wpAny _ _ (Builtin.SmallTypes.ownedTupleHandOut (.ref (N+S.length+2)) (.ref m.objs.size) >>= _) _ _ _;refine af ?_;unfold Builtin.SmallTypes.ownedTupleHandOut;have zm6:IsZip (m.push (TuO us')) (N+S.length+2) (N+S.length) (N+S.length+1) .ellipsis:=aA _ Z.z;refine af (fN zm6 pv λ m7 zm7 sb7=>?_);refine fN zm7 pv λ m8 zm8 sb8=>?_;have to8:∀c o,c≠N+S.length+2->m.get? c=some o->m8.get? c=some o:=λ c o a1 g=>sb8.extBut _ _ a1 (sb7.extBut _ _ a1 (aA _ g));have np8:m8.get? m.objs.size=some (TuO us'):=sb8.extBut _ _ (fq zlt) (sb7.extBut _ _ (fq zlt) (aM _ rfl));have zm8:IsZip m8 (N+S.length+2) (N+S.length) (N+S.length+1) (rawInt m.objs.size):=zm8;rw[h3] at zm8 np8;refine ag ⟨_,O,ag ?_⟩;show R (some (.ref m.objs.size)) _;rw[h3]
  exact fi h2 m8 us' h4 ⟨zm8,to8 _ _ (nl fu) Z.ti,to8 _ _ (nl fu) Z.ox,Z.ul,λ i s hs=>by
   have:=(Z.it i s hs).to (h':=m8) λ o g=>to8 _ o (nl (by have:=eQ hs;lia)) g
   rwa [if_pos (eQ hs)] at this⟩ np8 λ c o a g=>to8 c o (nl fu) (out c o a g)
theorem DI{Q:VS}(q:Wq s0.heap c t its)
  (f:∀h':Heap,Wk h' c s0.heap.objs.size t 0->h'.objs.size=s0.heap.objs.size+1->(∀c o,s0.heap.get? c=some o->h'.get? c=some o)->Q (.ref s0.heap.objs.size) { s0 with heap:=h' }):wpAny (model pg wd) B (pyIter (.ref t)) Q X0 s0:=by
 cases c
 ·exact kJ q (f _ ⟨_,aM _ rfl,O,O⟩ (df ..) λ _ _ g=>aA _ g)
 ·exact kH q (f _ ⟨_,aM _ rfl,O,O⟩ (df ..) λ _ _ g=>aA _ g)
theorem DJ(S:List (Bool × Addr))(hz9:S.length≤1000):Meets (Builtin.«zip.__new__» ⟨.type "zip" :: S.map (λ s=>Value.ref s.2),[]⟩) (λ _ R s=>(∀(i:Nat) (p:Bool × Addr),S[i]?=some p->∃its,Wq s.heap p.1 p.2 its) /\
   ∀h':Heap,Zs S s.heap.objs.size .none (S.map λ _=>.none) (λ _=>0) h'->(∀c o,s.heap.get? c=some o->h'.get? c=some o)->R (.ok (.ret (.ref (s.heap.objs.size+S.length+2)))) { s with heap:=h' }) :=
 .of_wp λ prog w A R s h=>by
  obtain⟨hp,g,dd,tk,os⟩:=s;obtain⟨hq,h⟩:=h;have q0:=sub_zip
  wp_walk using wpAny_forIn_list _ (λ rest (b:Array Value) s'=>∃d m,s'=⟨m,g,dd,tk,os⟩/\rest=(S.map (λ s=>Value.ref s.2)).drop d/\d≤S.length/\b=((List.range' hp.objs.size d).map Value.ref).toArray/\m.objs.size=hp.objs.size+d /\
   (∀(i:Nat) (p:Bool×Addr),S[i]?=some p->i<d->Wk m p.1 (hp.objs.size+i) p.2 0)/\∀c o,hp.get? c=some o->m.get? c=some o) _
  case turn=>
   rintro x rest b s ⟨d,m,rfl,hr,h1,rfl,h3,h4,h5⟩
   have hd:d<S.length:=by
    have:=bK List.length hr;simp at this;lia
   rw[iG (by simpa using hd)] at hr
   injection hr with hx hr
   rw[qh] at hx;subst hx;have hs:S[d]?=some S[d]:=aF hd;obtain⟨its,q⟩:=hq d _ hs;refine af (bU (DI (q.to λ o e=>h5 _ o e) λ m2 w2 z2 k2=>ag ?_));refine⟨d+1,m2,O,hr,hd,?_,by rw[z2];show m.objs.size+1=_;lia,λ i p hp hi=>?_,λ c o e=>k2 c o (h5 c o e)⟩
   ·show Array.push _ (Value.ref m.objs.size)=_;rw[h3,List.range'_concat];simp
   ·by_cases hid:i=d
    ·subst hid;rw[hs] at hp;cases hp;have w2:Wk m2 _ m.objs.size _ 0:=w2;rw[h3] at w2;exact w2
    ·exact(h4 i p hp fu).to λ o e=>k2 _ o e
  case fin=>
   rintro b s ⟨d,m,rfl,hr,h1,rfl,h3,h4,h5⟩
   have hd:d=S.length:=by
    have:=bK List.length hr;simp at this;lia
   subst hd;refine ag (af (mK (af (mK ?_ ?_)) ?_))
   ·wp_walk;refine⟨_,O,?_⟩;dsimp only;generalize e1:m.push _=m1;generalize e2:m1.push _=m2;have n1:m1.objs.size=hp.objs.size+S.length+1:=by rw[<- e1,df,h3]
    have n2:m2.objs.size=hp.objs.size+S.length+2:=by rw[<- e2,df,n1]
    rw[show List.map (λ _=>Value.none) (List.map Value.ref (List.range' hp.objs.size S.length))=S.map λ _=>Value.none by simp[List.map_const',Function.comp_def]] at e2;have k1:∀c o,m.get? c=some o->m1.get? c=some o:=λ c o g=>e1 ▸ aA _ g;have k2:∀c o,m1.get? c=some o->m2.get? c=some o:=λ c o g=>e2 ▸ aA _ g;have g1:m1.get? m.objs.size=some (TuO _):=e1 ▸ aM _ rfl;have g2:m2.get? m1.objs.size=some (TuO _):=e2 ▸ aM _ rfl;rw[h3] at g1;rw[n1] at g2;rw[n2,h3,n1];refine h _ ⟨?_,aA _ (k2 _ _ g1),aA _ g2,pv,λ i s hs=>(h4 i s hs (eQ hs)).to λ o e=>aA _ (k2 _ _ (k1 _ _ e))⟩ λ c o e=>aA _ (k2 _ _ (k1 _ _ (h5 c o e)));rw[<- n2];exact aM _ rfl
   ·exact small (by simpa using hz9)
   ·exact small (by simpa using hz9)
  case h=>exact⟨0,hp,rfl,rfl,bC _,rfl,rfl,λ i _ _ q=>absurd q (gJ _),λ _ _ e=>e⟩
end
noncomputable def SqB(K:FG)(b:Bool)(H:Hp)(a:Addr)(vs:List V):Prop:=if b=true then SqT K H a vs else SqL K H a vs
variable {X:Cx}
section
variable {pins:LO}{σ:St}{H:Hp}{s:Shared}
def Inv.sq(I:Inv X pins σ H s)(h:SqB X.K b H a xs):∃its:LV,Vals xs its/\Wq s.heap b a its.toArray:=by
 cases b
 ·obtain⟨its,r,p,_⟩:=I.list h;exact⟨its,r,p.isList⟩
 ·obtain⟨its,r,p,_⟩:=I.tuple h;exact⟨its,r,p⟩
def Inv.sq_inj(I:Inv X pins σ H s)(h:SqB X.K b H a xs)(h':SqB X.K b H a ys):xs=ys:=by
 cases b
 ·exact I.list_inj h h'
 ·exact I.tuple_inj h h'
end
def uv{α β:Type} [Nonempty β] {S:List α}{P:Nat->α->β->Prop}(h:∀d s,S[d]?=some s->∃u,P d s u):∃f:Nat->β,∀d s,S[d]?=some s->P d s (f d) :=
 ⟨λ d=>Classical.epsilon λ u=>∀s,S[d]?=some s->P d s u,λ d s hs=>by
  obtain⟨u,hu⟩:=h d s hs
  exact Classical.epsilon_spec (p:=λ u=>∀s,S[d]?=some s->P d s u) ⟨u,λ s' hs'=>by rw[hs] at hs';cases hs';exact hu⟩ s hs⟩
theorem uw(f:Nat->V×Value):∀l:List Nat,(∀d∈l,RelV (f d).1 (f d).2)->Vals (l.map λ d=>(f d).1) (l.map λ d=>(f d).2)
 |[],_=>.nil
 |d::l,h=>.cons (h d pv) (uw f l λ e he=>h e (by simp[he]))
noncomputable def Itn(K:FG)(S:List (Bool × Addr)):It:=⟨λ i H=>∀(d:Nat) (s:Bool × Addr),S[d]?=some s->∃xs,SqB K s.1 H s.2 xs/\i < xs.length,
 λ i H v H'=>∃T vs,v=.ref T/\H T=none/\H'=upd H T (.tup vs)/\vs.length=S.length/\∀(d:Nat) (s:Bool×Addr) xs,S[d]?=some s->SqB K s.1 H s.2 xs->vs[d]?=xs[i]?,
 λ i H=>∃e,e<S.length/\∀(d:Nat) (s:Bool×Addr),S[d]?=some s->∃xs,SqB K s.1 H s.2 xs/\(d<e->i<xs.length)/\(d=e->xs.length<=i)⟩
def uy{N n c:Nat}(h:c ∉ List.range' N (n+3)):c<N\/N+n+2<c:=by rw[iH] at h;lia
theorem DK{K:FG}{S:List (Bool×Addr)}{N:Nat}(hn:S≠[])(hz:S.length<=1000)(lo:∀(i:Nat) (s:Bool×Addr),S[i]?=some s->s.2<N) :
  Turn P w K (.Tuple es x1 pp) (Itn K S) (List.range' N (S.length+3)) (N+S.length+2) (λ i h=>∃us,Zs S N .none us (λ _=>i) h) where
 mem:=by rw[iH];lia
 obj:=λ i h ⟨us,Z⟩ c hc=>by
  rw[iH] at hc
  rcases fO c (N+S.length) with q|q
  ·have hd:c-N<S.length:=Nat.sub_lt_left_of_lt_add hc.1 q;obtain⟨o,g,d,_⟩:=(Z.it (c-N) S[c-N] (aF hd)).out;rw[Nat.add_sub_cancel' hc.1] at g;exact⟨o,g,d⟩
  ·rcases DE q hc.2 with rfl|rfl|rfl
   ·exact⟨_,Z.ti,λ v z=>nomatch z⟩
   ·exact⟨_,Z.ox,λ v z=>nomatch z⟩
   ·exact⟨_,Z.z,λ v z=>nomatch z⟩
 keep:=λ i h h' ⟨us,Z⟩ k=>by
  have k:∀c,N<=c->c<N+(S.length+3)->∀o,h.get? c=some o->h'.get? c=some o:=λ c a b=>k c (iH.mpr ⟨a,b⟩);exact⟨us,k _ fu fu _ Z.z,k _ fu fu _ Z.ti,k _ fu fu _ Z.ox,Z.ul,λ i s hs=>(Z.it i s hs).to λ o g=>k _ fu (by have:=eQ hs;lia) o g⟩
 item:=by
  intro X hP hw hK hc i pins s σ H E I hf ⟨us,Z⟩ hg;subst hP hw hK
  haveI:Nonempty (V×Value):=⟨(.int 0,.none)⟩
  obtain⟨f,hf'⟩:=uv (β:=V×Value) (P:=λ d (s':Bool×Addr) p=>∃xs its,SqB X.K s'.1 H s'.2 xs/\Wq s.heap s'.1 s'.2 (List.toArray its)/\xs[i]?=some p.1/\its[i]?=some p.2/\RelV p.1 p.2) λ d s' hs=>by
   obtain⟨xs,q,l⟩:=hg d s' hs;obtain⟨its,r,p⟩:=I.sq q;obtain⟨u,hu,ru⟩:=r.get (aF l);exact⟨(xs[i],u),xs,its,q,p,aF l,hu,ru⟩
  refine uu (I.ok.hd hc) hn hz Z lo (e:=S.length) (xs:=λ d=>(f d).2) (λ d s' hs=>?_) (λ _ h' us' hu Z' np bt=>?_) λ q=>absurd q (cg _)
  ·obtain⟨xs,its,q,p,_,hu,_⟩:=hf' d s' hs;exact⟨_,p,λ _=>by simpa using hu,λ q=>absurd (eQ hs) fu⟩
  have eu:us'=(List.range S.length).map λ d=>(f d).2:=by
   refine kN λ d=>?_
   rcases fO d S.length with q|q
   ·rw[hu d q];simp[q]
   ·rw[gc (by rw[Z'.ul];exact q)];simp[q]
  have rl:Vals ((List.range S.length).map λ d=>(f d).1) us':=by
   rw[eu]
   exact uw f _ λ d hd=>by
    obtain⟨xs,its,_,_,_,_,r⟩:=hf' d _ (aF (cW.mp hd));exact r
  have I1:Inv X pins σ H { s with heap:=h' }:=I.turnedL (t':=s.toks) (fl:=List.range' N (S.length+3)) (λ c o hc e=>bt c o (uy hc) e) hf;obtain⟨f0,f1,f2,f3,f4,f5⟩:=I.fpOk (ar s.heap.objs.size) (I.hok.fresh (ar _))
  have n0:X.s₀.heap.get? s.heap.objs.size=none:=by
   cases q:X.s₀.heap.get? s.heap.objs.size with
   |none=>rfl
   |some o=>exact absurd (bR (aC q) I.sz) (cg _)
  have I2:Inv X pins σ (upd H s.heap.objs.size (.tup ((List.range S.length).map λ d=>(f d).1))) { s with heap:=h' }:=I1.track f0 ⟨small (by simpa using hz),us',rl,⟨_,np,⟨rfl,_,rfl⟩,rfl⟩⟩ f1 f4 f5 n0;have zl:N+S.length+2<s.heap.objs.size:=aC Z.z;have mz:N+S.length+2∈List.range' N (S.length+3):=by rw[iH];lia
  obtain⟨e0,e1,e2,e3,e4,e5⟩:=hf _ mz;refine⟨_,O,wpAny_letOwnedTupleGo_zip Z'.z λ h2 z2 sb=>?_⟩;have I3:Inv X pins σ (upd H s.heap.objs.size (.tup ((List.range S.length).map λ d=>(f d).1))) { s with heap:=h2 }:=Inv.turned (s:={ s with heap:=h' }) (h':=h2) (t':=s.toks) (it:=N+S.length+2) I2 (λ c o hc e=>sb.extBut _ _ hc e) (by rw[aL (aK zl)];exact e0) e1 e3 e4 e5;refine⟨.ref s.heap.objs.size,_,I3,O,⟨_,_,O,f0,O,pv,λ d s' xs hs hq=>?_⟩,⟨us',z2,sb.extBut _ _ (nl fu) Z'.ti,sb.extBut _ _ (nl fu) Z'.ox,Z'.ul,λ i s hs=>(Z'.it i s hs).to λ o g=>sb.extBut _ _ (nl (by have:=eQ hs;lia)) g⟩,λ c hc=>?_⟩
  ·obtain⟨ys,its,q,_,hy,_⟩:=hf' d s' hs;rw[I.sq_inj hq q,hy];simp[eQ hs]
  ·have:=iH.mp hc;rw[aL (show c≠s.heap.objs.size from nl fu)];exact(hf c hc).1
 done:=by
  intro X hP hw hK hc i pins s σ H E I hf ⟨us,Z⟩ ⟨e,he,hg⟩;subst hP hw hK
  haveI:Nonempty Value:=⟨.none⟩
  obtain⟨f,hf'⟩:=uv (β:=Value) (P:=λ d (s':Bool×Addr) u=>∃its,Wq s.heap s'.1 s'.2 its/\(d<e->its[i]?=some u)/\(d=e->its[i]?=none)) λ d s' hs=>by
   obtain⟨xs,q,l,l'⟩:=hg d s' hs;obtain⟨its,r,p⟩:=I.sq q;have ln:=r.length;refine⟨(its[i]?).getD .none,_,p,λ q=>?_,λ q=>?_⟩
   ·have:=l q;rw[aF (show i<its.length by lia)];simp
   ·have:=l' q;simp;lia
  exact uu (I.ok.hd hc) hn hz Z lo hf' (λ q=>absurd he fu) λ _ h' bt=>⟨O,I.turnedL (t':=s.toks) (fl:=List.range' N (S.length+3)) (λ c o hc e=>bt c o (uy hc) e) hf⟩
 self:=λ _ _ _ _ _ ⟨_,Z⟩ h=>wpAny_pyIter_zip Z.z h
section
variable {es:List Expr}{x1:Nat}{pp:Pos}
noncomputable def iZn(K:FG)(n:Nat)(ta:TA):TI:=λ σ H R=>ta σ H λ vs H1=>∃S:List (Bool×Addr),S.length=n/\vs=S.map (λ s=>V.ref s.2)/\(∀(i:Nat) (s:Bool×Addr),S[i]?=some s->∃xs,SqB K s.1 H1 s.2 xs)/\R (Itn K S) H1
noncomputable def uz(n:Nat):Prop:=(0<n/\n<=1000)/\∀us:LV,us.length=n->checkTypeCall "zip" ⟨us,[]⟩=pure ()/\checkBuiltinCall "zip.__new__" ⟨.type "zip" :: us,[]⟩=pure ()/\∀ob,argsOk "object.__init__" ⟨ob::us,[]⟩
def DM:∀ {S:List (Bool×Addr)},Vals (S.map λ s=>V.ref s.2) us->us=S.map λ s=>Value.ref s.2:=by
 intro S r;generalize e:(S.map λ s=>V.ref s.2)=vs at r
 induction r generalizing S with
 |nil=>cases S with|nil=>rfl|cons=>cases e
 |cons h t ih=>
  cases S with
  |nil=>cases e
  |cons s S=>injection e with a b;subst a;rw[ih b];cases h;rfl
theorem DN{e:Expr}{rest:List Expr}{p pos:Pos}(za:uz n)(hg:Gl X "zip")(hm:X.mg "zip"=none)(ha:PA X (e::rest) ta)(he:starEach (e::rest) X.env=(false,eval e X.env)::starEach rest X.env)(hr:(backTo pos (starEach rest X.env)).any (·.1)=false) :
  PI X (.Tuple es x1 pp) (.Call (.Name "zip" p) (e::rest) [] pos) (iZn X.K n ta):=by
 intro pins s σ H R I h;have hA:=ha pos pins s σ H _ I h;refine Call_ (dA I hg hm boot_zip (fD (thn hA λ us s1 ⟨vs,H1,I1,r1,q1⟩=>?_) he hr));obtain⟨S,rfl,rfl,hS,q⟩:=q1;cases DM r1;obtain⟨⟨n0,n9⟩,za⟩:=za;obtain⟨z1,z2,z3⟩:=za _ (ah _)
 have src:∀(i:Nat) (s:Bool×Addr),S[i]?=some s->∃its,Wq s1.heap s.1 s.2 its:=λ i s hs=>by
  obtain⟨xs,q⟩:=hS i s hs;obtain⟨its,_,p⟩:=I1.sq q;exact⟨_,p⟩
 refine s1p F.called_zip on z1 z2 z3 F.entry_zip_new (DJ S n9) ⟨src,λ h' Z kk=>⟨⟨_,Z.z,O⟩,?_⟩⟩;have I2:Inv X pins σ H1 { s1 with heap:=h' }:=I1.kept (t':=s1.toks) kk;refine wpAny_pyIter_zip Z.z ⟨_,_,_,_,H1,O,I2,DK (iF.mp n0) n9 (λ i s hs=>?_),⟨_,Z⟩,λ c hc=>?_,q⟩
 ·obtain⟨its,p⟩:=src i s hs;obtain⟨o,g,_⟩:=p.out;exact aC g
 ·have ge:s1.heap.objs.size<=c:=(iH.mp hc).1;exact I1.fpOk ge (I1.hok.fresh ge)
def DO:uz 2:=⟨on,λ us h=>by
 match us,h with
 |[a,b],_=>exact⟨F.typeCall_zip_2 _ _,F.newCall_zip_2 _ _,λ ob=>F.args_object_init_3 ob _ _⟩⟩
end
noncomputable def Ris(p:Array Nat):Prop:=∀(i k x y:Nat),i<k->p[i]?=some x->p[k]?=some y->x<y
theorem qi(p:Array Nat)(hr:Ris p)(j:Nat):∀fuel lo hi,hi-lo<=fuel->lo<=hi->hi<=p.size->(∀i x,i<lo->p[i]?=some x->x<j)->(∀i x,hi<=i->p[i]?=some x->j<=x) ->
  (∀i x,i<SetTable.below.go p j fuel lo hi->p[i]?=some x->x<j)/\(∀i x,SetTable.below.go p j fuel lo hi<=i->p[i]?=some x->j<=x)
 |0,lo,hi,h1,h2,h3,h4,h5=>by
  have e:lo=hi:=fu;subst e;exact⟨h4,h5⟩
 |fuel+1,lo,hi,h1,h2,h3,h4,h5=>by
  unfold SetTable.below.go;by_cases c:lo<hi
  ·have hm:(lo+hi)/2<p.size:=by lia
   have eg:=dO hm;have ed:p.getD ((lo+hi)/2) j=p[(lo+hi)/2]:=by rw[Array.getD,dif_pos hm];rfl
   rw[if_pos c];dsimp only;rw[ed];split
   ·rename_i q;refine qi p hr j fuel _ _ fu fu h3 (λ i x hi' ex=>?_) h5;by_cases z:i=(lo+hi)/2
    ·subst z;rw[eg] at ex;cases ex;exact q
    ·exact iB (hr i _ x _ fu ex eg) q
   ·rename_i q;refine qi p hr j fuel _ _ fu fu fu h4 (λ i x hi' ex=>?_);by_cases z:i=(lo+hi)/2
    ·subst z;rw[eg] at ex;cases ex;lia
    ·have:=hr _ i _ x fu eg ex;lia
  ·have e:lo=hi:=by lia
   subst e;rw[if_neg c];exact⟨h4,h5⟩
def uA(hr:Ris p)(j:Nat):(∀i x,i<SetTable.below p j->p[i]?=some x->x<j)/\(∀i x,SetTable.below p j<=i->p[i]?=some x->j<=x) :=
 qi p hr j p.size 0 p.size fu fu (ar _) (λ i x h=>absurd h (gJ _)) λ i x h e=>by rw[mL h] at e;cases e
def qj{p:Array Nat}(h:p.toList.Pairwise (· < ·)):Ris p:=λ i k x y ik ex ey=>by
 rw[<- db] at ex ey;obtain⟨h1,rfl⟩:=bc.mp ex;obtain⟨h2,rfl⟩:=bc.mp ey;exact(qk.mp h) i k h1 h2 ik
def DP(h:Ris p):p.toList.Pairwise (· < ·):=qk.mpr λ i k h1 h2 ik=>h i k _ _ ik (by rw[<- db];exact aF h1) (by rw[<- db];exact aF h2)
def DQ(hr:Ris p)(hn:¬p[SetTable.below p j]?=some j):Ris (SetTable.insertAt p (SetTable.below p j) j):=by
 obtain⟨b1,b2⟩:=uA hr j;apply qj;rw[SetTable.toList_insertAt];have pw:=DP hr
 have m1:∀x∈p.toList.take (SetTable.below p j),x<j:=λ x hx=>by
  obtain⟨i,hi,rfl⟩:=uB.mp hx;exact b1 i _ fu (by rw[<- db];exact aF _)
 have m2:∀x∈p.toList.drop (SetTable.below p j),j<x:=λ x hx=>by
  obtain⟨i,hi,rfl⟩:=List.mem_drop_iff_getElem.mp hx;have e:p[SetTable.below p j+i]?=some p.toList[SetTable.below p j+i]:=by rw[<- db];exact aF _
  have le:=b2 _ _ (Nat.le_add_right _ _) e
  rcases fO j p.toList[SetTable.below p j+i] with q|q
  ·exact q
  ·have ej:p.toList[SetTable.below p j+i]=j:=by lia
   rw[ej] at e;by_cases z:i=0
   ·subst z;rw[Nat.add_zero] at e;exact absurd e hn
   ·have hlt:SetTable.below p j<p.size:=by rw[Array.length_toList] at hi;lia
    have e0:=dO hlt;have a1:=b2 _ _ (ar _) e0;have a2:=hr _ _ _ _ fu e0 e;lia
 rw[List.pairwise_append,mM]
 exact⟨pw.sublist (List.take_sublist _ _),⟨m2,pw.sublist (List.drop_sublist _ _)⟩,λ x hx y hy=>by
  rcases aG.mp hy with rfl|hy
  ·exact m1 x hx
  ·exact iB (m1 x hx) (m2 y hy)⟩
noncomputable def jE(t:SetTable)(j:Nat):Prop:=¬t.place[SetTable.below t.place j]?=some j
def uC{t:SetTable}(h:∀i,t.slot j≠.live i):jE t j:=λ e=>by
 apply h (SetTable.below t.place j);unfold SetTable.slot;dsimp only;rw[if_pos (by rw[e];exact kO _)]
def uD(t:SetTable)(p:SetTable.Probe):(t.advance p).dummy=p.dummy:=by
 unfold SetTable.advance;split<;>rfl
theorem qm{f:Nat->Int}:∀(n:Nat) (p:SetTable.Probe) (j:Nat) (d:Option Nat),(∀x,p.dummy=some x->jE t x)->SetTable.probe.go t f h n p=some (.empty j d)->jE t (d.getD j)
 |0,_,_,_,_,e=>by cases e
 |n+1,p,j,d,hd,e=>by
  unfold SetTable.probe.go at e;split at e
  ·rename_i q;cases e;have nj:jE t p.j:=uC λ i z=>by rw[q] at z;cases z
   cases ed:p.dummy with
   |none=>exact nj
   |some x=>exact hd x ed
  ·rename_i q;have nj:jE t p.j:=uC λ i z=>by rw[q] at z;cases z
   refine qm n _ j d (λ x hx=>?_) e;rw[uD] at hx;cases hx;exact nj
  ·split at e
   ·cases e
   ·exact qm n _ j d (λ x hx=>hd x (by rw[uD] at hx;exact hx)) e
def Tb(b:Bool)(t:SetTable):Prop:=t.led=b/\Ris t.place
def mN(n:Nat)(h:Tb b t):Tb b (t.standIn n):=⟨h.1,qj (by show(Array.range n).toList.Pairwise _;rw[Array.toList_range];exact mO)⟩
set_option tactic.hygienic true in
def DS(hT:Tb b t):Tb b (layNew t es h x).2.1:=by
 unfold layNew;split
 ·rename_i slot dm e
  have nj:jE t slot:=by
   unfold SetTable.freeSlot at e;split at e
   ·rename_i j d q;cases e;exact qm _ _ _ _ (λ x hx=>by cases hx) q
   ·cases e
  dsimp only;unfold SetTable.orStandIn;have hp:Tb b (t.put slot).1:=⟨hT.1,DQ hT.2 nj⟩;split
  ·exact hp
  ·exact mN _ hp
 ·exact mN _ hT
set_option tactic.hygienic true in
def DT(hT:Tb b t):Tb b (relayAll t es n).2.1:=by
 unfold relayAll;split
 ·rename_i t' order e;dsimp only;split
  ·unfold SetTable.relaid SetTable.laid at e;simp only[Option.bind_eq_bind,Option.bind_eq_some_iff] at e;obtain⟨owner,_,e⟩:=e;cases e;refine⟨hT.1,qj ?_⟩;show(List.map _ _).Pairwise _;rw[mP,List.pairwise_filterMap];refine List.Pairwise.imp (λ {a c} q u hu v hv=>?_) (mO);rw[mG] at hu hv;obtain⟨_,_,rfl⟩:=hu;obtain⟨_,_,rfl⟩:=hv;exact q
  ·exact mN _ hT
 ·exact mN _ hT
def kI(e:Int×Value):Int:=match e.2 with|.int n _=>n|_=>0
noncomputable abbrev cR(es:Array (Int×Value))(ep:Nat)(t:SetTable):Obj:={ cls:=.type "set",dict:=none,data:=.set es ep t,slots:=#[] }
structure SetT (pg:Program)(wd:World)(b:Bool)(M:LI)(es:Array (Int×Value))(t:SetTable):Prop where
 el:ElemsOf (intKind pg wd) es.toList
 ft:t.fits es.size=true
 tb:Tb b t
 nd:(es.toList.map kI).Nodup
 mm:∀k,k∈es.toList.map kI ↔ k∈M
 sz:es.size<=M.length
section
variable {pg:Program}{wd:World}{B:Around}{X0:VS}{z0:Shared}{b:Bool}{M:LI}{es es1:Array (Int×Value)}{t t1:SetTable}{n:Int}{tk:Tok}
def uE{e:Int×Value}(h:(intKind pg wd).is k e.2=true):kI e=k:=by
 obtain⟨h',v⟩:=e;obtain⟨u,rfl⟩:=oz (k:=k) h;rfl
def SetT.perm(T:SetT pg wd b M es t)(p:List.Perm es1.toList es.toList)(f:t1.fits es1.size=true)(g:Tb b t1):SetT pg wd b M es1 t1 :=
 ⟨T.el.perm p,f,g,(p.map kI).nodup_iff.mpr T.nd,λ k=>((p.map kI).mem_iff).trans (T.mm k),by rw[<- Array.length_toList,p.length_eq,Array.length_toList];exact T.sz⟩
def SetT.push(T:SetT pg wd b M es t)(hn:n ∉ es.toList.map kI)(p:List.Perm es1.toList (es.push (hashInt n,.int n tk)).toList)(f:t1.fits es1.size=true)(g:Tb b t1):SetT pg wd b (M++[n]) es1 t1:=by
 rw[Array.toList_push] at p;have pm:=p.map kI;rw[bD] at pm;refine⟨(T.el.push (knd:=intKind pg wd) (k:=n) (intKind_is _ _ _ _) rfl).perm p,f,g,pm.nodup_iff.mpr ?_,λ k=>?_,?_⟩
 ·rw[List.nodup_append];refine⟨T.nd,pv,λ a ha c hc=>?_⟩;rw[List.map_singleton,bd] at hc;subst hc;intro e;exact hn (e ▸ ha)
 ·rw[pm.mem_iff,bO,bO,T.mm k];exact Iff.rfl
 ·rw[<- Array.length_toList,p.length_eq,aQ,aQ,Array.length_toList];exact Nat.add_le_add_right T.sz 1
def SetT.old(T:SetT pg wd b M es t)(hn:n∈es.toList.map kI):SetT pg wd b (M++[n]) es t :=
 ⟨T.el,T.ft,T.tb,T.nd,λ k=>by
  rw[bO,bd,<- T.mm k]
  exact⟨.inl,λ h=>h.elim id λ e=>e ▸ hn⟩,by rw[aQ];exact bB T.sz (Nat.le_add_right _ _)⟩
def uF{h:Heap}{a:Addr}(ho:h.get? a=some (cR es ep t)):(h.update a (Obj.putSet es1 t1)).get? a=some (cR es1 (ep+1) t1) :=
 eE (Obj.putSet es1 t1) ho rfl
theorem DU{a:Addr}{R:Bool->Shared->Prop}(ho:z0.heap.get? a=some (cR es ep t))(T:SetT pg wd b M es t)(hz:M.length+1<scanBound)
  (fin:∀h' es' ep' t' r,Heap.SameBut a z0.heap h'->h'.get? a=some (cR es' ep' t')->SetT pg wd b (M++[n]) es' t'->R r { z0 with heap:=h' }) :
  wpAny (model pg wd) B (setAddHashed a (.int n tk) (hashInt n)) R X0 z0:=by
 have zs:es.size<scanBound:=by have:=T.sz;lia
 have fi:∀m,m<=M.length+1->m<=sizeLine:=λ m q=>fits_of_scanBound fu;unfold setAddHashed setAddHashedIn;refine bU (af (kP ho rfl T.ft ?_));dsimp only;rw[byScan_of (knd:=intKind pg wd) rfl zs T.el,if_pos rfl];unfold setAddByScan;refine af (af (fI (af (wpAny_setScan_of (knd:=intKind pg wd) (k:=n) (intKind_is _ _ _ _) ho rfl T.ft T.el ?_))))
 cases hr:es.toList.findIdx? (λ e=>(intKind pg wd).is n e.2) with
 |some j=>
  obtain⟨hj,hp,_⟩:=List.findIdx?_eq_some_iff_getElem.mp hr;exact ag (ag (fin z0.heap es ep t _ (Heap.SameBut.refl a _) ho (T.old (aT.mpr ⟨_,iI hj,uE hp⟩))))
 |none=>
  have nn:n ∉ es.toList.map kI:=λ h=>by
   obtain⟨e,he,q⟩:=aT.mp h;obtain⟨⟨k,hk,_⟩,_⟩:=T.el e he;have:=List.findIdx?_eq_none_iff.mp hr e he;rw[uE hk] at q;rw[q] at hk;rw[hk] at this;cases this
  have p1:=layNew_perm t es (hashInt n) (.int n tk);have f1:=layNew_fits t es (hashInt n) (.int n tk);have g1:=DS (es:=es) (h:=hashInt n) (x:=.int n tk) T.tb;dsimp only;generalize layNew t es (hashInt n) (.int n tk)=L at p1 f1 g1 ⊢;obtain⟨es1,t1,dm,gv⟩:=L;have T1:=T.push nn p1 f1 g1;have s1:es1.size<=M.length+1:=by have:=T1.sz;rwa [aQ] at this
  have gw:∀(c:Bool) (z:Shared) (R:Unit->Shared->Prop),R () z->wpAny (model pg wd) B (match c with|true=>rule "set.scan.the-table-gave-way" |false=>pure ()) R X0 z:=λ c z R h=>by
   cases c
   ·exact ag h
   ·exact fI h
  refine af (gw _ _ _ ?_);split
  all_goals
   refine af (ag (a:=true) ?_);dsimp only;first|rw[if_pos rfl]|skip
   refine af (wpAny_storeSet_of ho rfl ?_ (fi _ s1));have o1:=uF (es1:=es1) (t1:=t1) ho;have sb:=jw z0.heap a (Obj.putSet es1 t1);split
   ·have p2:=relayAll_perm t1 es1 (SetTable.grown es1.size);have f2:=relayAll_fits t1 es1 (SetTable.grown es1.size);have g2:=DT (es:=es1) (n:=SetTable.grown es1.size) T1.tb;generalize relayAll t1 es1 (SetTable.grown es1.size)=L at p2 f2 g2 ⊢;obtain⟨es2,t2,gv⟩:=L;have T2:=T1.perm p2 f2 g2;refine af (gw _ _ _ (af (wpAny_storeSet_of o1 rfl ?_ (fi _ (by have:=T2.sz;rwa [aQ] at this)))));exact ag (ag (fin _ es2 _ t2 _ (sb.trans (jw _ a _)) (uF o1) T2))
   ·exact ag (ag (fin _ es1 _ t1 _ sb o1 T1))
end
section
variable {pg:Program}{wd:World}{B:Around}{X0:VS}{z0:Shared}{b:Bool}{n:Int}{tk:Tok}
noncomputable def fP(pg:Program)(wd:World)(b:Bool)(M:LI)(a:Addr)(h:Heap):Prop:=∃es ep t,h.get? a=some (cR es ep t)/\SetT pg wd b M es t
theorem DV{l I a:Addr}{items:Array Value}{R:Result->Shared->Prop}(hh:B.handled=none)(hI:l≠I)(aI:a≠I)(al:a≠l)(hi:IntsAre items.toList ns)(hz:ns.length+1<scanBound) :
  ∀(k i:Nat) (z:Shared),ns.length-i=k->i<=ns.length->z.heap.IsListIter I l i->z.heap.IsList l items->fP pg wd b (ns.take i) a z.heap ->
   (∀h' tk,(∀c o,c≠a->c≠I->z.heap.get? c=some o->h'.get? c=some o)->fP pg wd b ns a h'->R (.ok (.ret .none)) { z with heap:=h',toks:=tk }) ->
   codeAny (model pg wd) B (.builtin "set.update.loop" ⟨[.ref a,.ref I],[]⟩) R z:=by
 have W:=Walks.list (prog:=pg) (w:=wd) (A:=B.in1) hh I l hI items;have sz:items.size=ns.length:=by have:=hi.length;rwa [Array.length_toList] at this
 intro k
 induction k with
 |zero=>
  intro i z hk hle it il hS fin;have e:i=ns.length:=fu;subst e;refine bV uG ?_;rw[cq qo _];show wpAny _ B.in1 (pyNext (.ref I) >>= _) _ _ z;refine af (W.done z _ _ (by rw[sz];exact⟨it,il⟩) λ h' tk kp=>?_);show wpAny _ _ (ret Value.none) _ _ _;obtain⟨es,ep,t,ho,T⟩:=hS;rw[dh] at T;exact ag (fin h' tk (λ c o _ cI q=>kp c o (by simpa using cI) q) ⟨es,ep,t,kp a _ (by simpa using aI) ho,T⟩)
 |succ k ih=>
  intro i z hk hle it il hS fin;have lt:i<ns.length:=fu;refine bV uG ?_;rw[cq qo _];show wpAny _ B.in1 (pyNext (.ref I) >>= _) _ _ z;refine af (W.item i z _ _ fu ⟨it,il⟩ λ v h' tk hv st kp=>?_);obtain⟨u,rfl⟩:=IntsAre.int_at hi i v (by rw[db];exact hv);obtain⟨es,ep,t,ho,T⟩:=hS;have ho':=kp a _ (by simpa using aI) ho
  have tt:ns.take i++[ns.getD i 0]=ns.take (i+1):=by
   rw[gh,aF lt,bG,aF lt];rfl
  show wpAny _ B.in1 (holding [Value.int (ns.getD i 0) u] (setAdd a (.int (ns.getD i 0) u)) >>= _) _ _ _;refine af (bU ?_);unfold setAdd;refine bU (af ((intKind pg wd).pyHash (k:=ns.getD i 0) (intKind_is _ _ _ _) ?_));refine DU (n:=ns.getD i 0) (z0:={ z with heap:=h',toks:=tk+1 }) ho' T (by rw[be];lia) λ h2 es2 ep2 t2 r sb o2 T2=>?_;rw[tt] at T2
  have kp2:∀c o,c≠a->c≠I->z.heap.get? c=some o->h2.get? c=some o:=λ c o ca cI q=>by
   rw[sb.2 c ca];exact kp c o (by simpa using cI) q
  refine ag ⟨bW qo _,ih (i+1) _ fu lt ?_ ?_ ⟨es2,ep2,t2,o2,T2⟩ λ h3 tk3 kp3 hS3=>?_⟩
  ·exact st.1.at λ o e=>by rw[sb.2 I (bx aI)];exact e
  ·exact st.2.at λ o e=>by rw[sb.2 l (bx al)];exact e
  ·exact fin h3 tk3 (λ c o ca cI q=>kp3 c o ca cI (kp2 c o ca cI q)) hS3
end
section
variable {pg:Program}{wd:World}{B:Around}{X0:VS}{z0:Shared}{b:Bool}{n:Int}{tk:Tok}
noncomputable abbrev byT(wd:World):Bool:=wd.params.followText "set-order"
theorem DW(v:Value){R:VS}(fin:R (.ref z0.heap.objs.size) { z0 with heap:=z0.heap.push (cR #[] 0 (.fresh 0 0 (!byT wd))) }) :
  codeAny (model pg wd) B (.call (.builtin "set.__new__") ⟨[.type "set",v],[]⟩) (wants R X0) z0:=by
 refine kG ?_;refine af (cK (F.newCall_set_1 v) (ag ⟨bW F.plain_set_new _,bV F.entry_set_new ?_⟩));rw[cq F.plain_set_new _];unfold Builtin.«set.__new__» Builtin.Frozenset.newClass;have hs:=sub_set_self;obtain⟨hp,g,d,tk,os⟩:=z0;dsimp only;wp_walk;refine qp (ag ?_);dsimp only[newObj];exact af (wpAny_alloc (ag (ag fin)))
theorem DX{R:VS}(hh:B.handled=none)(il:z0.heap.IsList l items)(hi:IntsAre items.toList ns)(hz:ns.length+1<scanBound)
  (fin:∀(h':Heap) (tk:Nat),fP pg wd (!byT wd) ns z0.heap.objs.size h'->(∀c o,z0.heap.get? c=some o->h'.get? c=some o)->R (.ref z0.heap.objs.size) { z0 with heap:=h',toks:=tk }) :
  wpAny (model pg wd) B (call (.type "set") [.ref l]) R X0 z0:=by
 obtain⟨c,tl,hmro⟩:=F.called_set.mro;have hmade:=F.called_set.made;have hsub:=F.called_set.sub;have h1:=F.called_set.notType;have h2:=F.called_set.canCreate;have hct:=F.typeCall_set_1 (.ref l);refine wpAny_call (kG ?_);show wpAny _ _ (callAny (.type "set") _) _ _ _;refine ag ⟨Code.quiet_builtin _ (by decide +kernel),bV F.entry_type_call ?_⟩;rw[Around.under_plain (weight_type_call_type "set" [.ref l] []) rfl]
 repeat (any_goals (first|assumption|wp_step))
 refine iq (DW (.ref l) (X0:=X0) (R:=λ v z=>v=.ref z0.heap.objs.size/\z={ z0 with heap:=z0.heap.push (cR #[] 0 (.fresh 0 0 (!byT wd))) }) ⟨O,O⟩) λ r z hr=>?_;have g0:(z0.heap.push (cR #[] 0 (.fresh 0 0 (!byT wd)))).get? z0.heap.objs.size=some (cR #[] 0 (.fresh 0 0 (!byT wd))):=aM _ rfl
 rcases r with e|(_|_|_|obj)<;>try exact hr
 obtain⟨rfl,rfl⟩:=hr;have hT:Shared.TypeIs { z0 with heap:=z0.heap.push (cR #[] 0 (.fresh 0 0 (!byT wd))) } (.ref z0.heap.objs.size) "set" := ⟨_,g0,rfl⟩;have hli:=F.called_set.init.lookup;have hbi:=F.called_set.init.bind (.ref z0.heap.objs.size)
 repeat (any_goals (first|assumption|wp_step))
 refine iq (codeAny_call_builtin (R:=wants (λ r z=>r=.none/\∃h' tk,z={ z0 with heap:=h',toks:=tk }/\fP pg wd (!byT wd) ns z0.heap.objs.size h'/\∀c o,z0.heap.get? c=some o->h'.get? c=some o) X0) F.called_set.init.plain F.entry_set_init (check_set_init_1 hT ?_)) λ r z hr=>?_
 ·obtain⟨ol,go,hc,nl,hd⟩:=il;obtain⟨oc,od,odt,os⟩:=ol;simp only at hc hd;subst hc hd;have go':=aA (cR #[] 0 (.fresh 0 0 (!byT wd))) go;have y1:=F.sub_list_set;have y2:=F.sub_list_frozenset;have y3:(Value.type "list" == Value.type "dict")=false:=on;have il1:(z0.heap.push (cR #[] 0 (.fresh 0 0 (!byT wd)))).IsList l items:=⟨_,go',rfl,nl,rfl⟩;unfold Builtin.«set.__init__» noKeywords Builtin.Frozenset.updateFrom;generalize hPI:pyIter=PI;wp_walk;subst hPI;refine kJ il1 (af (kF ?_));have lt:l<z0.heap.objs.size:=aC go;refine DV (ns:=ns) (b:=!byT wd) (items:=items) (l:=l) (B:=B.in1.in1) hh (by rw[df];exact aK (cJ lt)) (by rw[df];exact aK (fG _)) (fq lt) hi hz (ns.length-0) 0 _ rfl (bC _) ⟨_,aM _ rfl,O,O⟩ (il1.push _) ⟨_,_,_,aA _ g0,?_⟩ λ h' tk kp hS=>?_
  ·exact⟨(λ e he=>(aU he).elim),O,⟨O,(λ i k x y _ e=>by simp[SetTable.fresh] at e)⟩,List.nodup_nil,λ k=>by simp,bC _⟩
  ·show wpAny _ _ _ _ _ _;refine ag ?_;show wpAny _ _ (ret Value.none) _ _ _;exact ag ⟨O,h',tk,O,hS,λ c o q=>kp c o (aK (aC q)) (by rw[df];exact aK (cJ (aC q))) (aA _ (aA _ q))⟩
 ·rcases r with e|(_|_|_|v)<;>try exact hr
  obtain⟨rfl,h',tk,rfl,hS,kp⟩:=hr
  repeat (any_goals (first|assumption|wp_step))
  exact fin h' tk hS kp
end
def si_next:Slot "set_iterator" "__next__" "set_iterator.__next__" :=
 .of (owner := "set_iterator") (n := "__next__") (by rw[dM,dN];kernel_rfl) (by decide +kernel) (by decide +kernel) (by decide +kernel) (.inl (by decide +kernel)) (by rw[fH];kernel_rfl)
def uH:Slot "set_iterator" "__iter__" "set_iterator.__iter__" :=
 .of (owner := "set_iterator") (n := "__iter__") (by rw[dM,dN];kernel_rfl) (by decide +kernel) (by decide +kernel) (by decide +kernel) (.inl (by decide +kernel)) (by rw[fH];kernel_rfl)
def DY:entryFor table "set_iterator.__next__"=some Builtin.«set_iterator.__next__»:=mh (by kernel_rfl)
def DZ:entryFor table "set_iterator.__iter__"=some Builtin.«dict_keyiterator.__iter__» :=
 s0k (id' := "dict_keyiterator.__iter__") (by kernel_rfl) (by first|rfl|decide +kernel) (by decide +kernel) (by kernel_rfl)
def Ea:entryFor table "set.__iter__"=some Builtin.«frozenset.__iter__» :=
 s0k (id' := "frozenset.__iter__") (by kernel_rfl) (by first|rfl|decide +kernel) (by decide +kernel) (by kernel_rfl)
def Eb(a:Value):argsOk "set_iterator.__next__" ⟨[a],[]⟩:=by unfold argsOk;kernel_rfl
def Ec(a:Value):argsOk "set_iterator.__iter__" ⟨[a],[]⟩:=by unfold argsOk;kernel_rfl
section
variable {pg:Program}{wd:World}{B:Around}{X0:VS}{z0:Shared}{M:LI}{es:Array (Int×Value)}{t:SetTable}{a:Addr}{ep:Nat}
def Ed{n:Nat}{R:Nat->Shared->Prop}(hn:n≠0)(h:∀i d,i<n->R i { z0 with drawn:=d }):wpAny N B (choose src n) R X0 z0 :=
 λ _ _ _=>⟨hn,h _ _ (Nat.mod_lt _ (Nat.pos_of_ne_zero hn))⟩
def uI{α:Type}{l:List α}{i:Nat}(h:i<l.length):List.Perm (l[i]::l.eraseIdx i) l:=by
 have e:l=l.take i++l[i]::l.drop (i+1):=by rw[<- iG h,mQ]
 rw[gK];exact List.perm_middle.symm.trans (by rw[<- e])
theorem uJ{α:Type}:∀(n:Nat) (xs:List α) (z:Shared) (R:List α->Shared->Prop),xs.length=n->(∀ys d,ys.Perm xs->R ys { z with drawn:=d })->wpAny N B (drawOrder n xs) R X0 z
 |0,xs,z,R,hl,h=>by
  have e:xs=[]:=kQ hl;subst e;exact ag (h [] z.drawn (.refl _))
 |n+1,[],z,R,hl,h=>by cases hl
 |n+1,x::r,z,R,hl,h=>by
  unfold drawOrder;refine af (Ed (by rw[List.length_cons];lia) λ i d hi=>?_);have ge:=aF hi;rw[ge];dsimp only;refine af (uJ n _ _ _ (by rw[s0f,if_pos hi];simp at hl ⊢;lia) λ ys d' pm=>ag ?_);exact h _ d' ((pm.cons _).trans (uI hi))
theorem uK{α:Type}(next:Nat->Nat):∀(n k:Nat) (l:List α) (out:Array α),l.length=n->List.Perm (pickOrder.go next n k l out).toList (out.toList++l)
 |0,k,l,out,hl=>by
  have e:l=[]:=kQ hl;subst e;unfold pickOrder.go;rw[gE]
 |n+1,k,l,out,hl=>by
  have hi:next k%l.length<l.length:=Nat.mod_lt _ fu;unfold pickOrder.go;rw[aF hi];dsimp only;refine(uK next n _ _ _ (by rw[s0f,if_pos hi];lia)).trans ?_;rw[Array.toList_push,eO];exact(uI hi).append_left _
def Ee{α:Type}(next:Nat->Nat)(xs:Array α):List.Perm (pickOrder next xs).toList xs.toList:=uK next xs.size 0 xs.toList #[] (Array.length_toList)
def qq{R:Bool->Shared->Prop}(h:R (byT wd) z0):wpAny (model pg wd) B setsByText R X0 z0:=by
 unfold setsByText;exact af (qp (ag h))
inductive Md (wd:World)(es:Array (Int×Value))(ep:Nat)(t:SetTable)(a T:Addr)(xs:LV)(i:Nat)(h:Heap):Value->Prop where
 |text (e:byT wd=true) (x:xs=(pickOrder (wd.params.setOrder a ep) es).toList.map (·.2)):Md wd es ep t a T xs i h (.int (0:Nat) 0)
 |plain (j:Nat) (e:byT wd=false) (d:(!t.plain&&decide (es.size > 1))=false) (l:t.led=true) (r:Ris t.place) (f:t.place.size=es.size) (x:xs=es.toList.map (·.2)) (q:(i=0/\j=0)\/∃k p,i=k+1/\t.place[k]?=some p/\j=p+1):Md wd es ep t a T xs i h (.int j 0)
 |drawn (ps:List Nat) (e:byT wd=false) (p:ps.Perm (List.range es.size)) (g:h.get? T=some { cls:=.type "tuple",data:=.seq (ps.map λ k:Nat=>rawInt k).toArray 0 }) (x:xs=ps.map λ k=>((es[k]?).map (·.2)).getD .none):Md wd es ep t a T xs i h (.ref T)
def Ef{α β:Type}(es:Array α)(f:α->β)(d:β):(List.range es.size).map (λ k=>((es[k]?).map f).getD d)=es.toList.map f:=by
 apply jF pv;intro i h1 h2;simp at h1;simp[h1]
theorem qr(p:Array Nat)(j:Nat):∀fuel lo hi,lo<=hi->SetTable.below.go p j fuel lo hi<=hi
 |0,lo,hi,h=>h
 |fuel+1,lo,hi,h=>by
  unfold SetTable.below.go;split
  ·dsimp only;split
   ·exact qr p j fuel _ _ fu
   ·exact bB (qr p j fuel _ _ fu) fu
  ·exact h
def Eg(hr:Ris p){i j:Nat}(hi:i<=p.size)(q:(i=0/\j=0)\/∃k x,i=k+1/\p[k]?=some x/\j=x+1):SetTable.below p j=i:=by
 obtain⟨b1,b2⟩:=uA hr j;have bl:SetTable.below p j<=p.size:=qr p j _ _ _ (bC _)
 have nl:¬SetTable.below p j<i:=λ c=>by
  rcases q with ⟨rfl,_⟩|⟨k,x,rfl,ex,rfl⟩
  ·lia
  ·have:=b2 k x fu ex;lia
 have ng:¬i<SetTable.below p j:=λ c=>by
  have hl:i<p.size:=fu;have eg:=dO hl;have l1:=b1 i _ c eg
  rcases q with ⟨rfl,rfl⟩|⟨k,x,rfl,ex,rfl⟩
  ·lia
  ·have:=hr k (k+1) x _ fu ex eg;lia
 lia
noncomputable abbrev siO(first:Value)(i:Nat)(a:Addr)(n ep:Nat):Obj:={ cls:=.type "set_iterator",data:=.fields #[first,.int i 0,.ref a,.int n 0,.int ep 0] }
theorem Eh{i j:Nat}{R:Option (Value×Nat)->Shared->Prop}(hs:z0.heap.get? a=some (cR es ep t))(ft:t.fits es.size=true)(hi:i<=es.size)
  (m:Md wd es ep t a T xs i h (.int j 0)) (fin:∀o:Option (Value×Nat),(∀(v:Value) (k:Nat),o=some (v,k)->xs[i]?=some v/\Md wd es ep t a T xs (i+1) h (.int k 0))->(o=none->xs[i]?=none)->R o z0):wpAny (model pg wd) B (setNext a j i ep) R X0 z0:=by
 unfold setNext;refine af (kP hs rfl ft ?_);dsimp only;refine af (qq ?_);generalize hv:Value.int (j:Int) 0=v at m
 cases m with
 |text e x=>
  have j0:j=0:=by injection hv with q _;lia
  subst j0;rw[if_pos e];simp only[bne_self_eq_false,mI,s1e];refine af ?_;unfold setWalk;refine af (kP hs rfl ft ?_);dsimp only;refine af (qq ?_);rw[if_pos e];refine af (qp (ag (ag ?_)));have eg:xs[i]?=((pickOrder (wd.params.setOrder a ep) es)[i]?).map (·.2):=by rw[x,aX,db]
  refine fin _ (λ v k q=>?_) λ q=>?_
  ·rw[mG] at q;obtain⟨u,hu,q⟩:=q;cases q;have hu:(pickOrder (wd.params.setOrder a ep) es)[i]?=some u:=hu;exact⟨by rw[eg,hu];rfl,.text e x⟩
  ·rw[Option.map_eq_none_iff] at q;have q:(pickOrder (wd.params.setOrder a ep) es)[i]?=none:=q;rw[eg,q];rfl
 |plain j' e d l r f x q=>
  have jj:j'=j:=by injection hv with q _;lia
  subst jj;rw[if_neg (by rw[e];exact br)];have bi:=Eg r (i:=i) (j:=j') fu q;split
  ·rename_i c;exact absurd ((show(!t.plain&&decide (es.size > 1))=true from c).symm.trans d) on
  refine af ?_;show wpAny _ _ (if (!t.led && !es.isEmpty)=true then unsupported "set:maker-not-led" else pure ()) _ _ _;rw[l,if_neg (by exact br)];refine ag (ag ?_);show R (match es[SetTable.below t.place j']?,t.place[SetTable.below t.place j']? with|some (_,x),some k=>some (x,k+1)|_,_=>none) z0;rw[bi]
  rcases fO i es.size with c|c
  ·rw[dO c,dO (by lia:i<t.place.size)];refine fin _ (λ v k z=>?_) λ z=>by cases z
   cases z;exact⟨by rw[x,aX,db,dO c];rfl,.plain _ e d l r f x (.inr ⟨i,_,O,dO _,O⟩)⟩
  ·rw[mL c];exact fin _ (λ v k z=>by cases z) λ _=>by rw[x,aX,db,mL c];rfl
 |drawn ps e p g x=>cases hv
end
section
variable {pg:Program}{wd:World}{B:Around}{X0:VS}{z0:Shared}{es:Array (Int×Value)}{t:SetTable}{a I T:Addr}{ep i:Nat}{xs:LV}
noncomputable def SIt(wd:World)(es:Array (Int×Value))(ep:Nat)(t:SetTable)(a I T:Addr)(xs:LV)(i:Nat)(h:Heap):Prop:=∃v,h.get? I=some (siO v i a es.size ep)/\h.get? a=some (cR es ep t)/\Md wd es ep t a T xs i h v
def Md.frame{h h':Heap}(k:∀o,h.get? T=some o->h'.get? T=some o)(m:Md wd es ep t a T xs i h v):Md wd es ep t a T xs i h' v:=by
 cases m with
 |text e x=>exact .text e x
 |plain j e d l r f x q=>exact .plain j e d l r f x q
 |drawn ps e p g x=>exact .drawn ps e p (k _ g) x
theorem uL{R:Option Value->Shared->Prop}{z:Shared}(hh:B.handled=none)(fin:∀h',(∀c o,z.heap.get? c=some o->h'.get? c=some o)->R none { z with heap:=h' }) :
  wpAny (model pg wd) B.in1 (newExc (.type "StopIteration") [] >>= λ e=>raiseNew e) Q (λ e z'=>wpAny (model pg wd) B (isInstance e (.type "StopIteration") >>= λ c=>if c=true then pure (none:Option Value) else throw e) R X0 z') z:=by
 refine af ?_;simp only[newExc,newTuple];refine af (bF ?_ (by size_fits));refine af (m:=firstArgMember _ _) (cK (a:=Value.none) (by first|rfl|(simp only[firstArgMember];rfl)) ?_);refine bF ?_ (by size_fits);simp only[raiseNew];refine af (s1i ?_);rw[show B.in1.handled=none from hh];refine af (ag (s1t ?_));refine af (gH (T := "StopIteration") (b:=true) ⟨_,aM _ rfl,O⟩ mi ?_);exact ag (fin _ λ c o e=>aA _ (aA _ e))
theorem uM{R:Option Value->Shared->Prop}(hh:B.handled=none)(ai:a≠I)(ti:T≠I)(ft:t.fits es.size=true)(hi:i<=es.size)(st:SIt wd es ep t a I T xs i z0.heap)
  (f1:∀v h',xs[i]?=some v->SIt wd es ep t a I T xs (i+1) h'->(∀c o,c≠I->z0.heap.get? c=some o->h'.get? c=some o)->R (some v) { z0 with heap:=h' })
  (f2:∀h',xs[i]?=none->(∀c o,c≠I->z0.heap.get? c=some o->h'.get? c=some o)->R none { z0 with heap:=h' }) :
  wpAny (model pg wd) B (pyNext (.ref I)) R X0 z0:=by
 obtain⟨v,ho,hs,m⟩:=st;have hT:z0.TypeIs (.ref I) "set_iterator" := ⟨_,ho,rfl⟩;unfold pyNext;refine af (iA (fY (name:=Str.ofString "__next__") hT si_next (cZ si_next hT DY ?_ (Eb _))));unfold Builtin.«set_iterator.__next__»;refine af (cK (a:=(Value.ref I,[])) rfl ?_);dsimp only;refine af (wpAny_fieldsOf ho rfl ?_);dsimp only;refine af (s0u hs rfl ft ?_);rw[if_neg pv]
 have kd:(∃j:Nat,v=.int j 0)\/v=.ref T:=by
  cases m with
  |text e x=>exact .inl ⟨0,rfl⟩
  |plain j=>exact .inl ⟨j,rfl⟩
  |drawn=>exact .inr rfl
 rcases kd with ⟨j,rfl⟩|rfl
 ·dsimp only;refine af (Eh hs ft hi m λ o g1 g2=>?_)
  cases o with
  |some p=>
   obtain⟨u,k⟩:=p;obtain⟨x1,m1⟩:=g1 u k rfl;dsimp only;refine af (fN ho pv λ h1 o1 s1=>?_);refine af (fN o1 pv λ h2 o2 s2=>?_);refine ag ⟨_,O,ag (f1 u h2 x1 ⟨.int k 0,?_,?_,m1.frame λ o e=>?_⟩ λ c o ci e=>?_)⟩
   ·rw[o2];simp[rawInt,siO]
   ·exact s2.extBut _ _ ai (s1.extBut _ _ ai hs)
   ·exact s2.extBut _ _ ti (s1.extBut _ _ ti e)
   ·exact s2.extBut _ _ ci (s1.extBut _ _ ci e)
  |none=>
   dsimp only;refine af (fN ho pv λ h1 o1 s1=>?_);exact uL hh λ h2 k2=>f2 h2 (g2 rfl) λ c o ci e=>k2 c o (s1.extBut _ _ ci e)
 ·dsimp only
  cases m with
  |drawn ps e p g x=>
  refine af (fJ g rfl ?_);dsimp only;rw[jA,aX]
  cases ep0:ps[((i:Nat):Int).toNat]? with
  |some k=>
   rw[Int.toNat_natCast] at ep0;have kl:k<es.size:=cW.mp (p.mem_iff.mp (bg ep0));have hx:xs[i]?=some (es[k].2):=by rw[x,aX,ep0];simp[kl]
   show wpAny _ _ (setNextDrawn a ((k:Nat):Int).toNat ((ep:Nat):Int).toNat >>= _) _ _ _;refine af ?_;unfold setNextDrawn;refine af (kP hs rfl ft ?_);dsimp only;rw[if_neg pv];rw[Int.toNat_natCast,dO kl];refine ag ?_;refine af (fN ho pv λ h1 o1 s1=>?_);refine ag ⟨_,O,ag (f1 _ h1 hx ⟨.ref T,?_,?_,.drawn ps e p (s1.extBut _ _ ti g) x⟩ λ c o ci e=>s1.extBut _ _ ci e)⟩
   ·rw[o1];simp[rawInt,siO]
   ·exact s1.extBut _ _ ai hs
  |none=>
   rw[Int.toNat_natCast] at ep0;have hx:xs[i]?=none:=by rw[x,aX,ep0];rfl
   dsimp only[Option.map];refine af (fN ho pv λ h1 o1 s1=>?_);refine af (fN o1 pv λ h2 o2 s2=>?_);exact uL hh λ h3 k3=>f2 h3 hx λ c o ci e=>k3 c o (s2.extBut _ _ ci (s1.extBut _ _ ci e))
theorem Ei(hh:B.handled=none)(ai:a≠I)(ti:T≠I)(ft:t.fits es.size=true)(xl:xs.length=es.size):Walks pg wd B I [I,a,T] [I] es.size (λ i v=>xs[i]?=some v) (SIt wd es ep t a I T xs) where
 sub:=λ b hb=>by simp at hb;simp[hb]
 frame:=λ i h h' ⟨v,g1,g2,m⟩ k=>⟨v,k I pv _ g1,k a pv _ g2,m.frame λ o e=>k T pv _ e⟩
 item:=λ i s Q E hi st hQ=>uM hh ai ti ft (cj hi) st (λ v h' e st' k=>hQ v h' s.toks e st' λ c o n e=>k c o (by simpa using n) e) λ h' e _=>by
  rw[aF fu] at e;cases e
 done:=λ s Q E st hQ=>uM hh ai ti ft (ar _) st (λ v h' e _ _=>by rw[gc fu] at e;cases e) λ h' _ k=>hQ h' s.toks λ c o n e=>k c o (by simpa using n) e
 self:=λ i s Q E ⟨v,g,_⟩ hQ=>by
  have hT:s.TypeIs (.ref I) "set_iterator" := ⟨_,g,rfl⟩;refine pA hT uH (cZ uH hT DZ ?_ (Ec _));show wpAny _ _ (ret (.ref I)) _ _ s;exact ag ⟨_,O,"set_iterator",_,hT,si_next.lookup,hQ⟩
end
section
variable {pg:Program}{wd:World}{B:Around}{X0:VS}{z0:Shared}{es:Array (Int×Value)}{t:SetTable}{a I T:Addr}{ep i:Nat}{xs:LV}{M:LI}
def Ej(h:t.fits n=true):t.place.size=n:=by
 unfold SetTable.fits at h;rw[bu] at h;exact beq_iff_eq.mp h.1
theorem Ek{R:VS}(hs:z0.heap.get? a=some (cR es ep t))(S:SetT pg wd (!byT wd) M es t)(zl:es.size<=sizeLine)
  (fin:∀h' d I T xs,(∀c o,z0.heap.get? c=some o->h'.get? c=some o)->z0.heap.objs.size<=I->(T=a\/z0.heap.objs.size<=T)->a≠I->T≠I->xs.Perm (es.toList.map (·.2))->SIt wd es ep t a I T xs 0 h'->R (.ref I) { z0 with heap:=h',drawn:=d }) :
  wpAny (model pg wd) B (pyIter (.ref a)) R X0 z0:=by
 have hT:z0.TypeIs (.ref a) "set" := ⟨_,hs,rfl⟩;have lt:a<z0.heap.objs.size:=aC hs;refine pA hT F.slot_set_iter (cZ F.slot_set_iter hT Ea ?_ (F.args_set_iter_1 _));unfold Builtin.«frozenset.__iter__»;refine af (cK (a:=a) rfl ?_);refine af ?_;unfold Builtin.Frozenset.sizeOf;refine af (s0u hs rfl S.ft (ag ?_));refine af ?_;unfold setDrawn;refine af (kP hs rfl S.ft ?_);dsimp only;refine af (qq (ag ?_));split
 ·rename_i c;have c:(!byT wd&&(!t.plain&&decide (es.size > 1)))=true:=c;have e:byT wd=false:=by cases q:byT wd<;>simp_all
  refine af (uJ _ _ _ _ (bA) λ ps d pm=>?_);refine af (mK (items:=ps.map λ i:Nat=>rawInt i) ?_ (by rw[ah,pm.length_eq,bA];exact zl));have hs1:=aA { cls:=.type "tuple",data:=.seq (ps.map λ i:Nat=>rawInt i).toArray } hs;refine af (wpAny_setEpoch_of hs1 rfl S.ft ?_);simp only[newFields];refine af (bF (ag ⟨_,O,"set_iterator",_,⟨_,aM _ rfl,O⟩,si_next.lookup,?_⟩));refine fin _ d _ z0.heap.objs.size (ps.map λ k=>((es[k]?).map (·.2)).getD .none) (λ c o e=>aA _ (aA _ e)) (by rw[df];exact Nat.le_succ _) (.inr (ar _)) ?_ ?_ ?_ ⟨_,aM _ rfl,aA _ hs1,.drawn ps e pm (aA _ (aM _ rfl)) rfl⟩
  ·rw[df];exact aK (cJ lt)
  ·rw[df];exact aK (fG _)
  ·rw[<- Ef es (·.2) Value.none];exact pm.map _
 ·rename_i c;have c:(!byT wd&&(!t.plain&&decide (es.size > 1)))=false:=Bool.eq_false_iff.mpr c;refine af (ag ?_);refine af (wpAny_setEpoch_of hs rfl S.ft ?_);simp only[newFields];refine af (bF (ag ⟨_,O,"set_iterator",_,⟨_,aM _ rfl,O⟩,si_next.lookup,?_⟩));have aI:a≠z0.heap.objs.size:=aK lt
  have go:∀xs,xs.Perm (es.toList.map (·.2))->Md wd es ep t a a xs 0 (z0.heap.push (siO (.int (0:Nat) 0) 0 a es.size ep)) (.int (0:Nat) 0)->R (.ref z0.heap.objs.size) { z0 with heap:=z0.heap.push (siO (.int (0:Nat) 0) 0 a es.size ep) }:=λ xs px m=>
   fin _ z0.drawn _ a xs (λ c o e=>aA _ e) (ar _) (.inl rfl) aI aI px ⟨_,aM _ rfl,aA _ hs,m⟩
  cases e:byT wd with
  |true=>exact go _ ((Ee _ _).map _) (.text e rfl)
  |false=>
   rw[e] at c;have S2:=S.tb;exact go _ (.refl _) (.plain 0 e (by simpa using c) (by rw[S2.1,e];rfl) S2.2 (Ej S.ft) rfl (.inl ⟨O,O⟩))
end
section
variable {pg:Program}{wd:World}{B:Around}{X0:VS}{z0:Shared}{es:Array (Int×Value)}{t:SetTable}{a I T:Addr}{ep i:Nat}{xs:LV}{M:LI}
def El{R:Bool->Shared->Prop}(hT:z0.TypeIs (.ref a) "set")(h:R false z0):wpAny (model pg wd) B (Builtin.List.listLengthHint (.ref a)) R X0 z0:=by
 unfold Builtin.List.listLengthHint;refine af (ga hT PySem.F.slot_set_len.lookup ?_);generalize hid:("set.__len__" : String)=id0
 wp_delta
 rw[show splitId id0=some ("set","__len__") from by subst hid;decide +kernel];subst hid;refine af (gH (T := "set") (b:=true) hT (by rw[fH];kernel_rfl) ?_);refine qt (λ c=>absurd c on) λ _=>?_;exact qt (λ _=>af (eo hT (ag h))) λ c=>absurd (by decide +kernel) c
theorem Em{R:LV->Shared->Prop}(hh:B.handled=none)(hs:z0.heap.get? a=some (cR es ep t))(S:SetT pg wd (!byT wd) M es t)(zl:es.size<=sizeLine)
  (fin:∀(h':Heap) (d:Drawn) (tk:Nat) (ac:LV),(∀c o,z0.heap.get? c=some o->h'.get? c=some o)->ac.Perm (es.toList.map (·.2))->R ac { z0 with heap:=h',drawn:=d,toks:=tk }) :
  wpAny (model pg wd) B (collect (.ref a)) R X0 z0:=by
 have lt:a<z0.heap.objs.size:=aC hs;unfold collect;refine af (kF (bV entry_proto_collect' ?_));rw[cq PySem.F.plain_proto_collect _];show wpAny _ B.in1 (newList [] >>= λ l=>again (.builtin "list.__iadd__" ⟨[l,.ref a],[]⟩)) _ _ z0;refine af (bF ?_);refine ag ⟨bW uN _,bV entry_list_iadd' ?_⟩;rw[cq uN _];have gS:(z0.heap.push { cls:=.type "list",data:=.seq ([]:LV).toArray }).get? z0.heap.objs.size=some { cls:=.type "list",data:=.seq #[] }:=aM _ rfl;have hs1:=aA { cls:=.type "list",data:=.seq ([]:LV).toArray } hs;show wpAny _ B.in1 (Builtin.List.listExtendWith (.ref z0.heap.objs.size) (.ref a) (.ref z0.heap.objs.size)) _ _ _;unfold Builtin.List.listExtendWith;refine af (eo (T := "set") ⟨_,hs1,O⟩ ?_);rw[if_neg (by simp[Builtin.List.listSameRef,fq lt])];refine af (Ek hs1 S zl λ h1 d I T xs k1 bI bT aI tI px st=>?_);have hs2:=k1 _ _ hs1;refine af (bU (El ⟨_,hs2,O⟩ ?_));rw[df] at bI bT;have nI:z0.heap.objs.size≠I:=aK bI;have nT:z0.heap.objs.size≠T:=bT.elim (λ r=>r ▸ fq lt) λ r=>aK r;have xl:xs.length=es.size:=px.length_eq.trans pv;have na:z0.heap.objs.size≠a:=fq lt;have W:=Ei (pg:=pg) (wd:=wd) (B:=B.in1) (ep:=ep) (t:=t) hh aI tI S.ft (px.length_eq.trans (by rw[ah,Array.length_toList]))
 have go:∀(h2:Heap) (c2:Nat),(∀c o,c≠z0.heap.objs.size->h1.get? c=some o->h2.get? c=some o)->h2.get? z0.heap.objs.size=some { cls:=.type "list",data:=.seq #[] c2 } ->
   codeAny (model pg wd) B (.builtin "list.extend.loop" ⟨[.ref z0.heap.objs.size,.ref I,.ref z0.heap.objs.size],[]⟩) (λ q z'=>∃(h':Heap) (tk:Nat) (ac:Array Value) (c':Nat),q=.ok (.ret (.ref z0.heap.objs.size))/\z'={ z0 with heap:=h',drawn:=d,toks:=tk } /\
    (∀c o,z0.heap.get? c=some o->h'.get? c=some o)/\h'.get? z0.heap.objs.size=some { cls:=.type "list",dict:=none,data:=.seq ac c',slots:=#[] }/\ItemsOf (λ i v=>xs[i]?=some v) ac es.size) { z0 with heap:=h2,drawn:=d }:=by
  intro h2 c2 k2 g2;have st2:SIt wd es ep t a I T xs 0 h2:=W.frame 0 h1 h2 st λ c hc o e=>k2 c o (λ z=>by subst z;simp at hc;rcases hc with r|r|r;exact nI r;exact na r;exact nT r) e;refine mj W.toS zl z0.heap.objs.size (by simp;exact⟨nI,na,nT⟩) _ es.size 0 _ #[] c2 rfl (bC _) st2 g2 (s0t _) λ s' ac c' hm gs' it=>?_;rw[Moved.eq_with hm];refine⟨s'.heap,s'.toks,ac,c',O,O,λ c o e=>hm.heap c o (λ hmem=>?_) (k2 c o (aK (aC e)) (k1 c o (aA _ e))),gs',it⟩;have lc:=aC e;simp at hmem
  rcases hmem with r|r
  ·exact absurd (r ▸ lc) (cg _)
  ·exact absurd (iB (r ▸ lc) bI) (cg _)
 have last:∀(ac:Array Value),ItemsOf (λ i v=>xs[i]?=some v) ac es.size->ac.toList.Perm (es.toList.map (·.2)):=λ ac it=>by
  have e:ac.toList=xs:=kN λ i=>by
   rcases fO i ac.size with c|c
   ·rw[db,dO c];exact(it.2 i _ (dO c)).symm
   ·rw[db,mL c,gc];have:=it.1;lia
  rw[e];exact px
 have close:∀q z',(∃(h':Heap) (tk:Nat) (ac:Array Value) (c':Nat),q=.ok (.ret (.ref z0.heap.objs.size))/\z'={ z0 with heap:=h',drawn:=d,toks:=tk } /\
    (∀c o,z0.heap.get? c=some o->h'.get? c=some o)/\h'.get? z0.heap.objs.size=some { cls:=.type "list",dict:=none,data:=.seq ac c',slots:=#[] }/\ItemsOf (λ i v=>xs[i]?=some v) ac es.size)->wants (λ v z=>wpAny (model pg wd) B (match v with
     |.ref a=>load a >>= λ o=>(match o.data with|.seq xs _=>pure xs.toList|_=>unsupported "internal:collect")
     |_=>unsupported "internal:collect") R X0 z) X0 q z':=by
  rintro q z' ⟨h',tk,ac,c',rfl,rfl,k,g,it⟩;show wpAny _ B (load z0.heap.objs.size >>= _) _ _ _;exact af (jd g (ag (fin h' d tk ac.toList k (last ac it))))
 refine qt (λ _=>?_) λ _=>ag ⟨bW uO _,iq (go h1 0 (λ c o _ e=>e) (k1 _ _ gS)) close⟩;refine af (fI (af ?_));show wpAny _ _ (updateSeq z0.heap.objs.size (·.push .none) >>= λ _=>updateSeq z0.heap.objs.size (·.pop)) _ _ _;refine af (gI (k1 _ _ gS) rfl ?_);have g2:=eE (Obj.mapSeq (·.push Value.none)) (k1 _ _ gS) rfl;refine gI (hz:=by seq_fits) g2 rfl ?_;have g3:=eE (Obj.mapSeq (·.pop)) g2 rfl;exact ag ⟨bW uO _,iq (go _ _ (λ c o ne e=>(dB _ _ (bx ne)).trans ((dB _ _ (bx ne)).trans e)) g3) close⟩
end
theorem uP:∀(l:LV),(∀v∈l,∃n t,v=Value.int n t)->IntsAre l (l.map λ v=>kI (0,v))
 |[],_=>.nil
 |v::r,h=>by
  obtain⟨n,t,rfl⟩:=h v dz;exact .cons n t (uP r λ u hu=>h u (cX _ hu))
section
variable {pg:Program}{wd:World}{B:Around}{X0:VS}{z0:Shared}{a:Addr}{M:LI}
theorem Eo{R:VS}(hh:B.handled=none)(hS:fP pg wd (!byT wd) M a z0.heap)(m64:∀ms:LI,ms.Nodup->(∀k,k∈ms ↔ k∈M)->ms.length<64)
  (fin:∀(h1 h2:Heap) (vs':LV) (ns':LI) (e tk:Nat) (d:Drawn),(∀b u,z0.heap.get? b=some u->h1.get? b=some u)->(∀b u,h1.get? b=some u->h2.get? b=some u)->h2.get? h1.objs.size=some (seqObj "list" vs'.toArray e)->IntsAre vs' ns'->ns'.Pairwise (· < ·)->(∀k,k∈ns' ↔ k∈M)->ns'.length<64->R (.ref h1.objs.size) { z0 with heap:=h2,drawn:=d,toks:=tk }) :
  wpAny (model pg wd) B (call (.builtin "sorted") [.ref a]) R X0 z0:=by
 obtain⟨es,ep,t,ho,T⟩:=hS;have e64:es.size<64:=by have:=m64 _ T.nd T.mm;simpa using this
 have zl:es.size<=sizeLine:=cj (aR fu);refine ug kind_sorted plain_sorted entry_sorted (args_sorted1 _) ?_;unfold Builtin.«sorted»;refine af (m:=checkCount "sorted" 1 1 _) (ag ?_);refine af (Em (B:=B.in1) hh ho T zl λ h1 d tk ac k1 pm=>?_);have al:ac.length=es.size:=pm.length_eq.trans pv
 have hI:IntsAre ac (ac.map λ v=>kI (0,v)):=uP ac λ v hv=>by
  obtain⟨e,he,rfl⟩:=aT.mp (pm.mem_iff.mp hv);obtain⟨⟨k,hk,_⟩,_⟩:=T.el e he;obtain⟨u,q⟩:=oz (k:=k) hk;exact⟨k,u,q⟩
 have pk:(ac.map λ v=>kI (0,v)).Perm (es.toList.map kI):=(pm.map λ v=>kI (0,v)).trans (by rw[aV];exact .refl _);refine af (wpAny_newList ?_ (by rw[al];exact zl));have g1:(h1.push (seqObj "list" ac.toArray 0)).get? h1.objs.size=some (seqObj "list" ac.toArray 0):=aM _ rfl;refine af (bU (cZ slot_list_sort ⟨_,g1,O⟩ entry_list_sort (list_sort_tree g1 hI fu λ out ns' a1 a2 a3=>⟨_,O,?_⟩) (args_list_sort _)));refine ag ⟨_,O,?_⟩;obtain⟨e,he⟩:=sortedHeap_at (vs:=ac) (out:=out) g1;have nd:ns'.Nodup:=(a2.trans pk).nodup_iff.mpr T.nd;refine fin h1 _ out.toList ns' e tk d k1 (λ b u q=>?_) (by rw[mD];exact he) a1 ?_ (λ k=>((a2.trans pk).mem_iff).trans (T.mm k)) (by have l1:=a2.length_eq;rw[ah] at l1;lia)
 ·have lt:=aC q;rw[sortedHeap_old (aK lt) (by rw[size_push'];exact cJ lt)];exact aA _ q
 ·have both:=List.Pairwise.and a3 nd;exact both.imp λ h=>by lia
end
def Ep(hc:X.calm=true):bo X (.type "set") (λ xs H Q=>∃p ns,xs=[.ref p]/\SqL X.K H p (List.map V.int ns)/\ns.length<=1000/\∀l,H l=none->Q (.ref l) (upd H l (.ext (fP X.prog X.w (!byT X.w) ns l)))):=by
 intro pins s σ H xs us Q I r h;obtain⟨p,ns,rfl,hq,hn,q⟩:=h;obtain⟨u,rfl,rx⟩:=bL r;cases rx;obtain⟨its,r',pl,hz⟩:=I.list hq;have hi:=jp r';refine DX (ns:=ns) (I.ok.hd hc) pl.isList hi (ph (jr hn) on) λ h' tk so ol=>?_;refine⟨.ref s.heap.objs.size,_,I.laid (a:=s.heap.objs.size) (o:=.ext (fP X.prog X.w (!byT X.w) ns s.heap.objs.size)) (h':=h') (t':=tk) ol (ar _) ⟨so,?_,?_⟩,O,q _ (I.hok.fresh (ar _))⟩
 ·obtain⟨es,ep,t,g,_⟩:=so;exact⟨_,g⟩
 ·rintro h1 h2 ⟨es,ep,t,g,T⟩ k;exact⟨es,ep,t,k _ g,T⟩
def Er(hc:X.calm=true):bo X (.builtin "sorted") (λ xs H Q=>∃p ns,xs=[.ref p]/\H p=some (.ext (fP X.prog X.w (!byT X.w) ns p))/\(∀ms:LI,ms.Nodup->(∀k,k∈ms ↔ k∈ns)->ms.length<64)/\∀ns':LI,ns'.Pairwise (· < ·)->(∀k,k∈ns' ↔ k∈ns)->∀l,H l=none->Q (.ref l) (upd H l (.lst (ns'.map V.int)))):=by
 intro pins s σ H xs us Q I r h;obtain⟨p,ns,rfl,hp,h64,q⟩:=h;obtain⟨u,rfl,rx⟩:=bL r;cases rx;have so:=(show ObjOk X.prog X.w H s.heap p (.ext (fP X.prog X.w (!byT X.w) ns p)) from I.hok p _ hp).1;refine Eo (I.ok.hd hc) so h64 λ h1 h2 vs' ns' e tk d k1 k2 g a1 a2 a3 a4=>?_;have I0:Inv X pins σ H { s with drawn:=d }:=⟨I.ok,I.os,I.bare,I.base,I.loc,I.cell,I.free,I.freeC,I.pin,I.hok,I.len⟩;have I1:Inv X pins σ H { s with heap:=h1,drawn:=d,toks:=tk }:=I0.kept (t':=tk) k1;have hz:(ns'.map V.int).length<=sizeLine:=by rw[ah];exact cj (aR fu)
 have I2:Inv X pins σ (upd H h1.objs.size (.lst (ns'.map V.int))) { s with heap:=h2,drawn:=d,toks:=tk }:=I1.laid (t':=tk) k2 (ar _) (show ObjOk X.prog X.w _ _ _ (.lst (ns'.map V.int)) from ⟨hz,vs',e,ma a1,g⟩);exact⟨.ref h1.objs.size,_,I2,O,q ns' a2 a3 _ (I1.hok.fresh (ar _))⟩
section
variable {pg:Program}{wd:World}{B:Around}{X0:VS}{z0:Shared}{a:Addr}
def Es:typeLookup (.type "list") "keys"=pure none:=by rw[dM,dN];kernel_rfl
theorem Et{sl:AV}{R:Option Value->Shared->Prop}(hx:z0.heap.get? a=some { cls:=.type "list",dict:=none,data:=.seq xs k,slots:=sl })(hA:B.handled=none)
  (fin:∀h' tk,(∀c o,z0.heap.get? c=some o->h'.get? c=some o)->R none { z0 with heap:=h',toks:=tk }):wpAny (model pg wd) B (getAttr? (.ref a) "keys") R X0 z0:=by
 obtain⟨hp,g,d,tk,os⟩:=z0;have hT:∀tk',(⟨hp,g,d,tk',os⟩:Shared).TypeIs (.ref a) "list" := λ _=>⟨_,hx,rfl⟩;have f1:=sub_AttributeError;have f3:=F.slot_list_getattribute.lookup;have f4:=F.slot_list_getattribute.bind (.ref a);have f5:=am_list_getattr_none;unfold getAttr? getAttrBy? getAttrBy
 repeat (any_goals (first|assumption|exact hT _|((with_reducible show wpAny _ _ (call (Value.builtin "list.__getattribute__") _ _) _ _ _);refine gG F.slot_list_getattribute (hT _) am_entry_list_getattribute (F.args_list_getattribute_2 _ _) (meets_getattribute_miss_list a xs k sl "keys" _ Es on on) ⟨hx,hA,λ h' tk' e hx'=>?_⟩)|wp_step))
 obtain⟨t',u',he⟩:=hx'.there;show wpAny _ _ (getattributeRaised _ _ _ _ _ _ _) _ _ _;unfold getattributeRaised
 repeat (any_goals (first|assumption|wp_step))
 exact fin _ _ hx'.keeps
end
def uQ:entryFor table "dict.update.loop"=some Builtin.«dict.update.loop»:=mh (by kernel_rfl)
def mR:plainId "dict.update.loop"=true:=by decide +kernel
section
variable {pg:Program}{wd:World}{B:Around}{X0:VS}{z0:Shared}{a:Addr}
noncomputable def Eu(h:Heap)(p:Int×Int)(v:Value):Prop:=∃c t1 t2,v=.ref c/\IsTup h c #[.int p.1 t1,.int p.2 t2]
noncomputable def Kvs:List (Int×Int)->List (Key×Value)->Prop:=Paired λ(p:Int×Int) (q:Key×Value)=>q.1=Sum.inl p.1/\∃t,q.2=Value.int p.2 t
noncomputable def qu(pg:Program)(wd:World)(ps:List (Int×Int))(d:Addr)(h:Heap):Prop:=∃kvs,Kvs ps kvs/\h.DictOf (cx pg wd) d kvs
theorem Kvs.keys:∀ {ps:List (Int×Int)}{kvs:List (Key×Value)},Kvs ps kvs->kvs.map (·.1)=ps.map λ p=>(Sum.inl p.1:Key)
 |[],_,.nil=>rfl
 |_::_,_,.cons h r=>by rw[cz,cz,Kvs.keys r,h.1]
theorem Kvs.push{p:Int×Int}{q:Key×Value}(h:q.1=Sum.inl p.1/\∃t,q.2=Value.int p.2 t):∀ {ps:List (Int×Int)}{kvs:List (Key×Value)},Kvs ps kvs->Kvs (ps++[p]) (kvs++[q])
 |[],_,.nil=>.cons h .nil
 |_::_,_,.cons g r=>.cons g (Kvs.push h r)
theorem Ev{l I d:Addr}{items:Array Value}{ps:List (Int×Int)}{R:Result->Shared->Prop}(hh:B.handled=none)(lI:l≠I)(dI:d≠I)(dl:d≠l)(sz:items.size=ps.length)(nd:(ps.map (·.1)).Nodup)(zl:ps.length<=sizeLine) :
  ∀(k i:Nat) (z:Shared),ps.length-i=k->i<=ps.length->z.heap.IsListIter I l i->z.heap.IsList l items->(∀(j:Nat) (p:Int×Int),ps[j]?=some p->∃v,items[j]?=some v/\∃c t1 t2,v=.ref c/\c≠d/\c≠I/\IsTup z.heap c #[.int p.1 t1,.int p.2 t2])->qu pg wd (ps.take i) d z.heap ->
   (∀h' tk,(∀c o,c≠d->c≠I->z.heap.get? c=some o->h'.get? c=some o)->qu pg wd ps d h'->R (.ok (.ret .none)) { z with heap:=h',toks:=tk }) ->
   codeAny (model pg wd) B (.builtin "dict.update.loop" ⟨[.ref d,.ref I,rawInt i,.none],[]⟩) R z:=by
 have W:=Walks.list (prog:=pg) (w:=wd) (A:=B.in1) hh I l lI items;intro k
 induction k with
 |zero=>
  intro i z hk hle it il hp hS fin;have e:i=ps.length:=fu;subst e;refine bV uQ ?_;rw[cq mR _];show wpAny _ B.in1 (pyNext (.ref I) >>= _) _ _ z;refine af (W.done z _ _ (by rw[sz];exact⟨it,il⟩) λ h' tk kp=>?_);show wpAny _ _ (Builtin.Dict.addKeywords d [] >>= λ _=>ret Value.none) _ _ _;rw[dh] at hS;obtain⟨kvs,hv,hd⟩:=hS;exact af (ag (ag (fin h' tk (λ c o _ cI q=>kp c o (by simpa using cI) q) ⟨kvs,hv,let ⟨o,es,ep,ho,r⟩:=hd;⟨o,es,ep,kp d _ (by simpa using dI) ho,r⟩⟩)))
 |succ k ih=>
  intro i z hk hle it il hp hS fin;have lt:i<ps.length:=fu;refine bV uQ ?_;rw[cq mR _];show wpAny _ B.in1 (pyNext (.ref I) >>= _) _ _ z;refine af (W.item i z _ _ fu ⟨it,il⟩ λ v h' tk hv st kp=>?_);obtain⟨v',ev,c,t1,t2,rfl,cd,cI,tp⟩:=hp i _ (aF lt);rw[ev] at hv;cases hv;have tp':IsTup h' c #[.int ps[i].1 t1,.int ps[i].2 t2]:=let ⟨o,e,r⟩:=tp;⟨o,kp c o (by simpa using cI) e,r⟩;obtain⟨kvs,hv,hd⟩:=hS;have hd':h'.DictOf (cx pg wd) d kvs:=let ⟨o,es,ep,ho,r⟩:=hd;⟨o,es,ep,kp d _ (by simpa using dI) ho,r⟩;obtain⟨ot,gt,ct,nt,dt⟩:=id tp';have kl:kvs.length=i:=by have:=bK List.length hv.keys;simpa [jD hle] using this
  have fresh:¬(kvs.any λ kv=>decide (kv.1=(Sum.inl ps[i].1:Key)))=true:=λ h=>by
   obtain⟨kv,hkv,e⟩:=List.any_eq_true.mp h;have e:=ay e;have m:(Sum.inl ps[i].1:Key)∈kvs.map (·.1):=aT.mpr ⟨kv,hkv,e⟩;rw[hv.keys] at m;obtain⟨p,hp1,hp2⟩:=aT.mp m;have hp2:p.1=ps[i].1:=by injection hp2
   obtain⟨j,hj,rfl⟩:=uB.mp hp1;have:=(qk.mp nd) j i (by rw[ah];lia) (by rw[ah];lia) fu;rw[qh,qh] at this;exact this hp2
  have st1:stored kvs (Sum.inl ps[i].1:Key) (.int ps[i].2 t2)=kvs++[(Sum.inl ps[i].1,.int ps[i].2 t2)]:=by unfold stored;exact if_neg fresh
  have tt:ps.take (i+1)=ps.take i++[ps[i]]:=by rw[gh,aF lt];rfl
  refine af (bU (af (iD ?_)));unfold Builtin.Dict.pairItems;refine af (eo (T := "tuple") ⟨ot,gt,ct⟩ ?_);rw[if_pos on];refine af (fJ gt dt (ag ?_));refine bU (wpAny_dictSet_pairs (knd:=cx pg wd) (k:=Sum.inl ps[i].1) (key:=.int ps[i].1 t1) (v:=.int ps[i].2 t2) (se _ t1) hd' (λ h2 hd2 sb=>?_) fu);rw[st1] at hd2;refine ag ⟨bW mR _,?_⟩
  have kp2:∀c o,c≠d->c≠I->z.heap.get? c=some o->h2.get? c=some o:=λ c o ca cI q=>by
   rw[sb.2 c ca];exact kp c o (by simpa using cI) q
  have go:=ih (i+1) { z with heap:=h2,toks:=tk+1 } fu lt (st.1.at λ o e=>by rw[sb.2 I (bx dI)];exact e) (st.2.at λ o e=>by rw[sb.2 l (bx dl)];exact e)
   (λ j p hj=>by
    obtain⟨v,e1,c,t1,t2,e2,c1,c2,o,g,r⟩:=hp j p hj
    exact⟨v,e1,c,t1,t2,e2,c1,c2,o,kp2 c o c1 c2 g,r⟩)
   ⟨_,by rw[tt];exact hv.push ⟨rfl,t2,rfl⟩,hd2⟩ λ h3 tk3 kp3 hS3=>fin h3 tk3 (λ c o ca cI q=>kp3 c o ca cI (kp2 c o ca cI q)) hS3
  exact go
end
section
variable {pg:Program}{wd:World}{B:Around}{X0:VS}{z0:Shared}{a:Addr}
theorem Ew{l:Addr}{sl:AV}{ps:List (Int×Int)}{R:VS}(hh:B.handled=none)(gl:z0.heap.get? l=some { cls:=.type "list",dict:=none,data:=.seq items kk,slots:=sl })
  (sz:items.size=ps.length) (nd:(ps.map (·.1)).Nodup) (zl:ps.length<=sizeLine) (hp:∀(j:Nat) (p:Int×Int),ps[j]?=some p->∃v,items[j]?=some v/\Eu z0.heap p v)
  (fin:∀(h':Heap) (tk:Nat),qu pg wd ps z0.heap.objs.size h'->(∀c o,z0.heap.get? c=some o->h'.get? c=some o)->R (.ref z0.heap.objs.size) { z0 with heap:=h',toks:=tk }) :
  wpAny (model pg wd) B (call (.type "dict") [.ref l]) R X0 z0:=by
 refine mq (Q₁:=λ v z=>v=.ref z0.heap.objs.size/\z={ z0 with heap:=z0.heap.push { cls:=.type "dict",data:=.dict #[] } }) F.kt_called_dict (F.kt_typeCall_dict_1 _) F.entry_dict_init (kt_code_dict_new _ ⟨O,O⟩) ?_;rintro obj z ⟨rfl,rfl⟩;have new:(z0.heap.push { cls:=.type "dict",data:=.dict #[] }).DictOf (cx pg wd) z0.heap.objs.size []:=Heap.DictOf.new z0.heap;have gl1:=aA { cls:=.type "dict",data:=.dict #[] } gl;have ll:l<z0.heap.objs.size:=aC gl;refine⟨new.typeIs,F.args_dict_init_2 _ _,?_⟩;unfold Builtin.«dict.__init__»;refine af ?_;unfold Builtin.Dict.selfAndRest;refine af (wpAny_notOrdered_dict new.typeIs ?_);show wpAny _ _ (pure (z0.heap.objs.size,[Value.ref l])) _ _ _;refine ag ?_;show wpAny _ _ (Builtin.Dict.updateFrom "dict.__init__" z0.heap.objs.size (.ref l) [] .none) _ _ _;unfold Builtin.Dict.updateFrom;refine af (eo (T := "list") ⟨_,gl1,O⟩ ?_);rw[if_pos on];refine af (Et gl1 hh λ h1 tk1 k1=>?_);rw[if_pos (show(none:Option Value).isNone=true from rfl)];refine af (fI ?_);have gl2:=k1 _ _ gl1;have il:h1.IsList l items:=⟨_,gl2,rfl,kk,rfl⟩;refine af (kJ il ?_);obtain⟨od,es,ep,gd,rd⟩:=new;have b0:z0.heap.objs.size<h1.objs.size:=aC (k1 _ _ gd);have bl:l<h1.objs.size:=iB ll b0;refine ag ⟨bW mR _,Ev (ps:=ps) (items:=items) (l:=l) (d:=z0.heap.objs.size) (B:=B.in1) hh (aK bl) (aK b0) (fq ll) sz nd zl (ps.length-0) 0 _ rfl (bC _) ⟨_,aM _ rfl,O,O⟩ (il.push _) (λ j p hj=>?_) ⟨[],.nil,od,es,ep,aA _ (k1 _ _ gd),rd⟩ λ h' tk kp hd=>⟨O,fin h' tk hd λ c o e=>?_⟩⟩
 ·obtain⟨v,ev,c,t1,t2,rfl,o,g,r⟩:=hp j p hj;have lc:=aC g;exact⟨_,ev,c,t1,t2,O,aK lc,aK (iB lc b0),o,aA _ (k1 _ _ (aA _ g)),r⟩
 ·have lc:=aC e;exact kp c o (aK lc) (aK (iB lc b0)) (aA _ (k1 _ _ (aA _ e)))
end
theorem uR{α β:Type}{F:α->β->Prop}:∀ {xs:List α}{ys:List β}{j:Nat}{x:α}{y:β},Paired F xs ys->xs[j]?=some x->ys[j]?=some y->F x y
 |_,_,_,_,_,.nil,e,_=>by cases e
 |_,_,0,_,_,.cons h _,e1,e2=>by cases e1;cases e2;exact h
 |_,_,j+1,_,_,.cons _ r,e1,e2=>uR (j:=j) r e1 e2
theorem uS:∀ {ps:List (Int×Int)}{kvs:List (Key×Value)},Kvs ps kvs->KV (ps.map λ p=>((Sum.inl p.1:Key),V.int p.2)) kvs
 |[],_,.nil=>.nil
 |_::_,_,.cons h r=>.cons ⟨h.1.symm,by obtain⟨t,e⟩:=h.2;rw[e];exact⟨t,rfl⟩⟩ (uS r)
def Ex(hc:X.calm=true):bo X (.type "dict") (λ xs H Q=>∃p rs ps,xs=[.ref p]/\SqL X.K H p rs/\Paired (λ(r:V) (q:Int×Int)=>∃c,r=.ref c/\SqT X.K H c [.int q.1,.int q.2]) rs ps/\(ps.map (·.1)).Nodup/\∀l,H l=none->Q (.ref l) (upd H l (.dK (ps.map λ q=>((Sum.inl q.1:Key),V.int q.2))))):=by
 intro pins s σ H xs us Q I r h;obtain⟨p,rs,ps,rfl,hq,hr,nd,q⟩:=h;obtain⟨u,rfl,rx⟩:=bL r;cases rx;obtain⟨its,r',pl,hz⟩:=I.list hq;obtain⟨o,n,g,e1,e2,e3⟩:=pl;obtain⟨oc,od,odt,os⟩:=o;simp only at e1 e2 e3;subst e1 e2 e3;have lr:rs.length=ps.length:=Paired.length hr;have li:rs.length=its.length:=r'.length;refine Ew (I.ok.hd hc) g (by rw[aO];lia) nd fu (λ j p hj=>?_) λ h' tk hd ol=>?_
 ·have jl:j<rs.length:=by rw[lr];exact(bc.mp hj).1
  obtain⟨v,ev,rv⟩:=r'.get (aF jl);obtain⟨c,e,sq⟩:=uR hr (aF jl) hj;rw[e] at rv;cases rv;obtain⟨it2,r2,tp,_⟩:=I.tuple sq;obtain⟨v1,v2,rfl,⟨t1,rfl⟩,⟨t2,rfl⟩⟩:=jh r2;exact⟨_,by rw[jA];exact ev,c,t1,t2,O,tp⟩
 ·obtain⟨kvs,hk,hd⟩:=hd;have lo:(s.heap.objs.size == sysModules)=false:=by have:=I.big;exact mS (fq this)
  exact⟨.ref s.heap.objs.size,_,I.laid (a:=s.heap.objs.size) (o:=.dK (ps.map λ q=>((Sum.inl q.1:Key),V.int q.2))) (h':=h') (t':=tk) ol (ar _) (Db (by rw[ah];lia) lo (uS hk) hd),O,q _ (I.hok.fresh (ar _))⟩
inductive TV where
 |non|bl (b:Bool)|int (i:Int)|str (x:Str)|tup (l:List TV)|lst (l:List TV)|bor (l:List TV)|own (l:List TV)|dct (l:List (Int×Int))
noncomputable abbrev dcO(l:List (Int×Int)):HO:=.dK (l.map λ q=>((Sum.inl q.1:Key),V.int q.2))
abbrev Fz:=Addr->Prop
noncomputable def Ls(K:FG)(F:Fz)(H:Hp)(a:Addr)(vs:List V):Prop:=(F a/\SqL K H a vs) \/
 ∃(o:Obj) (its:Array Value) (n:Nat),K.lookup a=some o/\o.cls=.type "list" /\ o.dict=none/\o.data=.seq its n/\its.size<=sizeLine/\Vals vs its.toList
def Ls.sq{K:FG}{vs:List V}(h:Ls K F H a vs):SqL K H a vs:=h.elim (λ h=>h.2) λ h=>.inr h
def Ls.imp{K:FG}{F F':Fz}{vs:List V}(h:Ls K F H a vs)(i:F a->SqL K H a vs->F' a/\SqL K H' a vs):Ls K F' H' a vs:=h.elim (λ h=>.inl (i h.1 h.2)) .inr
mutual
def Rp(K:FG)(F:Fz)(H:Hp):TV->V->Prop
 |.non,v=>v=.non
 |.bl b,v=>v=.bl b
 |.int i,v=>v=.int i
 |.str x,v=>v=.str x
 |.tup l,v=>∃a vs,v=.ref a/\SqT K H a vs/\RpL K F H l vs
 |.lst l,v=>∃a vs,v=.ref a/\Ls K F H a vs/\RpL K F H l vs
 |.bor _,_=>False
 |.own _,_=>False
 |.dct _,_=>False
def RpL(K:FG)(F:Fz)(H:Hp):List TV->List V->Prop
 |[],vs=>vs=[]
 |t::ts,vs=>∃v r,vs=v::r/\Rp K F H t v/\RpL K F H ts r
end
structure Wd (J:Hp->Prop)(F:Fz)(H:Hp):Prop where
 j:J H
 d:∀a,F a->H a≠none
structure Grow (J:Hp->Prop)(F:Fz)(H:Hp)(F':Fz)(H':Hp):Prop where
 sm:∀a o,(∀ps,o≠.tbl ps)->H a=some o->H' a=some o
 dm:∀a,H a≠none->H' a≠none
 up:∀a,F a->F' a
 nw:∀a,F' a->F a\/H a=none
 w:Wd J F' H'
section
variable {K:FG}{J:Hp->Prop}{F F' F1 F2:Fz}{H H' H1 H2:Hp}
def Grow.refl(w:Wd J F H):Grow J F H F H:=⟨λ _ _ _ e=>e,λ _ e=>e,λ _ e=>e,λ _ e=>.inl e,w⟩
def Grow.trans(g:Grow J F H F1 H1)(k:Grow J F1 H1 F2 H2):Grow J F H F2 H2 :=
 ⟨λ a o n e=>k.sm a o n (g.sm a o n e),λ a e=>k.dm a (g.dm a e),λ a e=>k.up a (g.up a e),λ a e=>by
  rcases k.nw a e with q|q
  ·exact g.nw a q
  ·by_cases z:H a=none
   ·exact .inr z
   ·exact absurd q (g.dm a z),k.w⟩
def Rd.sm{a:Addr}{u:HO}(s:∀a o,(∀ps,o≠.tbl ps)->H a=some o->H' a=some o)(n:∀ps,u≠.tbl ps)(h:Rd H a u):Rd H' a u:=by
 rcases h with h|⟨o,h⟩
 ·exact .inl (s _ _ n h)
 ·exact .inr ⟨o,s _ _ (λ ps z=>by cases z) h⟩
def SqT.sm{a:Addr}{vs:List V}(s:∀a o,(∀ps,o≠.tbl ps)->H a=some o->H' a=some o)(h:SqT K H a vs):SqT K H' a vs:=by
 rcases h with h|h
 ·exact .inl (h.sm s λ ps z=>by cases z)
 ·exact .inr h
def SqL.sm{a:Addr}{vs:List V}(s:∀a o,(∀ps,o≠.tbl ps)->H a=some o->H' a=some o)(h:SqL K H a vs):SqL K H' a vs:=by
 rcases h with h|h
 ·exact .inl (h.sm s λ ps z=>by cases z)
 ·exact .inr h
structure Ke (K:FG)(F:Fz)(H:Hp)(F':Fz)(H':Hp):Prop where
 t:∀a vs,SqT K H a vs->SqT K H' a vs
 l:∀a vs,Ls K F H a vs->Ls K F' H' a vs
mutual
theorem Rp.ke(k:Ke K F H F' H'):∀ {t:TV}{v:V},Rp K F H t v->Rp K F' H' t v
 |.non,_,h=>h
 |.bl _,_,h=>h
 |.int _,_,h=>h
 |.str _,_,h=>h
 |.tup _,_,⟨a,vs,e,q,r⟩=>⟨a,vs,e,k.t _ _ q,RpL.ke k r⟩
 |.lst _,_,⟨a,vs,e,f,r⟩=>⟨a,vs,e,k.l _ _ f,RpL.ke k r⟩
 |.bor _,_,h=>h.elim
 |.own _,_,h=>h.elim
 |.dct _,_,h=>h.elim
theorem RpL.ke(k:Ke K F H F' H'):∀ {ts:List TV}{vs:List V},RpL K F H ts vs->RpL K F' H' ts vs
 |[],_,h=>h
 |_::_,_,⟨v,r,e,h1,h2⟩=>⟨v,r,e,Rp.ke k h1,RpL.ke k h2⟩
end
def Grow.ke(g:Grow J F H F' H'):Ke K F H F' H':=⟨λ _ _ h=>h.sm g.sm,λ a _ h=>h.imp λ f h=>⟨g.up a f,h.sm g.sm⟩⟩
def Ke.up(h:∀a,F a->F' a):Ke K F H F' H:=⟨λ _ _ h=>h,λ a _ q=>q.imp λ f q=>⟨h a f,q⟩⟩
noncomputable def Rr(K:FG)(H:Hp)(F':Fz)(H':Hp):TV->V->Prop
 |.own l,v=>∃a vs,v=.ref a/\H a=none/\¬F' a/\H' a=some (.lst vs)/\RpL K F' H' l vs
 |.bor l,v=>∃a vs,v=.ref a/\¬F' a/\H' a=some (.lst vs)/\RpL K F' H' l vs
 |t,v=>Rp K F' H' t v
def Rr.of(h:Rp K F' H' t v):Rr K H F' H' t v:=by
 cases t<;>first|exact h|exact h.elim
def Rr.grow(g:Grow J F1 H1 F2 H2)(h:Rr K H F1 H1 t v):Rr K H F2 H2 t v:=by
 have nf:∀ {a vs},¬F1 a->H1 a=some (.lst vs)->¬F2 a:=λ n e z=>by
  rcases g.nw _ z with q|q
  ·exact n q
  ·rw[q] at e;cases e
 cases t with
 |own l=>obtain⟨a,vs,e,n,f,q,r⟩:=h;exact⟨a,vs,e,n,nf f q,g.sm _ _ (λ ps z=>by cases z) q,r.ke g.ke⟩
 |bor l=>obtain⟨a,vs,e,f,q,r⟩:=h;exact⟨a,vs,e,nf f q,g.sm _ _ (λ ps z=>by cases z) q,r.ke g.ke⟩
 |_=>exact Rp.ke g.ke h
def Rr.late(g:Grow J F H F1 H1)(h:Rr K H1 F2 H2 t v):Rr K H F2 H2 t v:=by
 cases t with
 |own l=>
  obtain⟨a,vs,e,n,f,q,r⟩:=h;refine⟨a,vs,e,?_,f,q,r⟩;by_cases z:H a=none
  ·exact z
  ·exact absurd n (g.dm a z)
 |_=>exact h
noncomputable abbrev RrL(K:FG)(H:Hp)(F':Fz)(H':Hp):List TV->List V->Prop:=Paired (Rr K H F' H')
def RrL.grow{vs:List V}(g:Grow J F1 H1 F2 H2)(h:RrL K H F1 H1 ts vs):RrL K H F2 H2 ts vs:=Paired.mapP h λ _ _ r=>r.grow g
theorem RpL.length:∀ {ts:List TV}{vs:List V},RpL K F H ts vs->ts.length=vs.length
 |[],_,h=>by cases h;rfl
 |_::_,_,⟨_,_,e,_,h⟩=>by rw[e,List.length_cons,List.length_cons,RpL.length h]
theorem RpL.get:∀ {ts:List TV}{vs:List V}{i:Nat}{t:TV},RpL K F H ts vs->ts[i]?=some t->∃v,vs[i]?=some v/\Rp K F H t v
 |[],_,_,_,_,e=>by simp at e
 |_::_,_,0,_,⟨v,r,e,h1,_⟩,q=>by cases q;exact⟨v,by rw[e];rfl,h1⟩
 |_::_,_,i+1,_,⟨v,r,e,_,h2⟩,q=>by
  obtain⟨w,e1,h⟩:=RpL.get (i:=i) h2 q;exact⟨w,by rw[e];exact e1,h⟩
theorem RpL.append:∀ {ts us:List TV}{vs ws:List V},RpL K F H ts vs->RpL K F H us ws->RpL K F H (ts++us) (vs++ws)
 |[],_,_,_,h,g=>by cases h;exact g
 |_::_,_,_,_,⟨v,r,e,h1,h2⟩,g=>by subst e;exact⟨v,_,rfl,h1,RpL.append h2 g⟩
theorem RpL.take:∀ {ts:List TV}{vs:List V}(n:Nat),RpL K F H ts vs->RpL K F H (ts.take n) (vs.take n)
 |_,_,0,_=>rfl
 |[],_,_+1,h=>by cases h;rfl
 |_::_,_,n+1,⟨v,r,e,h1,h2⟩=>by subst e;exact⟨v,_,rfl,h1,RpL.take n h2⟩
theorem RpL.drop:∀ {ts:List TV}{vs:List V}(n:Nat),RpL K F H ts vs->RpL K F H (ts.drop n) (vs.drop n)
 |_,_,0,h=>h
 |[],_,_+1,h=>by cases h;rfl
 |_::_,_,n+1,⟨v,r,e,h1,h2⟩=>by subst e;exact RpL.drop n h2
theorem RpL.set(h:Rp K F H t v):∀ {ts:List TV}{vs:List V}(i:Nat),RpL K F H ts vs->RpL K F H (ts.set i t) (vs.set i v)
 |[],_,_,q=>by cases q;rfl
 |_::_,_,0,⟨w,r,e,_,h2⟩=>by subst e;exact⟨v,r,rfl,h,h2⟩
 |_::_,_,i+1,⟨w,r,e,h1,h2⟩=>by subst e;exact⟨w,_,rfl,h1,RpL.set h i h2⟩
def RpL.reverse{vs:List V}(h:RpL K F H ts vs):RpL K F H ts.reverse vs.reverse:=by
 induction ts generalizing vs with
 |nil=>cases h;rfl
 |cons t r ih=>
  obtain⟨v,q,e,h1,h2⟩:=h;subst e;rw[lW,lW];exact(ih h2).append ⟨v,[],O,h1,O⟩
theorem RpL.ints:∀ {ns:LI}{vs:List V},RpL K F H (ns.map TV.int) vs->vs=ns.map V.int
 |[],_,h=>h
 |_::_,_,⟨v,r,e,h1,h2⟩=>by rw[e,RpL.ints h2,show v=_ from h1];rfl
theorem RpL.ofInts:∀(ns:LI),RpL K F H (ns.map TV.int) (ns.map V.int)
 |[]=>rfl
 |_::r=>⟨_,_,rfl,rfl,RpL.ofInts r⟩
theorem RpL.bls:∀ {ns:List Bool}{vs:List V},RpL K F H (ns.map TV.bl) vs->vs=ns.map V.bl
 |[],_,h=>h
 |_::_,_,⟨v,r,e,h1,h2⟩=>by rw[e,RpL.bls h2,show v=_ from h1];rfl
noncomputable def TV.items:TV->Option (Bool×List TV)
 |.tup l=>some (true,l)
 |.lst l=>some (false,l)
 |.bor l=>some (false,l)
 |.own l=>some (false,l)
 |_=>none
def Rr.sq{b:Bool}{l:List TV}(h:Rr K H F' H' t v)(e:t.items=some (b,l)):∃a vs,v=.ref a/\RpL K F' H' l vs/\((b=true/\SqT K H' a vs)\/(b=false/\SqL K H' a vs)):=by
 cases t<;>cases e
 ·obtain⟨a,vs,e,q,r⟩:=h;exact⟨a,vs,e,r,.inl ⟨rfl,q⟩⟩
 ·obtain⟨a,vs,e,q,r⟩:=h;exact⟨a,vs,e,r,.inr ⟨rfl,q.sq⟩⟩
 ·obtain⟨a,vs,e,_,q,r⟩:=h;exact⟨a,vs,e,r,.inr ⟨rfl,.of q⟩⟩
 ·obtain⟨a,vs,e,_,_,q,r⟩:=h;exact⟨a,vs,e,r,.inr ⟨rfl,.of q⟩⟩
structure JS (J:Hp->Prop):Prop where
 nw:∀(H:Hp) (p:Addr) (o:HO),H p=none->J H->J (upd H p o)
 mu:∀(H:Hp) (p:Addr) (vs ws:List V),H p=some (.lst vs)->J H->J (upd H p (.lst ws))
def Grow.new(hJ:JS J)(w:Wd J F H)(o:HO)(h:H p=none):Grow J F H F (upd H p o):=by
 have k:∀a x,H a=some x->upd H p o a=some x:=λ a x e=>by rw[aL (λ z=>by rw[z,h] at e;cases e)];exact e
 have d:∀a,H a≠none->upd H p o a≠none:=λ a e z=>by
  cases q:H a with
  |none=>exact e q
  |some x=>rw[k a x q] at z;cases z
 exact⟨λ a x _ e=>k a x e,d,λ _ e=>e,λ _ e=>.inl e,hJ.nw H p o h w.j,λ a f=>d a (w.d a f)⟩
def Grow.frz(g:Grow J F H F1 H1)(n:H a=none)(e:H1 a≠none):Grow J F H (λ b=>F1 b\/b=a) H1 :=
 ⟨g.sm,g.dm,λ b f=>.inl (g.up b f),λ b f=>by
  rcases f with f|rfl
  ·exact g.nw b f
  ·exact .inr n,g.w.j,λ b f=>by
  rcases f with f|rfl
  ·exact g.w.d b f
  ·exact e⟩
def TV.fz:TV->TV
 |.own l=>.lst l
 |.bor l=>.lst l
 |t=>t
def TV.nb:TV->Bool
 |.bor _=>false
 |_=>true
def Rr.frz(g:Grow J F H F1 H1)(h:Rr K H F1 H1 t v)(n:t.nb=true):∃F2,Grow J F H F2 H1/\(∀a,F1 a->F2 a)/\(∀a,F2 a->F1 a\/v=.ref a)/\Rp K F2 H1 t.fz v:=by
 cases t with
 |own l=>
  obtain⟨a,vs,e,n,f,q,r⟩:=h;refine⟨λ b=>F1 b\/b=a,g.frz n (by rw[q];simp),λ _ f=>.inl f,λ b f=>?_,a,vs,e,.inl ⟨.inr rfl,.of q⟩,r.ke (.up λ _ f=>.inl f)⟩
  rcases f with f|rfl
  ·exact .inl f
  ·exact .inr e
 |bor l=>cases n
 |_=>exact⟨F1,g,λ _ f=>f,λ _ f=>.inl f,h⟩
end
mutual
def eqT:TV->TV->Bool
 |.non,.non=>true
 |.bl a,.bl b=>a == b
 |.bl a,.int b=>(if a then 1 else 0) == b
 |.int a,.bl b=>a == (if b then 1 else 0)
 |.int a,.int b=>decide (a=b)
 |.str a,.str b=>decide (a=b)
 |.tup l,.tup m=>eqTL l m
 |.lst l,.lst m=>eqTL l m
 |_,_=>false
def eqTL:List TV->List TV->Bool
 |[],[]=>true
 |x::xs,y::ys=>eqT x y&&eqTL xs ys
 |_,_=>false
end
def mT(l m:List TV):eqT (.lst l) (.lst m)=eqTL l m:=rfl
def uT(l m:List TV):eqT (.tup l) (.tup m)=eqTL l m:=rfl
def eqTL_c(x y:TV)(xs ys:List TV):eqTL (x::xs) (y::ys)=(eqT x y&&eqTL xs ys):=rfl
noncomputable def dp:Nat->TV->Prop
 |_,.non=>True|_,.bl _=>True|_,.int _=>True|_,.str _=>True
 |n+1,.tup l=>∀x∈l,dp n x
 |n+1,.lst l=>∀x∈l,dp n x
 |_,_=>False
theorem jG:∀ {l m:List TV},l.length≠m.length->eqTL l m=false
 |[],[],h=>absurd rfl h
 |[],_::_,_=>rfl
 |_::_,[],_=>rfl
 |x::xs,y::ys,h=>by rw[eqTL_c,jG (l:=xs) (m:=ys) (λ z=>h (by rw[List.length_cons,List.length_cons,z])),mU]
theorem jH:∀ {l m:List TV},l.length=m.length->(List.range l.length).all (λ j=>eqT (l.getD j .non) (m.getD j .non))=eqTL l m
 |[],[],_=>rfl
 |x::xs,y::ys,h=>by
  rw[List.length_cons,List.range_succ_eq_map,da,List.all_map];show(eqT x y&&(List.range xs.length).all λ j=>eqT (xs.getD j .non) (ys.getD j .non))=eqTL (x::xs) (y::ys);rw[jH (l:=xs) (m:=ys) (by simpa using h),eqTL_c]
mutual
theorem eqT_self:∀ {t:TV}{n:Nat},dp n t->eqT t t=true
 |.non,_,_=>rfl
 |.bl b,_,_=>kO b
 |.int _,_,_=>bf rfl
 |.str _,_,_=>bf rfl
 |.tup l,0,h=>h.elim
 |.tup l,n+1,h=>eqTL_self (l:=l) (n:=n) h
 |.lst l,0,h=>h.elim
 |.lst l,n+1,h=>eqTL_self (l:=l) (n:=n) h
 |.bor _,0,h=>h.elim
 |.bor _,_+1,h=>h.elim
 |.own _,0,h=>h.elim
 |.own _,_+1,h=>h.elim
 |.dct _,0,h=>h.elim
 |.dct _,_+1,h=>h.elim
theorem eqTL_self:∀ {l:List TV}{n:Nat},(∀x∈l,dp n x)->eqTL l l=true
 |[],_,_=>rfl
 |x::xs,n,h=>by rw[eqTL_c,eqT_self (h x pv),eqTL_self λ y hy=>h y (by simp[hy])];rfl
end
def RelV.uniq(h:RelV x u)(g:RelV y u):x=y:=by
 cases x<;>cases y<;>first
  |(cases h;cases g;rfl)
  |(obtain⟨_,rfl⟩:=h;obtain⟨_,e⟩:=g;cases e;rfl)
  |(cases h;cases g;done)
  |(cases h;obtain⟨_,e⟩:=g;cases e;done)
  |(obtain⟨_,rfl⟩:=h;cases g;done)
  |(obtain⟨_,rfl⟩:=h;obtain⟨_,e⟩:=g;cases e;done)
theorem Vals.uniq:∀ {xs ys:List V}{us:LV},Vals xs us->Vals ys us->xs=ys
 |_,_,_,.nil,.nil=>rfl
 |_,_,_,.cons r t,.cons r' t'=>by rw[r.uniq r',Vals.uniq t t']
section
variable {pins:LO}{σ:St}{H:Hp}{s:Shared}{F:Fz}
def Inv.tup_uniq(I:Inv X pins σ H s)(h:SqT X.K H a xs)(g:SqT X.K H a ys):xs=ys:=by
 obtain⟨us,r1,p1,_⟩:=I.tuple h;obtain⟨ws,r2,p2,_⟩:=I.tuple g;obtain⟨o,e,_,n,d⟩:=p1;obtain⟨o',e',_,n',d'⟩:=p2;rw[e] at e';cases e';rw[d] at d';have:us.toArray=ws.toArray:=by injection d'
 have:us=ws:=by simpa using bK Array.toList this
 subst this;exact r1.uniq r2
def Inv.lst_uniq(I:Inv X pins σ H s)(h:SqL X.K H a xs)(g:SqL X.K H a ys):xs=ys:=by
 obtain⟨us,r1,p1,_⟩:=I.list h;obtain⟨ws,r2,p2,_⟩:=I.list g;obtain⟨o,n,e,_,_,d⟩:=p1;obtain⟨o',n',e',_,_,d'⟩:=p2;rw[e] at e';cases e';rw[d] at d';have:us.toArray=ws.toArray:=by injection d'
 have:us=ws:=by simpa using bK Array.toList this
 subst this;exact r1.uniq r2
def Inv.tl(I:Inv X pins σ H s)(h:SqT X.K H a xs)(g:SqL X.K H a ys):False:=by
 obtain⟨us,r1,p1,_⟩:=I.tuple h;obtain⟨ws,r2,p2,_⟩:=I.list g;obtain⟨o,e,c,_⟩:=p1;obtain⟨o',n',e',c',_⟩:=p2;rw[e] at e';cases e';rw[c] at c';simp at c'
mutual
theorem Inv.rp_uniq(I:Inv X pins σ H s):∀ {t u:TV}{v:V},Rp X.K F H t v->Rp X.K F H u v->t=u
 |.non,u,v,h,g=>by cases h;cases u<;>first|rfl|(cases g;done)|(obtain⟨_,_,e,_⟩:=g;cases e)|exact g.elim
 |.bl _,u,v,h,g=>by cases h;cases u<;>first|(cases g;rfl)|(cases g;done)|(obtain⟨_,_,e,_⟩:=g;cases e)|exact g.elim
 |.int _,u,v,h,g=>by cases h;cases u<;>first|(cases g;rfl)|(cases g;done)|(obtain⟨_,_,e,_⟩:=g;cases e)|exact g.elim
 |.str _,u,v,h,g=>by cases h;cases u<;>first|(cases g;rfl)|(cases g;done)|(obtain⟨_,_,e,_⟩:=g;cases e)|exact g.elim
 |.tup l,u,v,⟨a,vs,e,q,r⟩,g=>by
  subst e
  cases u with
  |tup m=>
   obtain⟨b,ws,e,q',r'⟩:=g;cases e;have:=I.tup_uniq q q';subst this;rw[Inv.rpl_uniq I r r']
  |lst m=>obtain⟨b,ws,e,q',r'⟩:=g;cases e;exact(I.tl q q'.sq).elim
  |_=>first|exact g.elim|cases g
 |.lst l,u,v,⟨a,vs,e,q,r⟩,g=>by
  subst e
  cases u with
  |lst m=>
   obtain⟨b,ws,e,q',r'⟩:=g;cases e;have:=I.lst_uniq q.sq q'.sq;subst this;rw[Inv.rpl_uniq I r r']
  |tup m=>obtain⟨b,ws,e,q',r'⟩:=g;cases e;exact(I.tl q' q.sq).elim
  |_=>first|exact g.elim|cases g
 |.bor _,_,_,h,_=>h.elim
 |.own _,_,_,h,_=>h.elim
 |.dct _,_,_,h,_=>h.elim
theorem Inv.rpl_uniq(I:Inv X pins σ H s):∀ {ts us:List TV}{vs:List V},RpL X.K F H ts vs->RpL X.K F H us vs->ts=us
 |[],us,_,h,g=>by
  cases h
  cases us with
  |nil=>rfl
  |cons t r=>obtain⟨_,_,e,_⟩:=g;cases e
 |t::ts,us,_,⟨v,r,e,h1,h2⟩,g=>by
  subst e
  cases us with
  |nil=>cases g
  |cons u us=>obtain⟨_,_,e,g1,g2⟩:=g;cases e;rw[Inv.rp_uniq I h1 g1,Inv.rpl_uniq I h2 g2]
end
def gM{K:FG}{vs:List V}(r:RpL K F H l vs)(q:Vals vs us){j:Nat}(h:j<us.toArray.size):∃z,Rp K F H (l.getD j .non) z/\RelV z us.toArray[j]/\l.getD j .non∈l:=by
 obtain⟨z,e,rz⟩:=Do q h;have k:j<l.length:=by rw[r.length,q.length];simpa using h
 obtain⟨v,e',rv⟩:=r.get (aF k);rw[e] at e';cases e';have ee:l.getD j .non=l[j]:=by simp[bG,aF k]
 rw[ee];exact⟨z,rv,rz,iI k⟩
def uU(I:Inv X pins σ H s){n:Nat}(ih:∀m,n=m+1->∀(A:Around) (t u:TV) (x y:V) (v w:Value),A.units+m<cLine->dp m t->Rp X.K F H t x->Rp X.K F H u y->RelV x v->RelV y w->SeqAt.EqAt A s v w (eqT t u))(A:Around)(t u:TV)(x y:V)(v w:Value)(hu:A.units+n<cLine)(d:dp n t)(h:Rp X.K F H t x)(g:Rp X.K F H u y)(rx:RelV x v)(ry:RelV y w):SeqAt.EqAt A s v w (eqT t u):=by
 have hu0:A.units<cLine:=fu;have tupI:∀ {a vs},SqT X.K H a vs->∃us:LV,Vals vs us/\s.heap.IsTuple a us.toArray:=λ q=>by obtain⟨us,r,p,_⟩:=I.tuple q;exact⟨us,r,p⟩
 have lstI:∀ {a vs},SqL X.K H a vs->∃us:LV,Vals vs us/\s.heap.IsList a us.toArray:=λ q=>by obtain⟨us,r,p,_⟩:=I.list q;exact⟨us,r,p.isList⟩
 cases t with
 |bor l=>exact h.elim
 |own l=>exact h.elim
 |dct l=>exact h.elim
 |tup l=>
  obtain⟨a,vs,rfl,q,r⟩:=h;cases rx;obtain⟨us,r1,p1⟩:=tupI q
  cases u with
  |bor l=>exact g.elim
  |own l=>exact g.elim
  |dct l=>exact g.elim
  |non=>cases g;cases ry;exact SeqAt.EqAt.tuple_none p1 hu0
  |bl b=>cases g;cases ry;exact SeqAt.EqAt.tuple_bool b p1 hu0
  |int b=>cases g;obtain⟨tk,rfl⟩:=ry;exact SeqAt.EqAt.tuple_int b tk p1 hu0
  |str b=>cases g;obtain⟨tk,rfl⟩:=ry;exact SeqAt.EqAt.tuple_str b tk p1 hu0
  |lst m=>
   obtain⟨b,ws,rfl,q',r'⟩:=g;cases ry;obtain⟨us2,r2,p2⟩:=lstI q'.sq;exact SeqAt.EqAt.tuple_list p1 p2 hu0
  |tup m=>
   obtain⟨b,ws,rfl,q',r'⟩:=g;cases ry;obtain⟨us2,r2,p2⟩:=tupI q'
   cases n with
   |zero=>exact False.elim d
   |succ n=>
    have d':∀x∈l,dp n x:=d;by_cases ab:a=b
    ·subst ab;have:=I.tup_uniq q q';subst this;have:=I.rpl_uniq r r';subst this;rw[uT,eqTL_self d'];exact oZ _
    ·refine s1l ab ?_
     have z:=SeqAt.RcAt.tuples (A:=A) p1 p2 (e:=λ j=>eqT (l.getD j .non) (m.getD j .non)) hu0 (λ j k1 k2=>by
      obtain⟨z1,h1,r1',m1⟩:=gM r r1 k1;obtain⟨z2,h2,r2',_⟩:=gM r' r2 k2
      exact ih n rfl A.in1 _ _ z1 z2 _ _ (by show A.units+1+n<cLine;lia) (d' _ m1) h1 h2 r1' r2')
     have e1:us.toArray.size=l.length:=by simp[r.length,r1.length]
     have e2:us2.toArray.size=m.length:=by simp[r'.length,r2.length]
     rw[e1,e2] at z;rw[uT];by_cases c:l.length=m.length
     ·rw[<- c,Nat.min_self,jH c] at z;simpa using z
     ·rw[jG c];have c':(l.length == m.length)=false:=by simpa using c
      rw[c',mU] at z;exact z
 |lst l=>
  obtain⟨a,vs,rfl,q,r⟩:=h;cases rx;obtain⟨us,r1,p1⟩:=lstI q.sq
  cases u with
  |bor l=>exact g.elim
  |own l=>exact g.elim
  |dct l=>exact g.elim
  |non=>cases g;cases ry;exact SeqAt.EqAt.list_none p1 hu0
  |bl b=>cases g;cases ry;exact SeqAt.EqAt.list_bool b p1 hu0
  |int b=>cases g;obtain⟨tk,rfl⟩:=ry;exact SeqAt.EqAt.list_int b tk p1 hu0
  |str b=>cases g;obtain⟨tk,rfl⟩:=ry;exact SeqAt.EqAt.list_str b tk p1 hu0
  |tup m=>
   obtain⟨b,ws,rfl,q',r'⟩:=g;cases ry;obtain⟨us2,r2,p2⟩:=tupI q';exact SeqAt.EqAt.list_tuple p1 p2 hu0
  |lst m=>
   obtain⟨b,ws,rfl,q',r'⟩:=g;cases ry;obtain⟨us2,r2,p2⟩:=lstI q'.sq
   cases n with
   |zero=>exact False.elim d
   |succ n=>
    have d':∀x∈l,dp n x:=d;have e1:us.toArray.size=l.length:=by simp[r.length,r1.length]
    have e2:us2.toArray.size=m.length:=by simp[r'.length,r2.length]
    by_cases ab:a=b
    ·subst ab;have:=I.lst_uniq q.sq q'.sq;subst this;have:=I.rpl_uniq r r';subst this;rw[mT,eqTL_self d'];exact oZ _
    ·refine s1l ab ?_;rw[mT];by_cases c:l.length=m.length
     ·have z:=SeqAt.RcAt.lists (A:=A) p1 p2 (e:=λ j=>eqT (l.getD j .non) (m.getD j .non)) (by rw[e1,e2,c]) hu0 (λ j k1 k2=>by
       obtain⟨z1,h1,r1',m1⟩:=gM r r1 k1;obtain⟨z2,h2,r2',_⟩:=gM r' r2 k2
       exact ih n rfl A.in1 _ _ z1 z2 _ _ (by show A.units+1+n<cLine;lia) (d' _ m1) h1 h2 r1' r2')
      rwa [e1,jH c] at z
     ·rw[jG c];exact SeqAt.RcAt.lists_lengths p1 p2 (by rw[e1,e2];simpa using c) hu0
 |non=>
  cases h
  cases u with
  |bor l=>exact g.elim
  |own l=>exact g.elim
  |dct l=>exact g.elim
  |tup m=>obtain⟨b,ws,rfl,q',_⟩:=g;cases ry;obtain⟨us2,r2,p2⟩:=tupI q';cases rx;exact SeqAt.EqAt.none_tuple p2 hu0
  |lst m=>obtain⟨b,ws,rfl,q',_⟩:=g;cases ry;obtain⟨us2,r2,p2⟩:=lstI q'.sq;cases rx;exact SeqAt.EqAt.none_list p2 hu0
  |_=>cases g;exact ky rx ry rfl rfl
 |bl k=>
  cases h
  cases u with
  |bor l=>exact g.elim
  |own l=>exact g.elim
  |dct l=>exact g.elim
  |tup m=>obtain⟨b,ws,rfl,q',_⟩:=g;cases ry;obtain⟨us2,r2,p2⟩:=tupI q';cases rx;exact SeqAt.EqAt.bool_tuple k p2 hu0
  |lst m=>obtain⟨b,ws,rfl,q',_⟩:=g;cases ry;obtain⟨us2,r2,p2⟩:=lstI q'.sq;cases rx;exact SeqAt.EqAt.bool_list k p2 hu0
  |_=>cases g;exact ky rx ry rfl rfl
 |int k=>
  cases h
  cases u with
  |bor l=>exact g.elim
  |own l=>exact g.elim
  |dct l=>exact g.elim
  |tup m=>obtain⟨b,ws,rfl,q',_⟩:=g;cases ry;obtain⟨us2,r2,p2⟩:=tupI q';obtain⟨tk,rfl⟩:=rx;exact SeqAt.EqAt.int_tuple k tk p2 hu0
  |lst m=>obtain⟨b,ws,rfl,q',_⟩:=g;cases ry;obtain⟨us2,r2,p2⟩:=lstI q'.sq;obtain⟨tk,rfl⟩:=rx;exact SeqAt.EqAt.int_list k tk p2 hu0
  |_=>cases g;exact ky rx ry rfl rfl
 |str k=>
  cases h
  cases u with
  |bor l=>exact g.elim
  |own l=>exact g.elim
  |dct l=>exact g.elim
  |tup m=>obtain⟨b,ws,rfl,q',_⟩:=g;cases ry;obtain⟨us2,r2,p2⟩:=tupI q';obtain⟨tk,rfl⟩:=rx;exact SeqAt.EqAt.str_tuple k tk p2 hu0
  |lst m=>obtain⟨b,ws,rfl,q',_⟩:=g;cases ry;obtain⟨us2,r2,p2⟩:=lstI q'.sq;obtain⟨tk,rfl⟩:=rx;exact SeqAt.EqAt.str_list k tk p2 hu0
  |_=>cases g;exact ky rx ry rfl rfl
def uV(I:Inv X pins σ H s)(n:Nat):∀(A:Around) (t u:TV) (x y:V) (v w:Value),A.units+n<cLine->dp n t->Rp X.K F H t x->Rp X.K F H u y->RelV x v->RelV y w->SeqAt.EqAt A s v w (eqT t u):=by
 induction n with
 |zero=>exact uU I λ m e=>nomatch e
 |succ n ih=>exact uU I λ m e=>by cases e;exact ih
end
inductive BI where
 |len|tuple|list|sum|max|min|abs|int|str|sorted|any|all|isI|isB|isT|isL|isS|maxlen|trev (b:Bool)|lrange (k:Bool)
 deriving DecidableEq
inductive IK where
 |seq|rng|rng2|rng3|zip (a b:Bool)|zip3|enum (a:Bool)|rev (a:Bool)|str
 deriving DecidableEq
inductive Cd where
 |v (i:Nat)|c (t:TV)|g (k:Nat)
 |bin (o:Operator) (a b:Cd)|neg (a:Cd)|not (a:Cd)|cmp (o:CmpOp) (a b:Cd)|cm2 (o o':CmpOp) (a b c:Cd)
 |and (a b:Cd)|or (a b:Cd)|ite (c a b:Cd)
 |nil|cons (a r:Cd)|tup (l:Cd)|lst (l:Cd)|ix (a b:Cd)|sl (a lo hi:Cd)
 |call (f:Nat) (l:Cd)|bi (f:BI) (l:Cd)|isi (f:BI) (a:Cd)|mxl (a b:Cd)|trev (k:Bool) (a:Cd)|lrng (k:Bool) (a:Cd)|dk (k:Nat) (a:Cd)|ss (a:Cd)|di (i:Nat) (b:Cd)|dg (i:Nat) (b:Cd)
 |comp (own:List Str) (fv:List Str) (js:List Nat) (tg:List Nat) (k:IK) (it:Cd) (e:Cd)|compI (own:List Str) (fv:List Str) (js:List Nat) (tg:List Nat) (k:IK) (it:Cd) (c e:Cd)
abbrev PSp:=List TV->(TV->Prop)->Prop
abbrev En:=List (Option TV)
noncomputable def i2(t u:TV)(P:Int->Int->Prop):Prop:=match t,u with|.int i,.int j=>P i j|_,_=>False
noncomputable def i1(t:TV)(P:Int->Prop):Prop:=match t with|.int i=>P i|_=>False
noncomputable def b1(t:TV)(P:Bool->Prop):Prop:=match t with|.bl i=>P i|_=>False
noncomputable def l1(t:TV)(P:List TV->Prop):Prop:=match t with|.lst l=>P l|.bor l=>P l|.own l=>P l|_=>False
noncomputable def s1(t:TV)(P:List TV->Prop):Prop:=match t with|.lst l=>P l|.bor l=>P l|.own l=>P l|.tup l=>P l|_=>False
def aD(i j:Int):Int:=if 0<j then i%j else i.fmod j
def aH(i j:Int):Int:=if 0<j then i/j else i.fdiv j
noncomputable def qv(t u:TV)(K:TV->Prop):Prop:=match t,u with
 |.int i,.int j=>K (.int (i+j))
 |.tup l,.tup m=>l.length+m.length<=sizeLine/\K (.tup (l++m))
 |t,u=>l1 t λ l=>l1 u λ m=>l.length+m.length<=sizeLine/\K (.own (l++m))
noncomputable def qw(t u:TV)(K:TV->Prop):Prop:=match t,u with
 |.int i,.int j=>IntMulOk i j/\K (.int (i*j))
 |t,.int k=>(match t with|.own l=>(0<=k/\k<2 ^ 63)/\l.length*k.toNat<=sizeLine/\K (.own (List.replicate k.toNat l).flatten)|_=>False)
 |_,_=>False
noncomputable def opP:Operator->TV->TV->(TV->Prop)->Prop
 |.Add,t,u,K=>qv t u K
 |.Sub,t,u,K=>i2 t u λ i j=>K (.int (i-j))
 |.Mult,t,u,K=>qw t u K
 |.FloorDiv,t,u,K=>i2 t u λ i j=>(j≠0/\-18446744073709551616<j/\j<1606938044258990275541962092341162602522202993782792835301376)/\K (.int (aH i j))
 |.Mod,t,u,K=>i2 t u λ i j=>j≠0/\K (.int (aD i j))
 |.Pow,t,u,K=>i2 t u λ i j=>kq i j/\K (.int (i ^ j.toNat))
 |.RShift,t,u,K=>i2 t u λ i j=>0<=j/\K (.int (i/2 ^ j.toNat))
 |.BitAnd,t,u,K=>i2 t u λ i j=>K (.int (Builtin.bitAnd i j))
 |.BitOr,t,u,K=>i2 t u λ i j=>K (.int (Builtin.bitOr i j))
 |.BitXor,t,u,K=>i2 t u λ i j=>K (.int (Builtin.bitXor i j))
 |_,_,_,_=>False
noncomputable def eqC(t u:TV):Prop:=match t,u with
 |.tup l,.tup _=>dp 9 (.tup l)
 |.lst l,.lst _=>dp 9 (.lst l)
 |.int _,.int _=>True|.str _,.str _=>True|.bl _,.bl _=>True|.non,.non=>True
 |.non,.int _=>True|.int _,.non=>True|.non,.str _=>True|.str _,.non=>True|.int _,.str _=>True|.str _,.int _=>True
 |.non,.bl _=>True|.bl _,.non=>True
 |_,_=>False
noncomputable def flT:TV->Bool
 |.non=>true|.bl _=>true|.int _=>true|.str _=>true|_=>false
def inT(x:TV)(l:List TV):Bool:=l.any λ y=>eqT y x
noncomputable def gtQ(t u:TV)(K:TV->Prop):Prop:=match t,u with
 |t,u=>i2 t u λ i j=>K (.bl (decide (j<i)))
noncomputable def gN:CmpOp->TV->TV->(TV->Prop)->Prop
 |.Eq,t,u,K=>eqC t.fz u.fz/\K (.bl (eqT t.fz u.fz))
 |.NotEq,t,u,K=>eqC t.fz u.fz/\K (.bl (!eqT t.fz u.fz))
 |.Lt,t,u,K=>i2 t u λ i j=>K (.bl (decide (i<j)))
 |.LtE,t,u,K=>i2 t u λ i j=>K (.bl (decide (i<=j)))
 |.Gt,t,u,K=>gtQ t u K
 |.GtE,t,u,K=>i2 t u λ i j=>K (.bl (decide (j<=i)))
 |.In,t,u,K=>s1 u λ l=>flT t=true/\(∀x∈l,flT x=true)/\K (.bl (inT t l))
 |.NotIn,t,u,K=>s1 u λ l=>flT t=true/\(∀x∈l,flT x=true)/\K (.bl (!inT t l))
 |.Is,t,u,K=>u=.non/\K (.bl (match t with|.non=>true|_=>false))
 |.IsNot,t,u,K=>u=.non/\K (.bl (match t with|.non=>false|_=>true))
noncomputable def ao(l:List TV)(lo hi:Option Int):List TV:=(l.drop (_H.sIx l.length 0 lo)).take (_H.sIx l.length l.length hi-_H.sIx l.length 0 lo)
noncomputable def oI(t:TV)(P:Option Int->Prop):Prop:=match t with|.non=>P none|.int i=>P (some i)|_=>False
noncomputable def slK(t:TV)(a b:Option Int)(K:TV->Prop):Prop:=match t with
 |.tup l=>K (.tup (ao l a b))
 |.str x=>x.length<=4000000/\K (.str (Txt.slice x a b))
 |t=>l1 t λ l=>K (.own (ao l a b))
noncomputable def ixP(t u:TV)(K:TV->Prop):Prop:=match t with
 |.str x=>i1 u λ i=>x.length<=sizeLine/\∃c,atI x.cps.toList i=some c/\K (.str ⟨#[c]⟩)
 |t=>s1 t λ l=>i1 u λ i=>∃x,atI l i=some x/\K x
noncomputable def LF:TV->Prop
 |.tup l=>∀x∈l,LF x
 |.lst _=>False|.bor _=>False|.own _=>False|.dct _=>False
 |_=>True
noncomputable def k1(b:Bool)(t:TV)(P:List TV->Prop):Prop:=if b=true then (match t with|.tup l=>P l|_=>False) else l1 t P
noncomputable def biP:BI->List TV->(TV->Prop)->Prop
 |.len,[t],K=>(match t with|.str x=>x.length<=sizeLine/\K (.int x.length)|t=>s1 t λ l=>K (.int l.length))
 |.tuple,[t],K=>s1 t λ l=>K (.tup l)
 |.list,[t],K=>s1 t λ l=>K (.own l)
 |.sum,[t],K=>l1 t λ l=>∃ns:LI,l=ns.map .int/\K (.int ns.sum)
 |.max,[t,u],K=>i2 t u λ i j=>K (.int (if j > i then j else i))
 |.max,[t],K=>l1 t λ l=>∃ns:LI,l=ns.map .int/\0<ns.length/\∀M:Int,M∈ns->(∀z∈ns,z<=M)->K (.int M)
 |.min,[t],K=>l1 t λ l=>∃ns:LI,l=ns.map .int/\0<ns.length/\∀M:Int,M∈ns->(∀z∈ns,M<=z)->K (.int M)
 |.min,[t,u],K=>i2 t u λ i j=>K (.int (if j<i then j else i))
 |.abs,[t],K=>i1 t λ i=>K (.int (if i<0 then -i else i))
 |.int,[t],K=>(match t with|.int i=>K (.int i)|.bl k=>K (.int (if k then 1 else 0))|_=>False)
 |.str,[t],K=>i1 t λ i=>i.natAbs.log2<1920/\K (.str (Str.ofString (toString i)))
 |.sorted,[t],K=>s1 t λ l=>∃ns:LI,l=ns.map .int/\ns.length<64/\∀ns':LI,ns'.Perm ns->ns'.Pairwise (·<=·)->K (.own (ns'.map .int))
 |.any,[t],K=>l1 t λ l=>∃bs:List Bool,l=bs.map .bl/\K (.bl (bs.any id))
 |.all,[t],K=>l1 t λ l=>∃bs:List Bool,l=bs.map .bl/\K (.bl (bs.all id))
 |.isI,[t],K=>(match t with|.int _=>K (.bl true)|.bl _=>K (.bl true)|.str _=>K (.bl false)|.non=>K (.bl false)|.tup _=>K (.bl false)|_=>False)
 |.isB,[t],K=>(match t with|.bl _=>K (.bl true)|.int _=>K (.bl false)|.str _=>K (.bl false)|.non=>K (.bl false)|.tup _=>K (.bl false)|_=>False)
 |.isT,[t],K=>(match t with|.tup _=>K (.bl true)|.int _=>K (.bl false)|.str _=>K (.bl false)|.non=>K (.bl false)|.bl _=>K (.bl false)|_=>False)
 |.isL,[t],K=>(match t with|.tup _=>K (.bl false)|.int _=>K (.bl false)|.str _=>K (.bl false)|.non=>K (.bl false)|.bl _=>K (.bl false)|.lst _=>K (.bl true)|.bor _=>K (.bl true)|.own _=>K (.bl true)|.dct _=>False)
 |.isS,[t],K=>(match t with|.tup _=>K (.bl false)|.int _=>K (.bl false)|.str _=>K (.bl true)|.non=>K (.bl false)|.bl _=>K (.bl false)|_=>False)
 |.trev b,[t],K=>k1 b t λ l=>K (.tup l.reverse)
 |.maxlen,[t,u],K=>(match t,u with|.tup l,.tup m=>K (.tup (if l.length<m.length then m else l))|_,_=>False)
 |.lrange k,[t],K=>i1 t λ j=>(0<=j/\j<=1000)/\K (if k=true then .tup ((List.range j.toNat).map λ i=>.int (i:Nat)) else .own ((List.range j.toNat).map λ i=>.int (i:Nat)))
 |_,_,_=>False
noncomputable def z3(l m n:List TV):List TV:=List.zipWith (λ x (p:TV×TV)=>.tup [x,p.1,p.2]) l (m.zip n)
noncomputable def itP:IK->List TV->(List TV->Prop)->Prop
 |.seq,[t],K=>s1 t K
 |.rng,[t],K=>i1 t λ j=>(-(2 ^ 62)<=j/\j<2 ^ 62)/\K ((List.range j.toNat).map λ i=>.int (i:Nat))
 |.rng2,[t,u],K=>i2 t u λ i j=>(-(2 ^ 62)<=i/\i<2 ^ 62/\-(2 ^ 62)<=j/\j<2 ^ 62)/\K ((List.range (j-i).toNat).map λ k=>.int (i+(k:Nat)))
 |.rng3,[t,u,w],K=>i2 t u λ i j=>i1 w λ c=>(c≠0/\c.natAbs<1073741824/\Builtin.Range.small i j c=true)/\K ((List.range (Builtin.Range.rangeSize i j c).toNat).map λ k=>.int (i+(k:Nat)*c))
 |.zip a b,[t,u],K=>k1 a t λ l=>k1 b u λ m=>K (List.zipWith (λ x y=>.tup [x,y]) l m)
 |.zip3,[t,u,w],K=>k1 true t λ l=>k1 true u λ m=>k1 true w λ n=>(m.length=l.length/\n.length=l.length)/\K (z3 l m n)
 |.enum a,[t],K=>k1 a t λ l=>K (l.mapIdx λ i x=>.tup [.int (i:Nat),x])
 |.rev a,[t],K=>k1 a t λ l=>K l.reverse
 |.str,[t],K=>(match t with|.str x=>K (x.cps.toList.map λ c=>.str ⟨#[c]⟩)|_=>False)
 |_,_,_=>False
noncomputable def gtP(s:Option TV)(K:TV->Prop):Prop:=match s with|some (.bor _)=>False|some t=>K t|none=>False
noncomputable def dcP(s:Option TV)(P:List TV->Prop):Prop:=match s with|some (.bor l)=>P l|_=>False
noncomputable def t1(t:TV)(P:Str->Prop):Prop:=match t with|.str x=>P x|_=>False
noncomputable def dlk:List TV->Str->Option TV
 |.tup [.str k,t]::r,x=>if decide (k=x)=true then some t else dlk r x
 |_,_=>none
noncomputable def ssP(t:TV)(K:TV->Prop):Prop:=l1 t λ l=>∃ns:LI,l=ns.map .int/\(ns.length<=1000/\∀ms:LI,ms.Nodup->(∀k,k∈ms ↔ k∈ns)->ms.length<64)/\∀ns':LI,ns'.Pairwise (· < ·)->(∀k,k∈ns' ↔ k∈ns)->K (.own (ns'.map .int))
noncomputable def dcQ(t:TV)(K:TV->Prop):Prop:=l1 t λ l=>∃ps:List (Int×Int),l=ps.map (λ q=>.tup [.int q.1,.int q.2])/\(ps.map (·.1)).Nodup/\K (.dct ps)
noncomputable def dcR(s:Option (Option TV))(P:List (Int×Int)->Prop):Prop:=match s with|some (some (.dct l))=>P l|_=>False
noncomputable def dgT(l:List (Int×Int))(k:Int):TV:=match l.lookup k with|some j=>.int j|none=>.non
noncomputable def rdV:Option (Option TV)->(TV->Prop)->Prop
 |some (some (.dct _)),_=>False
 |some (some t),K=>K (match t with|.own l=>.bor l|t=>t)
 |_,_=>False
noncomputable def stE(ρ:En)(is:List Nat)(t:TV)(K:En->Prop):Prop:=match is with
 |[i]=>K (ρ.set i (some t))
 |[i,j]=>(match t with|.tup [x,y]=>K ((ρ.set i (some x)).set j (some y))|_=>False)
 |[i,j,k]=>(match t with|.tup [x,y,z]=>K (((ρ.set i (some x)).set j (some y)).set k (some z))|_=>False)
 |_=>False
noncomputable def cmF(b:TV->(List TV->Prop)->Prop):List TV->(List TV->Prop)->Prop
 |[],K=>K []
 |t::r,K=>b t λ y=>cmF b r λ ys=>K (y++ys)
section
variable (FT:List PSp)(GT:List TV)
mutual
def wE:Cd->En->(TV->Prop)->Prop
 |.v i,ρ,K=>rdV ρ[i]? K
 |.c t,_,K=>K t
 |.g k,_,K=>gtP GT[k]? K
 |.bin o a b,ρ,K=>wE a ρ λ x=>wE b ρ λ y=>opP o x y K
 |.neg a,ρ,K=>wE a ρ λ x=>i1 x λ i=>K (.int (-i))
 |.not a,ρ,K=>wE a ρ λ x=>b1 x λ i=>K (.bl (!i))
 |.cmp o a b,ρ,K=>wE a ρ λ x=>wE b ρ λ y=>gN o x y K
 |.cm2 o o' a b c,ρ,K=>wE a ρ λ x=>wE b ρ λ y=>gN o x y λ z=>b1 z λ k=>if k=true then wE c ρ λ w=>gN o' y w K else K (.bl false)
 |.and a b,ρ,K=>wE a ρ λ x=>b1 x λ k=>if k=true then wE b ρ K else K (.bl false)
 |.or a b,ρ,K=>wE a ρ λ x=>b1 x λ k=>if k=true then K (.bl true) else wE b ρ K
 |.ite c a b,ρ,K=>wE c ρ λ x=>b1 x λ k=>if k=true then wE a ρ K else wE b ρ K
 |.tup l,ρ,K=>wL l ρ λ ts=>ts.all TV.nb=true/\ts.length<=sizeLine/\K (.tup (ts.map .fz))
 |.lst l,ρ,K=>wL l ρ λ ts=>ts.all TV.nb=true/\ts.length<=sizeLine/\K (.own (ts.map .fz))
 |.ix a b,ρ,K=>wE a ρ λ x=>wE b ρ λ y=>ixP x y K
 |.sl a lo hi,ρ,K=>wE a ρ λ x=>wE lo ρ λ y=>oI y λ p=>wE hi ρ λ z=>oI z λ q=>slK x p q K
 |.call f l,ρ,K=>wL l ρ λ ts=>∃P,(∃S,FT[f]?=some S/\S (ts.map .fz) P)/\∀t,P t->(ts.all TV.nb=false->LF t)/\K t
 |.bi f l,ρ,K=>wL l ρ λ ts=>biP f ts K
 |.isi f a,ρ,K=>wE a ρ λ t=>biP f [t] K
 |.mxl a b,ρ,K=>wE a ρ λ t=>wE b ρ λ u=>biP .maxlen [t,u] K
 |.trev k a,ρ,K=>wE a ρ λ t=>biP (.trev k) [t] K
 |.lrng k a,ρ,K=>wE a ρ λ t=>biP (.lrange k) [t] K
 |.dk k a,ρ,K=>dcP GT[k]? λ kvs=>wE a ρ λ y=>t1 y λ x=>∃t,dlk kvs x=some t/\K t
 |.ss a,ρ,K=>wE a ρ λ t=>ssP t K
 |.di i b,ρ,K=>dcR ρ[i]? λ l=>wE b ρ λ y=>i1 y λ k=>∃j,l.lookup k=some j/\K (.int j)
 |.dg i b,ρ,K=>dcR ρ[i]? λ l=>wE b ρ λ y=>i1 y λ k=>K (dgT l k)
 |.comp own _ js tg k it e,ρ,K=>wL it ρ λ ts=>itP k ts λ its=>its.length<sizeLine /\
   cmF (λ t K'=>stE (List.replicate own.length none++js.map λ j=>(ρ[j]?).join) tg t λ ρ'=>wE e ρ' λ y=>(y.nb=true/\K' [y.fz])) its λ ys=>K (.own ys)
 |.compI own _ js tg k it c e,ρ,K=>wL it ρ λ ts=>itP k ts λ its=>its.length<sizeLine /\
   cmF (λ t K'=>stE (List.replicate own.length none++js.map λ j=>(ρ[j]?).join) tg t λ ρ'=>wE c ρ' λ x=>b1 x λ q=>if q=true then wE e ρ' λ y=>(y.nb=true/\K' [y.fz]) else K' []) its λ ys=>K (.own ys)
 |_,_,_=>False
def wL:Cd->En->(List TV->Prop)->Prop
 |.nil,_,K=>K []
 |.cons a r,ρ,K=>wE a ρ λ t=>wL r ρ λ ts=>K (t::ts)
 |_,_,_=>False
end
end
section
variable {K K':TV->Prop}{t u w:TV}
def jI{P P':Int->Int->Prop}(h:∀i j,P i j->P' i j)(q:i2 t u P):i2 t u P':=by
 cases t<;>cases u<;>first|exact h _ _ q|exact q.elim
def dP{P P':Int->Prop}(h:∀i,P i->P' i)(q:i1 t P):i1 t P':=by
 cases t<;>first|exact h _ q|exact q.elim
def cr{P P':Bool->Prop}(h:∀i,P i->P' i)(q:b1 t P):b1 t P':=by
 cases t<;>first|exact h _ q|exact q.elim
def gO{P P':List TV->Prop}(h:∀i,P i->P' i)(q:l1 t P):l1 t P':=by
 cases t<;>first|exact h _ q|exact q.elim
def mV{P P':List TV->Prop}(h:∀i,P i->P' i)(q:s1 t P):s1 t P':=by
 cases t<;>first|exact h _ q|exact q.elim
def gi{P P':List TV->Prop}(h:∀i,P i->P' i)(q:k1 b t P):k1 b t P':=by
 cases b
 ·exact gO h q
 ·cases t<;>first|exact h _ q|exact q.elim
def mW{P P':Option Int->Prop}(h:∀i,P i->P' i)(q:oI t P):oI t P':=by
 cases t<;>first|exact h _ q|exact q.elim
def Ey(h:∀t,K t->K' t)(q:qv t u K):qv t u K':=by
 cases t<;>cases u<;>first|exact h _ q|exact gj q.1 (h _ q.2)|exact q.elim
def Ez(h:∀t,K t->K' t)(q:qw t u K):qw t u K':=by
 cases t<;>cases u<;>first|exact q.elim|exact gj q.1 (h _ q.2)|exact gj q.1 (gj q.2.1 (gj q.2.2.1 (h _ q.2.2.2)))|exact gj q.1 (gj q.2.1 (h _ q.2.2))
def EA(h:∀t,K t->K' t)(q:opP o t u K):opP o t u K':=by
 cases o<;>first
  |exact q.elim
  |exact Ey h q
  |exact Ez h q
  |exact jI (λ _ _ q=>h _ q) q
  |exact jI (λ _ _ q=>⟨q.1,h _ q.2⟩) q
def EB(h:∀t,K t->K' t)(q:gtQ t u K):gtQ t u K':=by
 cases t<;>cases u<;>first|exact q.elim|exact h _ q|(obtain⟨ns,ms,a,b,q⟩:=q;exact⟨ns,ms,a,b,h _ q⟩)
def gk(h:∀t,K t->K' t)(q:gN o t u K):gN o t u K':=by
 cases o<;>first
  |exact⟨q.1,h _ q.2⟩
  |exact jI (λ _ _ q=>h _ q) q
  |exact EB h q
  |exact mV (λ _ q=>⟨q.1,q.2.1,h _ q.2.2⟩) q
def EC(h:∀t,K t->K' t)(q:slK t a b K):slK t a b K':=by
 cases t<;>first|exact h _ q|exact gj q.1 (h _ q.2)|exact q.elim
def ED(h:∀t,K t->K' t)(q:ixP t u K):ixP t u K':=by
 have a:∀l,(i1 u λ i=>∃x,atI l i=some x/\K x)->i1 u λ i=>∃x,atI l i=some x/\K' x:=λ l q=>dP (λ i ⟨c,e,q⟩=>⟨c,e,h _ q⟩) q;have b:∀x:Str,(i1 u λ i=>x.length<=sizeLine/\∃c,atI x.cps.toList i=some c/\K (.str ⟨#[c]⟩))->i1 u λ i=>x.length<=sizeLine/\∃c,atI x.cps.toList i=some c/\K' (.str ⟨#[c]⟩):=λ l q=>dP (λ i ⟨z,c,e,q⟩=>⟨z,c,e,h _ q⟩) q
 cases t with
 |str x=>exact b x q
 |tup l=>exact a l q
 |lst l=>exact a l q
 |bor l=>exact a l q
 |own l=>exact a l q
 |_=>exact q.elim
def kR(h:∀t,K t->K' t)(q:biP f ts K):biP f ts K':=by
 have sl:∀ {t:TV}{g:List TV->TV},(s1 t λ l=>K (g l))->s1 t λ l=>K' (g l):=λ q=>mV (λ _ q=>h _ q) q;have il:∀ {t:TV}{g:Int->TV},(i1 t λ l=>K (g l))->i1 t λ l=>K' (g l):=λ q=>dP (λ _ q=>h _ q) q;have i2l:∀ {t u:TV}{g:Int->Int->TV},(i2 t u λ i j=>K (g i j))->i2 t u λ i j=>K' (g i j):=λ q=>jI (λ _ _ q=>h _ q) q
 rcases ts with _|⟨t,_|⟨u,_|⟨w,r⟩⟩⟩
 ·cases f<;>exact q.elim
 ·cases f with
  |len=>cases t<;>first|exact h _ q|exact q.elim|exact gj q.1 (h _ q.2)
  |tuple=>exact sl q
  |list=>exact sl q
  |trev b=>exact gi (λ _ q=>h _ q) q
  |sum=>exact gO (λ _ ⟨ns,e,q⟩=>⟨ns,e,h _ q⟩) q
  |max=>exact gO (λ _ ⟨ns,e,l,q⟩=>⟨ns,e,l,λ M m z=>h _ (q M m z)⟩) q
  |min=>exact gO (λ _ ⟨ns,e,l,q⟩=>⟨ns,e,l,λ M m z=>h _ (q M m z)⟩) q
  |abs=>exact il q
  |int=>cases t<;>first|exact h _ q|exact q.elim
  |str=>exact dP (λ _ ⟨a,q⟩=>⟨a,h _ q⟩) q
  |sorted=>exact mV (λ _ ⟨ns,e,l,q⟩=>⟨ns,e,l,λ M m z=>h _ (q M m z)⟩) q
  |any=>exact gO (λ _ ⟨ns,e,q⟩=>⟨ns,e,h _ q⟩) q
  |all=>exact gO (λ _ ⟨ns,e,q⟩=>⟨ns,e,h _ q⟩) q
  |isI=>cases t<;>first|exact h _ q|exact q.elim
  |isB=>cases t<;>first|exact h _ q|exact q.elim
  |isT=>cases t<;>first|exact h _ q|exact q.elim
  |isL=>cases t<;>first|exact h _ q|exact q.elim
  |isS=>cases t<;>first|exact h _ q|exact q.elim
  |lrange k=>exact dP (λ _ ⟨a,q⟩=>⟨a,h _ q⟩) q
  |maxlen=>exact q.elim
 ·cases f with
  |max=>exact i2l q
  |min=>exact i2l q
  |maxlen=>cases t<;>cases u<;>first|exact h _ q|exact q.elim
  |_=>exact q.elim
 ·cases f<;>exact q.elim
def gP{K K':List TV->Prop}(h:∀t,K t->K' t)(q:itP k ts K):itP k ts K':=by
 rcases ts with _|⟨t,_|⟨u,_|⟨w,_|⟨y,r⟩⟩⟩⟩
 ·cases k<;>exact q.elim
 ·cases k with
  |seq=>exact mV h q
  |rng=>exact dP (λ _ ⟨a,q⟩=>⟨a,h _ q⟩) q
  |enum a=>exact gi (λ _ q=>h _ q) q
  |rev a=>exact gi (λ _ q=>h _ q) q
  |str=>cases t<;>first|exact h _ q|exact q.elim
  |_=>exact q.elim
 ·cases k with
  |rng2=>exact jI (λ _ _ ⟨a,q⟩=>⟨a,h _ q⟩) q
  |zip a b=>exact gi (λ _ q=>gi (λ _ q=>h _ q) q) q
  |_=>exact q.elim
 ·cases k with
  |rng3=>exact jI (λ _ _ q=>dP (λ _ ⟨a,q⟩=>⟨a,h _ q⟩) q) q
  |zip3=>exact gi (λ _ q=>gi (λ _ q=>gi (λ _ ⟨a,q⟩=>⟨a,h _ q⟩) q) q) q
  |_=>exact q.elim
 ·cases k<;>exact q.elim
def EG(h:∀t,K t->K' t)(q:gtP s K):gtP s K':=by
 cases s with
 |none=>exact q
 |some t=>cases t<;>first|exact h _ q|exact q.elim
def uW(q:dcP s P):∃l,s=some (.bor l)/\P l:=by
 cases s with
 |none=>exact q.elim
 |some t=>cases t<;>first|exact⟨_,rfl,q⟩|exact q.elim
def EH{t:TV}{K K':TV->Prop}(h:∀t,K t->K' t)(q:ssP t K):ssP t K':=gO (λ l ⟨ns,e,z,q⟩=>⟨ns,e,z,λ a b c=>h _ (q a b c)⟩) q
def EI{t:TV}{K K':TV->Prop}(h:∀t,K t->K' t)(q:dcQ t K):dcQ t K':=gO (λ l ⟨ps,e,z,q⟩=>⟨ps,e,z,h _ q⟩) q
def uX{P P':List (Int×Int)->Prop}(h:∀l,P l->P' l)(q:dcR s P):dcR s P':=by
 rcases s with _|_|t
 ·exact q.elim
 ·exact q.elim
 ·cases t<;>first|exact h _ q|exact q.elim
def EJ{P P':List TV->Prop}(h:∀l,P l->P' l)(q:dcP s P):dcP s P':=by
 obtain⟨l,e,p⟩:=uW q;subst e;exact h l p
def uY(q:t1 t P):∃x,t=.str x/\P x:=by cases t<;>first|exact⟨_,rfl,q⟩|exact q.elim
def EK{P P':Str->Prop}(h:∀x,P x->P' x)(q:t1 t P):t1 t P':=by
 obtain⟨x,e,p⟩:=uY q;subst e;exact h x p
def EL(h:∀t,K t->K' t)(q:rdV s K):rdV s K':=by
 rcases s with _|_|t
 ·exact q
 ·exact q
 ·cases t<;>first|exact h _ q|exact q.elim
def eR{K K':En->Prop}(h:∀t,K t->K' t)(q:stE ρ is t K):stE ρ is t K':=by
 rcases is with _|⟨i,_|⟨j,_|⟨k,_|⟨l,r⟩⟩⟩⟩
 ·exact q.elim
 ·exact h _ q
 ·cases t with
  |tup l=>rcases l with _|⟨x,_|⟨y,_|⟨z,r⟩⟩⟩<;>first|exact h _ q|exact q.elim
  |_=>exact q.elim
 ·cases t with
  |tup l=>rcases l with _|⟨x,_|⟨y,_|⟨z,_|⟨w,r⟩⟩⟩⟩<;>first|exact h _ q|exact q.elim
  |_=>exact q.elim
 ·exact q.elim
theorem mX{b b':TV->(List TV->Prop)->Prop}(hb:∀t K K',(∀y,K y->K' y)->b t K->b' t K'):∀ {l:List TV}{K K':List TV->Prop},(∀y,K y->K' y)->cmF b l K->cmF b' l K'
 |[],_,_,h,q=>h _ q
 |_::_,_,_,h,q=>hb _ _ _ (λ y q=>mX hb (λ ys q=>h _ q) q) q
variable {FT:List PSp}{GT:List TV}
structure Mo (FT:List PSp)(GT:List TV)(c:Cd):Prop where
 e:∀ {ρ:En}{K K':TV->Prop},(∀t,K t->K' t)->wE FT GT c ρ K->wE FT GT c ρ K'
 l:∀ {ρ:En}{K K':List TV->Prop},(∀t,K t->K' t)->wL FT GT c ρ K->wL FT GT c ρ K'
def jJ{k:Bool}{A A' B B':Prop}(ha:A->A')(hb:B->B')(q:if k=true then A else B):if k=true then A' else B':=by
 cases k
 ·exact hb q
 ·exact ha q
def mo(FT:List PSp)(GT:List TV):∀c,Mo FT GT c:=λ c=>by
 induction c with
 |v i=>exact⟨λ h q=>EL h q,λ _ q=>q.elim⟩
 |c t=>exact⟨λ h q=>h _ q,λ _ q=>q.elim⟩
 |g k=>exact⟨λ h q=>EG h q,λ _ q=>q.elim⟩
 |bin o a b ia ib=>exact⟨λ h q=>ia.e (λ x q=>ib.e (λ y q=>EA h q) q) q,λ _ q=>q.elim⟩
 |neg a ia=>exact⟨λ h q=>ia.e (λ x q=>dP (λ _ q=>h _ q) q) q,λ _ q=>q.elim⟩
 |not a ia=>exact⟨λ h q=>ia.e (λ x q=>cr (λ _ q=>h _ q) q) q,λ _ q=>q.elim⟩
 |cmp o a b ia ib=>exact⟨λ h q=>ia.e (λ x q=>ib.e (λ y q=>gk h q) q) q,λ _ q=>q.elim⟩
 |cm2 o o' a b c ia ib ic=>exact⟨λ h q=>ia.e (λ x q=>ib.e (λ y q=>gk (λ z q=>cr (λ k q=>jJ (λ q=>ic.e (λ w q=>gk h q) q) (λ q=>h _ q) q) q) q) q) q,λ _ q=>q.elim⟩
 |and a b ia ib=>exact⟨λ h q=>ia.e (λ x q=>cr (λ k q=>jJ (λ q=>ib.e h q) (λ q=>h _ q) q) q) q,λ _ q=>q.elim⟩
 |or a b ia ib=>exact⟨λ h q=>ia.e (λ x q=>cr (λ k q=>jJ (λ q=>h _ q) (λ q=>ib.e h q) q) q) q,λ _ q=>q.elim⟩
 |ite c a b ic ia ib=>exact⟨λ h q=>ic.e (λ x q=>cr (λ k q=>jJ (λ q=>ia.e h q) (λ q=>ib.e h q) q) q) q,λ _ q=>q.elim⟩
 |nil=>exact⟨λ _ q=>q.elim,λ h q=>h _ q⟩
 |cons a r ia ir=>exact⟨λ _ q=>q.elim,λ h q=>ia.e (λ t q=>ir.l (λ ts q=>h _ q) q) q⟩
 |tup l il=>exact⟨λ h q=>il.l (λ ts ⟨a,b,q⟩=>⟨a,b,h _ q⟩) q,λ _ q=>q.elim⟩
 |lst l il=>exact⟨λ h q=>il.l (λ ts ⟨a,b,q⟩=>⟨a,b,h _ q⟩) q,λ _ q=>q.elim⟩
 |ix a b ia ib=>exact⟨λ h q=>ia.e (λ x q=>ib.e (λ y q=>ED h q) q) q,λ _ q=>q.elim⟩
 |sl a lo hi ia il ih=>exact⟨λ h q=>ia.e (λ x q=>il.e (λ y q=>mW (λ p q=>ih.e (λ z q=>mW (λ r q=>EC h q) q) q) q) q) q,λ _ q=>q.elim⟩
 |call f l il=>exact⟨λ h q=>il.l (λ ts q=>let ⟨P,s,q⟩:=q;⟨P,s,λ t p=>⟨(q t p).1,h _ (q t p).2⟩⟩) q,λ _ q=>q.elim⟩
 |bi f l il=>exact⟨λ h q=>il.l (λ ts q=>kR h q) q,λ _ q=>q.elim⟩
 |isi f a ia=>exact⟨λ h q=>ia.e (λ t q=>kR h q) q,λ _ q=>q.elim⟩
 |mxl a b ia ib=>exact⟨λ h q=>ia.e (λ t q=>ib.e (λ u q=>kR h q) q) q,λ _ q=>q.elim⟩
 |trev k a ia=>exact⟨λ h q=>ia.e (λ t q=>kR h q) q,λ _ q=>q.elim⟩
 |dk k a ia=>exact⟨λ h q=>EJ (λ kvs q=>ia.e (λ y q=>EK (λ x ⟨t,e,q⟩=>⟨t,e,h _ q⟩) q) q) q,λ _ q=>q.elim⟩
 |ss a ia=>exact⟨λ h q=>ia.e (λ t q=>EH h q) q,λ _ q=>q.elim⟩
 |di i b ib=>exact⟨λ h q=>uX (λ l q=>ib.e (λ y q=>dP (λ k ⟨j,e,q⟩=>⟨j,e,h _ q⟩) q) q) q,λ _ q=>q.elim⟩
 |dg i b ib=>exact⟨λ h q=>uX (λ l q=>ib.e (λ y q=>dP (λ k q=>h _ q) q) q) q,λ _ q=>q.elim⟩
 |lrng k a ia=>exact⟨λ h q=>ia.e (λ t q=>kR h q) q,λ _ q=>q.elim⟩
 |comp own fv js tg k it e ii ie=>exact⟨λ h q=>ii.l (λ ts q=>gP (λ its q=>⟨q.1,mX (λ t K K' h q=>eR (λ ρ' q=>ie.e (λ y q=>⟨q.1,h _ q.2⟩) q) q) (λ ys q=>h _ q) q.2⟩) q) q,λ _ q=>q.elim⟩
 |compI own fv js tg k it c e ii ic ie=>exact⟨λ h q=>ii.l (λ ts q=>gP (λ its q=>⟨q.1,mX (λ t K K' h q=>eR (λ ρ' q=>ic.e (λ x q=>cr (λ z q=>jJ (λ q=>ie.e (λ y q=>⟨q.1,h _ q.2⟩) q) (λ q=>h _ q) q) q) q) q) (λ ys q=>h _ q) q.2⟩) q) q,λ _ q=>q.elim⟩
def av(c:Cd){K K':TV->Prop}(h:∀t,K t->K' t)(q:wE FT GT c ρ K):wE FT GT c ρ K':=(mo FT GT c).e h q
def cD(c:Cd){K K':List TV->Prop}(h:∀t,K t->K' t)(q:wL FT GT c ρ K):wL FT GT c ρ K':=(mo FT GT c).l h q
end
example (FT:List PSp) (GT:List TV) (K:TV->Prop):wE FT GT (.neg (.v 0)) [some (.int 3)] K=K (.int (-3)):=rfl
section
variable {J:Hp->Prop}
noncomputable def r2(X:Cx)(J:Hp->Prop)(p:TV->TV->(TV->Prop)->Prop):R2:=λ x y H1 Q=>∃F H F1 t u,Grow J F H F1 H1/\Rr X.K H F1 H1 t x/\Rr X.K H F1 H1 u y/\p t u λ r=>∀F' H' v,Grow J F H F' H'->Rr X.K H F' H' r v->Q v H'
def dC(h:i2 t u P):∃i j,t=.int i/\u=.int j/\P i j:=by
 cases t<;>cases u<;>first|exact⟨_,_,rfl,rfl,h⟩|exact h.elim
def dQ(h:i1 t P):∃i,t=.int i/\P i:=by
 cases t<;>first|exact⟨_,rfl,h⟩|exact h.elim
def gQ(h:b1 t P):∃i,t=.bl i/\P i:=by
 cases t<;>first|exact⟨_,rfl,h⟩|exact h.elim
def eU(h:l1 t P):∃l,t.items=some (false,l)/\P l:=by
 cases t<;>first|exact⟨_,rfl,h⟩|exact h.elim
def jK(h:s1 t P):∃b l,t.items=some (b,l)/\P l:=by
 cases t<;>first|exact⟨_,_,rfl,h⟩|exact h.elim
def Rr.lq{K:FG}{l:List TV}(h:Rr K H F' H' t v)(e:t.items=some (false,l)):∃a vs,v=.ref a/\RpL K F' H' l vs/\SqL K H' a vs:=by
 obtain⟨a,vs,e,r,q⟩:=h.sq e
 rcases q with ⟨z,_⟩|⟨_,q⟩
 ·cases z
 ·exact⟨a,vs,e,r,q⟩
def iJ(hJ:JS J){K:FG}{Q:VK}{vs:List V}(g:Grow J F H F1 H1)(r:RpL K F1 H1 l vs)(q:∀F' H' v,Grow J F H F' H'->Rr K H F' H' (.tup l) v->Q v H')(p:Addr)(hp:H1 p=none):Q (.ref p) (upd H1 p (.tup vs)) :=
 q F1 _ _ (g.trans (.new hJ g.w _ hp)) ⟨p,vs,rfl,.of cV,r.ke (Grow.new hJ g.w _ hp).ke⟩
def Grow.none(g:Grow J F H F1 H1)(h:H1 a=none):H a=none:=by
 by_cases z:H a=Option.none
 ·exact z
 ·exact absurd h (g.dm a z)
def eV(hJ:JS J){K:FG}{Q:VK}{vs:List V}(g:Grow J F H F1 H1)(r:RpL K F1 H1 l vs)(q:∀F' H' v,Grow J F H F' H'->Rr K H F' H' (.own l) v->Q v H')(p:Addr)(hp:H1 p=none):Q (.ref p) (upd H1 p (.lst vs)) :=
 q F1 _ _ (g.trans (.new hJ g.w _ hp)) ⟨p,vs,rfl,g.none hp,λ z=>g.w.d p z hp,cV,r.ke (Grow.new hJ g.w _ hp).ke⟩
def EM(hJ:JS J)(o:Operator):OpR X (binaryOp o) (r2 X J (opP o)):=by
 intro pins s σ H1 x y v u Q I rx ry h;obtain⟨F,H,F1,t,w,g,rt,rw',p⟩:=h
 cases o with
 |Add=>
  cases t with
  |int i=>
   cases rt
   cases w with
   |int j=>cases rw';exact zP pins s σ H1 _ _ v u Q I rx ry (p F1 H1 _ g rfl)
   |_=>exact p.elim
  |tup l=>
   cases w with
   |tup m=>
    obtain⟨a,vs,rfl,q1,r1⟩:=rt;obtain⟨b,ws,rfl,q2,r2⟩:=rw';obtain⟨lz,p⟩:=p;have rr:=r1.append r2;refine BX pins s σ H1 _ _ v u Q I rx ry ⟨a,b,vs,ws,O,O,q1,q2,by rw[<- r1.length,<- r2.length];exact lz,λ e=>?_,λ _ e=>?_,λ _ _=>iJ hJ g rr p⟩
    ·subst e;exact p F1 H1 _ g ⟨b,_,rfl,q2,rr⟩
    ·subst e;rw[gE] at rr;exact p F1 H1 _ g ⟨a,_,rfl,q1,rr⟩
   |_=>exact p.elim
  |lst l=>
   obtain⟨m,em,lz,p⟩:=eU p;obtain⟨a,vs,rfl,r1,q1⟩:=rt.lq rfl;obtain⟨b,ws,rfl,r2,q2⟩:=rw'.lq em;exact pS pins s σ H1 _ _ v u Q I rx ry ⟨a,b,vs,ws,O,O,q1,q2,by rw[<- r1.length,<- r2.length];exact lz,eV hJ g (r1.append r2) p⟩
  |bor l=>
   obtain⟨m,em,lz,p⟩:=eU p;obtain⟨a,vs,rfl,r1,q1⟩:=rt.lq rfl;obtain⟨b,ws,rfl,r2,q2⟩:=rw'.lq em;exact pS pins s σ H1 _ _ v u Q I rx ry ⟨a,b,vs,ws,O,O,q1,q2,by rw[<- r1.length,<- r2.length];exact lz,eV hJ g (r1.append r2) p⟩
  |own l=>
   obtain⟨m,em,lz,p⟩:=eU p;obtain⟨a,vs,rfl,r1,q1⟩:=rt.lq rfl;obtain⟨b,ws,rfl,r2,q2⟩:=rw'.lq em;exact pS pins s σ H1 _ _ v u Q I rx ry ⟨a,b,vs,ws,O,O,q1,q2,by rw[<- r1.length,<- r2.length];exact lz,eV hJ g (r1.append r2) p⟩
  |_=>exact p.elim
 |Sub=>
  obtain⟨i,j,rfl,rfl,p⟩:=dC p;cases rt;cases rw';exact zQ pins s σ H1 _ _ v u Q I rx ry (p F1 H1 _ g rfl)
 |Mult=>
  cases t with
  |int i=>
   cases rt
   cases w with
   |int j=>cases rw';exact CP pins s σ H1 _ _ v u Q I rx ry ⟨p.1,p.2 F1 H1 _ g rfl⟩
   |_=>exact p.elim
  |own l=>
   cases w with
   |int k=>
    cases rw';obtain⟨a,vs,rfl,n,f,q,r⟩:=rt;obtain⟨k0,lz,p⟩:=p
    have rr:RpL X.K F1 H1 (List.replicate k.toNat l).flatten (List.replicate k.toNat vs).flatten:=by
     generalize k.toNat=m
     induction m with
     |zero=>rfl
     |succ m ih=>rw[iy,iy,jq,jq];exact r.append ih
    exact Bk pins s σ H1 _ _ v u Q I rx ry ⟨a,k,vs,O,O,q,fu,k0.2,by rw[<- r.length];exact lz,eV hJ g rr p⟩
   |_=>exact p.elim
  |_=>cases w<;>exact p.elim
 |FloorDiv=>
  obtain⟨i,j,rfl,rfl,⟨c1,c2,c3⟩,p⟩:=dC p;cases rt;cases rw';by_cases c:0<j
  ·rw[show aH i j=i/j by unfold aH;rw[if_pos c]] at p;exact Cs pins s σ H1 _ _ v u Q I rx ry ⟨⟨c,c3⟩,p F1 H1 _ g rfl⟩
  ·rw[show aH i j=i.fdiv j by unfold aH;rw[if_neg c]] at p;exact Bz pins s σ H1 _ _ v u Q I rx ry ⟨⟨c1,c2,fu⟩,p F1 H1 _ g rfl⟩
 |Mod=>
  obtain⟨i,j,rfl,rfl,c1,p⟩:=dC p;cases rt;cases rw';by_cases c:0<j
  ·rw[show aD i j=i%j by unfold aD;rw[if_pos c]] at p;exact zR pins s σ H1 _ _ v u Q I rx ry ⟨c,p F1 H1 _ g rfl⟩
  ·rw[show aD i j=i.fmod j by unfold aD;rw[if_neg c]] at p;exact zU pins s σ H1 _ _ v u Q I rx ry ⟨c1,p F1 H1 _ g rfl⟩
 |Pow=>
  obtain⟨i,j,rfl,rfl,c1,p⟩:=dC p;cases rt;cases rw';exact zV pins s σ H1 _ _ v u Q I rx ry ⟨c1,p F1 H1 _ g rfl⟩
 |RShift=>
  obtain⟨i,j,rfl,rfl,c1,p⟩:=dC p;cases rt;cases rw';exact zW pins s σ H1 _ _ v u Q I rx ry ⟨c1,p F1 H1 _ g rfl⟩
 |BitAnd=>
  obtain⟨i,j,rfl,rfl,p⟩:=dC p;cases rt;cases rw';exact zX pins s σ H1 _ _ v u Q I rx ry (p F1 H1 _ g rfl)
 |BitOr=>
  obtain⟨i,j,rfl,rfl,p⟩:=dC p;cases rt;cases rw';exact zY pins s σ H1 _ _ v u Q I rx ry (p F1 H1 _ g rfl)
 |BitXor=>
  obtain⟨i,j,rfl,rfl,p⟩:=dC p;cases rt;cases rw';exact zZ pins s σ H1 _ _ v u Q I rx ry (p F1 H1 _ g rfl)
 |_=>exact p.elim
end
section
variable {J:Hp->Prop}{pins:LO}{σ:St}{H H1:Hp}{s:Shared}{F F1:Fz}
def FA:Fz:=λ _=>True
def Rr.top{K:FG}(h:Rr K H F1 H1 t v):Rp K FA H1 t.fz v:=by
 have k:Ke K F1 H1 FA H1:=.up λ _ _=>trivial
 cases t with
 |own l=>obtain⟨a,vs,e,_,_,q,r⟩:=h;exact⟨a,vs,e,.inl ⟨trivial,.of q⟩,r.ke k⟩
 |bor l=>obtain⟨a,vs,e,_,q,r⟩:=h;exact⟨a,vs,e,.inl ⟨trivial,.of q⟩,r.ke k⟩
 |_=>exact Rp.ke k h
def qx{K:FG}(h:Rp K F H t v)(f:flT t=true):fE v=true:=by
 cases t<;>first|(cases h;rfl)|(cases f)
def EN{K:FG}(h:Rp K F H t v)(g:Rp K F H u w)(f:flT t=true)(f':flT u=true):eqV v w=eqT t u:=by
 cases t<;>cases u<;>first|(cases h;cases g;rfl)|(cases f;done)|(cases f';done)
theorem qy{K:FG}:∀ {l:List TV}{vs:List V},RpL K F H l vs->(∀x∈l,flT x=true)->vs.all fE=true
 |[],_,h,_=>by cases h;rfl
 |t::ts,_,⟨v,r,e,h1,h2⟩,f=>by subst e;rw[da,qx h1 (f t pv),qy h2 λ x hx=>f x (by simp[hx])];rfl
theorem qz{K:FG}(ht:Rp K F H t v)(f:flT t=true):∀ {l:List TV}{vs:List V},RpL K F H l vs->(∀x∈l,flT x=true)->inV v vs=inT t l
 |[],_,h,_=>by cases h;rfl
 |u::ts,_,⟨w,r,e,h1,h2⟩,g=>by
  subst e;have ih:=qz ht f h2 λ x hx=>g x (by simp[hx]);unfold inV inT at *;rw[kA,kA,ih,EN h1 ht (g u pv) f]
theorem uZ(I:Inv X pins σ H s){A:Around}{vs ws:List V}(hu:A.units+9<cLine)(d:dp 9 (.tup l))(q:SqT X.K H a vs)(r:RpL X.K F H l vs)(q':SqT X.K H b ws)(r':RpL X.K F H m ws) :
  ∃(us us2:LV),s.heap.IsTuple a us.toArray/\s.heap.IsTuple b us2.toArray/\(∀j (h1:j<us.toArray.size) (h2:j<us2.toArray.size),SeqAt.EqAt A.in1 s us.toArray[j] us2.toArray[j] (eqT (l.getD j .non) (m.getD j .non))) /\
   ((List.range (min us.toArray.size us2.toArray.size)).all (λ j=>eqT (l.getD j .non) (m.getD j .non))&&us.toArray.size == us2.toArray.size)=eqTL l m:=by
 obtain⟨us,r1,p1,_⟩:=I.tuple q;obtain⟨us2,r2,p2,_⟩:=I.tuple q';have d':∀x∈l,dp 8 x:=d;refine⟨us,us2,p1,p2,λ j k1 k2=>?_,?_⟩
 ·obtain⟨z1,h1,r1',m1⟩:=gM r r1 k1;obtain⟨z2,h2,r2',_⟩:=gM r' r2 k2;exact uV I 8 A.in1 _ _ z1 z2 _ _ (by show A.units+1+8<cLine;lia) (d' _ m1) h1 h2 r1' r2'
 ·have e1:us.toArray.size=l.length:=by simp[r.length,r1.length]
  have e2:us2.toArray.size=m.length:=by simp[r'.length,r2.length]
  rw[e1,e2];by_cases c:l.length=m.length
  ·rw[<- c,Nat.min_self,jH c];simp
  ·rw[jG c];have c':(l.length == m.length)=false:=by simpa using c
   rw[c',mU]
theorem vc(I:Inv X pins σ H s){A:Around}{vs ws:List V}(hu:A.units+9<cLine)(d:dp 9 (.lst l))(q:SqL X.K H a vs)(r:RpL X.K F H l vs)(q':SqL X.K H b ws)(r':RpL X.K F H m ws) :
  ∃(us us2:LV),s.heap.IsList a us.toArray/\s.heap.IsList b us2.toArray/\(∀j (h1:j<us.toArray.size) (h2:j<us2.toArray.size),SeqAt.EqAt A.in1 s us.toArray[j] us2.toArray[j] (eqT (l.getD j .non) (m.getD j .non)))/\us.toArray.size=l.length/\us2.toArray.size=m.length:=by
 obtain⟨us,r1,p1,_⟩:=I.list q;obtain⟨us2,r2,p2,_⟩:=I.list q';have d':∀x∈l,dp 8 x:=d;refine⟨us,us2,p1.isList,p2.isList,λ j k1 k2=>?_,by simp[r.length,r1.length],by simp[r'.length,r2.length]⟩;obtain⟨z1,h1,r1',m1⟩:=gM r r1 k1;obtain⟨z2,h2,r2',_⟩:=gM r' r2 k2;exact uV I 8 A.in1 _ _ z1 z2 _ _ (by show A.units+1+8<cLine;lia) (d' _ m1) h1 h2 r1' r2'
noncomputable def r2c(X:Cx)(J:Hp->Prop)(p:TV->TV->(TV->Prop)->Prop):R2:=λ x y H1 Q=>∃F H F1 t u,Grow J F H F1 H1/\Rr X.K H F1 H1 t x/\Rr X.K H F1 H1 u y/\p t u λ r=>∀v,Rr X.K H F1 H1 r v->Q v H1
def EO(hu:X.A.units+20<cLine):OpR X (compareOp .Eq) (r2c X J (gN .Eq)):=by
 intro pins s σ H1 x y v u Q I rx ry h;obtain⟨F,H,F1,t,w,g,rt,rw',c,p⟩:=h;replace p:=p _ rfl;have ht:=rt.top;have hw:=rw'.top;generalize t.fz=t at *;generalize w.fz=w at *;clear rt rw';have fin:EP X pins σ Q (.bool (eqT t w)) s:=⟨.bl _,H1,I,rfl,p⟩
 cases t with
 |tup l=>
  cases w with
  |tup m=>
   obtain⟨a,vs,rfl,q,r⟩:=ht;obtain⟨b,ws,rfl,q',r'⟩:=hw;cases rx;cases ry;obtain⟨us,us2,p1,p2,e,z⟩:=uZ I (A:=X.A) fu c q r q' r';exact SeqAt.eq_tupleAt p1 p2 fu e (by rw[z];exact fin)
  |_=>exact c.elim
 |lst l=>
  cases w with
  |lst m=>
   obtain⟨a,vs,rfl,q,r⟩:=ht;obtain⟨b,ws,rfl,q',r'⟩:=hw;cases rx;cases ry;obtain⟨us,us2,p1,p2,e,e1,e2⟩:=vc I (A:=X.A) fu c q.sq r q'.sq r';by_cases k:l.length=m.length
   ·exact SeqAt.eq_listAt p1 p2 (by rw[e1,e2,k]) fu e (by rw[e1,jH k];exact fin)
   ·refine SeqAt.eq_list_lengthsAt p1 p2 (by rw[e1,e2];simpa using k) fu ?_;rw[mT,jG k] at fin;exact fin
  |_=>exact c.elim
 |int i=>
  cases w with
  |int j=>cases ht;cases hw;exact dW pins s σ H1 _ _ v u Q I rx ry p
  |non=>cases ht;cases hw;exact dW pins s σ H1 _ _ v u Q I rx ry (show bq _ _=true/\_ from ⟨rfl,p⟩)
  |str j=>cases ht;cases hw;exact dW pins s σ H1 _ _ v u Q I rx ry (show bq _ _=true/\_ from ⟨rfl,p⟩)
  |_=>exact c.elim
 |str i=>
  cases w with
  |str j=>cases ht;cases hw;exact dW pins s σ H1 _ _ v u Q I rx ry p
  |non=>cases ht;cases hw;exact dW pins s σ H1 _ _ v u Q I rx ry (show bq _ _=true/\_ from ⟨rfl,p⟩)
  |int j=>cases ht;cases hw;exact dW pins s σ H1 _ _ v u Q I rx ry (show bq _ _=true/\_ from ⟨rfl,p⟩)
  |_=>exact c.elim
 |bl i=>
  cases w with
  |bl j=>cases ht;cases hw;refine dW pins s σ H1 _ _ v u Q I rx ry (show bq _ _=true/\_ from ⟨rfl,?_⟩);cases i<;>cases j<;>exact p
  |non=>cases ht;cases hw;exact dW pins s σ H1 _ _ v u Q I rx ry (show bq _ _=true/\_ from ⟨rfl,p⟩)
  |_=>exact c.elim
 |non=>
  cases w with
  |non=>cases ht;cases hw;exact dW pins s σ H1 _ _ v u Q I rx ry (show bq _ _=true/\_ from ⟨rfl,p⟩)
  |int j=>cases ht;cases hw;exact dW pins s σ H1 _ _ v u Q I rx ry (show bq _ _=true/\_ from ⟨rfl,p⟩)
  |str j=>cases ht;cases hw;exact dW pins s σ H1 _ _ v u Q I rx ry (show bq _ _=true/\_ from ⟨rfl,p⟩)
  |bl j=>cases ht;cases hw;exact dW pins s σ H1 _ _ v u Q I rx ry (show bq _ _=true/\_ from ⟨rfl,p⟩)
  |_=>exact c.elim
 |_=>exact ht.elim
def EQ(hu:X.A.units+20<cLine):OpR X (compareOp .NotEq) (r2c X J (gN .NotEq)):=by
 intro pins s σ H1 x y v u Q I rx ry h;obtain⟨F,H,F1,t,w,g,rt,rw',c,p⟩:=h;replace p:=p _ rfl;have ht:=rt.top;have hw:=rw'.top;generalize t.fz=t at *;generalize w.fz=w at *;clear rt rw';have fin:EP X pins σ Q (.bool (!eqT t w)) s:=⟨.bl _,H1,I,rfl,p⟩
 cases t with
 |tup l=>
  cases w with
  |tup m=>
   obtain⟨a,vs,rfl,q,r⟩:=ht;obtain⟨b,ws,rfl,q',r'⟩:=hw;cases rx;cases ry;obtain⟨us,us2,p1,p2,e,z⟩:=uZ I (A:=X.A) fu c q r q' r';exact SeqAt.RcNeAt.tuples p1 p2 fu e _ _ _ _ (by rw[z];exact fin)
  |_=>exact c.elim
 |lst l=>
  cases w with
  |lst m=>
   obtain⟨a,vs,rfl,q,r⟩:=ht;obtain⟨b,ws,rfl,q',r'⟩:=hw;cases rx;cases ry;obtain⟨us,us2,p1,p2,e,e1,e2⟩:=vc I (A:=X.A) fu c q.sq r q'.sq r';by_cases k:l.length=m.length
   ·exact SeqAt.RcNeAt.lists p1 p2 (by rw[e1,e2,k]) fu e _ _ _ _ (by rw[e1,jH k];exact fin)
   ·refine SeqAt.RcNeAt.lists_lengths p1 p2 (by rw[e1,e2];simpa using k) fu _ _ _ _ ?_;rw[mT,jG k] at fin;exact fin
  |_=>exact c.elim
 |int i=>
  cases w with
  |int j=>cases ht;cases hw;exact dX pins s σ H1 _ _ v u Q I rx ry p
  |non=>cases ht;cases hw;exact dX pins s σ H1 _ _ v u Q I rx ry (show bq _ _=true/\_ from ⟨rfl,p⟩)
  |str j=>cases ht;cases hw;exact dX pins s σ H1 _ _ v u Q I rx ry (show bq _ _=true/\_ from ⟨rfl,p⟩)
  |_=>exact c.elim
 |str i=>
  cases w with
  |str j=>cases ht;cases hw;exact dX pins s σ H1 _ _ v u Q I rx ry p
  |non=>cases ht;cases hw;exact dX pins s σ H1 _ _ v u Q I rx ry (show bq _ _=true/\_ from ⟨rfl,p⟩)
  |int j=>cases ht;cases hw;exact dX pins s σ H1 _ _ v u Q I rx ry (show bq _ _=true/\_ from ⟨rfl,p⟩)
  |_=>exact c.elim
 |bl i=>
  cases w with
  |bl j=>cases ht;cases hw;refine dX pins s σ H1 _ _ v u Q I rx ry (show bq _ _=true/\_ from ⟨rfl,?_⟩);cases i<;>cases j<;>exact p
  |non=>cases ht;cases hw;exact dX pins s σ H1 _ _ v u Q I rx ry (show bq _ _=true/\_ from ⟨rfl,p⟩)
  |_=>exact c.elim
 |non=>
  cases w with
  |non=>cases ht;cases hw;exact dX pins s σ H1 _ _ v u Q I rx ry (show bq _ _=true/\_ from ⟨rfl,p⟩)
  |int j=>cases ht;cases hw;exact dX pins s σ H1 _ _ v u Q I rx ry (show bq _ _=true/\_ from ⟨rfl,p⟩)
  |str j=>cases ht;cases hw;exact dX pins s σ H1 _ _ v u Q I rx ry (show bq _ _=true/\_ from ⟨rfl,p⟩)
  |bl j=>cases ht;cases hw;exact dX pins s σ H1 _ _ v u Q I rx ry (show bq _ _=true/\_ from ⟨rfl,p⟩)
  |_=>exact c.elim
 |_=>exact ht.elim
def jL(hu:X.A.units+20<cLine)(o:CmpOp):OpR X (compareOp o) (r2c X J (gN o)):=by
 cases o with
 |Eq=>exact EO hu
 |NotEq=>exact EQ hu
 |In=>
  intro pins s σ H1 x y v u Q I rx ry h;obtain⟨F,H,F1,t,w,g,rt,rw',p⟩:=h;obtain⟨b,l,e,f1,f2,p⟩:=jK p;obtain⟨a,vs,rfl,r,q⟩:=rw'.sq e
  have ht:Rp X.K F1 H1 t x:=by cases t<;>first|exact rt|cases f1
  refine AU pins s σ H1 _ _ v u Q I rx ry ⟨a,vs,O,?_,qx ht f1,qy r f2,?_⟩
  ·rcases q with ⟨_,q⟩|⟨_,q⟩
   ·exact .inr q
   ·exact .inl q
  ·rw[if_neg on,qz ht f1 r f2];exact p _ rfl
 |NotIn=>
  intro pins s σ H1 x y v u Q I rx ry h;obtain⟨F,H,F1,t,w,g,rt,rw',p⟩:=h;obtain⟨b,l,e,f1,f2,p⟩:=jK p;obtain⟨a,vs,rfl,r,q⟩:=rw'.sq e
  have ht:Rp X.K F1 H1 t x:=by cases t<;>first|exact rt|cases f1
  refine AW pins s σ H1 _ _ v u Q I rx ry ⟨a,vs,O,?_,qx ht f1,qy r f2,?_⟩
  ·rcases q with ⟨_,q⟩|⟨_,q⟩
   ·exact .inr q
   ·exact .inl q
  ·rw[if_pos rfl,qz ht f1 r f2];exact p _ rfl
 |Is=>
  intro pins s σ H1 x y v u Q I rx ry h;obtain⟨F,H,F1,t,w,g,rt,rw',rfl,p⟩:=h;cases rw';have hx:=rt.top;refine Ah pins s σ H1 _ _ v u Q I rx ry ⟨O,?_⟩;replace p:=p _ rfl
  cases t<;>first|exact False.elim hx|(cases hx;exact p)|(obtain⟨a,vs,rfl,_⟩:=hx;exact p)
 |IsNot=>
  intro pins s σ H1 x y v u Q I rx ry h;obtain⟨F,H,F1,t,w,g,rt,rw',rfl,p⟩:=h;cases rw';have hx:=rt.top;refine Ai pins s σ H1 _ _ v u Q I rx ry ⟨O,?_⟩;replace p:=p _ rfl
  cases t<;>first|exact False.elim hx|(cases hx;exact p)|(obtain⟨a,vs,rfl,_⟩:=hx;exact p)
 |Lt=>intro pins s σ H1 x y v u Q I rx ry h;obtain⟨F,H,F1,t,w,g,rt,rw',p⟩:=h;obtain⟨i,j,rfl,rfl,p⟩:=dC p;cases rt;cases rw';exact Ad pins s σ H1 _ _ v u Q I rx ry (p _ rfl)
 |LtE=>intro pins s σ H1 x y v u Q I rx ry h;obtain⟨F,H,F1,t,w,g,rt,rw',p⟩:=h;obtain⟨i,j,rfl,rfl,p⟩:=dC p;cases rt;cases rw';exact Ae pins s σ H1 _ _ v u Q I rx ry (p _ rfl)
 |Gt=>
  intro pins s σ H1 x y v u Q I rx ry h;obtain⟨F,H,F1,t,w,g,rt,rw',p⟩:=h;cases t<;>cases w<;>try exact p.elim
  ·cases rt;cases rw';exact Af pins s σ H1 _ _ v u Q I rx ry (p _ rfl)
 |GtE=>intro pins s σ H1 x y v u Q I rx ry h;obtain⟨F,H,F1,t,w,g,rt,rw',p⟩:=h;obtain⟨i,j,rfl,rfl,p⟩:=dC p;cases rt;cases rw';exact Ag pins s σ H1 _ _ v u Q I rx ry (p _ rfl)
def ES{K:FG}{vs:List V}(r:RpL K F H l vs)(e:atI l i=some t):∃v,atI vs i=some v/\Rp K F H t v:=by
 unfold atI at *;rw[<- r.length]
 cases q:ixN l.length i with
 |none=>rw[q] at e;cases e
 |some j=>rw[q] at e;exact r.get e
def ET:IxR X (r2 X J ixP):=by
 intro value slice pins s σ H1 x y v u Q I rx ry h hs;obtain⟨F,H,F1,t,w,g,rt,rw',p⟩:=h
 have key:∀b l,t.items=some (b,l)->(i1 w λ i=>∃x,atI l i=some x/\∀F' H' v,Grow J F H F' H'->Rr X.K H F' H' x v->Q v H')->wpAny (model X.prog X.w) X.A (subscriptTail value slice v u) (EP X pins σ Q) X.xe s:=λ b l e p=>by
  obtain⟨i,rfl,z,ez,p⟩:=dQ p;cases rw';obtain⟨a,vs,rfl,r,q⟩:=rt.sq e;obtain⟨zv,e1,rz⟩:=ES r ez;have fin:=p F1 H1 _ g (Rr.of rz)
  rcases q with ⟨_,q⟩|⟨_,q⟩
  ·exact oY value slice pins s σ H1 _ _ v u Q I rx ry (.inr (.inl ⟨a,vs,i,zv,O,O,q,e1,fin⟩)) hs
  ·exact oY value slice pins s σ H1 _ _ v u Q I rx ry (.inl ⟨a,vs,i,zv,O,O,q,e1,fin⟩) hs
 cases t with
 |str x=>
  obtain⟨i,rfl,lz,c,ec,p⟩:=dQ p;cases rw';cases rt;exact oY value slice pins s σ H1 _ _ v u Q I rx ry (.inr (.inr ⟨x,i,c,O,O,lz,ec,p F1 H1 _ g rfl⟩)) hs
 |tup l=>exact key _ _ rfl p
 |lst l=>exact key _ _ rfl p
 |bor l=>exact key _ _ rfl p
 |own l=>exact key _ _ rfl p
 |_=>exact p.elim
noncomputable def rsl(X:Cx)(J:Hp->Prop):V->Option Int->Option Int->Hp->VK->Prop:=λ x lo hi H1 Q=>∃F H F1 t,Grow J F H F1 H1/\Rr X.K H F1 H1 t x /\
 slK t lo hi λ r=>∀F' H' v,Grow J F H F' H'->Rr X.K H F' H' r v->Q v H'
def qA{K:FG}{vs:List V}(r:RpL K F H l vs)(lo hi:Option Int):RpL K F H (ao l lo hi) (fZ vs lo hi):=by
 unfold ao fZ;rw[<- r.length];exact(r.drop _).take _
def EU(hJ:JS J):SlR X (rsl X J):=by
 intro pins s σ H1 x v vl vu lo hi sl Q I rx hs pl pu h;obtain⟨F,H,F1,t,g,rt,p⟩:=h
 have key:∀l,t.items=some (false,l)->(∀F' H' v,Grow J F H F' H'->Rr X.K H F' H' (.own (ao l lo hi)) v->Q v H')->∃T id,typeLookup (.type T) "__getitem__"=pure (some (.builtin id))/\s.TypeIs v T/\wpAny (model X.prog X.w) X.A (getItem v (.ref sl)) (EP X pins σ Q) X.xe s:=λ l e p=>by
  obtain⟨a,vs,rfl,r,q⟩:=rt.lq e;exact AT pins s σ H1 _ v vl vu lo hi sl Q I rx hs pl pu ⟨a,vs,O,q,eV hJ g (qA r lo hi) p⟩
 cases t with
 |tup l=>
  obtain⟨a,xs,rfl,ha,r⟩:=rt;by_cases c:_H.sIx xs.length 0 lo=0/\_H.sIx xs.length xs.length hi=xs.length
  ·cases rx;obtain⟨its,rr,ht,hz⟩:=I.tuple ha;have hlen:its.toArray.size=xs.length:=by rw[aO];exact rr.length.symm
   refine⟨"tuple",_,PyProof.Rows.slot_tuple_getitem.lookup,ht.typeIs,_H.whole_tup ht hs pl pu (by rw[hlen];exact c.1) (by rw[hlen];exact c.2) ⟨.ref a,H1,I,O,p F1 H1 _ g ⟨a,xs,O,ha,?_⟩⟩⟩;have z:=qA r lo hi;unfold fZ at z
   rwa [c.1,c.2,List.drop_zero,Nat.sub_zero,dh] at z
  ·exact AH pins s σ H1 _ v vl vu lo hi sl Q I rx hs pl pu ⟨a,xs,O,ha,c,iJ hJ g (qA r lo hi) p⟩
 |str z=>cases rt;exact CY pins s σ H1 _ v vl vu lo hi sl Q I rx hs pl pu ⟨z,rfl,p.1,p.2 F1 H1 _ g rfl⟩
 |lst l=>exact key l rfl p
 |bor l=>exact key l rfl p
 |own l=>exact key l rfl p
 |_=>exact p.elim
end
section
variable {J:Hp->Prop}
noncomputable def vd(X:Cx):V->V->Hp->VK->Prop:=λ x y H Q=>∃(a b:Addr) (xs ys:List V),x=.ref a/\y=.ref b/\SqT X.K H a xs/\SqT X.K H b ys/\(ys.length<=xs.length->Q (.ref a) H)/\(xs.length<ys.length->Q (.ref b) H)
def EW{p kp pos p2:Pos}(hc:X.calm=true)(hg:Gl X "max")(hm:X.mg "max"=none)(hg2:Gl X "len")(hm2:X.mg "len"=none)(he:PE X e te)(hf:PE X f tf)(hs:starEach [e,f] X.env=(false,eval e X.env)::starEach [f] X.env:=by rfl)(hs2:starEach [f] X.env=[(false,eval f X.env)]:=by rfl):PE X (.Call (.Name "max" p) [e,f] [⟨some (Str.ofString "key"),.Name "len" p2,kp⟩] pos) (Dy (vd X) te tf):=by
 intro pins s σ H Q I h;refine lQ (dA I hg hm boot_max ?_);have hA:=(cO he (cO hf (pa_nil (X:=X)) hs2) hs) pos pins s σ H (λ vs H1=>match vs with|[x,y]=>vd X x y H1 Q|_=>False) I h;refine callWith_kw (thn hA λ us s1 ⟨vs,H1,I1,r1,q1⟩=>?_) (by rw[hs,hs2];rfl) (by rw[hs,hs2];rfl)
 match vs,q1 with
 |[x0,y0],q1=>
  obtain⟨u,v,rfl,ru,rv⟩:=jh r1;refine kws_cons (dA I1 hg2 hm2 boot_len (kws_nil ?_));obtain⟨a,b,xs,ys,rfl,rfl,ha,hb,qa,qb⟩:=q1;cases (show u=Value.ref a from ru);cases (show v=Value.ref b from rv);obtain⟨i1,t1,p1,y1⟩:=I1.tuple ha;obtain⟨i2,t2,p2',y2⟩:=I1.tuple hb;have l1:=t1.length;have l2:=t2.length;have hsz:sizeLine=16777216:=kr;refine Dx (I1.ok.hd hc) p1 p2' (by rw[aO];omega) (by rw[aO];omega) λ v h' tk hv kk=>?_;simp only[aO] at hv
  rcases hv with ⟨rfl,hl⟩|⟨rfl,hl⟩
  ·exact⟨.ref a,H1,I1.kept kk,O,qa (by omega)⟩
  ·exact⟨.ref b,H1,I1.kept kk,O,qb (by omega)⟩
noncomputable def rL(X:Cx)(J:Hp->Prop)(p:List TV->(TV->Prop)->Prop):List V->Hp->VK->Prop:=λ xs H1 Q=>∃F H F1 ts,Grow J F H F1 H1/\RrL X.K H F1 H1 ts xs/\p ts λ r=>∀F' H' v,Grow J F H F' H'->Rr X.K H F' H' r v->Q v H'
noncomputable def biV:BI->Value
 |.len=>.builtin "len" |.tuple=>.type "tuple" |.list=>.type "list" |.sum=>.builtin "sum" |.max=>.builtin "max" |.min=>.builtin "min" |.abs=>.builtin "abs" |.int=>.type "int" |.str=>.type "str"
 |.sorted=>.builtin "sorted" |.any=>.builtin "any" |.all=>.builtin "all" |_=>.none
def iK{K:FG}{t:TV}(h:RrL K H F1 H1 [t] xs):∃x,xs=[x]/\Rr K H F1 H1 t x:=by
 cases h with
 |cons r q=>cases q;exact⟨_,rfl,r⟩
def mY{K:FG}{t u:TV}(h:RrL K H F1 H1 [t,u] xs):∃x y,xs=[x,y]/\Rr K H F1 H1 t x/\Rr K H F1 H1 u y:=by
 cases h with
 |cons r q=>obtain⟨y,rfl,r'⟩:=iK q;exact⟨_,y,rfl,r,r'⟩
def EX(h:rL X J p xs H1 Q)(n:∀ts K,p ts K->ts.length=1):∃F H F1 t x,xs=[x]/\Grow J F H F1 H1/\Rr X.K H F1 H1 t x/\p [t] λ r=>∀F' H' v,Grow J F H F' H'->Rr X.K H F' H' r v->Q v H':=by
 obtain⟨F,H,F1,ts,g,r,q⟩:=h
 match ts,n _ _ q with
 |[t],_=>obtain⟨x,rfl,rx⟩:=iK r;exact⟨F,H,F1,t,x,rfl,g,rx,q⟩
def qB{K:FG}{b:Bool}{vs:List V}(q:(b=true/\SqT K H' a vs)\/(b=false/\SqL K H' a vs)):SqL K H' a vs\/SqT K H' a vs:=q.elim (λ z=>.inr z.2) λ z=>.inl z.2
def bi1{f:BI}(h:f=.len\/f=.tuple\/f=.list\/f=.sum\/f=.abs\/f=.int\/f=.sorted\/f=.any):∀ts K,biP f ts K->ts.length=1:=by
 intro ts K q
 rcases ts with _|⟨t,_|⟨u,_|⟨w,r⟩⟩⟩
 ·rcases h with rfl|rfl|rfl|rfl|rfl|rfl|rfl|rfl<;>exact q.elim
 ·rfl
 ·rcases h with rfl|rfl|rfl|rfl|rfl|rfl|rfl|rfl<;>exact q.elim
 ·rcases h with rfl|rfl|rfl|rfl|rfl|rfl|rfl|rfl<;>exact q.elim
def gR(hJ:JS J)(hc:X.calm=true)(f:BI)(h:f=.len\/f=.tuple\/f=.list\/f=.sum\/f=.abs\/f=.int\/f=.sorted\/f=.any):bo X (biV f) (rL X J (biP f)):=by
 intro pins s σ H1 xs us Q I rs hh;obtain⟨F,H,F1,t,x,rfl,g,rt,p⟩:=EX hh (bi1 h)
 rcases h with rfl|rfl|rfl|rfl|rfl|rfl|rfl|rfl
 ·have key:∀b l,t.items=some (b,l)->(∀F' H' v,Grow J F H F' H'->Rr X.K H F' H' (.int l.length) v->Q v H')->wpAny (model X.prog X.w) X.A (call (biV .len) us) (EP X pins σ Q) X.xe s:=λ b l e p=>by
   obtain⟨a,vs,rfl,r,q⟩:=rt.sq e;exact AX pins s σ H1 _ us Q I rs ⟨a,vs,O,qB q,by rw[<- r.length];exact p F1 H1 _ g rfl⟩
  cases t with
  |str z=>cases rt;exact AY pins s σ H1 _ us Q I rs ⟨z,rfl,p.1,p.2 F1 H1 _ g rfl⟩
  |tup l=>exact key _ _ rfl p
  |lst l=>exact key _ _ rfl p
  |bor l=>exact key _ _ rfl p
  |own l=>exact key _ _ rfl p
  |_=>exact p.elim
 ·obtain⟨b,l,e,p⟩:=jK p;obtain⟨a,vs,rfl,r,q⟩:=rt.sq e;refine Ba pins s σ H1 _ us Q I rs ⟨a,vs,O,?_⟩
  rcases q with ⟨_,q⟩|⟨_,q⟩
  ·exact .inr ⟨q,p F1 H1 _ g ⟨a,vs,O,q,r⟩⟩
  ·exact .inl ⟨q,iJ hJ g r p⟩
 ·obtain⟨b,l,e,p⟩:=jK p;obtain⟨a,vs,rfl,r,q⟩:=rt.sq e;exact AZ pins s σ H1 _ us Q I rs ⟨a,vs,O,qB q,eV hJ g r p⟩
 ·obtain⟨l,e,ns,rfl,p⟩:=eU p;obtain⟨a,vs,rfl,r,q⟩:=rt.lq e;cases r.ints;exact BY hc pins s σ H1 _ us Q I rs ⟨a,ns,O,q,p F1 H1 _ g rfl⟩
 ·obtain⟨i,rfl,p⟩:=dQ p;cases rt;exact Ao pins s σ H1 _ us Q I rs ⟨i,O,p F1 H1 _ g rfl⟩
 ·cases t with
  |int i=>cases rt;exact sQ pins s σ H1 _ us Q I rs (.inl ⟨i,rfl,p F1 H1 _ g rfl⟩)
  |bl i=>cases rt;exact sQ pins s σ H1 _ us Q I rs (.inr ⟨i,rfl,p F1 H1 _ g rfl⟩)
  |_=>exact p.elim
 ·obtain⟨b,l,e,ns,rfl,n64,p⟩:=jK p;obtain⟨a,vs,rfl,r,q⟩:=rt.sq e;cases r.ints;exact CQ pins s σ H1 _ us Q I rs ⟨a,ns,O,qB q,n64,λ ns' p1 p2=>eV hJ g (RpL.ofInts ns') (p ns' p1 p2)⟩
 ·obtain⟨l,e,ns,rfl,p⟩:=eU p;obtain⟨a,vs,rfl,r,q⟩:=rt.lq e;cases r.bls;exact CZ hc pins s σ H1 _ us Q I rs ⟨a,ns,O,q,p F1 H1 _ g rfl⟩
def EY(hc:X.calm=true):bo X (.builtin "max") (rL X J (biP .max)):=by
 intro pins s σ H1 xs us Q I rs h;obtain⟨F,H,F1,ts,g,r,p⟩:=h
 rcases ts with _|⟨t,_|⟨u,_|⟨w,r⟩⟩⟩
 ·exact p.elim
 ·obtain⟨x,rfl,rt⟩:=iK r;obtain⟨l,e,ns,rfl,l0,p⟩:=eU p;obtain⟨a,vs,rfl,r,q⟩:=rt.lq e;cases r.ints;exact Ds hc pins s σ H1 _ us Q I rs ⟨a,ns,O,q,l0,λ M m z=>p M m z F1 H1 _ g rfl⟩
 ·obtain⟨x,y,rfl,rt,ru⟩:=mY r;obtain⟨i,j,rfl,rfl,p⟩:=dC p;cases rt;cases ru;exact Ap hc pins s σ H1 _ us Q I rs ⟨i,j,O,p F1 H1 _ g rfl⟩
 ·exact p.elim
def EZ(hc:X.calm=true):bo X (.builtin "min") (rL X J (biP .min)):=by
 intro pins s σ H1 xs us Q I rs h;obtain⟨F,H,F1,ts,g,r,p⟩:=h
 rcases ts with _|⟨t,_|⟨u,_|⟨w,r⟩⟩⟩
 ·exact p.elim
 ·obtain⟨x,rfl,rt⟩:=iK r;obtain⟨l,e,ns,rfl,l0,p⟩:=eU p;obtain⟨a,vs,rfl,r,q⟩:=rt.lq e;cases r.ints;exact Dr hc pins s σ H1 _ us Q I rs ⟨a,ns,O,q,l0,λ M m z=>p M m z F1 H1 _ g rfl⟩
 ·obtain⟨x,y,rfl,rt,ru⟩:=mY r;obtain⟨i,j,rfl,rfl,p⟩:=dC p;cases rt;cases ru;exact Aq hc pins s σ H1 _ us Q I rs ⟨i,j,O,p F1 H1 _ g rfl⟩
 ·exact p.elim
noncomputable def isN:BI->String
 |.isI=> "int" |.isB=> "bool" |.isT=> "tuple" |.isL=> "list" |.isS=> "str" |_=> ""
noncomputable def tyT:TV->String
 |.non=> "NoneType" |.bl _=> "bool" |.int _=> "int" |.str _=> "str" |.tup _=> "tuple" |_=> "list"
theorem Fa{t:TV}{Q:VS}(I:Inv X pins σ H1 s)(ht:Rp X.K FA H1 t.fz x)(rx:RelV x u)
  (e:W.kitOne X.K (.type (tyT t)) (.type n)=some b) (h:∀tk,Q (.bool b) { s with toks:=tk }):wpAny (model X.prog X.w) A (call (.builtin "isinstance") [u,.type n]) Q E s:=by
 have lst:∀ {l a vs},x=.ref a->SqL X.K H1 a vs->RpL X.K FA H1 l vs->tyT t="list" -> wpAny (model X.prog X.w) A (call (.builtin "isinstance") [u,.type n]) Q E s:=λ ex q r et=>by
  subst ex;cases rx;obtain⟨its,_,⟨o,n,e1,c,_⟩,_⟩:=I.list q;rw[et] at e;exact jM W.kitx_list I.kIn ⟨_,e1,c⟩ e (λ z=>nomatch z) h
 cases t with
 |non=>cases ht;cases rx;exact jM W.kitx_none I.kIn jC e (λ z=>nomatch z) h
 |bl y=>cases ht;cases rx;exact jM W.kitx_bool I.kIn jC e (λ z=>nomatch z) h
 |int i=>cases ht;obtain⟨t,rfl⟩:=rx;exact jM W.kitx_int I.kIn jC e (λ z=>nomatch z) h
 |str i=>cases ht;obtain⟨t,rfl⟩:=rx;exact jM W.kitx_str I.kIn jC e (λ z=>nomatch z) h
 |tup l=>
  obtain⟨a,vs,rfl,q,r⟩:=ht;cases rx;obtain⟨its,_,⟨o,e1,c,_⟩,_⟩:=I.tuple q;exact jM W.kitx_tuple I.kIn ⟨_,e1,c⟩ e (λ z=>nomatch z) h
 |lst l=>obtain⟨a,vs,rfl,q,r⟩:=ht;exact lst rfl q.sq r rfl
 |bor l=>obtain⟨a,vs,rfl,q,r⟩:=ht;exact lst rfl q.sq r rfl
 |own l=>obtain⟨a,vs,rfl,q,r⟩:=ht;exact lst rfl q.sq r rfl
 |dct l=>exact ht.elim
def Fb{K:FG}(f:BI)(h:f=.isI\/f=.isB\/f=.isT\/f=.isL\/f=.isS)(t:TV):W.kitOne K (.type (tyT t)) (.type (isN f))=some (pq (tyT t) (isN f)):=by
 have m:tyT t="NoneType" \/ tyT t="bool" \/ tyT t="int" \/ tyT t="str" \/ tyT t="tuple" \/ tyT t="list" := by cases t<;>simp[tyT]
 generalize tyT t=y at *
 rcases m with rfl|rfl|rfl|rfl|rfl|rfl<;>rcases h with rfl|rfl|rfl|rfl|rfl<;>exact BA (by decide +kernel)
def Fc(f:BI)(h:f=.isI\/f=.isB\/f=.isT\/f=.isL\/f=.isS):bo X (.builtin "isinstance") (λ xs H1 Q=>∃x,xs=[x,.ty (isN f)]/\rL X J (biP f) [x] H1 Q):=by
 intro pins s σ H1 xs us Q I rs hh;obtain⟨x,rfl,F,H,F1,ts,g,r,p⟩:=hh;obtain⟨u,w',rfl,rx,ry⟩:=jh rs;cases (show w'=Value.type _ from ry)
 have n1:∃t,ts=[t]:=by
  cases r with
  |cons a b=>cases b;exact⟨_,rfl⟩
 obtain⟨t,rfl⟩:=n1;obtain⟨_,e0,rt⟩:=iK r;cases e0;refine Fa I rt.top rx (Fb f h t) λ tk=>⟨.bl _,H1,I.tok tk,O,?_⟩;have e1:∀b,pq (tyT t) (isN f)=b->(∀F' H' v,Grow J F H F' H'->Rr X.K H F' H' (.bl b) v->Q v H')->Q (.bl (pq (tyT t) (isN f))) H1:=λ b e q=>by rw[e];exact q F1 H1 _ g rfl
 rcases h with rfl|rfl|rfl|rfl|rfl<;>cases t<;>first|exact p.elim|exact e1 true (by simp only[tyT,isN];decide +kernel) p|exact e1 false (by simp only[tyT,isN];decide +kernel) p
end
section
variable {K:FG}{J:Hp->Prop}
noncomputable def Vw(K:FG)(F:Fz)(H:Hp)(t:TV)(x:V):Prop:=match t.items with
 |some (true,l)=>∃a vs,x=.ref a/\SqT K H a vs/\RpL K F H l vs
 |some (false,l)=>∃a vs,x=.ref a/\SqL K H a vs/\RpL K F H l vs
 |none=>Rp K F H t x
def Vw.l{t:TV}{l:List TV}(h:Vw K F H t x)(e:t.items=some (false,l)):∃a vs,x=.ref a/\SqL K H a vs/\RpL K F H l vs:=by
 unfold Vw at h;rw[e] at h;exact h
def Vw.t{t:TV}{l:List TV}(h:Vw K F H t x)(e:t.items=some (true,l)):∃a vs,x=.ref a/\SqT K H a vs/\RpL K F H l vs:=by
 unfold Vw at h;rw[e] at h;exact h
def Rr.vw{H F1 H1}(h:Rr K H F1 H1 t x):Vw K F1 H1 t x:=by
 unfold Vw
 cases e:t.items with
 |none=>cases t<;>first|exact h|cases e
 |some p=>
  obtain⟨b,l⟩:=p;obtain⟨a,vs,rfl,r,q⟩:=h.sq e;cases b
  ·rcases q with ⟨z,_⟩|⟨_,q⟩
   ·cases z
   ·exact⟨a,vs,O,q,r⟩
  ·rcases q with ⟨_,q⟩|⟨z,_⟩
   ·exact⟨a,vs,O,q,r⟩
   ·cases z
def Rp.vw{F1 H1}{t:TV}(h:Rp K F1 H1 t.fz x):Vw K F1 H1 t x:=by
 cases t with
 |bor l=>obtain⟨a,vs,e,q,r⟩:=h;exact⟨a,vs,e,q.sq,r⟩
 |own l=>obtain⟨a,vs,e,q,r⟩:=h;exact⟨a,vs,e,q.sq,r⟩
 |lst l=>obtain⟨a,vs,e,q,r⟩:=h;exact⟨a,vs,e,q.sq,r⟩
 |_=>exact h
structure ItOk (K:FG)(J:Hp->Prop)(Jt:It)(its ts:List TV)(xs:List V):Prop where
 go:∀F H i,Wd J F H->Paired (Vw K F H) ts xs->i<its.length->Jt.go i H
 stop:∀F H,Wd J F H->Paired (Vw K F H) ts xs->Jt.stop its.length H
 yld:∀F H i x H',Wd J F H->Paired (Vw K F H) ts xs->i<its.length->Jt.yld i H x H'->∃t,its[i]?=some t/\Grow J F H F H'/\Rp K F H' t x
def eG{t:TV}{x:V}(h:Paired (Vw K F H) [t] [x]):Vw K F H t x:=by cases h with|cons r _=>exact r
def gm{α:Type}{l:List α}{i:Nat}(h:i<l.length):∃x,l[i]?=some x:=⟨_,aF h⟩
theorem Fd{t:TV}{l:List TV}(e:t.items=some (false,l)):ItOk K J (Itl K a) l [t] [.ref a] where
 go F H i w h hi:=by
  obtain⟨b,vs,eb,q,r⟩:=(eG h).l e;cases eb;obtain⟨x,ex⟩:=gm (l:=vs) (by rw[<- r.length];exact hi);exact⟨vs,x,q,ex⟩
 stop F H w h:=by
  obtain⟨b,vs,eb,q,r⟩:=(eG h).l e;cases eb;exact⟨vs,q,by rw[r.length];exact ar _⟩
 yld F H i x H' w h hi y:=by
  obtain⟨b,vs,eb,q,r⟩:=(eG h).l e;cases eb;obtain⟨rfl,y⟩:=y;obtain⟨t,et⟩:=gm hi;obtain⟨v,ev,rv⟩:=r.get et;have:=y vs q;rw[ev] at this;cases this;exact⟨t,et,.refl w,rv⟩
theorem Fe{t:TV}{l:List TV}(e:t.items=some (true,l)):ItOk K J (Itt K a) l [t] [.ref a] where
 go F H i w h hi:=by
  obtain⟨b,vs,eb,q,r⟩:=(eG h).t e;cases eb;obtain⟨x,ex⟩:=gm (l:=vs) (by rw[<- r.length];exact hi);exact⟨vs,x,q,ex⟩
 stop F H w h:=by
  obtain⟨b,vs,eb,q,r⟩:=(eG h).t e;cases eb;exact⟨vs,q,by rw[r.length];exact ar _⟩
 yld F H i x H' w h hi y:=by
  obtain⟨b,vs,eb,q,r⟩:=(eG h).t e;cases eb;obtain⟨rfl,y⟩:=y;obtain⟨t,et⟩:=gm hi;obtain⟨v,ev,rv⟩:=r.get et;have:=y vs q;rw[ev] at this;cases this;exact⟨t,et,.refl w,rv⟩
theorem Ff(lo:Int)(n:Nat):ItOk K J (Itr lo n) ((List.range n).map λ k=>.int (lo+(k:Nat))) ts xs where
 go F H i w h hi:=by show i<n;simpa using hi
 stop F H w h:=by show n<=_;simp
 yld F H i x H' w h hi y:=by
  obtain⟨rfl,rfl⟩:=y;have hi':i<n:=by simpa using hi
  exact⟨.int (lo+(i:Nat)),by rw[aX,gT hi'];rfl,.refl w,O⟩
theorem Fg(lo st:Int)(n:Nat):ItOk K J (Its lo st n) ((List.range n).map λ k=>.int (lo+(k:Nat)*st)) ts xs where
 go F H i w h hi:=by show i<n;simpa using hi
 stop F H w h:=by show n<=_;simp
 yld F H i x H' w h hi y:=by
  obtain⟨rfl,rfl⟩:=y;have hi':i<n:=by simpa using hi
  exact⟨.int (lo+(i:Nat)*st),by rw[aX,gT hi'];rfl,.refl w,O⟩
theorem Fh(hJ:JS J){t:TV}{l:List TV}(e:t.items=some (true,l)):ItOk K J (Ite K a) (l.mapIdx λ i x=>.tup [.int (i:Nat),x]) [t] [.ref a] where
 go F H i w h hi:=by
  obtain⟨b,vs,eb,q,r⟩:=(eG h).t e;cases eb;obtain⟨x,ex⟩:=gm (l:=vs) (by rw[<- r.length];simpa using hi);exact⟨vs,x,q,ex⟩
 stop F H w h:=by
  obtain⟨b,vs,eb,q,r⟩:=(eG h).t e;cases eb;exact⟨vs,q,by rw[<- r.length];simp⟩
 yld F H i x H' w h hi y:=by
  obtain⟨b,vs,eb,q,r⟩:=(eG h).t e;cases eb;obtain⟨T,z,rfl,hT,rfl,y⟩:=y;obtain⟨t,et⟩:=gm (l:=l) (i:=i) (by simpa using hi);obtain⟨v,ev,rv⟩:=r.get et;have:=y vs q;rw[ev] at this;cases this;have g:Grow J F H F (upd H T (.tup [.int i,z])):=.new hJ w _ hT;exact⟨.tup [.int (i:Nat),t],by rw[qC,et];rfl,g,T,_,O,.of cV,_,_,O,O,_,_,O,rv.ke g.ke,O⟩
theorem Fi(hJ:JS J){t:TV}{l:List TV}(e:t.items=some (false,l)):ItOk K J (mC K a) (l.mapIdx λ i x=>.tup [.int (i:Nat),x]) [t] [.ref a] where
 go F H i w h hi:=by
  obtain⟨b,vs,eb,q,r⟩:=(eG h).l e;cases eb;obtain⟨x,ex⟩:=gm (l:=vs) (by rw[<- r.length];simpa using hi);exact⟨vs,x,q,ex⟩
 stop F H w h:=by
  obtain⟨b,vs,eb,q,r⟩:=(eG h).l e;cases eb;exact⟨vs,q,by rw[<- r.length];simp⟩
 yld F H i x H' w h hi y:=by
  obtain⟨b,vs,eb,q,r⟩:=(eG h).l e;cases eb;obtain⟨T,z,rfl,hT,rfl,y⟩:=y;obtain⟨t,et⟩:=gm (l:=l) (i:=i) (by simpa using hi);obtain⟨v,ev,rv⟩:=r.get et;have:=y vs q;rw[ev] at this;cases this;have g:Grow J F H F (upd H T (.tup [.int i,z])):=.new hJ w _ hT;exact⟨.tup [.int (i:Nat),t],by rw[qC,et];rfl,g,T,_,O,.of cV,_,_,O,O,_,_,O,rv.ke g.ke,O⟩
theorem Vw.b{t:TV}{b:Bool}{l:List TV}(h:Vw K F H t x)(e:t.items=some (b,l)):∃a vs,x=.ref a/\SqB K b H a vs/\RpL K F H l vs:=by
 cases b
 ·exact h.l e
 ·exact h.t e
theorem ve{α β:Type}{R:α->β->Prop}{a:α}{b:β}:∀ {l:List α}{m:List β}{i:Nat},Paired R l m->l[i]?=some a->m[i]?=some b->R a b
 |_,_,0,.cons r _,e,e'=>by cases e;cases e';exact r
 |_,_,i+1,.cons _ h,e,e'=>ve (i:=i) h (by simpa using e) (by simpa using e')
theorem vf:∀ {ts:List TV}{vs:List V},ts.length=vs.length->(∀(d:Nat) t v,ts[d]?=some t->vs[d]?=some v->Rp K F H t v)->RpL K F H ts vs
 |[],[],_,_=>rfl
 |_::_,_::_,l,h=>⟨_,_,rfl,h 0 _ _ rfl rfl,vf (by simpa using l) λ d t v a b=>h (d+1) t v (by simpa using a) (by simpa using b)⟩
theorem Fj(hJ:JS J){S:List (Bool×Addr)}{ts rows:List TV}{L:Nat->List TV}(ht:∀(d:Nat) (s:Bool×Addr),S[d]?=some s->∃t,ts[d]?=some t/\t.items=some (s.1,L d))
  (hs:∃e,e<S.length/\(L e).length<=rows.length/\∀d,d<e->rows.length<(L d).length) (hy:∀i,i<rows.length->∃tl,rows[i]?=some (.tup tl)/\tl.length=S.length/\∀d,d<S.length->i<(L d).length/\tl[d]?=(L d)[i]?) :
  ItOk K J (Itn K S) rows ts (S.map λ s=>V.ref s.2):=by
 have V:∀ {F:Fz}{H:Hp},Paired (Vw K F H) ts (S.map λ s=>V.ref s.2)->∀(d:Nat) (s:Bool×Addr),S[d]?=some s->∃vs,SqB K s.1 H s.2 vs/\RpL K F H (L d) vs:=λ {F H} h d s q=>by
  obtain⟨t,e,it⟩:=ht d s q;obtain⟨a,vs,ea,q,r⟩:=(ve h e (b:=.ref s.2) (by rw[aX,q];rfl)).b it;cases ea;exact⟨vs,q,r⟩
 refine⟨λ F H i w h hi d s q=>?_,λ F H w h=>?_,λ F H i x H' w h hi y=>?_⟩
 ·obtain⟨vs,q1,r⟩:=V h d s q;obtain⟨tl,_,_,z⟩:=hy i hi;exact⟨vs,q1,r.length ▸ (z d (eQ q)).1⟩
 ·obtain⟨e,le,l1,l2⟩:=hs;refine⟨e,le,λ d s q=>?_⟩;obtain⟨vs,q1,r⟩:=V h d s q;exact⟨vs,q1,λ z=>r.length ▸ l2 d z,λ z=>r.length ▸ z ▸ l1⟩
 ·obtain⟨T,vs,rfl,hT,rfl,lv,y⟩:=y;obtain⟨tl,er,lt,z⟩:=hy i hi;have g:Grow J F H F (upd H T (.tup vs)):=.new hJ w _ hT;refine⟨_,er,g,T,vs,O,.of cV,vf (lt.trans lv.symm) λ d t v a b=>?_⟩;have hd:d<S.length:=lt ▸ eQ a;obtain⟨ws,q1,r⟩:=V h d _ (aF hd);rw[(z d hd).2] at a;obtain⟨v',ev,rv⟩:=r.get a;rw[y d _ ws (aF hd) q1,ev] at b;cases b;exact rv.ke g.ke
def Fk(hJ:JS J){t u:TV}{l m:List TV}{a b:Addr}{c d:Bool}(e:t.items=some (c,l))(e':u.items=some (d,m)):ItOk K J (Itn K [(c,a),(d,b)]) (List.zipWith (λ x y=>.tup [x,y]) l m) [t,u] [.ref a,.ref b]:=by
 refine Fj hJ (L:=λ k=>if k=0 then l else m) (λ k s q=>?_) ?_ λ i hi=>?_
 ·match k,q with
  |0,rfl=>exact⟨t,rfl,e⟩
  |1,rfl=>exact⟨u,rfl,e'⟩
 ·rw[s0v]
  rcases fO m.length l.length with q|q
  ·exact⟨1,Nat.le.refl,by simp;lia,λ k hk=>by rw[if_pos fu];lia⟩
  ·exact⟨0,kM _,by simp;lia,λ k hk=>absurd hk (gJ _)⟩
 ·rw[s0v] at hi;have l1:i<l.length:=fu;have l2:i<m.length:=fu;refine⟨_,by rw[List.getElem?_zipWith,aF l1,aF l2],O,λ k hk=>?_⟩
  rcases(show k=0\/k=1 by simp at hk;lia) with rfl|rfl<;>simp[l1,l2]
end
noncomputable def gl(nm:List (Str×NameKind))(x:Str):Bool:=decide (nm.lookup x=some .globalImplicit)
noncomputable def vs(nm:List (Str×NameKind))(x:Str):Bool:=decide (nm.lookup x=some .local) || decide (nm.lookup x=some .cell) || decide (nm.lookup x=some .free)
noncomputable def cf(nm:List (Str×NameKind))(x:Str):Bool:=decide (nm.lookup x=some .cell) || decide (nm.lookup x=some .free)
noncomputable def okN(x:Str):Bool:=!decide (x=("__debug__" : Str)) && !decide (x=("__classdict__" : Str)) && !decide (x=("__name__" : Str))
noncomputable def ckC:TV->Const->Bool
 |.int i,.int j=>decide (i=j)
 |.str x,.str y=>decide (x=y)
 |.bl x,.bool y=>decide (x=y)
 |.non,.none=>true
 |_,_=>false
def vg:Cd->Bool
 |.nil=>true|_=>false
def jN:Cd->Bool
 |.c .non=>true|_=>false
def aN:Expr->Bool
 |.Starred ..=>false|_=>true
def dR:Expr->Bool
 |.Set ..=>false|_=>true
noncomputable def gp:Expr->Bool
 |.Name ..=>true|.Constant (.int _) _ _=>true|.BinOp ..=>true|.Subscript ..=>true|.Call ..=>true|.UnaryOp ..=>true|_=>false
noncomputable def vh:BI->Bool
 |.isI=>true|.isB=>true|.isT=>true|.isL=>true|.isS=>true|_=>false
noncomputable def biN:BI->Option Str
 |.len=>some "len" |.tuple=>some "tuple" |.list=>some "list" |.sum=>some "sum" |.max=>some "max" |.min=>some "min" |.abs=>some "abs" |.int=>some "int"
 |.sorted=>some "sorted" |.any=>some "any" |_=>none
noncomputable def bp(e:Expr)(k:Str->Pos->Bool):Bool:=match e with|.Name x p=>k x p|_=>false
@[elab_as_elim] theorem bj{motive:Expr->Prop}{e:Expr}{k:Str->Pos->Bool}(h:bp e k=true)(f:∀x p,k x p=true->motive (.Name x p)):motive e:=by cases e<;>first|exact f _ _ h|exact Bool.noConfusion h
def Fl(h:bp e k=true):∃x p,e=.Name x p/\k x p=true:=by cases e<;>first|exact⟨_,_,rfl,h⟩|exact Bool.noConfusion h
noncomputable def vi(e:Expr)(k:Const->Nat->Pos->Bool):Bool:=match e with|.Constant x p q=>k x p q|_=>false
@[elab_as_elim] theorem Fm{motive:Expr->Prop}{e:Expr}{k:Const->Nat->Pos->Bool}(h:vi e k=true)(f:∀x p q,k x p q=true->motive (.Constant x p q)):motive e:=by cases e<;>first|exact f _ _ _ h|exact Bool.noConfusion h
noncomputable def vj(e:Expr)(k:Expr->Operator->Expr->Pos->Bool):Bool:=match e with|.BinOp x p q r=>k x p q r|_=>false
@[elab_as_elim] theorem Fn{motive:Expr->Prop}{e:Expr}{k:Expr->Operator->Expr->Pos->Bool}(h:vj e k=true)(f:∀x p q r,k x p q r=true->motive (.BinOp x p q r)):motive e:=by cases e<;>first|exact f _ _ _ _ h|exact Bool.noConfusion h
noncomputable def cUn(e:Expr)(k:UnaryOp->Expr->Pos->Bool):Bool:=match e with|.UnaryOp x p q=>k x p q|_=>false
@[elab_as_elim] theorem vk{motive:Expr->Prop}{e:Expr}{k:UnaryOp->Expr->Pos->Bool}(h:cUn e k=true)(f:∀x p q,k x p q=true->motive (.UnaryOp x p q)):motive e:=by cases e<;>first|exact f _ _ _ h|exact Bool.noConfusion h
noncomputable def qD(e:Expr)(k:Expr->List CmpOp->List Expr->Pos->Bool):Bool:=match e with|.Compare x p q r=>k x p q r|_=>false
@[elab_as_elim] theorem vm{motive:Expr->Prop}{e:Expr}{k:Expr->List CmpOp->List Expr->Pos->Bool}(h:qD e k=true)(f:∀x p q r,k x p q r=true->motive (.Compare x p q r)):motive e:=by cases e<;>first|exact f _ _ _ _ h|exact Bool.noConfusion h
noncomputable def cBo(e:Expr)(k:BoolOp->List Expr->Pos->Bool):Bool:=match e with|.BoolOp x p q=>k x p q|_=>false
@[elab_as_elim] theorem vn{motive:Expr->Prop}{e:Expr}{k:BoolOp->List Expr->Pos->Bool}(h:cBo e k=true)(f:∀x p q,k x p q=true->motive (.BoolOp x p q)):motive e:=by cases e<;>first|exact f _ _ _ h|exact Bool.noConfusion h
def vo(h:cBo e k=true):∃x p q,e=.BoolOp x p q/\k x p q=true:=by cases e<;>first|exact⟨_,_,_,rfl,h⟩|exact Bool.noConfusion h
noncomputable def cIf(e:Expr)(k:Expr->Expr->Expr->Pos->Bool):Bool:=match e with|.IfExp x p q r=>k x p q r|_=>false
@[elab_as_elim] theorem Fo{motive:Expr->Prop}{e:Expr}{k:Expr->Expr->Expr->Pos->Bool}(h:cIf e k=true)(f:∀x p q r,k x p q r=true->motive (.IfExp x p q r)):motive e:=by cases e<;>first|exact f _ _ _ _ h|exact Bool.noConfusion h
noncomputable def mZ(e:Expr)(k:List Expr->Nat->Pos->Bool):Bool:=match e with|.Tuple x p q=>k x p q|_=>false
@[elab_as_elim] theorem qE{motive:Expr->Prop}{e:Expr}{k:List Expr->Nat->Pos->Bool}(h:mZ e k=true)(f:∀x p q,k x p q=true->motive (.Tuple x p q)):motive e:=by cases e<;>first|exact f _ _ _ h|exact Bool.noConfusion h
noncomputable def vp(e:Expr)(k:List Expr->Pos->Bool):Bool:=match e with|.List x p=>k x p|_=>false
@[elab_as_elim] theorem Fp{motive:Expr->Prop}{e:Expr}{k:List Expr->Pos->Bool}(h:vp e k=true)(f:∀x p,k x p=true->motive (.List x p)):motive e:=by cases e<;>first|exact f _ _ h|exact Bool.noConfusion h
noncomputable def jO(e:Expr)(k:Expr->Expr->Pos->Bool):Bool:=match e with|.Subscript x p q=>k x p q|_=>false
@[elab_as_elim] theorem kS{motive:Expr->Prop}{e:Expr}{k:Expr->Expr->Pos->Bool}(h:jO e k=true)(f:∀x p q,k x p q=true->motive (.Subscript x p q)):motive e:=by cases e<;>first|exact f _ _ _ h|exact Bool.noConfusion h
noncomputable def vq(e:Expr)(k:Option Expr->Option Expr->Option Expr->Pos->Bool):Bool:=match e with|.Slice x p q r=>k x p q r|_=>false
@[elab_as_elim] theorem Fq{motive:Expr->Prop}{e:Expr}{k:Option Expr->Option Expr->Option Expr->Pos->Bool}(h:vq e k=true)(f:∀x p q r,k x p q r=true->motive (.Slice x p q r)):motive e:=by cases e<;>first|exact f _ _ _ _ h|exact Bool.noConfusion h
noncomputable def cS(e:Expr)(k:Expr->List Expr->List Keyword->Pos->Bool):Bool:=match e with|.Call x p q r=>k x p q r|_=>false
@[elab_as_elim] theorem dn{motive:Expr->Prop}{e:Expr}{k:Expr->List Expr->List Keyword->Pos->Bool}(h:cS e k=true)(f:∀x p q r,k x p q r=true->motive (.Call x p q r)):motive e:=by cases e<;>first|exact f _ _ _ _ h|exact Bool.noConfusion h
noncomputable def qF(e:Expr)(k:Expr->Str->Pos->Bool):Bool:=match e with|.Attribute x p q=>k x p q|_=>false
@[elab_as_elim] theorem vt{motive:Expr->Prop}{e:Expr}{k:Expr->Str->Pos->Bool}(h:qF e k=true)(f:∀x p q,k x p q=true->motive (.Attribute x p q)):motive e:=by cases e<;>first|exact f _ _ _ h|exact Bool.noConfusion h
noncomputable def cLC(e:Expr)(k:Expr->List Comprehension->Scope->Pos->Bool):Bool:=match e with|.ListComp x p q r=>k x p q r|_=>false
def nc(h:cLC e k=true):∃x p q r,e=.ListComp x p q r/\k x p q r=true:=by cases e<;>first|exact⟨_,_,_,_,rfl,h⟩|exact Bool.noConfusion h
noncomputable def c1{α:Type}(l:List α)(k:α->Bool):Bool:=match l with|[x]=>k x|_=>false
noncomputable def c2{α:Type}(l:List α)(k:α->α->Bool):Bool:=match l with|[x,y]=>k x y|_=>false
noncomputable def c3{α:Type}(l:List α)(k:α->α->α->Bool):Bool:=match l with|[x,y,z]=>k x y z|_=>false
noncomputable def cC{α:Type}(l:List α)(k:α->List α->Bool):Bool:=match l with|x::r=>k x r|_=>false
section
variable {α:Type}{l:List α}{a b c d e f g h i:Bool}
@[elab_as_elim] theorem dD{motive:List α->Prop}{k:α->Bool}(h:c1 l k=true)(f:∀x,k x=true->motive ([x])):motive l:=by rcases l with _|⟨x,_|⟨_,_⟩⟩<;>first|exact f _ h|exact Bool.noConfusion h
def iL{k:α->Bool}(h:c1 l k=true):∃x,l=[x]/\k x=true:=by rcases l with _|⟨x,_|⟨_,_⟩⟩<;>first|exact⟨_,rfl,h⟩|exact Bool.noConfusion h
@[elab_as_elim] theorem kT{motive:List α->Prop}{k:α->α->Bool}(h:c2 l k=true)(f:∀x y,k x y=true->motive ([x,y])):motive l:=by rcases l with _|⟨x,_|⟨y,_|⟨_,_⟩⟩⟩<;>first|exact f _ _ h|exact Bool.noConfusion h
@[elab_as_elim] theorem Fs{motive:List α->Prop}{k:α->α->α->Bool}(h:c3 l k=true)(f:∀x y z,k x y z=true->motive ([x,y,z])):motive l:=by rcases l with _|⟨x,_|⟨y,_|⟨z,_|⟨_,_⟩⟩⟩⟩<;>first|exact f _ _ _ h|exact Bool.noConfusion h
@[elab_as_elim] theorem qG{motive:List α->Prop}{k:α->List α->Bool}(h:cC l k=true)(f:∀x r,k x r=true->motive (x::r)):motive l:=by rcases l with _|⟨x,r⟩<;>first|exact f _ _ h|exact Bool.noConfusion h
@[elab_as_elim] theorem cL{motive:List α->Prop}(h:l.isEmpty=true)(f:motive []):motive l:=by cases l<;>first|exact f|exact Bool.noConfusion h
def an{a b:Bool}(h:(a&&b)=true):a=true/\b=true:=kU.mp h
def a3(z:(a&&b&&c)=true):a=true/\b=true/\c=true:=let ⟨x,y⟩:=an z;⟨(an x).1,(an x).2,y⟩
def a4(z:(a&&b&&c&&d)=true):a=true/\b=true/\c=true/\d=true:=let ⟨x,y⟩:=an z;let ⟨p,q,r⟩:=a3 x;⟨p,q,r,y⟩
def a5(z:(a&&b&&c&&d&&e)=true):a=true/\b=true/\c=true/\d=true/\e=true:=let ⟨x,y⟩:=an z;let ⟨p,q,r,s⟩:=a4 x;⟨p,q,r,s,y⟩
def a6(z:(a&&b&&c&&d&&e&&f)=true):a=true/\b=true/\c=true/\d=true/\e=true/\f=true:=let ⟨x,y⟩:=an z;let ⟨p,q,r,s,t⟩:=a5 x;⟨p,q,r,s,t,y⟩
def a7(z:(a&&b&&c&&d&&e&&f&&g)=true):a=true/\b=true/\c=true/\d=true/\e=true/\f=true/\g=true:=let ⟨x,y⟩:=an z;let ⟨p,q,r,s,t,u⟩:=a6 x;⟨p,q,r,s,t,u,y⟩
def a8(z:(a&&b&&c&&d&&e&&f&&g&&h)=true):a=true/\b=true/\c=true/\d=true/\e=true/\f=true/\g=true/\h=true:=let ⟨x,y⟩:=an z;let ⟨p,q,r,s,t,u,v⟩:=a7 x;⟨p,q,r,s,t,u,v,y⟩
def a9(z:(a&&b&&c&&d&&e&&f&&g&&h&&i)=true):a=true/\b=true/\c=true/\d=true/\e=true/\f=true/\g=true/\h=true/\i=true:=let ⟨x,y⟩:=an z;let ⟨p,q,r,s,t,u,v,w⟩:=a8 x;⟨p,q,r,s,t,u,v,w,y⟩
end
noncomputable def ckT(cells:Bool)(N:List Str)(nm:List (Str×NameKind))(is:List Nat)(tg:Expr):Bool :=
 let one (i:Nat) (e:Expr):Bool:=bp e λ x _=>decide (N[i]?=some x)&&(decide (nm.lookup x=some .local) || (cells&&decide (nm.lookup x=some .cell)))
 match is with
 |[i]=>one i tg
 |[i,j]=>mZ tg λ es _ _=>c2 es λ a b=>one i a&&one j b
 |[i,j,k]=>mZ tg λ es _ _=>c3 es λ a b c=>one i a&&one j b&&one k c
 |_=>false
noncomputable def tsE:Expr->Bool
 |.BoolOp ..=>false|.UnaryOp .Not ..=>false|.Compare ..=>false|.IfExp ..=>false|.NamedExpr ..=>false|.Constant ..=>false|_=>true
noncomputable def tB':Cd->Expr->Bool
 |.and ..,_=>true|.or ..,_=>true|.not ..,_=>true|.cmp ..,_=>true|.cm2 ..,_=>true
 |_,e=>tsE e
def iM:Expr->Bool
 |.Tuple ..=>true|_=>false
noncomputable def ikN:IK->Option (Str×Nat)
 |.rng=>some ("range",0)|.rng3=>some ("range",2)|.zip _ _=>some ("zip",1)|.enum _=>some ("enumerate",0)|_=>none
noncomputable def ikT:IK->Bool
 |.zip _ _=>true|.zip3=>true|.enum _=>true|_=>false
noncomputable def cE(nm names:List (Str×NameKind)):List (Str×NameKind):=names.map λ(x,k)=>if (k == .free&&nm.lookup x == some .cell) then (x,.cell) else (x,k)
noncomputable def ckS(N:List Str)(nm:List (Str×NameKind))(sc:Scope)(own fv:List Str)(js:List Nat):Bool :=
 decide (sc.kind=.function)&&sc.names.all (λ y=>!decide (y.2=.cell))&&sc.names.all (λ y=>!decide (y.2=.local) || decide (sc.names.lookup y.1=some .local))&&sc.names.all (λ y=>!decide (y.2=.free) || cf nm y.1)
  && decide (js.length=fv.length)&&(fv.zip js).all (λ p=>decide (N[p.2]?=some p.1)&&cf nm p.1&&cf (cE nm sc.names) p.1)&&decide (own++fv).Nodup
section
variable (fs gs:List Str)
mutual
def ck:Cd->List Str->List (Str×NameKind)->Expr->Bool
 |.v i,N,nm,e=>bp e λ x _=>decide (N[i]?=some x)&&vs nm x&&okN x
 |.c t,_,_,e=>vi e λ k _ _=>ckC t k
 |.g k,_,nm,e=>bp e λ x _=>decide (gs[k]?=some x)&&gl nm x&&okN x
 |.bin o a b,N,nm,e=>vj e λ l op r _=>decide (op=o)&&ck a N nm l&&ck b N nm r
 |.neg a,N,nm,e=>cUn e λ op x _=>decide (op=.USub)&&ck a N nm x
 |.not a,N,nm,e=>cUn e λ op x _=>decide (op=.Not)&&tB' a x&&ck a N nm x
 |.cmp o a b,N,nm,e=>qD e λ l os rs _=>c1 os λ op=>c1 rs λ r=>decide (op=o)&&ck a N nm l&&ck b N nm r&&dR r
 |.cm2 o o' a b c,N,nm,e=>qD e λ l os rs _=>c2 os λ op op'=>c2 rs λ r w=>decide (op=o)&&decide (op'=o')&&ck a N nm l&&ck b N nm r&&ck c N nm w&&dR w
 | .and a b,N,nm,e=>cBo e λ op es p=>decide (op=.And) && (match es with
   |[x,y]=>tB' a x&&tB' b y&&ck a N nm x&&ck b N nm y
   |x::y::z::r=>tB' a x&&ck a N nm x&&ck b N nm (.BoolOp .And (y::z::r) p)
   |_=>false)
 | .or a b,N,nm,e=>cBo e λ op es p=>decide (op=.Or) && (match es with
   |[x,y]=>tB' a x&&tB' b y&&ck a N nm x&&ck b N nm y
   |x::y::z::r=>tB' a x&&ck a N nm x&&ck b N nm (.BoolOp .Or (y::z::r) p)
   |_=>false)
 |.ite c a b,N,nm,e=>cIf e λ x y z _=>tB' c x&&ck c N nm x&&ck a N nm y&&ck b N nm z
 |.tup l,N,nm,e=>mZ e λ es _ _=>ckL l N nm es
 |.lst l,N,nm,e=>vp e λ es _=>ckL l N nm es
 |.ix a b,N,nm,e=>jO e λ x y _=>gp y&&ck a N nm x&&ck b N nm y
 |.sl a lo hi,N,nm,e=>jO e λ x y _=>vq y λ l h s _=>s.isNone&&ck a N nm x&&(match l with|none=>jN lo|some l=>ck lo N nm l && !jN lo)&&(match h with|none=>jN hi|some h=>ck hi N nm h && !jN hi)
 |.call f l,N,nm,e=>cS e λ g as w _=>bp g λ x _=>cC as λ a es=>w.isEmpty&&decide (fs[f]?=some x)&&gl nm x&&okN x&&ckL l N nm (a::es)
 |.bi f l,N,nm,e=>cS e λ g as w _=>bp g λ x _=>cC as λ a es=>w.isEmpty&&decide (biN f=some x)&&gl nm x&&ckL l N nm (a::es)
 |.isi f a,N,nm,e=>cS e λ g as w _=>bp g λ x _=>c2 as λ y u=>bp u λ z _=>w.isEmpty&&decide (x="isinstance")&&gl nm x&&vh f&&decide (z=Str.ofString (isN f))&&gl nm z&&aN y&&ck a N nm y
 |.mxl a b,N,nm,e=>cS e λ g as w _=>bp g λ x _=>c2 as λ y z=>c1 w λ k=>bp k.value λ u _=>decide (x="max")&&gl nm x&&decide (k.arg=some (Str.ofString "key"))&&decide (u="len")&&gl nm u&&aN y&&aN z&&ck a N nm y&&ck b N nm z
 |.trev _ a,N,nm,e=>cS e λ g as w _=>bp g λ x _=>c1 as λ u=>cS u λ g' as' w' _=>bp g' λ y _=>c1 as' λ z=>w.isEmpty&&w'.isEmpty&&decide (x="tuple")&&gl nm x&&decide (y="reversed")&&gl nm y&&aN z&&ck a N nm z
 |.lrng k a,N,nm,e=>cS e λ g as w _=>bp g λ x _=>c1 as λ u=>cS u λ g' as' w' _=>bp g' λ y _=>c1 as' λ z=>w.isEmpty&&w'.isEmpty&&decide (x=if k=true then "tuple" else "list")&&gl nm x&&decide (y="range")&&gl nm y&&aN z&&ck a N nm z
 |.ss a,N,nm,e=>cS e λ g as w _=>bp g λ x _=>c1 as λ u=>cS u λ g' as' w' _=>bp g' λ y _=>c1 as' λ z=>w.isEmpty&&w'.isEmpty&&decide (x="sorted")&&gl nm x&&decide (y="set")&&gl nm y&&aN z&&ck a N nm z
 |.di i b,N,nm,e=>jO e λ o y _=>bp o λ x _=>decide (N[i]?=some x)&&vs nm x&&okN x&&gp y&&ck b N nm y
 |.dg i b,N,nm,e=>cS e λ g as w cp=>qF g λ o name ap=>bp o λ x _=>c1 as λ y=>w.isEmpty&&decide (N[i]?=some x)&&vs nm x&&okN x&&decide (name="get")&&decide (ap.endLine=cp.line)&&aN y&&ck b N nm y
 |.dk k a,N,nm,e=>jO e λ o y _=>bp o λ x _=>decide (gs[k]?=some x)&&gl nm x&&okN x&&gp y&&ck a N nm y
 |.comp own fv js tg k it e,N,nm,x=>cLC x λ elt gn sc _=>c1 gn λ g=>g.ifs.isEmpty&&decide (g.is_async=0)&&ckS N nm sc own fv js&&ckI it k g.target N nm g.iter&&ckT false (own++fv) (cE nm sc.names) tg g.target&&tg.all (λ i=>decide (i<own.length))&&ck e (own++fv) (cE nm sc.names) elt
 |.compI own fv js tg k it c e,N,nm,x=>cLC x λ elt gn sc _=>c1 gn λ g=>c1 g.ifs λ cnd=>decide (g.is_async=0)&&ckS N nm sc own fv js&&ckI it k g.target N nm g.iter&&ckT false (own++fv) (cE nm sc.names) tg g.target&&tg.all (λ i=>decide (i<own.length))&&tB' c cnd&&ck c (own++fv) (cE nm sc.names) cnd&&ck e (own++fv) (cE nm sc.names) elt
 |_,_,_,_=>false
def ckL:Cd->List Str->List (Str×NameKind)->List Expr->Bool
 |.nil,_,_,es=>(match es with|[]=>true|_=>false)
 |.cons a r,N,nm,es=>(match es with|e::es=>aN e&&ck a N nm e&&ckL r N nm es|[]=>false)
 |_,_,_,_=>false
def ckI:Cd->IK->Expr->List Str->List (Str×NameKind)->Expr->Bool
 | .cons a r,k,tg,N,nm,it=>(match k with
   |.seq=>dR it&&vg r&&ck a N nm it
   |.str=>false
   |k=>cS it λ g as w _=>bp g λ x _=>cC as λ e es=>w.isEmpty&&decide (ikN k=some (x,es.length))&&gl nm x&&(!ikT k || iM tg)&&aN e&&ck a N nm e&&ckL r N nm es)
 |_,_,_,_,_,_=>false
end
end
section
variable {K:FG}{J:Hp->Prop}
noncomputable def Sr(K:FG)(F:Fz)(H:Hp)(t:TV)(v:V):Prop:=match t with
 |.own l=>Rr K H F H (.bor l) v
 |.dct l=>∃a,v=.ref a/\H a=some (dcO l)
 |t=>Rp K F H t v
structure EV (K:FG)(J:Hp->Prop)(F:Fz)(H:Hp)(σ:St)(ρ:En):Prop where
 w:Wd J F H
 sl:∀(i:Nat) t,ρ[i]?=some (some t)->∃v,σ[i]?=some (some v)/\Sr K F H t v
def Sr.grow(g:Grow J F H F' H')(h:Sr K F H t v):Sr K F' H' t v:=by
 cases t with
 |own l=>exact Rr.grow (t:=.bor l) (H:=H') g h
 |dct l=>obtain⟨a,e,q⟩:=h;exact⟨a,e,g.sm _ _ (λ ps z=>by cases z) q⟩
 |_=>exact Rp.ke g.ke h
def EV.grow(e:EV K J F H σ ρ)(g:Grow J F H F' H'):EV K J F' H' σ ρ :=
 ⟨g.w,λ i t h=>let ⟨v,q,r⟩:=e.sl i t h;⟨v,q,r.grow g⟩⟩
noncomputable def pSp(K:FG)(J:Hp->Prop)(S:PSp):Sp:=λ vs H Q _=>∃F ts P,Wd J F H/\RpL K F H ts vs/\S ts P/\∀t,P t->∀F' H' v,Grow J F H F' H'->Rp K F' H' t v->Q v H'
theorem iN(g:Grow J F H F1 H1):∀ {ts:List TV}{vs:List V},RrL K H F1 H1 ts vs->ts.all TV.nb=true->∃F2,Grow J F H F2 H1/\(∀a,F1 a->F2 a)/\RpL K F2 H1 (ts.map TV.fz) vs
 |[],_,h,_=>by cases h;exact⟨F1,g,λ _ f=>f,rfl⟩
 |t::ts,_,h,n=>by
  cases h with
  |cons r q=>
   rw[da,bu] at n;obtain⟨F2,g2,u2,r2⟩:=iN g q n.2
   cases t with
   |own l=>
    obtain⟨a,vs,e,na,f,qa,ra⟩:=r;refine⟨λ b=>F2 b\/b=a,g2.frz na (by rw[qa];simp),λ b f=>.inl (u2 b f),_,_,O,⟨a,vs,e,.inl ⟨.inr rfl,.of qa⟩,ra.ke (.up λ b f=>.inl (u2 b f))⟩,r2.ke (.up λ b f=>.inl f)⟩
   |bor l=>cases n.1
   |_=>exact⟨F2,g2,u2,_,_,rfl,Rp.ke (.up u2) r,r2⟩
mutual
theorem LF.rp:∀ {t:TV}{v:V},LF t->Rp K F H t v->Rp K F' H t v
 |.non,_,_,h=>h
 |.bl _,_,_,h=>h
 |.int _,_,_,h=>h
 |.str _,_,_,h=>h
 |.tup l,_,f,⟨a,vs,e,q,r⟩=>⟨a,vs,e,q,LF.rpl (λ x hx=>by simp only[LF] at f;exact f x hx) r⟩
 |.lst _,_,f,_=>by simp[LF] at f
 |.bor _,_,f,_=>by simp[LF] at f
 |.own _,_,f,_=>by simp[LF] at f
 |.dct _,_,f,_=>by simp[LF] at f
theorem LF.rpl:∀ {ts:List TV}{vs:List V},(∀x∈ts,LF x)->RpL K F H ts vs->RpL K F' H ts vs
 |[],_,_,h=>h
 |t::ts,_,f,⟨v,r,e,h1,h2⟩=>⟨v,r,e,LF.rp (f t pv) h1,LF.rpl (λ x hx=>f x (by simp[hx])) h2⟩
end
end
noncomputable def BN:List Str:=["len","tuple","list","sum","max","min","abs","int","str","sorted","any","all","isinstance","bool","range","zip","enumerate","reversed","set","dict"]
noncomputable def DOk(P:Program)(w:World)(K:FG)(mg:SV)(x:Str)(l:List TV):Prop:=∃d kvs,mg x=some (.ref d)/\KTab P w K d kvs/\∀y t,dlk l y=some t->∃a,kvs.lookup y=some a/\∀F H,Rp K F H t (.ref a)
structure XOk (X:Cx)(J:Hp->Prop)(FT:List PSp)(GT:List TV)(fs gs:List Str):Prop where
 calm:X.calm=true
 units:X.A.units+20<cLine
 hJ:JS J
 fns:∀(f:Nat) x S,fs[f]?=some x->FT[f]?=some S->∃k ps,Room k X.A/\Callee X.prog X.w X.K X.mg X.base CX0 k x ps (pSp X.K J S)
 glb:∀(g:Nat) x t,gs[g]?=some x->GT[g]?=some t->t.nb=true->∃v u,X.mg x=some u/\RelV v u/\∀F H,Rp X.K F H t v
 dic:∀(g:Nat) x l,gs[g]?=some x->GT[g]?=some (.bor l)->DOk X.prog X.w X.K X.mg x l
 blt:∀x∈BN,X.mg x=none
 len:fs.length=FT.length
structure XS (X:Cx)(N:List Str)(nm:List (Str×NameKind)):Prop where
 N:X.N=N
 nm:X.env.scope.names=nm
section
variable {J:Hp->Prop}{FT:List PSp}{GT:List TV}{fs gs:List Str}
noncomputable def rE(K:FG)(J:Hp->Prop)(FT:List PSp)(GT:List TV)(c:Cd):TE:=λ σ H Q=>∃F ρ,EV K J F H σ ρ/\wE FT GT c ρ λ t=>∀F' H' v,Grow J F H F' H'->Rr K H F' H' t v->Q v H'
noncomputable def rT(K:FG)(J:Hp->Prop)(FT:List PSp)(GT:List TV)(c:Cd):TT:=λ σ H Q=>∃F ρ,EV K J F H σ ρ/\wE FT GT c ρ λ t=>b1 t λ b=>∀F' H',Grow J F H F' H'->Q b H'
noncomputable def rA(K:FG)(J:Hp->Prop)(FT:List PSp)(GT:List TV)(c:Cd):TA:=λ σ H Q=>∃F ρ,EV K J F H σ ρ/\wL FT GT c ρ λ ts=>∀F' H' vs,Grow J F H F' H'->RrL K H F' H' ts vs->Q vs H'
def PE.imp{t t':TE}(h:PE X e t)(i:∀σ H Q,t' σ H Q->t σ H Q):PE X e t':=λ pins s σ H Q I q=>h pins s σ H Q I (i σ H Q q)
def PT.imp{t t':TT}(h:PT X e t)(i:∀σ H Q,t' σ H Q->t σ H Q):PT X e t':=λ pins s σ H Q I q=>h pins s σ H Q I (i σ H Q q)
def PA.imp{t t':TA}(h:PA X e t)(i:∀σ H Q,t' σ H Q->t σ H Q):PA X e t':=λ pos pins s σ H Q I q=>h pos pins s σ H Q I (i σ H Q q)
def aZ{es:List Expr}(h:aN e=true):starEach (e::es) env=(false,eval e env)::starEach es env:=by cases e<;>first|rfl|cases h
theorem qH:∀ {es:List Expr}{env:Env},es.all aN=true->(starEach es env).any (·.1)=false
 |[],_,_=>rfl
 |e::es,env,h=>by
  rw[da,bu] at h;rw[aZ h.1,kA,qH h.2];rfl
def jP{es:List Expr}(h:es.all aN=true):(backTo pos (starEach es env)).any (·.1)=false:=by
 unfold backTo;rw[List.any_map];exact qH h
def glX(xs:XS X N nm)(h:gl nm x=true):Gl X x:=by
 show X.env.scope.names.lookup x=_;rw[xs.nm];exact ay h
def kW(xs:XS X N nm)(h:vs nm x=true):Vis X.env.scope x:=by
 unfold vs at h;rw[iO,iO] at h;unfold Vis;rw[xs.nm]
 rcases h with (h|h)|h
 ·exact .inl (ay h)
 ·exact .inr (.inl (ay h))
 ·exact .inr (.inr (ay h))
def gU(h:okN x=true):(x == ("__debug__" : Str))=false/\(x == ("__classdict__" : Str))=false/\x ≠ "__name__" := by
 simp only[okN,bu,Bool.not_eq_true',vv] at h;exact⟨by simpa using h.1.1,by simpa using h.1.2,h.2⟩
end
theorem qI{env:Env}:∀(l:List (Str×NameKind)) (cs:LA),(∀x,(x,NameKind.free)∈l->∃c,env.cells.lookup x=some c) ->
  ∃cl,(forIn l cs (λ(x:Str × NameKind) (r:LA)=>(match x with
   |(name,kind)=>if (kind == NameKind.free)=true then (do let y <- cellOf env name;pure (ForInStep.yield ((name,y)::r))) else pure (ForInStep.yield r):Sem (ForInStep (LA)))):Sem (LA))=pure cl /\
   (∀x c,cl.lookup x=some c->cs.lookup x=some c\/env.cells.lookup x=some c)/\(∀x,(x,NameKind.free)∈l\/(∃c,cs.lookup x=some c)->∃c,cl.lookup x=some c)
 | [],cs,_=>⟨cs,rfl,λ _ _ h=>.inl h,λ x h=>by
  rcases h with h|h
  ·cases h
  ·exact h⟩
 |(n,k)::l,cs,h=>by
  by_cases hk:k=.free
  ·subst hk;obtain⟨c,hc⟩:=h n pv;obtain⟨cl,e,q1,q2⟩:=qI l ((n,c)::cs) λ x hx=>h x (by simp[hx]);refine⟨cl,?_,λ x d hx=>?_,λ x hx=>?_⟩
   ·rw[List.forIn_cons];have:cellOf env n=pure c:=by unfold cellOf;rw[hc]
    simp only[this,kO,dZ,pure_bind];exact e
   ·rcases q1 x d hx with z|z
    ·rw[gb] at z;split at z
     ·rename_i en;have:x=n:=by simpa using en
      subst this;cases z;exact .inr hc
     ·exact .inl z
    ·exact .inr z
   ·refine q2 x ?_
    rcases hx with hx|⟨d,hd⟩
    ·rcases aG.mp hx with z|z
     ·cases z;exact .inr ⟨c,by simp[gb]⟩
     ·exact .inl z
    ·by_cases en:x=n
     ·subst en;exact .inr ⟨c,by simp[gb]⟩
     ·have:(x == n)=false:=by simpa using en
      exact .inr ⟨d,by rw[gb,this];exact hd⟩
  ·obtain⟨cl,e,q1,q2⟩:=qI l cs λ x hx=>h x (by simp[hx]);refine⟨cl,?_,q1,λ x hx=>q2 x ?_⟩
   ·rw[List.forIn_cons];have:(k == NameKind.free)=false:=by simpa using hk
    simp only[this,mI,s1e,pure_bind];exact e
   ·rcases hx with hx|hx
    ·rcases aG.mp hx with z|z
     ·cases z;exact absurd rfl hk
     ·exact .inl z
    ·exact .inr hx
theorem Ft{scope:Scope}{env:Env}(h:∀x,(x,NameKind.free)∈scope.names->∃c,env.cells.lookup x=some c) :
  ∃cl,closureFor scope env=pure cl/\(∀x c,cl.lookup x=some c->env.cells.lookup x=some c)/\∀x,(x,NameKind.free)∈scope.names->∃c,cl.lookup x=some c:=by
 obtain⟨cl,e,q1,q2⟩:=qI (env:=env) scope.names [] h;refine⟨cl,?_,λ x c hx=>?_,λ x hx=>q2 x (.inl hx)⟩
 ·unfold closureFor;simp only[bind_pure];exact e
 ·rcases q1 x c hx with z|z
  ·cases z
  ·exact z
section
variable {N:List Str}{nm:List (Str×NameKind)}{sc:Scope}{own fv:List Str}{js:List Nat}
def Fu{α β:Type} [BEq α] [LawfulBEq α] {l:List (α×β)}{x:α}{y:β}(h:l.lookup x=some y):(x,y)∈l:=by
 induction l with
 |nil=>cases h
 |cons p r ih=>
  obtain⟨a,b⟩:=p;rw[gb] at h;split at h
  ·rename_i e;have:x=a:=by simpa using e
   subst this;cases h;simp
  ·exact cX _ (ih h)
structure CSc (X:Cx)(N:List Str)(nm:List (Str×NameKind))(sc:Scope)(own fv:List Str)(js:List Nat)(cl:LA):Prop where
 clos:closureFor sc X.env=pure cl
 cell:∀y∈sc.names,y.2≠.cell
 kind:sc.kind=.function
 names:∀y∈sc.names,y.2=.local->sc.names.lookup y.1=some .local
 sub:∀x c,cl.lookup x=some c->X.env.cells.lookup x=some c
 has:∀x,((relabel sc X.env).names.lookup x=some .cell\/(relabel sc X.env).names.lookup x=some .free)->∃c,cl.lookup x=some c
 len:js.length=fv.length
 cap:∀(i:Nat) x j,fv[i]?=some x->js[i]?=some j->Cap X sc cl x j
 nd:(own++fv).Nodup
 rel:(relabel sc X.env).names=cE nm sc.names
def qJ(h:cf nm x=true):nm.lookup x=some .cell\/nm.lookup x=some .free:=by
 unfold cf at h;rw[iO] at h;exact h.imp ay ay
def nh(ok:X.Ok)(xs:XS X N nm)(h:ckS N nm sc own fv js=true):∃cl,CSc X N nm sc own fv js cl:=by
 unfold ckS at h;simp only[bu] at h;obtain⟨⟨⟨⟨⟨⟨h1,h2⟩,h3⟩,h4⟩,h5⟩,h6⟩,h7⟩:=h
 have hfree:∀x,(x,NameKind.free)∈sc.names->nm.lookup x=some .cell\/nm.lookup x=some .free:=λ x hx=>by
  have:=gW.mp h4 _ hx;simp only[decide_true,Bool.not_true,ni] at this;exact qJ this
 obtain⟨cl,e,s1,s2⟩:=Ft (scope:=sc) (env:=X.env) λ x hx=>ok.has x (by
  have:=hfree x hx;rw[<- xs.nm] at this
  exact this)
 have hcell:∀y∈sc.names,y.2≠.cell:=λ y hy=>by simpa using gW.mp h2 y hy
 have hrel:(relabel sc X.env).names=cE nm sc.names:=by
  unfold relabel cE;rw[<- xs.nm];apply s0w;intro y hy;obtain⟨n,k⟩:=y;have:(X.env.scope.kind == ScopeKind.function)=true:=by rw[ok.kind];rfl
  simp only[this,Bool.and_true];rfl
 refine⟨cl,e,hcell,ay h1,λ y hy e=>?_,s1,λ x hx=>s2 x ?_,ay h5,λ i x j e1 e2=>?_,ay h7,hrel⟩
 ·have:=gW.mp h3 y hy;simpa [e] using this
 ·have:∀k,(relabel sc X.env).names.lookup x=some k->k=.cell\/k=.free->(x,NameKind.free)∈sc.names:=λ k hk hz=>by
   have m:=Fu hk;obtain⟨⟨n,k0⟩,hm,he⟩:=aT.mp m;have he:(if (k0 == NameKind.free&&X.env.scope.kind == .function&&X.env.kindOf n == some .cell)=true then (n,NameKind.cell) else (n,k0))=(x,k):=he;split at he
   ·rename_i c;cases he;simp only[bu] at c;have:k0=.free:=by simpa using c.1.1
    subst this;exact hm
   ·cases he
    rcases hz with rfl|rfl
    ·exact absurd rfl (hcell _ hm)
    ·exact hm
  rcases hx with hx|hx
  ·exact this _ hx (.inl rfl)
  ·exact this _ hx (.inr rfl)
 ·have m:(x,j)∈fv.zip js:=by
   refine bg (i:=i) ?_;rw[vx];exact⟨e1,e2⟩
  have:=gW.mp h6 _ m;simp only[bu] at this;refine⟨by rw[xs.N];exact ay this.1.1,?_,?_⟩
  ·rw[xs.nm];exact qJ this.1.2
  ·rw[hrel];exact qJ this.2
end
section
variable {K:FG}{J:Hp->Prop}{F:Fz}{H:Hp}{σ:St}{ρ:En}
def vy(h:Rp K F H t v):Sr K F H t v:=by cases t<;>first|exact h|exact h.elim
def EV.set{i:Nat}(e:EV K J F H σ ρ)(h:Rp K F H t v)(hi:i<σ.length):EV K J F H (σ.set i (some v)) (ρ.set i (some t)) :=
 ⟨e.w,λ j u hj=>by
  rw[cM] at hj;split at hj
  ·rename_i c;subst c;split at hj
   ·cases hj;exact⟨v,by rw[cM];simp[hi],vy h⟩
   ·cases hj
  ·rename_i c;obtain⟨w,e1,r⟩:=e.sl j u hj
   exact⟨w,by rw[cM,if_neg c];exact e1,r⟩⟩
def EV.any{i:Nat}(e:EV K J F H σ ρ)(h:∀t,ρ[i]?≠some (some t)):EV K J F H (σ.set i v) ρ :=
 ⟨e.w,λ j u hj=>by
  obtain⟨w,e1,r⟩:=e.sl j u hj;refine⟨w,?_,r⟩;rw[cM,if_neg (λ z=>by subst z;exact h u hj)]
  exact e1⟩
noncomputable def tgG(K:FG):List Nat->TG
 |[i]=>dL i
 |[i,j]=>oK K 2 (jb (dL i) (jb (dL j) oJ))
 |[i,j,k]=>oK K 3 (jb (dL i) (jb (dL j) (jb (dL k) oJ)))
 |_=>λ _ _ _ _=>False
theorem nk{Q:St->Hp->Prop}(h:stE ρ is t P)(e:EV K J F H σ ρ)(rt:Rp K F H t v)(hl:∀i∈is,i<σ.length)
  (fin:∀σ' ρ',P ρ'->EV K J F H σ' ρ'->σ'.length=σ.length->(∀ρ0,EV K J F H σ ρ0->(∀i∈is,∀u,ρ0[i]?≠some (some u))->EV K J F H σ' ρ0)->Q σ' H):tgG K is v σ H Q:=by
 match is,h with
 |[i],h=>exact fin _ _ h (e.set rt (hl i pv)) pv λ ρ0 e0 n=>e0.any (n i pv)
 |[i,j],h=>
  cases t with
  |tup l=>
   match l,h with
   |[x,y],h=>
    obtain⟨a,ws,rfl,q,v1,r1,rfl,h1,v2,r2,rfl,h2,rfl⟩:=rt;exact⟨a,_,O,q,O,v1,_,O,v2,_,O,O,fin _ _ h ((e.set h1 (hl i pv)).set h2 (by simpa using hl j pv)) pv λ ρ0 e0 n=>(e0.any (n i pv)).any (n j pv)⟩
   |[],h=>exact h.elim
   |[_],h=>exact h.elim
   |_::_::_::_,h=>exact h.elim
  |_=>exact h.elim
 |[i,j,k],h=>
  cases t with
  |tup l=>
   match l,h with
   |[x,y,z],h=>
    obtain⟨a,ws,rfl,q,v1,r1,rfl,h1,v2,r2,rfl,h2,v3,r3,rfl,h3,rfl⟩:=rt;exact⟨a,_,O,q,O,v1,_,O,v2,_,O,v3,_,O,O,fin _ _ h (((e.set h1 (hl i pv)).set h2 (by simpa using hl j pv)).set h3 (by simpa using hl k pv)) pv λ ρ0 e0 n=>((e0.any (n i pv)).any (n j pv)).any (n k pv)⟩
   |[],h=>exact h.elim
   |[_],h=>exact h.elim
   |[_,_],h=>exact h.elim
   |_::_::_::_::_,h=>exact h.elim
  |_=>exact h.elim
 |[],h=>exact h.elim
 |_::_::_::_::_,h=>exact h.elim
end
section
variable {N:List Str}{nm:List (Str×NameKind)}
def jQ{cells:Bool}(hN:X.N.Nodup)(hc:X.calm=true)(xs:XS X N nm)(hf:cells=true->∀x,X.env.scope.names.lookup x=some .cell->X.fn x=true)(h:ckT cells N nm is tg=true):PG X tg (tgG X.K is)/\∀i∈is,i<N.length:=by
 have one:∀(i:Nat) (x:Str) (p:Pos),(decide (N[i]?=some x)&&(decide (nm.lookup x=some .local) || (cells&&decide (nm.lookup x=some .cell))))=true->PG X (.Name x p) (dL i)/\i<N.length:=λ i x p h=>by
  rw[bu,iO,bu] at h;obtain⟨h1,h2⟩:=h;have e:=ay h1;refine⟨?_,(bc.mp e).1⟩
  rcases h2 with h2|⟨h2,h3⟩
  ·have k:X.env.scope.names.lookup x=some .local:=by rw[xs.nm];exact ay h2
   exact su hN (by rw[xs.N];exact e) (.inl k) (.inr k)
  ·have k:X.env.scope.names.lookup x=some .cell:=by rw[xs.nm];exact ay h3
   exact su hN (by rw[xs.N];exact e) (.inr k) (.inl (hf h2 x k))
 match is,h with
 |[i],h=>
  refine bj h λ x p g=>?_;obtain⟨a,b⟩:=one _ _ p g;exact⟨a,λ i hi=>by rw[bd.mp hi];exact b⟩
 |[i,j],h=>
  refine qE h λ es _ _ g=>?_;refine kT g λ e1 e2 g=>?_;refine bj (an g).1 λ x p g1=>?_;refine bj (an g).2 λ y q g2=>?_;obtain⟨a1,b1⟩:=one _ _ p g1;obtain⟨a2,b2⟩:=one _ _ q g2;refine⟨sw hc (ki a1 (ki a2 sv)),λ i hi=>?_⟩;simp only[aG,aU,aY] at hi
  rcases hi with rfl|rfl<;>assumption
 |[i,j,k],h=>
  refine qE h λ es _ _ g=>?_;refine Fs g λ e1 e2 e3 g=>?_;obtain⟨g1,g2,g3⟩:=a3 g;refine bj g1 λ x p g1=>?_;refine bj g2 λ y q g2=>?_;refine bj g3 λ z r g3=>?_;obtain⟨a1,b1⟩:=one _ _ p g1;obtain⟨a2,b2⟩:=one _ _ q g2;obtain⟨a3,b3⟩:=one _ _ r g3;refine⟨sw hc (ki a1 (ki a2 (ki a3 sv))),λ i hi=>?_⟩;simp only[aG,aU,aY] at hi
  rcases hi with rfl|rfl|rfl<;>assumption
 |[],h=>exact Bool.noConfusion h
 |_::_::_::_::_,h=>exact Bool.noConfusion h
end
section
variable {J:Hp->Prop}{FT:List PSp}{GT:List TV}{fs gs:List Str}{N:List Str}{nm:List (Str×NameKind)}
noncomputable def rW(K:FG)(J:Hp->Prop)(FT:List PSp)(GT:List TV)(k:IK)(c:Cd):TI:=λ σ H R=>∃F ρ,EV K J F H σ ρ/\wL FT GT c ρ λ ts=>itP k ts λ its=>∀F' H' xs Jt,Grow J F H F' H'->RrL K H F' H' ts xs->ItOk K J Jt its ts xs->R Jt H'
def PI.imp{t t':TI}(h:PI X tg e t)(i:∀σ H Q,t' σ H Q->t σ H Q):PI X tg e t':=λ pins s σ H Q I q=>h pins s σ H Q I (i σ H Q q)
def qK(h:dR e=true):behindInMarks op e=false:=by cases e<;>first|rfl|cases h
def vz{o o':CmpOp}{r w:Expr}(h:dR w=true):lastMarks [o,o'] [r,w]=false:=by
 show behindInMarks o' w=false;exact qK h
def kX(h:dR e=true):foldedSetIterable e env x=pure x:=by cases e<;>first|rfl|cases h
def qL(h:gp e=true):tz e:=by
 intro o i
 cases e<;>first|rfl|(cases h;done)
def s_v(xs:XS X N nm)(h:ck fs gs (.v i) N nm e=true):PE X e (rE X.K J FT GT (.v i)):=by
 refine bj h λ x p h0=>?_;have h':=kU.mp h0;obtain⟨h1,h2⟩:=kU.mp h'.1;obtain⟨d1,d2,_⟩:=gU h'.2;refine(kh (by rw[xs.N];exact ay h1) (kW xs h2) d1 d2).imp λ σ H Q q=>?_;obtain⟨F,ρ,ev,w⟩:=q;have w:rdV ρ[i]? _:=w
 rcases hs:ρ[i]? with _|_|t
 ·rw[hs] at w;exact w.elim
 ·rw[hs] at w;exact w.elim
 ·rw[hs] at w;obtain⟨v,e,r⟩:=ev.sl i t hs;unfold dJ;rw[e]
  cases t with
  |bor l=>exact r.elim
  |dct l=>exact w.elim
  |_=>exact w F H v (.refl ev.w) r
def s_c(h:ck fs gs (.c t) N nm e=true):PE X e (rE X.K J FT GT (.c t)):=by
 refine Fm h λ k _ _ h0=>?_;replace h:ckC t k=true:=h0
 cases t<;>cases k<;>first
  |exact Bool.noConfusion h
  |(cases ay h;exact pe_int.imp λ σ H Q ⟨F,ρ,ev,w⟩=>w F H _ (.refl ev.w) rfl)
  |(cases ay h;exact pe_str.imp λ σ H Q ⟨F,ρ,ev,w⟩=>w F H _ (.refl ev.w) rfl)
  |(cases ay h;exact pe_bl.imp λ σ H Q ⟨F,ρ,ev,w⟩=>w F H _ (.refl ev.w) rfl)
  |exact pe_non.imp λ σ H Q ⟨F,ρ,ev,w⟩=>w F H _ (.refl ev.w) rfl
def s_g(xo:XOk X J FT GT fs gs)(xs:XS X N nm)(h:ck fs gs (.g k) N nm e=true):PE X e (rE X.K J FT GT (.g k)):=by
 refine bj h λ x p h0=>?_;have h':=kU.mp h0;obtain⟨h1,h2⟩:=kU.mp h'.1;obtain⟨d1,_,_⟩:=gU h'.2
 cases et:GT[k]? with
 |none=>exact λ pins s σ H Q I ⟨F,ρ,ev,w⟩=>by have w:gtP GT[k]? _:=w;rw[et] at w;exact w.elim
 |some t=>
  cases nb:t.nb with
  |false=>
   intro pins s σ H Q I ⟨F,ρ,ev,w⟩;have w:gtP GT[k]? _:=w;rw[et] at w
   cases t<;>first|exact w.elim|exact Bool.noConfusion nb
  |true=>
   obtain⟨v,u,m,r,p⟩:=xo.glb k _ t (ay h1) et nb;refine(yN (glX xs h2) m r d1).imp λ σ H Q ⟨F,ρ,ev,w⟩=>?_;have w:gtP GT[k]? _:=w;rw[et] at w
   cases t with
   |bor l=>cases nb
   |_=>exact w F H v (.refl ev.w) (Rr.of (p F H))
def Fv{k:Nat}(xo:XOk X J FT GT fs gs)(xs:XS X N nm)(h1:gs[k]?=some x)(h2:gl nm x=true)(h3:okN x=true)(h4:gp y=true)(ha:PE X y (rE X.K J FT GT a)):PE X (.Subscript (.Name x p1) y p2) (rE X.K J FT GT (.dk k a)):=by
 intro pins s σ H Q I ⟨F,ρ,ev,w⟩;obtain⟨l,et,w⟩:=uW (show dcP GT[k]? _ from w);obtain⟨d,kvs,hm,T,look⟩:=xo.dic k x l h1 et;refine Dn (glX xs h2) hm T ha (qL h4) (gU h3).1 pins s σ H Q I ⟨F,ρ,ev,av a (λ t w F1 H1 v g r=>?_) w⟩;obtain⟨z,rfl,t,el,w⟩:=uY w;cases r;obtain⟨b,eb,rp⟩:=look z t el;exact⟨z,b,O,eb,w F1 H1 _ g (Rr.of (rp F1 H1))⟩
def Fw(xo:XOk X J FT GT fs gs)(ha:PE X l (rE X.K J FT GT a))(hb:PE X r (rE X.K J FT GT b)):PE X (.BinOp l o r p) (rE X.K J FT GT (.bin o a b)) :=
 (zM (EM xo.hJ o) ha hb).imp λ σ H Q ⟨F,ρ,ev,w⟩=>⟨F,ρ,ev,av a (λ x w F1 H1 v g1 r1=>⟨F1,ρ,ev.grow g1,av b (λ y w F2 H2 v2 g2 r2=>⟨F,H,F2,x,y,g1.trans g2,r1.grow g2,r2.late g1,w⟩) w⟩) w⟩
def Fx{o:CmpOp}(xo:XOk X J FT GT fs gs)(ha:PE X l (rE X.K J FT GT a))(hb:PE X r (rE X.K J FT GT b))(hs:dR r=true):PE X (.Compare l [o] [r] p) (rE X.K J FT GT (.cmp o a b)) :=
 (Aj (jL xo.units o) ha hb (qK hs)).imp λ σ H Q ⟨F,ρ,ev,w⟩=>⟨F,ρ,ev,av a (λ x w F1 H1 v g1 r1=>⟨F1,ρ,ev.grow g1,av b (λ y w F2 H2 v2 g2 r2=>⟨F,H,F2,x,y,g1.trans g2,r1.grow g2,r2.late g1,gk (λ z w v r=>w F2 H2 v (g1.trans g2) r) w⟩) w⟩) w⟩
def Fy(ha:PE X l (rE X.K J FT GT a))(hb:PE X r (rE X.K J FT GT b))(hs:gp r=true):PE X (.Subscript l r p) (rE X.K J FT GT (.ix a b)) :=
 (AK ET ha hb (qL hs)).imp λ σ H Q ⟨F,ρ,ev,w⟩=>⟨F,ρ,ev,av a (λ x w F1 H1 v g1 r1=>⟨F1,ρ,ev.grow g1,av b (λ y w F2 H2 v2 g2 r2=>⟨F,H,F2,x,y,g1.trans g2,r1.grow g2,r2.late g1,w⟩) w⟩) w⟩
def FB(ha:PE X l (rE X.K J FT GT a)):PE X (.UnaryOp .USub l p) (rE X.K J FT GT (.neg a)) :=
 (zN Aa ha).imp λ σ H Q ⟨F,ρ,ev,w⟩=>⟨F,ρ,ev,av a (λ x w F1 H1 v g1 r1=>by
  obtain⟨i,rfl,w⟩:=dQ w;cases r1
  exact w F1 H1 _ g1 rfl) w⟩
def FC(ha:PE X l (rE X.K J FT GT a)):PE X (.UnaryOp .Not l p) (rE X.K J FT GT (.not a)) :=
 (zf ha).imp λ σ H Q ⟨F,ρ,ev,w⟩=>⟨F,ρ,ev,av a (λ x w F1 H1 v g1 r1=>by
  obtain⟨i,rfl,w⟩:=gQ w;cases r1
  exact⟨i,O,w F1 H1 _ g1 rfl⟩) w⟩
def nq{Q:VK}(g:Grow J F H F1 H1)(w:∀F' H' v,Grow J F H F' H'->Rr X.K H F' H' t v->Q v H'):∀F' H' v,Grow J F1 H1 F' H'->Rr X.K H1 F' H' t v->Q v H':=λ F' H' v g' r=>w F' H' v (g.trans g') (r.late g)
def FD{o o':CmpOp}(xo:XOk X J FT GT fs gs)(ha:PE X l (rE X.K J FT GT a))(hb:PE X r (rE X.K J FT GT b))(hc:PE X w' (rE X.K J FT GT c))(hs:dR w'=true):PE X (.Compare l [o,o'] [r,w'] p) (rE X.K J FT GT (.cm2 o o' a b c)) :=
 (Al (jL xo.units o) (jL xo.units o') ha hb hc (vz hs)).imp λ σ H Q ⟨F,ρ,ev,w⟩=>⟨F,ρ,ev,av a (λ x w F1 H1 v g1 r1=>⟨F1,ρ,ev.grow g1,av b (λ y w F2 H2 v2 g2 r2=>⟨F,H,F2,x,y,g1.trans g2,r1.grow g2,r2.late g1,gk (λ z w v3 r3=>by
  obtain⟨k,ek,w2⟩:=gQ w;subst ek;cases r3;refine⟨k,O,?_⟩;split at w2
  ·rw[if_pos (by assumption)];exact⟨F2,ρ,(ev.grow g1).grow g2,av c (λ z w F4 H4 v4 g4 r4=>⟨F,H,F4,y,z,(g1.trans g2).trans g4,(r2.late g1).grow g4,r4.late (g1.trans g2),gk (λ u w v r=>w F4 H4 v ((g1.trans g2).trans g4) r) w⟩) w2⟩
  ·rw[if_neg (by assumption)];exact w2 F2 H2 _ (g1.trans g2) rfl) w⟩) w⟩) w⟩
def vA{l r:Expr}{rest:List Expr}(ha:PE X l (rE X.K J FT GT a))(hb:PE X (.BoolOp .And (r::rest) p) (rE X.K J FT GT b)):PE X (.BoolOp .And (l::r::rest) p) (rE X.K J FT GT (.and a b)) :=
 (zb ha hb).imp λ σ H Q ⟨F,ρ,ev,w⟩=>⟨F,ρ,ev,av a (λ x w F1 H1 v g1 r1=>by
  obtain⟨k,ek,w2⟩:=gQ w;subst ek;cases r1;show if k=true then _ else _;split at w2
  ·rw[if_pos (by assumption)];exact⟨F1,ρ,ev.grow g1,av b (λ y w=>nq g1 w) w2⟩
  ·rw[if_neg (by assumption)];exact w2 F1 H1 _ g1 rfl) w⟩
def vB{l r:Expr}{rest:List Expr}(ha:PE X l (rE X.K J FT GT a))(hb:PE X (.BoolOp .Or (r::rest) p) (rE X.K J FT GT b)):PE X (.BoolOp .Or (l::r::rest) p) (rE X.K J FT GT (.or a b)) :=
 (ze ha hb).imp λ σ H Q ⟨F,ρ,ev,w⟩=>⟨F,ρ,ev,av a (λ x w F1 H1 v g1 r1=>by
  obtain⟨k,ek,w2⟩:=gQ w;subst ek;cases r1;show if k=true then _ else _;split at w2
  ·rw[if_pos (by assumption)];exact w2 F1 H1 _ g1 rfl
  ·rw[if_neg (by assumption)];exact⟨F1,ρ,ev.grow g1,av b (λ y w=>nq g1 w) w2⟩) w⟩
def FE(hc:PT X x (rT X.K J FT GT c))(ha:PE X y (rE X.K J FT GT a))(hb:PE X z (rE X.K J FT GT b)):PE X (.IfExp x y z p) (rE X.K J FT GT (.ite c a b)) :=
 (zi hc ha hb).imp λ σ H Q ⟨F,ρ,ev,w⟩=>⟨F,ρ,ev,av c (λ x w=>cr (λ k w2 F1 H1 g1=>by
  split at w2
  ·rw[if_pos (by assumption)];exact⟨F1,ρ,ev.grow g1,av a (λ y w=>nq g1 w) w2⟩
  ·rw[if_neg (by assumption)];exact⟨F1,ρ,ev.grow g1,av b (λ y w=>nq g1 w) w2⟩) w) w⟩
def qM(ha:PE X e (rE X.K J FT GT a))(hr:PA X es (rA X.K J FT GT r))(hs:aN e=true):PA X (e::es) (rA X.K J FT GT (.cons a r)) :=
 (cO ha hr (aZ hs)).imp λ σ H Q ⟨F,ρ,ev,w⟩=>⟨F,ρ,ev,av a (λ x w F1 H1 v g1 r1=>⟨F1,ρ,ev.grow g1,cD r (λ ts w F2 H2 vs g2 r2=>w F2 H2 _ (g1.trans g2) (.cons (r1.grow g2) (Paired.mapP r2 λ _ _ z=>z.late g1))) w⟩) w⟩
def FF:PA X [] (rA X.K J FT GT .nil):=pa_nil.imp λ σ H Q ⟨F,ρ,ev,w⟩=>w F H _ (.refl ev.w) .nil
def FH(xo:XOk X J FT GT fs gs)(h:PA X es (rA X.K J FT GT l)):PE X (.Tuple es k p) (rE X.K J FT GT (.tup l)) :=
 (At h).imp λ σ H Q ⟨F,ρ,ev,w⟩=>⟨F,ρ,ev,cD l (λ ts ⟨n,z,w⟩ F1 H1 vs g1 r1=>by
  obtain⟨F2,g2,_,r2⟩:=iN g1 r1 n
  exact⟨by rw[<- r2.length,ah];exact z,iJ xo.hJ g2 r2 w⟩) w⟩
def FJ(xo:XOk X J FT GT fs gs)(h:PA X es (rA X.K J FT GT l)):PE X (.List es p) (rE X.K J FT GT (.lst l)) :=
 (Au h).imp λ σ H Q ⟨F,ρ,ev,w⟩=>⟨F,ρ,ev,cD l (λ ts ⟨n,z,w⟩ F1 H1 vs g1 r1=>by
  obtain⟨F2,g2,_,r2⟩:=iN g1 r1 n
  exact⟨by rw[<- r2.length,ah];exact z,eV xo.hJ g2 r2 w⟩) w⟩
theorem FK{a lo hi:Cd}(xo:XOk X J FT GT fs gs)(ha:PE X e (rE X.K J FT GT a))(hl:PO X l (λ σ H Q=>∃F ρ,EV X.K J F H σ ρ/\wE FT GT lo ρ λ t=>oI t λ o=>∀F' H',Grow J F H F' H'->Q o H'))(hh:PO X h (λ σ H Q=>∃F ρ,EV X.K J F H σ ρ/\wE FT GT hi ρ λ t=>oI t λ o=>∀F' H',Grow J F H F' H'->Q o H')) :
  PE X (.Subscript e (.Slice l h none p2) p) (rE X.K J FT GT (.sl a lo hi)) :=
 (AF (EU xo.hJ) ha hl hh).imp λ σ H Q ⟨F,ρ,ev,w⟩=>⟨F,ρ,ev,av a (λ x w F1 H1 v g1 r1=>⟨F1,ρ,ev.grow g1,av lo (λ y w=>mW (λ a w F2 H2 g2=>⟨F2,ρ,(ev.grow g1).grow g2,av hi (λ z w=>mW (λ b w F3 H3 g3=>⟨F,H,F3,x,(g1.trans g2).trans g3,(r1.grow g2).grow g3,w⟩) w) w⟩) w) w⟩) w⟩
end
section
variable {J:Hp->Prop}{FT:List PSp}{GT:List TV}{fs gs:List Str}{N:List Str}{nm:List (Str×NameKind)}
set_option tactic.hygienic true in
def FL{K:FG}{vs:List V}(w:Wd J F1 H1)(h:RrL K H F1 H1 ts vs):∃F2,Wd J F2 H1/\RpL K F2 H1 (ts.map TV.fz) vs:=by
 refine⟨λ b=>H1 b≠none,⟨w.j,λ a f=>f⟩,?_⟩;have up:∀a,F1 a->H1 a≠none:=w.d
 induction h with
 |nil=>rfl
 |cons r q ih=>
  refine⟨_,_,O,?_,ih⟩;rename_i t v _ _
  cases t with
  |own l=>obtain⟨a,vs,e,_,_,qa,ra⟩:=r;exact⟨a,vs,e,(.inl ⟨(λ z=>by rw[qa] at z;cases z),.of qa⟩),ra.ke (.up up)⟩
  |bor l=>obtain⟨a,vs,e,_,qa,ra⟩:=r;exact⟨a,vs,e,(.inl ⟨(λ z=>by rw[qa] at z;cases z),.of qa⟩),ra.ke (.up up)⟩
  |_=>exact Rp.ke (.up up) r
theorem FM{f:Nat}{a:Expr}{es:List Expr}(xo:XOk X J FT GT fs gs)(hf:fs[f]?=some x)(hg:Gl X x)(hd:(x == ("__debug__" : Str))=false)(ha:PA X (a::es) (rA X.K J FT GT l))(hs:aN a=true)(hss:es.all aN=true) :
  PE X (.Call (.Name x p) (a::es) [] pos) (rE X.K J FT GT (.call f l)):=by
 obtain⟨S,eS⟩:∃S,FT[f]?=some S:=gm (by rw[<- xo.len];exact(bc.mp hf).1);obtain⟨k,ps,hr,c⟩:=xo.fns f x S hf eS;refine(Bw c hr hg Bp ha hd (aZ hs) (jP hss)).imp λ σ H Q ⟨F,ρ,ev,w⟩=>⟨F,ρ,ev,cD l (λ ts w F1 H1 vs g1 r1=>?_) w⟩;obtain⟨P,⟨S',e',sp⟩,w⟩:=w;rw[eS] at e';cases e';rw[gE]
 cases n:ts.all TV.nb with
 |true=>
  obtain⟨F2,g2,_,r2⟩:=iN g1 r1 n;exact⟨F2,_,P,g2.w,r2,sp,λ t pt F' H' v g' r'=>(w t pt).2 F' H' v (g2.trans g') (Rr.of r')⟩
 |false=>
  obtain⟨F2,w2,r2⟩:=FL g1.w r1;refine⟨F2,_,P,w2,r2,sp,λ t pt F' H' v g' r'=>?_⟩;obtain⟨lf,w⟩:=w t pt;have gg:Grow J F1 H1 F1 H':=⟨g'.sm,g'.dm,λ _ h=>h,λ _ h=>.inl h,g'.w.j,λ b f=>g'.dm b (g1.w.d b f)⟩;exact w F1 H' v (g1.trans gg) (Rr.of ((lf n).rp r'))
theorem iP{a:Expr}{es:List Expr}{id:String}(hc:bo X (.builtin id) (rL X J (biP f)))(hg:Gl X x)(hm:X.mg x=none)(hv:bootBuiltins x=some (.builtin id))(hn:x ≠ "__name__")(hd:(x == ("__debug__" : Str))=false)(ha:PA X (a::es) (rA X.K J FT GT l))(hs:aN a=true)(hss:es.all aN=true) :
  PE X (.Call (.Name x p) (a::es) [] pos) (rE X.K J FT GT (.bi f l)) :=
 (oR hc hg hm hv ha hn hd (aZ hs) (jP hss)).imp λ σ H Q ⟨F,ρ,ev,w⟩=>⟨F,ρ,ev,cD l (λ ts w F1 H1 vs g1 r1=>⟨F,H,F1,ts,g1,r1,w⟩) w⟩
theorem qN{a:Expr}{es:List Expr}{id:String}(hc:bo X (.type id) (rL X J (biP f)))(hg:Gl X x)(hm:X.mg x=none)(hv:bootBuiltins x=some (.type id))(hn:x ≠ "__name__")(hd:(x == ("__debug__" : Str))=false)(ha:PA X (a::es) (rA X.K J FT GT l))(hs:aN a=true)(hss:es.all aN=true) :
  PE X (.Call (.Name x p) (a::es) [] pos) (rE X.K J FT GT (.bi f l)) :=
 (jo hc hg hm hv ha hn hd (aZ hs) (jP hss)).imp λ σ H Q ⟨F,ρ,ev,w⟩=>⟨F,ρ,ev,cD l (λ ts w F1 H1 vs g1 r1=>⟨F,H,F1,ts,g1,r1,w⟩) w⟩
theorem FN{a:Expr}{es:List Expr}(xo:XOk X J FT GT fs gs)(hx:biN f=some x)(hg:Gl X x)(ha:PA X (a::es) (rA X.K J FT GT l))(hs:aN a=true)(hss:es.all aN=true) :
  PE X (.Call (.Name x p) (a::es) [] pos) (rE X.K J FT GT (.bi f l)):=by
 have bm:∀y,y∈BN->X.mg y=none:=xo.blt
 cases f with
 |len=>cases hx;exact iP (gR xo.hJ xo.calm .len pv) hg (bm _ on) (by decide +kernel) on on ha hs hss
 |tuple=>cases hx;exact qN (gR xo.hJ xo.calm .tuple pv) hg (bm _ on) (by decide +kernel) on on ha hs hss
 |list=>cases hx;exact qN (gR xo.hJ xo.calm .list pv) hg (bm _ on) (by decide +kernel) on on ha hs hss
 |sum=>cases hx;exact iP (gR xo.hJ xo.calm .sum pv) hg (bm _ on) (by decide +kernel) on on ha hs hss
 |max=>cases hx;exact iP (EY xo.calm) hg (bm _ on) (by decide +kernel) on on ha hs hss
 |min=>cases hx;exact iP (EZ xo.calm) hg (bm _ on) (by decide +kernel) on on ha hs hss
 |abs=>cases hx;exact iP (gR xo.hJ xo.calm .abs pv) hg (bm _ on) (by decide +kernel) on on ha hs hss
 |int=>cases hx;exact qN (gR xo.hJ xo.calm .int pv) hg (bm _ on) (by decide +kernel) on on ha hs hss
 |sorted=>cases hx;exact iP (gR xo.hJ xo.calm .sorted pv) hg (bm _ on) (by decide +kernel) on on ha hs hss
 |any=>cases hx;exact iP (gR xo.hJ xo.calm .any pv) hg (bm _ on) (by decide +kernel) on on ha hs hss
 |_=>cases hx
theorem FO{f:BI}{z:Str}{p pos pz:Pos}(xo:XOk X J FT GT fs gs)(h:f=.isI\/f=.isB\/f=.isT\/f=.isL\/f=.isS)(hz:z=Str.ofString (isN f))(hg:Gl X "isinstance")(hgz:Gl X z)(hs:aN y=true)(hy:PE X y (rE X.K J FT GT b)) :
  PE X (.Call (.Name "isinstance" p) [y,.Name z pz] [] pos) (rE X.K J FT GT (.isi f b)):=by
 have bm:∀y,y∈BN->X.mg y=none:=xo.blt
 have hb:bootBuiltins z=some (.type (isN f))/\X.mg z=none/\z ≠ "__name__" /\ (z == ("__debug__" : Str))=false:=by
  subst hz
  rcases h with rfl|rfl|rfl|rfl|rfl<;>exact⟨by decide +kernel,bm _ on,on,on⟩
 have ha:PA X [y,.Name z pz] (oO (rE X.K J FT GT b) (oO (tC (.ty (isN f))) sR)):=cO hy (cO (yO (v:=.ty (isN f)) hgz hb.2.1 hb.1 rfl hb.2.2.1 hb.2.2.2) pa_nil rfl) (aZ hs);refine(oR (Fc (J:=J) f h) hg (bm _ on) (by decide +kernel) ha on on (aZ hs) rfl).imp λ σ H Q ⟨F,ρ,ev,w⟩=>⟨F,ρ,ev,av b (λ t w F1 H1 v g1 r1=>?_) w⟩;exact⟨v,O,F,H,F1,[t],g1,.cons r1 .nil,w⟩
theorem FP{p pos kp p2:Pos}(xo:XOk X J FT GT fs gs)(hg:Gl X "max")(hg2:Gl X "len")(hs:aN y=true)(hs2:aN z=true)(hy:PE X y (rE X.K J FT GT a))(hz:PE X z (rE X.K J FT GT b)) :
  PE X (.Call (.Name "max" p) [y,z] [⟨some (Str.ofString "key"),.Name "len" p2,kp⟩] pos) (rE X.K J FT GT (.mxl a b)):=by
 refine(EW xo.calm hg (xo.blt _ on) hg2 (xo.blt _ on) hy hz (aZ hs) (aZ hs2)).imp λ σ H Q ⟨F,ρ,ev,w⟩=>⟨F,ρ,ev,av a (λ t w F1 H1 v g1 r1=>⟨F1,ρ,ev.grow g1,av b (λ u w F2 H2 v2 g2 r2=>?_) w⟩) w⟩;have w:biP .maxlen [t,u] λ t=>∀F' H' v,Grow J F H F' H'->Rr X.K H F' H' t v->Q v H':=w
 cases t with
 |tup l=>
  cases u with
  |tup m=>
   obtain⟨A,xs,rfl,q1,s1⟩:=r1.grow g2;obtain⟨B,ys,rfl,q2,s2⟩:=r2;refine⟨A,B,xs,ys,O,O,q1,q2,λ z=>?_,λ z=>?_⟩
   ·have w:∀F' H' v,Grow J F H F' H'->Rr X.K H F' H' (.tup (if l.length<m.length then m else l)) v->Q v H':=w;rw[if_neg (by rw[s1.length,s2.length];lia)] at w;exact w F2 H2 _ (g1.trans g2) ⟨A,xs,O,q1,s1⟩
   ·have w:∀F' H' v,Grow J F H F' H'->Rr X.K H F' H' (.tup (if l.length<m.length then m else l)) v->Q v H':=w;rw[if_pos (by rw[s1.length,s2.length];lia)] at w;exact w F2 H2 _ (g1.trans g2) ⟨B,ys,O,q2,s2⟩
  |_=>exact w.elim
 |_=>cases u<;>exact w.elim
theorem FQ{p pos p2 pos2:Pos}(xo:XOk X J FT GT fs gs)(hg:Gl X "tuple")(hg2:Gl X "reversed")(hs:aN y=true)(hy:PE X y (rE X.K J FT GT a)) :
  PE X (.Call (.Name "tuple" p) [.Call (.Name "reversed" p2) [y] [] pos2] [] pos) (rE X.K J FT GT (.trev k a)):=by
 cases k with
 |false=>
  refine(BV xo.calm hg hg2 (xo.blt _ on) (xo.blt _ on) hy (aZ hs)).imp λ σ H Q ⟨F,ρ,ev,w⟩=>⟨F,ρ,ev,av a (λ t w F1 H1 v g1 r1=>?_) w⟩;obtain⟨l,e,w⟩:=eU (show l1 t λ l=>∀F' H' v,Grow J F H F' H'->Rr X.K H F' H' (.tup l.reverse) v->Q v H' from w);obtain⟨b,vs,rfl,r,q⟩:=r1.lq e;exact⟨b,vs,O,q,iJ xo.hJ g1 r.reverse w⟩
 |true=>
  refine(CI xo.calm hg hg2 (xo.blt _ on) (xo.blt _ on) hy (aZ hs)).imp λ σ H Q ⟨F,ρ,ev,w⟩=>⟨F,ρ,ev,av a (λ t w F1 H1 v g1 r1=>?_) w⟩;have w:k1 true t λ l=>∀F' H' v,Grow J F H F' H'->Rr X.K H F' H' (.tup l.reverse) v->Q v H':=w
  cases t with
  |tup l=>obtain⟨b,vs,rfl,q,r⟩:=r1;exact⟨b,vs,rfl,q,iJ xo.hJ g1 r.reverse w⟩
  |_=>exact w.elim
theorem FR{k:Bool}{p pos p2 pos2:Pos}(xo:XOk X J FT GT fs gs)(hg:Gl X (Str.ofString (if k=true then "tuple" else "list")))(hg2:Gl X "range")(hs:aN y=true)(hy:PE X y (rE X.K J FT GT a)) :
  PE X (.Call (.Name (Str.ofString (if k=true then "tuple" else "list")) p) [.Call (.Name "range" p2) [y] [] pos2] [] pos) (rE X.K J FT GT (.lrng k a)):=by
 have hr:=jo (p:=p2) (pos:=pos2) CS hg2 (xo.blt _ on) (by decide +kernel) (cO hy pa_nil (aZ hs)) on on (aZ hs) rfl;have e:∀j:Int,(upL j.toNat).map TV.int=(List.range j.toNat).map λ i=>TV.int (i:Nat):=λ j=>by unfold upL;rw[aV];rfl
 cases k with
 |false=>
  refine(jo (CT xo.calm) hg (xo.blt _ on) (by decide +kernel) (cO hr pa_nil rfl) on on rfl rfl).imp λ σ H Q ⟨F,ρ,ev,w⟩=>⟨F,ρ,ev,av a (λ t w F1 H1 v g1 r1=>?_) w⟩;obtain⟨j,rfl,⟨c0,c1⟩,w⟩:=dQ (show i1 t λ j=>(0<=j/\j<=1000)/\∀F' H' v,Grow J F H F' H'->Rr X.K H F' H' (.own ((List.range j.toNat).map λ i=>.int (i:Nat))) v->Q v H' from w);cases r1;refine⟨j,O,λ r hr=>?_⟩;have g2:Grow J F1 H1 F1 (upd H1 r (.rng 0 j)):=.new xo.hJ g1.w _ hr;refine⟨r,j.toNat,O,by rw[cV];congr 2;exact(fQ c0).symm,fu,λ l hl=>?_⟩;rw[<- e] at w;exact eV xo.hJ (g1.trans g2) (RpL.ofInts _) w l hl
 |true=>
  refine(jo (DD xo.calm) hg (xo.blt _ on) (by decide +kernel) (cO hr pa_nil rfl) on on rfl rfl).imp λ σ H Q ⟨F,ρ,ev,w⟩=>⟨F,ρ,ev,av a (λ t w F1 H1 v g1 r1=>?_) w⟩;obtain⟨j,rfl,⟨c0,c1⟩,w⟩:=dQ (show i1 t λ j=>(0<=j/\j<=1000)/\∀F' H' v,Grow J F H F' H'->Rr X.K H F' H' (.tup ((List.range j.toNat).map λ i=>.int (i:Nat))) v->Q v H' from w);cases r1;refine⟨j,O,λ r hr=>?_⟩;have g2:Grow J F1 H1 F1 (upd H1 r (.rng 0 j)):=.new xo.hJ g1.w _ hr;refine⟨r,j.toNat,O,by rw[cV];congr 2;exact(fQ c0).symm,fu,λ l hl=>?_⟩;rw[<- e] at w;exact iJ xo.hJ (g1.trans g2) (RpL.ofInts _) w l hl
theorem FS{p pos p2 pos2:Pos}(xo:XOk X J FT GT fs gs)(hg:Gl X "sorted")(hg2:Gl X "set")(hs:aN y=true)(hy:PE X y (rE X.K J FT GT a)) :
  PE X (.Call (.Name "sorted" p) [.Call (.Name "set" p2) [y] [] pos2] [] pos) (rE X.K J FT GT (.ss a)):=by
 have hr:=jo (p:=p2) (pos:=pos2) (Ep xo.calm) hg2 (xo.blt _ on) (by decide +kernel) (cO hy pa_nil (aZ hs)) on on (aZ hs) rfl;refine(oR (Er xo.calm) hg (xo.blt _ on) (by decide +kernel) (cO hr pa_nil rfl) on on rfl rfl).imp λ σ H Q ⟨F,ρ,ev,w⟩=>⟨F,ρ,ev,av a (λ t w F1 H1 v g1 r1=>?_) w⟩;obtain⟨l,e,ns,rfl,⟨n10,n64⟩,w⟩:=eU (show l1 t _ from w);obtain⟨b,vs,rfl,r,q⟩:=r1.lq e;cases r.ints;refine⟨b,ns,O,q,n10,λ z hz=>?_⟩;have g2:Grow J F1 H1 F1 (upd H1 z (.ext (fP X.prog X.w (!byT X.w) ns z))):=.new xo.hJ g1.w _ hz;exact⟨z,ns,O,cV,n64,λ ns' p1 p2 l hl=>eV xo.hJ (g1.trans g2) (RpL.ofInts ns') (w ns' p1 p2) l hl⟩
end
section
variable {J:Hp->Prop}{FT:List PSp}{GT:List TV}{fs gs:List Str}{N:List Str}{nm:List (Str×NameKind)}{tg:Expr}
def FU(hy:PE X y (rE X.K J FT GT a)):PI X tg y (rW X.K J FT GT .seq (.cons a .nil)) :=
 (Dq hy).imp λ σ H R ⟨F,ρ,ev,w⟩=>⟨F,ρ,ev,av a (λ t w F1 H1 v g r=>by
  obtain⟨b,l,e,w⟩:=jK (show s1 t λ its=>∀F' H' xs Jt,Grow J F H F' H'->RrL X.K H F' H' [t] xs->ItOk X.K J Jt its [t] xs->R Jt H' from w);obtain⟨p,vs,rfl,_,q⟩:=r.sq e
  rcases q with ⟨rfl,q⟩|⟨rfl,q⟩
  ·exact .inr ⟨p,O,⟨vs,q⟩,w F1 H1 _ _ g (.cons r .nil) (Fe e)⟩
  ·exact .inl ⟨p,O,⟨vs,q⟩,w F1 H1 _ _ g (.cons r .nil) (Fd e)⟩) w⟩
def FV(n:Nat):((List.range n).map λ k=>TV.int (0+(k:Nat)))=(List.range n).map λ k=>TV.int (k:Nat):=pv
def FW{p pos:Pos}(xo:XOk X J FT GT fs gs)(hg:Gl X "range")(hs:aN e=true)(he:PE X e (rE X.K J FT GT a)):PI X tg (.Call (.Name "range" p) [e] [] pos) (rW X.K J FT GT .rng (.cons a .nil)) :=
 (zH hg (xo.blt _ on) (cO he pa_nil (aZ hs)) (aZ hs)).imp λ σ H R ⟨F,ρ,ev,w⟩=>⟨F,ρ,ev,av a (λ t w F1 H1 v g r=>by
  obtain⟨j,rfl,c,w⟩:=dQ (show i1 t λ j=>(-(2 ^ 62)<=j/\j<2 ^ 62)/\∀F' H' xs Jt,Grow J F H F' H'->RrL X.K H F' H' [t] xs->ItOk X.K J Jt ((List.range j.toNat).map λ i=>.int (i:Nat)) [t] xs->R Jt H' from w);cases r
  exact⟨j,O,c.1,c.2,w F1 H1 _ _ g (.cons rfl .nil) (by rw[<- FV];exact Ff 0 _)⟩) w⟩
def FX{K:FG}{t u z:TV}(h:RrL K H F1 H1 [t,u,z] xs):∃x y w,xs=[x,y,w]/\Rr K H F1 H1 t x/\Rr K H F1 H1 u y/\Rr K H F1 H1 z w:=by
 cases h with
 |cons r q=>obtain⟨y,w,rfl,r',r''⟩:=mY q;exact⟨_,y,w,rfl,r,r',r''⟩
def FY{p pos:Pos}(xo:XOk X J FT GT fs gs)(hg:Gl X "range")(hs:aN e=true)(hs2:aN e2=true)(hs3:aN e3=true)(hp:PA X [e,e2,e3] (rA X.K J FT GT l)):PI X tg (.Call (.Name "range" p) [e,e2,e3] [] pos) (rW X.K J FT GT .rng3 l) :=
 (Cc hg (xo.blt _ on) hp (by rw[aZ hs,aZ hs2,aZ hs3];rfl) (by rw[aZ hs2,aZ hs3];rfl)).imp λ σ H R ⟨F,ρ,ev,w⟩=>⟨F,ρ,ev,cD l (λ ts w F1 H1 vs g r=>by
  rcases ts with _|⟨t,_|⟨u,_|⟨z,_|⟨_,ts⟩⟩⟩⟩
  ·exact w.elim
  ·exact w.elim
  ·exact w.elim
  ·obtain⟨i,j,rfl,rfl,w⟩:=dC w;obtain⟨c,rfl,cc,w⟩:=dQ w;have w:=w F1 H1 vs _ g r (Fg i c _);obtain⟨x,y,v,rfl,r1,r2,r3⟩:=FX r;cases r1;cases r2;cases r3;exact⟨i,j,c,O,cc,w⟩
  ·exact w.elim) w⟩
def kY(h:k1 b t P):∃l,t.items=some (b,l)/\P l:=by
 cases b with
 |true=>cases t<;>first|exact⟨_,rfl,h⟩|exact h.elim
 |false=>exact eU h
def Rr.sb{K:FG}{b:Bool}{l:List TV}(h:Rr K H F' H' t v)(e:t.items=some (b,l)):∃a vs,v=.ref a/\SqB K b H' a vs:=by
 obtain⟨a,vs,rfl,q,_⟩:=h.vw.b e;exact⟨a,vs,O,q⟩
def FZ{p pos:Pos}(xo:XOk X J FT GT fs gs)(hg:Gl X "zip")(hs:aN e=true)(hs2:aN e2=true)(hp:PA X [e,e2] (rA X.K J FT GT l)):PI X (.Tuple es x1 pp) (.Call (.Name "zip" p) [e,e2] [] pos) (rW X.K J FT GT (.zip c d) l) :=
 (DN DO hg (xo.blt _ on) hp (aZ hs) (by rw[aZ hs2];rfl)).imp λ σ H R ⟨F,ρ,ev,w⟩=>⟨F,ρ,ev,cD l (λ ts w F1 H1 vs g r=>by
  rcases ts with _|⟨t,_|⟨u,_|⟨z,ts⟩⟩⟩
  ·exact w.elim
  ·exact w.elim
  ·obtain⟨l,e1,w⟩:=kY w;obtain⟨m,e2,w⟩:=kY w;obtain⟨x,y,rfl,r1,r2⟩:=mY r;obtain⟨A,vs,rfl,q⟩:=r1.sb e1;obtain⟨B,ws,rfl,q2⟩:=r2.sb e2
   exact⟨[(c,A),(d,B)],O,O,λ i s q'=>by
    match i,q' with
    |0,rfl=>exact⟨_,q⟩
    |1,rfl=>exact⟨_,q2⟩,w F1 H1 _ _ g r (Fk xo.hJ e1 e2)⟩
  ·exact w.elim) w⟩
def Ga{p pos:Pos}(xo:XOk X J FT GT fs gs)(hg:Gl X "enumerate")(hs:aN e=true)(he:PE X e (rE X.K J FT GT a)):PI X (.Tuple es x1 pp) (.Call (.Name "enumerate" p) [e] [] pos) (rW X.K J FT GT (.enum c) (.cons a .nil)):=by
 cases c with
 |true=>
  exact(Co hg (xo.blt _ on) he (aZ hs)).imp λ σ H R ⟨F,ρ,ev,w⟩=>⟨F,ρ,ev,av a (λ t w F1 H1 v g r=>by
   obtain⟨l,e1,w⟩:=kY (show k1 true t λ l=>∀F' H' xs Jt,Grow J F H F' H'->RrL X.K H F' H' [t] xs->ItOk X.K J Jt (l.mapIdx λ i x=>.tup [.int (i:Nat),x]) [t] xs->R Jt H' from w);obtain⟨A,vs,rfl,q⟩:=r.sb e1
   exact⟨A,vs,O,q,w F1 H1 _ _ g (.cons r .nil) (Fh xo.hJ e1)⟩) w⟩
 |false=>
  exact(CL hg (xo.blt _ on) he (aZ hs)).imp λ σ H R ⟨F,ρ,ev,w⟩=>⟨F,ρ,ev,av a (λ t w F1 H1 v g r=>by
   obtain⟨l,e1,w⟩:=kY (show k1 false t λ l=>∀F' H' xs Jt,Grow J F H F' H'->RrL X.K H F' H' [t] xs->ItOk X.K J Jt (l.mapIdx λ i x=>.tup [.int (i:Nat),x]) [t] xs->R Jt H' from w);obtain⟨A,vs,rfl,q⟩:=r.sb e1
   exact⟨A,vs,O,q,w F1 H1 _ _ g (.cons r .nil) (Fi xo.hJ e1)⟩) w⟩
noncomputable def cEn(own:List Str)(js:List Nat)(ρ:En):En:=List.replicate own.length none++js.map λ j=>(ρ[j]?).join
def EV.comp{K:FG}{own:List Str}(e:EV K J F H σ ρ):EV K J F H (cQ own.length js σ) (cEn own js ρ) :=
 ⟨e.w,λ i t h=>by
  unfold cEn at h;unfold cQ;by_cases hi:i<own.length
  ·rw[cY (by simpa using hi),jk] at h;split at h<;>cases h
  ·rw[cP (by simpa using hi),iw,aX] at h;rw[cP (by simpa using hi),iw,aX]
   cases ej:js[i-own.length]? with
   |none=>rw[ej] at h;cases h
   |some j=>
    rw[ej] at h;have h:(ρ[j]?).join=some t:=bS h
    have h2:ρ[j]?=some (some t):=by
     cases q:ρ[j]? with
     |none=>rw[q] at h;cases h
     |some o=>rw[q] at h;cases o<;>cases h;rfl
    obtain⟨v,e1,r⟩:=e.sl j t h2
    exact⟨v,by rw[Option.map_some,e1];rfl,r⟩⟩
def nr{own:List Str}{i:Nat}(h:i<own.length):∀u,(cEn own js ρ)[i]?≠some (some u):=λ u z=>by
 unfold cEn at z;rw[cY (by simpa using h),jk] at z;split at z<;>cases z
theorem ny{K:PySem.W.Frag}{own:List Str}{js tgs:List Nat}{Q:VK}{tc:TT}{te:TE}
  (hJ:JS J) (g1:Grow J F H F1 H1) (rx:RrL K H F1 H1 ts xs) (ok:ItOk K J Jt its ts xs) (ev:EV K J F H σ ρ) (lt:∀i∈tgs,i<own.length) (hn:its.length<sizeLine) (b:TV->(List TV->Prop)->Prop)
  (hm:∀t K K',(∀y,K y->K' y)->b t K->b t K') (w:cmF b its λ ys=>∀F' H' v,Grow J F H F' H'->Rr K H F' H' (.own ys) v->Q v H')
  (st:∀t P x F' H' σ',b t P->EV K J F' H' σ' (cEn own js ρ)->σ'.length=(cQ own.length js σ).length->Rp K F' H' t x ->
   ∀R:List V->St->Hp->Prop,(∀ys vs σ2 F2 H2,P ys->ys.length<=1->Grow J F' H' F2 H2->RpL K F2 H2 ys vs->EV K J F2 H2 σ2 (cEn own js ρ)->σ2.length=σ'.length->R vs σ2 H2) ->
    tgG K tgs x σ' H' λ σ3 H3=>tc σ3 H3 λ q H4=>if q=true then te σ3 H4 λ v H5=>R [v] σ3 H5 else R [] σ3 H4) :
  ∃W:Nat->Nat->List V->St->Hp->Prop,(∃m,W 0 m [] (cQ own.length js σ) H1)/\∀i m ys σ' H',W i m ys σ' H' ->
   (Jt.stop i H'/\∀p,H' p=none->Q (.ref p) (upd H' p (.lst ys))) \/
   (Jt.go i H'/\ys.length < sizeLine/\∃N:List V->St->Hp->Prop,(∀zs σ2 H2,N zs σ2 H2->∃m',m' < m/\W (i+1) m' zs σ2 H2) /\
    ∀x H2,Jt.yld i H' x H2->tgG K tgs x σ' H2 λ σ3 H3=>tc σ3 H3 λ q H4=>if q=true then te σ3 H4 λ v H5=>N (ys++[v]) σ3 H5 else N ys σ3 H4):=by
 refine⟨λ i m ys σ' H'=>i≤its.length/\m=its.length - i/\∃F' zs,Grow J F1 H1 F' H'/\EV K J F' H' σ' (cEn own js ρ)/\σ'.length=(cQ own.length js σ).length/\RpL K F' H' zs ys/\zs.length≤i/\cmF b (its.drop i) λ ws=>∀F' H' v,Grow J F H F' H'->Rr K H F' H' (.own (zs++ws)) v->Q v H',
  ⟨_,bC _,rfl,F1,[],.refl g1.w,(ev.grow g1).comp,rfl,rfl,bC _,w⟩,?_⟩
 rintro i m ys σ' H' ⟨hi,rfl,F',zs,g',ev',sl,rz,zl,w'⟩;have vw:Paired (Vw K F' H') ts xs:=Paired.mapP (rx.grow g') λ _ _ r=>r.vw;by_cases c:i<its.length
 ·refine .inr ⟨ok.go F' H' i g'.w vw c,by rw[← rz.length];lia,λ zs' σ2 H2=>∃F2 ws,Grow J F1 H1 F2 H2/\EV K J F2 H2 σ2 (cEn own js ρ)/\σ2.length=(cQ own.length js σ).length/\RpL K F2 H2 ws zs'/\ws.length≤i+1/\cmF b (its.drop (i+1)) λ us=>∀F' H' v,Grow J F H F' H'->Rr K H F' H' (.own (ws++us)) v->Q v H',
   λ zs' σ2 H2 ⟨F2,ws,q⟩=>⟨_,fu,c,rfl,F2,ws,q⟩,λ x H2 y=>?_⟩
  obtain⟨t,et,gy,rt⟩:=ok.yld F' H' i x H2 g'.w vw c y
  have ed:its.drop i=t::its.drop (i+1):=by
   rw[iG c]
   congr 1
   rw[aF c] at et;exact bS et
  rw[ed] at w'
  have z:=st t _ x F' H2 σ' w' (ev'.grow gy) sl rt (λ vs σ2 H3=>∃F2 ws,Grow J F1 H1 F2 H3/\EV K J F2 H3 σ2 (cEn own js ρ)/\σ2.length=(cQ own.length js σ).length/\RpL K F2 H3 ws (ys++vs)/\ws.length<=i+1/\cmF b (its.drop (i+1)) λ us=>∀F' H' v,Grow J F H F' H'->Rr K H F' H' (.own (ws++us)) v->Q v H')
   (λ zs2 vs σ2 F2 H3 q l1 g2 r2 e2 s2=>⟨F2,zs++zs2,(g'.trans gy).trans g2,e2,s2.trans sl,(rz.ke (gy.trans g2).ke).append r2,by rw[aQ];lia,by
    exact mX hm (λ us q=>by rw[eO];exact q) q⟩)
  simp only[gE] at z;exact z
 ·have e:i=its.length:=by lia
  subst e;rw[qO] at w';have w':∀F' H' v,Grow J F H F' H'->Rr K H F' H' (.own (zs++[])) v->Q v H':=w';rw[gE] at w';exact .inl ⟨ok.stop F' H' g'.w vw,eV hJ (g1.trans g') rz w'⟩
end
section
variable {J:Hp->Prop}{FT:List PSp}{GT:List TV}{fs gs:List Str}{N:List Str}{nm:List (Str×NameKind)}
def jR{cl:LA}(xo:XOk X J FT GT fs gs):XOk (bh X N' sc cl C ex s H) J FT GT fs gs:=⟨xo.calm,xo.units,xo.hJ,xo.fns,xo.glb,xo.dic,xo.blt,xo.len⟩
theorem Gb{t iter elt:Expr}(xo:XOk X J FT GT fs gs)(xs:XS X N nm)(hS:ckS N nm sc own fv js=true)(hi:PI X t iter (rW X.K J FT GT k it))(hT:ckT false (own++fv) (cE nm sc.names) tgs t=true)(hl:tgs.all (λ i=>decide (i<own.length))=true)(hns:dR iter=true)
  (he:∀Y:Cx,XOk Y J FT GT fs gs->XS Y (own++fv) (cE nm sc.names)->PE Y elt (rE Y.K J FT GT e)):PE X (.ListComp elt [⟨t,iter,[],0⟩] sc pos) (rE X.K J FT GT (.comp own fv js tgs k it e)):=by
 intro pins s σ H Q I h;obtain⟨cl,S⟩:=nh I.ok xs hS;have yx:∀(C:Addr) (ex:List Addr) (s:Shared) (H:Hp),XS (bh X (own++fv) sc cl C ex s H) (own++fv) (cE nm sc.names):=λ C ex s H=>⟨rfl,S.rel⟩;have lt:∀i∈tgs,i<own.length:=λ i hi=>ay (gW.mp hl i hi);refine Bv (g:=tgG X.K tgs) (te:=rE X.K J FT GT e) xo.calm hi S.clos S.cell S.kind S.names S.sub S.has S.len S.cap (λ C ex s H=>(jQ (X:=bh X (own++fv) sc cl C ex s H) S.nd xo.calm (yx C ex s H) (λ z=>by cases z) hT).1) (λ C ex s H=>he _ (jR xo) (yx C ex s H)) (λ x=>kX hns) pins s σ H Q I ?_;obtain⟨F,ρ,ev,w⟩:=h;refine⟨F,ρ,ev,cD it (λ ts w=>gP (λ its w F1 H1 xs Jt g1 rx ok=>?_) w) w⟩;obtain⟨hn,w⟩:=w
 have z:=ny (tc:=λ σ H Q=>Q true H) (te:=rE X.K J FT GT e) xo.hJ g1 rx ok ev lt hn (λ t K'=>stE (cEn own js ρ) tgs t λ ρ'=>wE FT GT e ρ' λ y=>(y.nb=true/\K' [y.fz])) (λ t K K' h q=>eR (λ ρ' q=>av e (λ y q=>⟨q.1,h _ q.2⟩) q) q) w
  (λ t P x F' H' σ' b ev' sl rt R fin=>nk b ev' rt (λ i hi=>by rw[sl];unfold cQ;simp;have:=lt i hi;lia) λ σ2 ρ2 p ev2 sl2 keep=>by
   show if true=true then _ else _;rw[if_pos rfl];refine⟨F',ρ2,ev2,av e (λ y ⟨nb,p⟩ F2 H2 v g r=>?_) p⟩;obtain⟨F3,g3,_,_,rp⟩:=r.frz g nb
   exact fin [y.fz] [v] σ2 F3 H2 p (ar _) g3 ⟨v,[],O,rp,O⟩ ((keep _ ev' λ i hi u=>nr (lt i hi) u).grow g3) sl2)
 simpa only[dZ] using z
theorem Gc{t iter elt cnd:Expr}(xo:XOk X J FT GT fs gs)(xs:XS X N nm)(hS:ckS N nm sc own fv js=true)(hi:PI X t iter (rW X.K J FT GT k it))(hT:ckT false (own++fv) (cE nm sc.names) tgs t=true)(hl:tgs.all (λ i=>decide (i<own.length))=true)(hns:dR iter=true)
  (hc:∀Y:Cx,XOk Y J FT GT fs gs->XS Y (own++fv) (cE nm sc.names)->PT Y cnd (rT Y.K J FT GT c)) (he:∀Y:Cx,XOk Y J FT GT fs gs->XS Y (own++fv) (cE nm sc.names)->PE Y elt (rE Y.K J FT GT e)):PE X (.ListComp elt [⟨t,iter,[cnd],0⟩] sc pos) (rE X.K J FT GT (.compI own fv js tgs k it c e)):=by
 intro pins s σ H Q I h;obtain⟨cl,S⟩:=nh I.ok xs hS;have yx:∀(C:Addr) (ex:List Addr) (s:Shared) (H:Hp),XS (bh X (own++fv) sc cl C ex s H) (own++fv) (cE nm sc.names):=λ C ex s H=>⟨rfl,S.rel⟩;have lt:∀i∈tgs,i<own.length:=λ i hi=>ay (gW.mp hl i hi);refine Cg (g:=tgG X.K tgs) (tc:=rT X.K J FT GT c) (te:=rE X.K J FT GT e) xo.calm hi S.clos S.cell S.kind S.names S.sub S.has S.len S.cap (λ C ex s H=>(jQ (X:=bh X (own++fv) sc cl C ex s H) S.nd xo.calm (yx C ex s H) (λ z=>by cases z) hT).1) (λ C ex s H=>he _ (jR xo) (yx C ex s H)) (λ C ex s H=>hc _ (jR xo) (yx C ex s H)) (λ x=>kX hns) pins s σ H Q I ?_;obtain⟨F,ρ,ev,w⟩:=h;refine⟨F,ρ,ev,cD it (λ ts w=>gP (λ its w F1 H1 xs Jt g1 rx ok=>?_) w) w⟩;obtain⟨hn,w⟩:=w
 exact ny (tc:=rT X.K J FT GT c) (te:=rE X.K J FT GT e) xo.hJ g1 rx ok ev lt hn (λ t K'=>stE (cEn own js ρ) tgs t λ ρ'=>wE FT GT c ρ' λ x=>b1 x λ q=>if q=true then wE FT GT e ρ' λ y=>(y.nb=true/\K' [y.fz]) else K' []) (λ t K K' h q=>eR (λ ρ' q=>av c (λ x q=>cr (λ z q=>by
   split at q
   ·rw[if_pos (by assumption)];exact av e (λ y q=>⟨q.1,h _ q.2⟩) q
   ·rw[if_neg (by assumption)];exact h _ q) q) q) q) w
  (λ t P x F' H' σ' b ev' sl rt R fin=>nk b ev' rt (λ i hi=>by rw[sl];unfold cQ;simp;have:=lt i hi;lia) λ σ2 ρ2 p ev2 sl2 keep=>by
   have kp:=keep _ ev' λ i hi u=>nr (own:=own) (js:=js) (ρ:=ρ) (lt i hi) u;refine⟨F',ρ2,ev2,av c (λ x w=>cr (λ q w2 F2 H2 g2=>?_) w) p⟩;split at w2
   ·rw[if_pos (by assumption)];refine⟨F2,ρ2,ev2.grow g2,av e (λ y ⟨nb,p⟩ F3 H3 v g r=>?_) w2⟩;obtain⟨F4,g4,_,_,rp⟩:=r.frz g nb;exact fin [y.fz] [v] σ2 F4 H3 p (ar _) (g2.trans g4) ⟨v,[],O,rp,O⟩ ((kp.grow g2).grow g4) sl2
   ·rw[if_neg (by assumption)]
    exact fin [] [] σ2 F2 H2 w2 (bC _) g2 rfl (kp.grow g2) sl2)
def Gd{es:List Expr}(h:es.all aN=true):(backTo pos (starEach es env)).all (λ x=>!x.1)=true:=by
 unfold backTo;rw[List.all_map];have:=qH (env:=env) h;rw[List.all_eq_not_any_not];simpa using this
theorem nz{e:Expr}{es:List Expr}(h:(e::es).all aN=true)(hl:(e::es).length<20) :
  ((backTo cp (starEach (e::es) env)).all (λ x=>!x.1)&&(backToKw cp (keywordEach [] env)).all (λ x=>x.1.isSome)&&decide ((e::es).length+([]:List Keyword).length+(if ([]:List Keyword).isEmpty then 0 else 1)<30))=true:=by
 rw[Gd h,bu,bu];refine⟨⟨O,O⟩,?_⟩;simp only[List.isEmpty_nil,dZ,List.length_nil];exact bf fu
def vC(h:dcR o P):∃l,o=some (some (.dct l))/\P l:=by
 rcases o with _|_|t
 ·exact h.elim
 ·exact h.elim
 ·cases t<;>first|exact⟨_,rfl,h⟩|exact h.elim
theorem qP(i:Int):∀l:List (Int×Int),fK (l.map λ q=>((Sum.inl q.1:Key),V.int q.2)) (Sum.inl i)=(l.lookup i).map V.int
 |[]=>rfl
 |(a,b)::r=>by
  rw[cz,gb];by_cases e:a=i
  ·subst e;rw[pV rfl,kO];rfl
  ·rw[pW (λ z=>e (Sum.inl.inj z)),qP i r,show(i == a)=false from mS (λ z=>e z.symm)]
def Ge{i:Nat}(xo:XOk X J FT GT fs gs)(xs:XS X N nm)(h1:N[i]?=some x)(h2:vs nm x=true)(h3:okN x=true)(h4:gp y=true)(hb:PE X y (rE X.K J FT GT b)):PE X (.Subscript (.Name x p) y p2) (rE X.K J FT GT (.di i b)):=by
 intro pins s σ H Q I ⟨F,ρ,ev,w⟩;obtain⟨d1,d2,_⟩:=gU h3;obtain⟨l,hs,w⟩:=vC (show dcR ρ[i]? _ from w);obtain⟨v,e,a,rfl,ha⟩:=ev.sl i _ hs;refine De (by have:=xo.units;lia) (kh (by rw[xs.N];exact h1) (kW xs h2) d1 d2) hb (qL h4) pins s σ H Q I ?_;show dJ i σ H _;unfold dJ;rw[e];refine⟨F,ρ,ev,av b (λ u w F1 H1 v g r=>?_) w⟩;obtain⟨k,rfl,j,el,w⟩:=dQ w;cases r;exact⟨a,.int j,O,.inl ⟨_,Sum.inl k,.inl (g.sm _ _ (λ ps z=>by cases z) ha),O,by rw[qP,el];rfl⟩,w F1 H1 _ g rfl⟩
def Gf{i:Nat}{p ap cp:Pos}(xo:XOk X J FT GT fs gs)(xs:XS X N nm)(h1:N[i]?=some x)(h2:vs nm x=true)(h3:okN x=true)(hl:ap.endLine=cp.line)(st:aN y=true)(hb:PE X y (rE X.K J FT GT b)):PE X (.Call (.Attribute (.Name x p) "get" ap) [y] [] cp) (rE X.K J FT GT (.dg i b)):=by
 intro pins s σ H Q I ⟨F,ρ,ev,w⟩;obtain⟨d1,d2,_⟩:=gU h3;obtain⟨l,hs,w⟩:=vC (show dcR ρ[i]? _ from w);obtain⟨v,e,a,rfl,ha⟩:=ev.sl i _ hs;have fo:=nz (e:=y) (es:=[]) (env:=X.env) (cp:=cp) (by rw[da,st];rfl) (show 1<20 by decide);refine Di (apos:=ap) (cpos:=cp) (by have:=xo.units;lia) (kh (by rw[xs.N];exact h1) (kW xs h2) d1 d2) hb ⟨O,fo,beq_iff_eq.mpr hl,by rw[aZ st];rfl⟩ pins s σ H Q I ?_;show dJ i σ H _;unfold dJ;rw[e];refine⟨a,O,.inl ⟨_,.inl ha⟩,F,ρ,ev,av b (λ u w F1 H1 v g r=>?_) w⟩;obtain⟨k,rfl,w⟩:=dQ w;cases r;refine⟨_,.inl ⟨_,Sum.inl k,.inl (g.sm _ _ (λ ps z=>by cases z) ha),O,O⟩,?_⟩;rw[qP];have w:∀F' H' v,Grow J F H F' H'->Rr X.K H F' H' (match l.lookup k with|some j=>.int j|none=>.non) v->Q v H':=w
 cases el:l.lookup k with
 |none=>rw[el] at w;exact w F1 H1 _ g rfl
 |some j=>rw[el] at w;exact w F1 H1 _ g rfl
def Gh(h:PE X e (rE X.K J FT GT c))(he:∀whole,isTrue e X.env whole=(do let v <- whole;standAt e.pos;holding [v] (truthy v))):PT X e (rT X.K J FT GT c) :=
 (yP h he).imp λ σ H Q ⟨F,ρ,ev,w⟩=>⟨F,ρ,ev,av c (λ t w F1 H1 v g r=>by
  obtain⟨b,e,w2⟩:=gQ w;subst e;cases r
  exact w2 F1 H1 g) w⟩
def Gi{o:CmpOp}(xo:XOk X J FT GT fs gs)(ha:PE X l (rE X.K J FT GT a))(hb:PE X r (rE X.K J FT GT b))(hs:dR r=true):PT X (.Compare l [o] [r] p) (rT X.K J FT GT (.cmp o a b)) :=
 (Ak (jL xo.units o) ha hb (qK hs)).imp λ σ H Q ⟨F,ρ,ev,w⟩=>⟨F,ρ,ev,av a (λ x w F1 H1 v g1 r1=>⟨F1,ρ,ev.grow g1,av b (λ y w F2 H2 v2 g2 r2=>⟨F,H,F2,x,y,g1.trans g2,r1.grow g2,r2.late g1,gk (λ z w v r=>by
  obtain⟨b,e,w2⟩:=gQ w;subst e;cases r
  exact w2 F2 H2 (g1.trans g2)) w⟩) w⟩) w⟩
def Gj{o o':CmpOp}(xo:XOk X J FT GT fs gs)(ha:PE X l (rE X.K J FT GT a))(hb:PE X r (rE X.K J FT GT b))(hc:PE X w' (rE X.K J FT GT c))(hs:dR w'=true):PT X (.Compare l [o,o'] [r,w'] p) (rT X.K J FT GT (.cm2 o o' a b c)) :=
 (Am (jL xo.units o) (jL xo.units o') ha hb hc (vz hs)).imp λ σ H Q ⟨F,ρ,ev,w⟩=>⟨F,ρ,ev,av a (λ x w F1 H1 v g1 r1=>⟨F1,ρ,ev.grow g1,av b (λ y w F2 H2 v2 g2 r2=>⟨F,H,F2,x,y,g1.trans g2,r1.grow g2,r2.late g1,gk (λ z w v3 r3=>by
  obtain⟨k,ek,w2⟩:=gQ w;subst ek;cases r3;refine⟨k,O,?_⟩;split at w2
  ·rw[if_pos (by assumption)]
   exact⟨F2,ρ,(ev.grow g1).grow g2,av c (λ z w F4 H4 v4 g4 r4=>⟨F,H,F4,y,z,(g1.trans g2).trans g4,(r2.late g1).grow g4,r4.late (g1.trans g2),gk (λ u w v r=>by
    obtain⟨b,e,w3⟩:=gQ w;subst e;cases r
    exact w3 F4 H4 ((g1.trans g2).trans g4)) w⟩) w2⟩
  ·rw[if_neg (by assumption)];exact w2 F2 H2 (g1.trans g2)) w⟩) w⟩) w⟩
def Gk(ha:PT X l (rT X.K J FT GT a)):PT X (.UnaryOp .Not l p) (rT X.K J FT GT (.not a)) :=
 (yW ha).imp λ σ H Q ⟨F,ρ,ev,w⟩=>⟨F,ρ,ev,av a (λ x w=>cr (λ b w F1 H1 g=>w F1 H1 g) w) w⟩
def vD{l r:Expr}{rest:List Expr}(ha:PT X l (rT X.K J FT GT a))(hb:PW X (.BoolOp .And (r::rest) p) (rT X.K J FT GT b)):PW X (.BoolOp .And (l::r::rest) p) (rT X.K J FT GT (.and a b)):=by
 intro wh pins s σ H Q I q;refine yU ha hb wh pins s σ H Q I ?_;obtain⟨F,ρ,ev,w⟩:=q;refine⟨F,ρ,ev,av a (λ x w=>cr (λ k w2 F1 H1 g1=>?_) w) w⟩;split at w2
 ·rw[if_pos (by assumption)];exact⟨F1,ρ,ev.grow g1,av b (λ y w=>cr (λ k w F2 H2 g2=>w F2 H2 (g1.trans g2)) w) w2⟩
 ·rw[if_neg (by assumption)];exact w2 F1 H1 g1
def vE{l r:Expr}{rest:List Expr}(ha:PT X l (rT X.K J FT GT a))(hb:PW X (.BoolOp .Or (r::rest) p) (rT X.K J FT GT b)):PW X (.BoolOp .Or (l::r::rest) p) (rT X.K J FT GT (.or a b)):=by
 intro wh pins s σ H Q I q;refine yV ha hb wh pins s σ H Q I ?_;obtain⟨F,ρ,ev,w⟩:=q;refine⟨F,ρ,ev,av a (λ x w=>cr (λ k w2 F1 H1 g1=>?_) w) w⟩;split at w2
 ·rw[if_pos (by assumption)];exact w2 F1 H1 g1
 ·rw[if_neg (by assumption)];exact⟨F1,ρ,ev.grow g1,av b (λ y w=>cr (λ k w F2 H2 g2=>w F2 H2 (g1.trans g2)) w) w2⟩
def vF{lo:Cd}(h:jN lo=true):PO X none (λ σ H Q=>∃F ρ,EV X.K J F H σ ρ/\wE FT GT lo ρ λ t=>oI t λ o=>∀F' H',Grow J F H F' H'->Q o H'):=by
 intro pins s σ H Q I q;obtain⟨F,ρ,ev,w⟩:=q
 have e:lo=.c .non:=by unfold jN at h;split at h<;>first|rfl|cases h
 subst e;exact AE pins s σ H Q I (w F H (.refl ev.w))
def vG{lo:Cd}(he:PE X e (rE X.K J FT GT lo)):PO X (some e) (λ σ H Q=>∃F ρ,EV X.K J F H σ ρ/\wE FT GT lo ρ λ t=>oI t λ o=>∀F' H',Grow J F H F' H'->Q o H'):=by
 intro pins s σ H Q I q;obtain⟨F,ρ,ev,w⟩:=q;rw[evalPart_some];refine thn (he pins s σ H (λ x H1=>(x=.non/\Q none H1)\/∃i,x=.int i/\Q (some i) H1) I ⟨F,ρ,ev,av lo (λ t w F1 H1 v g r=>?_) w⟩) λ u s1 ⟨x,H1,I1,r1,q1⟩=>?_
 ·cases t with
  |non=>cases r;exact .inl ⟨rfl,w F1 H1 g⟩
  |int i=>cases r;exact .inr ⟨i,rfl,w F1 H1 g⟩
  |_=>exact w.elim
 ·rcases q1 with ⟨rfl,q⟩|⟨i,rfl,q⟩
  ·cases r1;exact⟨none,H1,I1,.none,q⟩
  ·obtain⟨tk,rfl⟩:=r1;exact⟨some i,H1,I1,.int _ _,q⟩
end
def Gm(h:vg c=true):c=.nil:=by cases c<;>first|rfl|exact Bool.noConfusion h
def qQ(h:iM e=true):∃es k p,e=.Tuple es k p:=by cases e<;>first|exact⟨_,_,_,rfl⟩|exact Bool.noConfusion h
set_option tactic.hygienic true in
def Gn(h:tsE e=true)(whole:Sem Value):isTrue e env whole=(do let v <- whole;standAt e.pos;holding [v] (truthy v)):=by
 cases e<;>first|rfl|(exact Bool.noConfusion h)|skip
 rename_i op _ _
 cases op<;>first|rfl|exact Bool.noConfusion h
section
variable {fs gs:List Str}
def nA:∀ {r:Cd}{N:List Str}{nm:List (Str×NameKind)}{es:List Expr},ckL fs gs r N nm es=true->es.all aN=true:=λ {r}=>by
 induction r with
 |nil=>intro N nm es h;cases es with|nil=>rfl|cons e es=>exact Bool.noConfusion h
 |cons a r _ ih=>
  intro N nm es h
  cases es with
  |nil=>exact Bool.noConfusion h
  |cons e es=>
   obtain⟨h1,h2⟩:=an h;rw[da,(an h1).1,ih h2];rfl
 |_=>intro N nm es h;exact Bool.noConfusion h
def kZ(h:ckI fs gs c k tg N nm it=true):dR it=true:=by
 cases c with
 |cons a r=>
  cases k with
  |seq=>exact(an (an h).1).1
  |str=>exact Bool.noConfusion h
  |_=>exact dn h λ _ _ _ _ _=>rfl
 |_=>exact Bool.noConfusion h
end
section
variable {J:Hp->Prop}{FT:List PSp}{GT:List TV}{fs gs:List Str}
structure SA (J:Hp->Prop)(FT:List PSp)(GT:List TV)(fs gs:List Str)(c:Cd):Prop where
 e:∀ {X:Cx}{N:List Str}{nm:List (Str×NameKind)}{e:Expr},XOk X J FT GT fs gs->XS X N nm->ck fs gs c N nm e=true->PE X e (rE X.K J FT GT c)
 l:∀ {X:Cx}{N:List Str}{nm:List (Str×NameKind)}{es:List Expr},XOk X J FT GT fs gs->XS X N nm->ckL fs gs c N nm es=true->PA X es (rA X.K J FT GT c)
 i:∀ {k:IK}{X:Cx}{N:List Str}{nm:List (Str×NameKind)}{tg it:Expr},XOk X J FT GT fs gs->XS X N nm->ckI fs gs c k tg N nm it=true->PI X tg it (rW X.K J FT GT k c)
 t:∀ {X:Cx}{N:List Str}{nm:List (Str×NameKind)}{e:Expr},XOk X J FT GT fs gs->XS X N nm->tB' c e=true->ck fs gs c N nm e=true->PT X e (rT X.K J FT GT c)
 w:∀ {X:Cx}{N:List Str}{nm:List (Str×NameKind)}{op:BoolOp}{es:List Expr}{p:Pos},XOk X J FT GT fs gs->XS X N nm->ck fs gs c N nm (.BoolOp op es p)=true->PW X (.BoolOp op es p) (rT X.K J FT GT c)
noncomputable abbrev EF(J:Hp->Prop)(FT:List PSp)(GT:List TV)(fs gs:List Str)(c:Cd):Prop:=∀ {X:Cx}{N:List Str}{nm:List (Str×NameKind)}{e:Expr},XOk X J FT GT fs gs->XS X N nm->ck fs gs c N nm e=true->PE X e (rE X.K J FT GT c)
def SA.val(E:EF J FT GT fs gs c)(t:∀e,tB' c e=tsE e:=by intro;rfl)(l:∀N nm es,ckL fs gs c N nm es=false:=by intros;rfl)(i:∀k tg N nm it,ckI fs gs c k tg N nm it=false:=by intros;rfl)(w:∀N nm op es p,ck fs gs c N nm (.BoolOp op es p)=false:=by intros;rfl):SA J FT GT fs gs c :=
 ⟨E,λ _ _ h=>by rw[l] at h;exact Bool.noConfusion h,λ _ _ h=>by rw[i] at h;exact Bool.noConfusion h,λ xo xs n h=>Gh (E xo xs h) (Gn (by rw[<- t];exact n)),λ _ _ h=>by rw[w] at h;exact Bool.noConfusion h⟩
def SA.tst(E:EF J FT GT fs gs c)(T:∀ {X:Cx}{N:List Str}{nm:List (Str×NameKind)}{e:Expr},XOk X J FT GT fs gs->XS X N nm->ck fs gs c N nm e=true->PT X e (rT X.K J FT GT c))(l:∀N nm es,ckL fs gs c N nm es=false:=by intros;rfl)(i:∀k tg N nm it,ckI fs gs c k tg N nm it=false:=by intros;rfl)(w:∀N nm op es p,ck fs gs c N nm (.BoolOp op es p)=false:=by intros;rfl):SA J FT GT fs gs c :=
 ⟨E,λ _ _ h=>by rw[l] at h;exact Bool.noConfusion h,λ _ _ h=>by rw[i] at h;exact Bool.noConfusion h,λ xo xs _ h=>T xo xs h,λ _ _ h=>by rw[w] at h;exact Bool.noConfusion h⟩
def Go(h:vh f=true):f=.isI\/f=.isB\/f=.isT\/f=.isL\/f=.isS:=by cases f<;>first|exact Bool.noConfusion h|simp
def sA(J:Hp->Prop)(FT:List PSp)(GT:List TV)(fs gs:List Str)(c:Cd):SA J FT GT fs gs c:=by
 induction c with
 |v i=>exact .val λ xo xs h=>s_v xs h
 |c t=>exact .val λ xo xs h=>s_c h
 |g k=>exact .val λ xo xs h=>s_g xo xs h
 |bin o a b ia ib=>
  refine .val λ {X N nm e} xo xs h=>?_;refine Fn h λ l op r p k1=>?_;obtain⟨g1,g2,g3⟩:=a3 k1;cases ay g1;exact Fw xo (ia.e xo xs g2) (ib.e xo xs g3)
 |neg a ia=>
  refine .val λ {X N nm e} xo xs h=>?_;refine vk h λ op x p k1=>?_;cases ay (an k1).1;exact FB (ia.e xo xs (an k1).2)
 |not a ia=>
  refine .tst (λ {X N nm e} xo xs h=>?_) (λ {X N nm e} xo xs h=>?_)
  all_goals
   refine vk h λ op x p k1=>?_;obtain⟨g1,g2,g3⟩:=a3 k1;cases ay g1
  ·exact FC (ia.e xo xs g3)
  ·exact Gk (ia.t xo xs g2 g3)
 |cmp o a b ia ib=>
  refine .tst (λ {X N nm e} xo xs h=>?_) (λ {X N nm e} xo xs h=>?_)
  all_goals
   refine vm h λ l os rs p k1=>?_;refine dD k1 λ op k2=>?_;refine dD k2 λ r k3=>?_;obtain⟨g1,g2,g3,g4⟩:=a4 k3;cases ay g1
  ·exact Fx xo (ia.e xo xs g2) (ib.e xo xs g3) g4
  ·exact Gi xo (ia.e xo xs g2) (ib.e xo xs g3) g4
 |cm2 o o' a b c ia ib ic=>
  refine .tst (λ {X N nm e} xo xs h=>?_) (λ {X N nm e} xo xs h=>?_)
  all_goals
   refine vm h λ l os rs p k1=>?_;refine kT k1 λ op op' k2=>?_;refine kT k2 λ r r' k3=>?_;obtain⟨g1,g2,g3,g4,g5,g6⟩:=a6 k3;cases ay g1;cases ay g2
  ·exact FD xo (ia.e xo xs g3) (ib.e xo xs g4) (ic.e xo xs g5) g6
  ·exact Gj xo (ia.e xo xs g3) (ib.e xo xs g4) (ic.e xo xs g5) g6
 |and a b ia ib=>
  have W:∀ {X:Cx}{N:List Str}{nm:List (Str×NameKind)}{op:BoolOp}{es:List Expr}{p:Pos},XOk X J FT GT fs gs->XS X N nm->ck fs gs (.and a b) N nm (.BoolOp op es p)=true->PW X (.BoolOp op es p) (rT X.K J FT GT (.and a b)):=by
   intro X N nm op es p xo xs h;obtain⟨g,g'⟩:=an h;cases ay g
   rcases es with _|⟨x,_|⟨y,_|⟨z,r⟩⟩⟩<;>try exact Bool.noConfusion g'
   ·obtain⟨h1,h2,h3,h4⟩:=a4 g';exact vD (ia.t xo xs h1 h3) (yS (ib.t xo xs h2 h4))
   ·obtain⟨h1,h3,h4⟩:=a3 g';exact vD (ia.t xo xs h1 h3) (ib.w xo xs h4)
  refine⟨λ {X N nm e} xo xs h=>?_,λ _ _ h=>Bool.noConfusion h,λ _ _ h=>Bool.noConfusion h,λ {X N nm e} xo xs n h=>?_,W⟩
  ·refine vn h λ op es p g=>?_;obtain⟨g,g'⟩:=an g;cases ay g
   rcases es with _|⟨x,_|⟨y,_|⟨z,r⟩⟩⟩<;>try exact Bool.noConfusion g'
   ·obtain⟨h1,h2,h3,h4⟩:=a4 g';exact vA (ia.e xo xs h3) (sj (ib.e xo xs h4))
   ·obtain⟨h1,h3,h4⟩:=a3 g';exact vA (ia.e xo xs h3) (ib.e xo xs h4)
  ·obtain⟨op,es,p,rfl,g⟩:=vo h;exact(W xo xs h).pt
 |or a b ia ib=>
  have W:∀ {X:Cx}{N:List Str}{nm:List (Str×NameKind)}{op:BoolOp}{es:List Expr}{p:Pos},XOk X J FT GT fs gs->XS X N nm->ck fs gs (.or a b) N nm (.BoolOp op es p)=true->PW X (.BoolOp op es p) (rT X.K J FT GT (.or a b)):=by
   intro X N nm op es p xo xs h;obtain⟨g,g'⟩:=an h;cases ay g
   rcases es with _|⟨x,_|⟨y,_|⟨z,r⟩⟩⟩<;>try exact Bool.noConfusion g'
   ·obtain⟨h1,h2,h3,h4⟩:=a4 g';exact vE (ia.t xo xs h1 h3) (yT (ib.t xo xs h2 h4))
   ·obtain⟨h1,h3,h4⟩:=a3 g';exact vE (ia.t xo xs h1 h3) (ib.w xo xs h4)
  refine⟨λ {X N nm e} xo xs h=>?_,λ _ _ h=>Bool.noConfusion h,λ _ _ h=>Bool.noConfusion h,λ {X N nm e} xo xs n h=>?_,W⟩
  ·refine vn h λ op es p g=>?_;obtain⟨g,g'⟩:=an g;cases ay g
   rcases es with _|⟨x,_|⟨y,_|⟨z,r⟩⟩⟩<;>try exact Bool.noConfusion g'
   ·obtain⟨h1,h2,h3,h4⟩:=a4 g';exact vB (ia.e xo xs h3) (sj (ib.e xo xs h4))
   ·obtain⟨h1,h3,h4⟩:=a3 g';exact vB (ia.e xo xs h3) (ib.e xo xs h4)
  ·obtain⟨op,es,p,rfl,g⟩:=vo h;exact(W xo xs h).pt
 |ite c a b ic ia ib=>
  refine .val λ {X N nm e} xo xs h=>?_;refine Fo h λ x y z p k1=>?_;obtain⟨g1,g2,g3,g4⟩:=a4 k1;exact FE (ic.t xo xs g1 g2) (ia.e xo xs g3) (ib.e xo xs g4)
 |nil=>
  refine⟨λ _ _ h=>Bool.noConfusion h,λ {X N nm es} xo xs h=>?_,λ _ _ h=>Bool.noConfusion h,λ _ _ _ h=>Bool.noConfusion h,λ _ _ h=>Bool.noConfusion h⟩
  cases es with
  |nil=>exact FF
  |cons e es=>exact Bool.noConfusion h
 |cons a r ia ir=>
  refine⟨λ _ _ h=>Bool.noConfusion h,λ {X N nm es} xo xs h=>?_,λ {k X N nm tg it} xo xs h=>?_,λ _ _ _ h=>Bool.noConfusion h,λ _ _ h=>Bool.noConfusion h⟩
  ·cases es with
   |nil=>exact Bool.noConfusion h
   |cons e es=>
    obtain⟨h1,h3⟩:=an h;obtain⟨h1,h2⟩:=an h1;exact qM (ia.e xo xs h2) (ir.l xo xs h3) h1
  ·have call:∀ {x:Str}{p:Pos}{e:Expr}{es:List Expr}{pos:Pos},decide (ikN k=some (x,es.length))=true->gl nm x=true->(!ikT k || iM tg)=true->aN e=true->ck fs gs a N nm e=true->ckL fs gs r N nm es=true->PI X tg (.Call (.Name x p) (e::es) [] pos) (rW X.K J FT GT k (.cons a r)):=by
    intro x p e es pos h1 h2 h3 h4 h5 h6;have hk:=ay h1;have he:=ia.e xo xs h5;have hr:=ir.l xo xs h6;have st:=nA h6;have g:=glX xs h2
    have n0:es=[]->r=.nil:=λ z=>by subst z;cases r<;>first|rfl|exact Bool.noConfusion h6
    cases k with
    |seq=>cases hk
    |str=>cases hk
    |rng=>
     simp only[ikN,nC,nD] at hk;obtain⟨rfl,hk⟩:=hk;cases kQ hk.symm;cases n0 rfl;exact FW xo g h4 he
    |rng2=>cases hk
    |rng3=>
     simp only[ikN,nC,nD] at hk;obtain⟨rfl,hk⟩:=hk
     match es,hk with
     |[y,z],_=>exact FY xo g h4 (by simp at st;exact st.1) (by simp at st;exact st.2) (qM he hr h4)
    |zip c d=>
     simp only[ikN,nC,nD] at hk;obtain⟨rfl,hk⟩:=hk;obtain⟨tes,tk,tp,rfl⟩:=qQ (show iM tg=true by simpa [ikT] using h3)
     match es,hk with
     |[y],_=>exact FZ xo g h4 (by simpa using st) (qM he hr h4)
    |zip3=>cases hk
    |enum c=>
     simp only[ikN,nC,nD] at hk;obtain⟨rfl,hk⟩:=hk;obtain⟨tes,tk,tp,rfl⟩:=qQ (show iM tg=true by simpa [ikT] using h3);cases kQ hk.symm;cases n0 rfl;exact Ga xo g h4 he
    |rev c=>cases hk
   have arg:(cS it λ g as w _=>bp g λ x _=>cC as λ e es=>w.isEmpty&&decide (ikN k=some (x,es.length))&&gl nm x&&(!ikT k || iM tg)&&aN e&&ck fs gs a N nm e&&ckL fs gs r N nm es)=true->PI X tg it (rW X.K J FT GT k (.cons a r)):=λ h=>by
    refine dn h λ g as w pos k1=>?_;refine bj k1 λ x p k2=>?_;refine qG k2 λ e es k3=>?_;obtain⟨g0,g1,g2,g3,g4,g5,g6⟩:=a7 k3;refine cL g0 ?_;exact call g1 g2 g3 g4 g5 g6
   cases k with
   |seq=>
    obtain⟨h1,h3⟩:=an h;cases Gm (an h1).2;exact FU (ia.e xo xs h3)
   |str=>exact Bool.noConfusion h
   |_=>exact arg h
 |tup l il=>
  refine .val λ {X N nm e} xo xs h=>?_;refine qE h λ es _ _ k1=>?_;exact FH xo (il.l xo xs k1)
 |lst l il=>
  refine .val λ {X N nm e} xo xs h=>?_;refine Fp h λ es _ k1=>?_;exact FJ xo (il.l xo xs k1)
 |ix a b ia ib=>
  refine .val λ {X N nm e} xo xs h=>?_;refine kS h λ x y p k1=>?_;obtain⟨g1,g2,g3⟩:=a3 k1;exact Fy (ia.e xo xs g2) (ib.e xo xs g3) g1
 |sl a lo hi ia il ih=>
  refine .val λ {X N nm e} xo xs h=>?_;refine kS h λ x y p k1=>?_;refine Fq k1 λ l u st q k2=>?_;obtain⟨g0,g1,g2,g3⟩:=a4 k2;cases Option.isNone_iff_eq_none.mp g0;refine FK xo (ia.e xo xs g1) ?_ ?_
  ·cases l with
   |none=>exact vF g2
   |some l=>exact vG (il.e xo xs (an g2).1)
  ·cases u with
   |none=>exact vF g3
   |some u=>exact vG (ih.e xo xs (an g3).1)
 |call f l il=>
  refine .val λ {X N nm e} xo xs h=>?_;refine dn h λ f' as w pos k1=>?_;refine bj k1 λ x p k2=>?_;refine qG k2 λ a es k3=>?_;obtain⟨g0,g1,g2,g3,g4⟩:=a5 k3;refine cL g0 ?_;have st:=nA g4;rw[da,bu] at st;exact FM xo (ay g1) (glX xs g2) (gU g3).1 (il.l xo xs g4) st.1 st.2
 |bi f l il=>
  refine .val λ {X N nm e} xo xs h=>?_;refine dn h λ f' as w pos k1=>?_;refine bj k1 λ x p k2=>?_;refine qG k2 λ a es k3=>?_;obtain⟨g0,g1,g2,g4⟩:=a4 k3;refine cL g0 ?_;have st:=nA g4;rw[da,bu] at st;exact FN xo (ay g1) (glX xs g2) (il.l xo xs g4) st.1 st.2
 |isi f a ia=>
  refine .val λ {X N nm e} xo xs h=>?_;refine dn h λ f' as w pos k1=>?_;refine bj k1 λ x p k2=>?_;refine kT k2 λ y u k3=>?_;refine bj k3 λ z _ k4=>?_;obtain⟨g0,g1,g2,g3,g4,g5,g6,g7⟩:=a8 k4;refine cL g0 ?_;cases ay g1;exact FO xo (Go g3) (ay g4) (glX xs g2) (glX xs g5) g6 (ia.e xo xs g7)
 |mxl a b ia ib=>
  refine .val λ {X N nm e} xo xs h=>?_;refine dn h λ f' as w pos k1=>?_;refine bj k1 λ x p k2=>?_;refine kT k2 λ y z k3=>?_;obtain⟨⟨kx,kv,kp⟩,rfl,k4⟩:=iL k3;obtain⟨u,_,e1,k5⟩:=Fl k4;cases e1;obtain⟨g1,g2,g3,g4,g5,g6,g7,g8,g9⟩:=a9 k5;cases ay g1;cases ay g3;cases ay g4;exact FP xo (glX xs g2) (glX xs g5) g6 g7 (ia.e xo xs g8) (ib.e xo xs g9)
 |trev k a ia=>
  refine .val λ {X N nm e} xo xs h=>?_;refine dn h λ f' as w pos k1=>?_;refine bj k1 λ x p k2=>?_;refine dD k2 λ u k3=>?_;refine dn k3 λ f'' as' w' pos' k4=>?_;refine bj k4 λ y p' k5=>?_;refine dD k5 λ z k6=>?_;obtain⟨g0,g0',g1,g2,g3,g4,g5,g6⟩:=a8 k6;refine cL g0 ?_;refine cL g0' ?_;cases ay g1;cases ay g3;exact FQ xo (glX xs g2) (glX xs g4) g5 (ia.e xo xs g6)
 |ss a ia=>
  refine .val λ {X N nm e} xo xs h=>?_;refine dn h λ f' as w pos k1=>?_;refine bj k1 λ x p k2=>?_;refine dD k2 λ u k3=>?_;refine dn k3 λ f'' as' w' pos' k4=>?_;refine bj k4 λ y p' k5=>?_;refine dD k5 λ z k6=>?_;obtain⟨g0,g0',g1,g2,g3,g4,g5,g6⟩:=a8 k6;refine cL g0 ?_;refine cL g0' ?_;cases ay g1;cases ay g3;exact FS xo (glX xs g2) (glX xs g4) g5 (ia.e xo xs g6)
 |di i b ib=>
  refine .val λ {X N nm e} xo xs h=>?_;refine kS h λ o y p k1=>?_;refine bj k1 λ x q k2=>?_;obtain⟨g1,g2,g3,g4,g5⟩:=a5 k2;exact Ge xo xs (ay g1) g2 g3 g4 (ib.e xo xs g5)
 |dg i b ib=>
  refine .val λ {X N nm e} xo xs h=>?_;refine dn h λ f' as w cp k1=>?_;refine vt k1 λ o name ap k2=>?_;refine bj k2 λ x p k3=>?_;refine dD k3 λ y k4=>?_;obtain⟨g0,g1,g2,g3,g4,g5,g6,g7⟩:=a8 k4;refine cL g0 ?_;cases ay g4;exact Gf xo xs (ay g1) g2 g3 (ay g5) g6 (ib.e xo xs g7)
 |lrng k a ia=>
  refine .val λ {X N nm e} xo xs h=>?_;refine dn h λ f' as w pos k1=>?_;refine bj k1 λ x p k2=>?_;refine dD k2 λ u k3=>?_;refine dn k3 λ f'' as' w' pos' k4=>?_;refine bj k4 λ y p' k5=>?_;refine dD k5 λ z k6=>?_;obtain⟨g0,g0',g1,g2,g3,g4,g5,g6⟩:=a8 k6;refine cL g0 ?_;refine cL g0' ?_;cases ay g1;cases ay g3;exact FR (k:=k) xo (glX xs g2) (glX xs g4) g5 (ia.e xo xs g6)
 |dk k a ia=>
  refine .val λ {X N nm e} xo xs h=>?_;refine kS h λ o y p k1=>?_;refine bj k1 λ x q k2=>?_;obtain⟨g1,g2,g3,g4,g5⟩:=a5 k2;exact Fv xo xs (ay g1) g2 g3 g4 (ia.e xo xs g5)
 |comp own fv js tg k it e ii ie=>
  refine .val λ {X N nm x} xo xs h=>?_;obtain⟨elt,gn,sc,p,rfl,k1⟩:=nc h;obtain⟨⟨t,iter,ifs,z⟩,rfl,k2⟩:=iL k1;obtain⟨g0,g1,g2,g3,g4,g5,g6⟩:=a7 k2;cases (show ifs=[] from List.isEmpty_iff.mp g0);cases ay g1;exact Gb xo xs g2 (ii.i xo xs g3) g4 g5 (kZ g3) λ Y yo ys=>ie.e yo ys g6
 |compI own fv js tg k it c e ii ic ie=>
  refine .val λ {X N nm x} xo xs h=>?_;obtain⟨elt,gn,sc,p,rfl,k1⟩:=nc h;obtain⟨⟨t,iter,ifs,z⟩,rfl,k2⟩:=iL k1;obtain⟨cnd,e1,k3⟩:=iL k2;cases e1;obtain⟨g1,g2,g3,g4,g5,g6,g7,g8⟩:=a8 k3;cases ay g1;exact Gc xo xs g2 (ii.i xo xs g3) g4 g5 (kZ g3) (λ Y yo ys=>ic.t yo ys g6 g7) λ Y yo ys=>ie.e yo ys g8
def sE(c:Cd)(xo:XOk X J FT GT fs gs)(xs:XS X N nm)(h:ck fs gs c N nm e=true):PE X e (rE X.K J FT GT c):=(sA J FT GT fs gs c).e xo xs h
def sL(c:Cd)(xo:XOk X J FT GT fs gs)(xs:XS X N nm)(h:ckL fs gs c N nm es=true):PA X es (rA X.K J FT GT c):=(sA J FT GT fs gs c).l xo xs h
def sI(c:Cd)(k:IK)(xo:XOk X J FT GT fs gs)(xs:XS X N nm)(h:ckI fs gs c k tg N nm it=true):PI X tg it (rW X.K J FT GT k c):=(sA J FT GT fs gs c).i xo xs h
def sT(c:Cd)(xo:XOk X J FT GT fs gs)(xs:XS X N nm)(n:tB' c e=true)(h:ck fs gs c N nm e=true):PT X e (rT X.K J FT GT c):=(sA J FT GT fs gs c).t xo xs n h
end
inductive MM where
 |append|insert|extend (t:Bool)|pop
 deriving DecidableEq
inductive Ct where
 |nil|never|ret (c:Cd)
 |set (i:Nat) (c:Cd) (r:Ct)|sets (is:List Nat) (c:Cd) (r:Ct)|fz (i:Nat) (r:Ct)|ex (c:Cd) (r:Ct)|sd (i:Nat) (c:Cd) (r:Ct)
 |met (m:MM) (i:Nat) (l:Cd) (r:Ct)|put (i:Nat) (c d:Cd) (r:Ct)
 |ite (c:Cd) (a b r:Ct)|«for» (tg:List Nat) (k:IK) (it:Cd) (b r:Ct)|tri (b r:Ct)
noncomputable def fzS(ρ:En)(i:Nat):En:=match ρ[i]? with|some (some (.own l))=>ρ.set i (some (.lst l))|_=>ρ
def fzC:Cd->En->En
 |.v i,ρ=>fzS ρ i
 |_,ρ=>ρ
def fzV:Cd->En->En
 |.cons a r,ρ=>fzV r (fzC a ρ)
 |_,ρ=>ρ
noncomputable def itF(b:TV->En->(En->Prop)->Prop):List TV->En->(En->Prop)->Prop
 |[],ρ,K=>K ρ
 |t::r,ρ,K=>b t ρ λ ρ'=>itF b r ρ' K
noncomputable def gX(s:Option (Option TV))(P:List TV->Prop):Prop:=match s with|some (some (.own l))=>P l|_=>False
noncomputable def mtP(m:MM)(l:List TV)(ts:List TV)(K:TV->List TV->Prop):Prop:=match m,ts with
 |.append,[t]=>t.nb=true/\l.length<sizeLine/\K .non (l++[t.fz])
 |.insert,[u,t]=>i1 u λ i=>t.nb=true/\(0<=i/\i<=l.length)/\l.length<sizeLine/\K .non (l.take i.toNat++t.fz::l.drop i.toNat)
 |.extend b,[t]=>t.nb=true/\k1 b t λ m=>l.length+m.length<=sizeLine/\K .non (l++m)
 |.pop,[]=>∃y,l[l.length-1]?=some y/\K y l.dropLast
 |.pop,[u]=>i1 u λ i=>(-(2 ^ 63)<=i/\i<2 ^ 63)/\∃k y,seqIndex? i l.length=some k/\l[k]?=some y/\K y (l.eraseIdx k)
 |_,_=>False
section
variable (FT:List PSp)(GT:List TV)
noncomputable def wS:Ct->En->(En->Prop)->(TV->Prop)->Prop
 |.nil,ρ,nx,_=>nx ρ
 |.never,_,_,_=>False
 |.ret c,ρ,_,rt=>wE FT GT c (fzC c ρ) λ t=>t.nb=true/\rt t.fz
 |.set i c r,ρ,nx,rt=>wE FT GT c (fzC c ρ) λ t=>t.nb=true/\wS r ((fzC c ρ).set i (some t)) nx rt
 |.sd i c r,ρ,nx,rt=>wE FT GT c ρ λ t=>dcQ t λ u=>wS r (ρ.set i (some u)) nx rt
 |.sets is c r,ρ,nx,rt=>wE FT GT c ρ λ t=>(match t with|.tup _=>stE ρ is t λ ρ'=>wS r ρ' nx rt|_=>False)
 |.fz i r,ρ,nx,rt=>wS r (fzS ρ i) nx rt
 |.ex c r,ρ,nx,rt=>wE FT GT c ρ λ _=>wS r ρ nx rt
 |.met m i l r,ρ,nx,rt=>gX (fzV l ρ)[i]? λ xs=>wL FT GT l (fzV l ρ) λ ts=>mtP m xs ts λ _ ys=>wS r ((fzV l ρ).set i (some (.own ys))) nx rt
 |.put i c d r,ρ,nx,rt=>gX (fzC d ρ)[i]? λ xs=>wE FT GT d (fzC d ρ) λ t=>t.nb=true/\wE FT GT c (fzC d ρ) λ u=>i1 u λ k=>∃n,ixN xs.length k=some n/\wS r ((fzC d ρ).set i (some (.own (xs.set n t.fz)))) nx rt
 |.ite c a b r,ρ,nx,rt=>wE FT GT c ρ λ t=>b1 t λ k=>if k=true then wS a ρ (λ ρ'=>wS r ρ' nx rt) rt else wS b ρ (λ ρ'=>wS r ρ' nx rt) rt
 |.for tg k it b r,ρ,nx,rt=>wL FT GT it (fzV it ρ) λ ts=>ts.all TV.nb=true/\itP k ts λ its=>itF (λ t ρ K=>stE ρ tg t λ ρ'=>wS b ρ' K rt) its (fzV it ρ) λ ρ'=>wS r ρ' nx rt
 |.tri b r,ρ,nx,rt=>wS b ρ (λ ρ'=>wS r ρ' nx rt) rt
end
def qR{P P':List TV->Prop}(h:∀l,P l->P' l)(q:gX s P):gX s P':=by
 unfold gX at *;split at q
 ·exact h _ q
 ·exact q.elim
def nE(q:gX s P):∃l,s=some (some (.own l))/\P l:=by
 unfold gX at q;split at q
 ·exact⟨_,O,q⟩
 ·exact q.elim
def vH{K K':TV->List TV->Prop}(h:∀y ys,K y ys->K' y ys)(q:mtP m l ts K):mtP m l ts K':=by
 rcases ts with _|⟨t,_|⟨u,_|⟨w,r⟩⟩⟩
 ·cases m with
  |pop=>obtain⟨y,e,q⟩:=q;exact⟨y,e,h _ _ q⟩
  |_=>exact q.elim
 ·cases m with
  |append=>exact⟨q.1,q.2.1,h _ _ q.2.2⟩
  |extend b=>exact⟨q.1,gi (λ m q=>⟨q.1,h _ _ q.2⟩) q.2⟩
  |pop=>exact dP (λ i ⟨c,k,y,e,f,q⟩=>⟨c,k,y,e,f,h _ _ q⟩) q
  |_=>exact q.elim
 ·cases m with
  |insert=>exact dP (λ i ⟨a,b,c,q⟩=>⟨a,b,c,h _ _ q⟩) q
  |_=>exact q.elim
 ·cases m<;>exact q.elim
section
variable {FT:List PSp}{GT:List TV}
theorem bH:∀(c:Ct) {ρ:En}{nx nx':En->Prop}{rt rt':TV->Prop},(∀ρ,nx ρ->nx' ρ)->(∀t,rt t->rt' t)->wS FT GT c ρ nx rt->wS FT GT c ρ nx' rt'
 |.nil,_,_,_,_,_,h,_,q=>h _ q
 |.never,_,_,_,_,_,_,_,q=>q.elim
 |.ret c,_,_,_,_,_,_,g,q=>av c (λ t q=>⟨q.1,g _ q.2⟩) q
 |.set i c r,_,_,_,_,_,h,g,q=>av c (λ t q=>⟨q.1,bH r h g q.2⟩) q
 |.sd i c r,_,_,_,_,_,h,g,q=>av c (λ t q=>EI (λ u q=>bH r h g q) q) q
 | .sets is c r,_,_,_,_,_,h,g,q=>av c (λ t q=>by
   cases t with
   |tup l=>exact eR (λ ρ' q=>bH r h g q) q
   |_=>exact q.elim) q
 |.fz i r,ρ,nx,_,rt,_,h,g,q=>bH r h g (show wS FT GT r (fzS ρ i) nx rt from q)
 |.ex c r,_,_,_,_,_,h,g,q=>av c (λ t q=>bH r h g q) q
 |.met m i l r,_,_,_,_,_,h,g,q=>qR (λ xs q=>cD l (λ ts q=>vH (λ y ys q=>bH r h g q) q) q) q
 |.put i c d r,_,_,_,_,_,h,g,q=>qR (λ xs q=>av d (λ t q=>⟨q.1,av c (λ u q=>dP (λ k ⟨n,e,q⟩=>⟨n,e,bH r h g q⟩) q) q.2⟩) q) q
 | .ite c a b r,_,_,_,_,_,h,g,q=>av c (λ t q=>cr (λ k q=>by
   split at q
   ·rw[if_pos (by assumption)];exact bH a (λ ρ q=>bH r h g q) g q
   ·rw[if_neg (by assumption)];exact bH b (λ ρ q=>bH r h g q) g q) q) q
 |.for tg k it b r,_,nx,nx',rt,rt',h,g,q=>by
   refine cD it (λ ts q=>⟨q.1,gP (λ its q=>?_) q.2⟩) q
   have e:∀(l:List TV) (ρ:En),itF (λ t ρ K=>stE ρ tg t λ ρ'=>wS FT GT b ρ' K rt) l ρ (λ ρ'=>wS FT GT r ρ' nx rt)->itF (λ t ρ K=>stE ρ tg t λ ρ'=>wS FT GT b ρ' K rt') l ρ (λ ρ'=>wS FT GT r ρ' nx' rt'):=by
    intro l
    induction l with
    |nil=>intro ρ q;exact bH r h g q
    |cons t l ih=>
     intro ρ q;have q:stE ρ tg t λ ρ'=>wS FT GT b ρ' (λ ρ''=>itF (λ t ρ K=>stE ρ tg t λ ρ'=>wS FT GT b ρ' K rt) l ρ'' λ ρ'=>wS FT GT r ρ' nx rt) rt:=q;exact eR (λ ρ' q=>bH b (λ ρ'' q=>ih ρ'' q) g q) q
   exact e _ _ q
 |.tri b r,ρ,nx,_,rt,_,h,g,q=>bH b (λ ρ q=>bH r h g q) g (show wS FT GT b ρ (λ ρ'=>wS FT GT r ρ' nx rt) rt from q)
end
structure ER (K:FG)(J:Hp->Prop)(F0:Fz)(H0:Hp)(PN:List (TV×V))(F:Fz)(H:Hp)(σ:St)(ρ:En):Prop where
 ev:EV K J F H σ ρ
 gr:Grow J F0 H0 F H
 nb:∀(i:Nat) l a,ρ[i]?=some (some (.own l))->σ[i]?=some (some (.ref a))->H0 a=none
 di:∀(i k:Nat) l l' v,ρ[i]?=some (some (.own l))->ρ[k]?=some (some (.own l'))->σ[i]?=some (some v)->σ[k]?=some (some v)->i=k
 pn:∀p∈PN,Rp K F H p.1 p.2
section
variable {K:FG}{J:Hp->Prop}{F0 F F':Fz}{H0 H H':Hp}{σ:St}{ρ:En}{PN:List (TV×V)}
def ER.grow(e:ER K J F0 H0 PN F H σ ρ)(g:Grow J F H F' H'):ER K J F0 H0 PN F' H' σ ρ:=⟨e.ev.grow g,e.gr.trans g,e.nb,e.di,λ p hp=>(e.pn p hp).ke g.ke⟩
def dq{ρ:En}{i j:Nat}(h:(ρ.set i (some t))[j]?=some (some (.own l))):(i=j/\t=.own l)\/(i≠j/\ρ[j]?=some (some (.own l))):=by
 rw[cM] at h;split at h
 ·rename_i c;split at h
  ·cases h;exact .inl ⟨c,rfl⟩
  ·cases h
 ·rename_i c;exact .inr ⟨c,h⟩
def dS{σ:St}{i j:Nat}(n:i≠j):(σ.set i v)[j]?=σ[j]?:=by rw[cM,if_neg n]
def ER.set{i:Nat}(e:ER K J F0 H0 PN F H σ ρ)(h:Rp K F H t v)(hi:i<σ.length):ER K J F0 H0 PN F H (σ.set i (some v)) (ρ.set i (some t)):=by
 have no:∀l,t≠.own l:=λ l z=>by subst z;exact h.elim
 refine⟨e.ev.set h hi,e.gr,λ j l a h1 h2=>?_,λ j k l l' w h1 h2 h3 h4=>?_,e.pn⟩
 ·rcases dq h1 with ⟨_,z⟩|⟨n,z⟩
  ·exact absurd z (no l)
  ·rw[dS n] at h2;exact e.nb j l a z h2
 ·rcases dq h1 with ⟨_,z⟩|⟨n,z⟩
  ·exact absurd z (no l)
  ·rcases dq h2 with ⟨_,z'⟩|⟨n',z'⟩
   ·exact absurd z' (no l')
   ·rw[dS n] at h3;rw[dS n'] at h4;exact e.di j k l l' w z z' h3 h4
def ER.setD{i:Nat}(e:ER K J F0 H0 PN F H σ ρ)(h:H a=some (dcO l))(hi:i<σ.length):ER K J F0 H0 PN F H (σ.set i (some (.ref a))) (ρ.set i (some (.dct l))):=by
 refine⟨⟨e.ev.w,λ j t hj=>?_⟩,e.gr,λ j l' a h1 h2=>?_,λ j k l1 l' w h1 h2 h3 h4=>?_,e.pn⟩
 ·rw[cM] at hj;split at hj
  ·rename_i c;subst c;split at hj
   ·cases hj;exact⟨.ref a,by rw[cM];simp[hi],a,O,h⟩
   ·cases hj
  ·rename_i c;obtain⟨w,e1,z⟩:=e.ev.sl j t hj;exact⟨w,by rw[dS c];exact e1,z⟩
 ·rcases dq h1 with ⟨_,z⟩|⟨n,z⟩
  ·cases z
  ·rw[dS n] at h2;exact e.nb j l' a z h2
 ·rcases dq h1 with ⟨_,z⟩|⟨n,z⟩
  ·cases z
  ·rcases dq h2 with ⟨_,z'⟩|⟨n',z'⟩
   ·cases z'
   ·rw[dS n] at h3;rw[dS n'] at h4;exact e.di j k l1 l' w z z' h3 h4
theorem vI{K:FG}:∀ {ps:List (Int×Int)}{vs:List V},RpL K F H (ps.map λ q=>.tup [.int q.1,.int q.2]) vs->Paired (λ(r:V) (q:Int×Int)=>∃c,r=.ref c/\SqT K H c [.int q.1,.int q.2]) vs ps
 |[],_,h=>by cases h;exact .nil
 |_::_,_,⟨v,r,e,⟨a,ws,e1,sq,⟨x,w1,e2,e3,⟨y,w2,e4,e5,e6⟩⟩⟩,h2⟩=>by
  subst e;refine .cons ⟨a,e1,?_⟩ (vI h2);cases e3;cases e5;cases e6;subst e4;subst e2;exact sq
def ER.own{i:Nat}(e:ER K J F0 H0 PN F H σ ρ)(g:Grow J F H F' H')(h:Rr K H F' H' (.own l) v)(hi:i<σ.length):ER K J F0 H0 PN F' H' (σ.set i (some v)) (ρ.set i (some (.own l))):=by
 obtain⟨a,vs,rfl,na,nf,q,r⟩:=h;have na0:H0 a=none:=e.gr.none na
 have old:∀(j:Nat) l',ρ[j]?=some (some (.own l'))->σ[j]?≠some (some (.ref a)):=λ j l' h1 h2=>by
  obtain⟨v,e1,b,ws,rfl,_,qb,_⟩:=e.ev.sl j _ h1;rw[h2] at e1;cases e1;rw[na] at qb;cases qb
 have eg:=e.grow g;refine⟨⟨eg.ev.w,λ j t hj=>?_⟩,eg.gr,λ j l' b h1 h2=>?_,λ j k l1 l2 w h1 h2 h3 h4=>?_,eg.pn⟩
 ·rw[cM] at hj;split at hj
  ·rename_i c;subst c;split at hj
   ·cases hj;exact⟨.ref a,by rw[cM];simp[hi],a,vs,O,nf,q,r⟩
   ·cases hj
  ·rename_i c;obtain⟨w,e1,z⟩:=eg.ev.sl j t hj;exact⟨w,by rw[dS c];exact e1,z⟩
 ·rcases dq h1 with ⟨rfl,_⟩|⟨n,z⟩
  ·rw[cM] at h2;simp[hi] at h2;subst h2;exact na0
  ·rw[dS n] at h2;exact e.nb j l' b z h2
 ·rcases dq h1 with ⟨rfl,_⟩|⟨n,z⟩
  ·rcases dq h2 with ⟨rfl,_⟩|⟨n',z'⟩
   ·rfl
   ·rw[cM] at h3;simp[hi] at h3;subst h3;rw[dS n'] at h4;exact absurd h4 (old k l2 z')
  ·rcases dq h2 with ⟨rfl,_⟩|⟨n',z'⟩
   ·rw[cM] at h4;simp[hi] at h4;subst h4;rw[dS n] at h3;exact absurd h3 (old j l1 z)
   ·rw[dS n] at h3;rw[dS n'] at h4;exact e.di j k l1 l2 w z z' h3 h4
set_option tactic.hygienic true in
def ER.fz(e:ER K J F0 H0 PN F H σ ρ)(i:Nat):∃F',ER K J F0 H0 PN F' H σ (fzS ρ i)/\∀a,F a->F' a:=by
 unfold fzS;split
 ·rename_i l hl;obtain⟨v,ev,a,vs,rfl,nf,q,r⟩:=e.ev.sl i _ hl;have na:H0 a=none:=e.nb i l a hl ev;have up:Ke K F H (λ b=>F b\/b=a) H:=.up λ _ f=>.inl f;have ilt:i<σ.length:=(bc.mp ev).1;refine⟨λ b=>F b\/b=a,⟨⟨⟨e.ev.w.j,λ b f=>?_⟩,λ j t hj=>?_⟩,e.gr.frz na (by rw[q];simp),λ j l' b h1 h2=>?_,λ j k l1 l2 w h1 h2 h3 h4=>?_,λ p hp=>(e.pn p hp).ke up⟩,λ _ f=>.inl f⟩
  ·rcases f with f|rfl
   ·exact e.ev.w.d b f
   ·rw[q];simp
  ·rw[cM] at hj;split at hj
   ·rename_i c;subst c;split at hj
    ·cases hj;exact⟨.ref a,ev,a,vs,rfl,.inl ⟨.inr rfl,.of q⟩,r.ke up⟩
    ·cases hj
   ·rename_i c;obtain⟨w,e1,z⟩:=e.ev.sl j t hj;refine⟨w,e1,?_⟩
    cases t with
    |own l'=>
     obtain⟨b,ws,rfl,nf',q',r'⟩:=z;refine⟨b,ws,O,λ z=>?_,q',r'.ke up⟩
     rcases z with z|z
     ·exact nf' z
     ·subst z;exact c (e.di i j l l' _ hl hj ev e1)
    |dct l'=>exact z
    |_=>exact Rp.ke up z
  ·rcases dq h1 with ⟨_,z⟩|⟨n,z⟩
   ·cases z
   ·exact e.nb j l' b z h2
  ·rcases dq h1 with ⟨_,z⟩|⟨n,z⟩
   ·cases z
   ·rcases dq h2 with ⟨_,z'⟩|⟨n',z'⟩
    ·cases z'
    ·exact e.di j k l1 l2 w z z' h3 h4
 ·exact⟨F,e,λ _ f=>f⟩
def ER.fzC(e:ER K J F0 H0 PN F H σ ρ)(c:Cd):∃F',ER K J F0 H0 PN F' H σ (fzC c ρ)/\∀a,F a->F' a:=by
 cases c<;>first|exact e.fz _|exact⟨F,e,λ _ f=>f⟩
def ER.fzV(c:Cd):∀ {F:Fz}{ρ:En},ER K J F0 H0 PN F H σ ρ->∃F',ER K J F0 H0 PN F' H σ (fzV c ρ)/\∀a,F a->F' a:=by
 induction c with
 |cons a r _ ih=>
  intro F ρ e;obtain⟨F1,e1,u1⟩:=e.fzC a;obtain⟨F2,e2,u2⟩:=ih e1;exact⟨F2,e2,λ b f=>u2 b (u1 b f)⟩
 |_=>intro F ρ e;exact⟨F,e,λ _ f=>f⟩
def ER.mut(hJ:JS J){i:Nat}(e:ER K J F0 H0 PN F H σ ρ)(h:ρ[i]?=some (some (.own l)))(hs:σ[i]?=some (some (.ref a)))(r:RpL K F H l' ws):ER K J F0 H0 PN F (upd H a (.lst ws)) σ (ρ.set i (some (.own l')))/\Ke K F H F (upd H a (.lst ws)):=by
 obtain⟨v,ev,b,vs,rfl,nf,q,_⟩:=e.ev.sl i _ h;rw[hs] at ev;cases ev;have na:H0 a=none:=e.nb i l a h hs
 have dom:∀b,H b≠none->upd H a (.lst ws) b≠none:=λ b hb=>by
  by_cases c:b=a
  ·subst c;rw[cV];simp
  ·rw[aL c];exact hb
 have rd:∀b u,(∀vs,u≠.lst vs)->Rd H b u->Rd (upd H a (.lst ws)) b u:=λ b u n h=>by
  rcases h with h|⟨o,h⟩
  ·exact .inl (by rw[aL (λ z=>by subst z;rw[q] at h;cases h;exact n _ rfl)];exact h)
  ·exact .inr ⟨o,by rw[aL (λ z=>by subst z;rw[q] at h;cases h)];exact h⟩
 have ke:Ke K F H F (upd H a (.lst ws)):=⟨λ b vs h=>by
  rcases h with h|h
  ·exact .inl (rd _ _ (λ _ z=>by cases z) h)
  ·exact .inr h,λ b vs h=>h.imp λ f h=>⟨f,by
  have ba:b≠a:=λ z=>by subst z;exact nf f
  rcases h with h|h
  ·refine .inl ?_
   rcases h with h|⟨o,h⟩
   ·exact .inl (by rw[aL ba];exact h)
   ·exact .inr ⟨o,by rw[aL ba];exact h⟩
  ·exact .inr h⟩⟩
 have ilt:i<ρ.length:=(bc.mp h).1;refine⟨⟨⟨⟨hJ.mu H a vs ws q e.ev.w.j,λ b f=>dom b (e.ev.w.d b f)⟩,λ j t hj=>?_⟩,⟨λ b o n hb=>?_,λ b hb=>dom b (e.gr.dm b hb),e.gr.up,e.gr.nw,hJ.mu H a vs ws q e.ev.w.j,λ b f=>dom b (e.ev.w.d b f)⟩,λ j l1 b h1 h2=>?_,λ j k l1 l2 w h1 h2 h3 h4=>?_,λ p hp=>(e.pn p hp).ke ke⟩,ke⟩
 ·rw[cM] at hj;split at hj
  ·rename_i c;subst c;cases hj;exact⟨.ref a,hs,a,ws,O,nf,cV,r.ke ke⟩
  ·rename_i c;obtain⟨w,e1,z⟩:=e.ev.sl j t hj;refine⟨w,e1,?_⟩
   cases t with
   |own l1=>
    obtain⟨b,us,rfl,nf',q',r'⟩:=z;have ba:b≠a:=λ z=>by subst z;exact c (e.di i j l l1 _ h hj hs e1)
    exact⟨b,us,O,nf',by rw[aL ba];exact q',r'.ke ke⟩
   |dct l'=>obtain⟨b,e2,q'⟩:=z;exact⟨b,e2,by rw[aL (λ z=>by subst z;rw[q] at q';cases q')];exact q'⟩
   |_=>exact Rp.ke ke z
 ·rw[aL (λ z=>by subst z;rw[na] at hb;cases hb)];exact e.gr.sm b o n hb
 ·rcases dq h1 with ⟨rfl,_⟩|⟨n,z⟩
  ·rw[hs] at h2;cases h2;exact na
  ·exact e.nb j l1 b z h2
 ·have f:∀(j:Nat) (l:List TV),(ρ.set i (some (TV.own l')))[j]?=some (some (TV.own l))->∃l,ρ[j]?=some (some (TV.own l)):=λ j l1 h1=>by
   rcases dq h1 with ⟨rfl,_⟩|⟨n,z⟩
   ·exact⟨l,h⟩
   ·exact⟨l1,z⟩
  obtain⟨m1,z1⟩:=f j l1 h1;obtain⟨m2,z2⟩:=f k l2 h2;exact e.di j k m1 m2 w z1 z2 h3 h4
end
noncomputable def mmN:MM->Str
 |.append=> "append" |.insert=> "insert" |.extend _=> "__name__" |.pop=> "pop"
noncomputable def plE:Expr->Bool
 |.ListComp ..=>false|.SetComp ..=>false|.DictComp ..=>false|.Tuple ..=>false|.List ..=>false|_=>true
noncomputable def lcl(N:List Str)(nm:List (Str×NameKind))(i:Nat)(x:Str):Bool:=decide (N[i]?=some x)&&(decide (nm.lookup x=some .local) || decide (nm.lookup x=some .cell))
noncomputable def ckM(fs gs:List Str)(N:List Str)(nm:List (Str×NameKind))(m:MM)(i:Nat)(l:Cd)(e:Expr):Bool:=cS e λ g es w cp=>qF g λ o name ap=>bp o λ x _=>w.isEmpty&&decide (N[i]?=some x)&&vs nm x&&okN x&&decide (name=mmN m)&&decide (name ≠ "__name__" /\ ap.endLine=cp.line/\es.length<20)&&ckL fs gs l N nm es
noncomputable def qAs(l:List Stmt)(k:List Expr->Expr->Pos->List Stmt->Bool):Bool:=match l with|.Assign x p q::l=>k x p q l|_=>false
@[elab_as_elim] theorem nF{motive:List Stmt->Prop}{l:List Stmt}{k:List Expr->Expr->Pos->List Stmt->Bool}(h:qAs l k=true)(f:∀x p q t,k x p q t=true->motive (.Assign x p q::t)):motive l:=by
 cases l with
 |nil=>exact Bool.noConfusion h
 |cons a t=>cases a<;>first|exact f _ _ _ _ h|exact Bool.noConfusion h
noncomputable def qRe(l:List Stmt)(k:Option Expr->Pos->List Stmt->Bool):Bool:=match l with|.Return x p::l=>k x p l|_=>false
@[elab_as_elim] theorem Gp{motive:List Stmt->Prop}{l:List Stmt}{k:Option Expr->Pos->List Stmt->Bool}(h:qRe l k=true)(f:∀x p t,k x p t=true->motive (.Return x p::t)):motive l:=by
 cases l with
 |nil=>exact Bool.noConfusion h
 |cons a t=>cases a<;>first|exact f _ _ _ h|exact Bool.noConfusion h
noncomputable def qEx(l:List Stmt)(k:Expr->Pos->List Stmt->Bool):Bool:=match l with|.Expr x p::l=>k x p l|_=>false
@[elab_as_elim] theorem vJ{motive:List Stmt->Prop}{l:List Stmt}{k:Expr->Pos->List Stmt->Bool}(h:qEx l k=true)(f:∀x p t,k x p t=true->motive (.Expr x p::t)):motive l:=by
 cases l with
 |nil=>exact Bool.noConfusion h
 |cons a t=>cases a<;>first|exact f _ _ _ h|exact Bool.noConfusion h
noncomputable def qIf(l:List Stmt)(k:Expr->List Stmt->List Stmt->Pos->List Stmt->Bool):Bool:=match l with|.If x p q r::l=>k x p q r l|_=>false
@[elab_as_elim] theorem Gq{motive:List Stmt->Prop}{l:List Stmt}{k:Expr->List Stmt->List Stmt->Pos->List Stmt->Bool}(h:qIf l k=true)(f:∀x p q r t,k x p q r t=true->motive (.If x p q r::t)):motive l:=by
 cases l with
 |nil=>exact Bool.noConfusion h
 |cons a t=>cases a<;>first|exact f _ _ _ _ _ h|exact Bool.noConfusion h
noncomputable def qFo(l:List Stmt)(k:Expr->Expr->List Stmt->List Stmt->Pos->List Stmt->Bool):Bool:=match l with|.For x p q r s::l=>k x p q r s l|_=>false
@[elab_as_elim] theorem Gr{motive:List Stmt->Prop}{l:List Stmt}{k:Expr->Expr->List Stmt->List Stmt->Pos->List Stmt->Bool}(h:qFo l k=true)(f:∀x p q r s t,k x p q r s t=true->motive (.For x p q r s::t)):motive l:=by
 cases l with
 |nil=>exact Bool.noConfusion h
 |cons a t=>cases a<;>first|exact f _ _ _ _ _ _ h|exact Bool.noConfusion h
noncomputable def qWh(l:List Stmt)(k:Expr->List Stmt->List Stmt->Pos->List Stmt->Bool):Bool:=match l with|.While x p q r::l=>k x p q r l|_=>false
@[elab_as_elim] theorem KD{motive:List Stmt->Prop}{l:List Stmt}{k:Expr->List Stmt->List Stmt->Pos->List Stmt->Bool}(h:qWh l k=true)(f:∀x p q r t,k x p q r t=true->motive (.While x p q r::t)):motive l:=by
 cases l with
 |nil=>exact Bool.noConfusion h
 |cons a t=>cases a<;>first|exact f _ _ _ _ _ h|exact Bool.noConfusion h
noncomputable def qTr(l:List Stmt)(k:List Stmt->List ExceptHandler->List Stmt->List Stmt->Pos->List Stmt->Bool):Bool:=match l with|.Try x p q r s::l=>k x p q r s l|_=>false
def Gs(h:qTr l k=true):∃x p q r s t,l=.Try x p q r s::t/\k x p q r s t=true:=by
 cases l with
 |nil=>exact Bool.noConfusion h
 |cons a t=>cases a<;>first|exact⟨_,_,_,_,_,_,rfl,h⟩|exact Bool.noConfusion h
section
variable (fs gs:List Str)(N:List Str)(nm:List (Str×NameKind))
noncomputable def bX:Bool->Ct->List Stmt->Bool
 |_,.nil,sts=>sts.isEmpty
 |_,.never,_=>true
 |_,.ret c,sts=>qRe sts λ e _ _=>(match e with|some e=>ck fs gs c N nm e|none=>false)
 |lp,.set i c r,sts=>qAs sts λ ts e _ rest=>c1 ts λ t=>bp t λ x _=>lcl N nm i x&&ck fs gs c N nm e&&bX lp r rest
 |lp,.sd i c r,sts=>qAs sts λ ts e _ rest=>c1 ts λ t=>bp t λ x _=>cS e λ g as w _=>bp g λ u _=>c1 as λ z=>lcl N nm i x&&w.isEmpty&&decide (u="dict")&&gl nm u&&aN z&&ck fs gs c N nm z&&bX lp r rest
 |lp,.sets is c r,sts=>qAs sts λ ts e _ rest=>c1 ts λ tg=>ckT true N nm is tg&&iM tg&&plE e&&ck fs gs c N nm e&&bX lp r rest
 |lp,.fz _ r,sts=>bX lp r sts
 |lp,.ex c r,sts=>qEx sts λ e _ rest=>plE e&&ck fs gs c N nm e&&bX lp r rest
 |lp,.met m i l r,sts=>qEx sts λ e _ rest=>ckM fs gs N nm m i l e&&bX lp r rest
 |lp,.put i c d r,sts=>qAs sts λ ts e _ rest=>c1 ts λ t=>jO t λ o y _=>bp o λ x _=>decide (N[i]?=some x)&&vs nm x&&okN x&&gp y&&ck fs gs c N nm y&&ck fs gs d N nm e&&bX lp r rest
 |lp,.ite c a b r,sts=>qIf sts λ t x y _ rest=>tB' c t&&ck fs gs c N nm t&&bX lp a x&&bX lp b y&&bX lp r rest
 |lp,.for tg k it b r,sts=>qFo sts λ t iter body els _ rest=>els.isEmpty&&lp&&ckT true N nm tg t&&ckI fs gs it k t N nm iter&&bX lp b body&&bX lp r rest
 |lp,.tri b r,sts=>qTr sts λ body hs els fi _ rest=>!hs.isEmpty&&els.isEmpty&&fi.isEmpty&&bX false b body&&bX lp r rest
end
section
variable {J:Hp->Prop}{FT:List PSp}{GT:List TV}{fs gs:List Str}{N:List Str}{nm:List (Str×NameKind)}{F0:Fz}{H0:Hp}{PN:List (TV×V)}
def PSs.imp{st:List Stmt}{t t':TS}(h:PSs X st t)(i:∀D σ H,t' D σ H->t D σ H):PSs X st t':=λ pins s σ H D I q=>h pins s σ H D I (i D σ H q)
noncomputable def nxR(K:FG)(J:Hp->Prop)(F0:Fz)(H0:Hp)(PN:List (TV×V))(n:Nat)(P:St->Hp->Prop)(ρ:En):Prop:=∀F' H' σ',ER K J F0 H0 PN F' H' σ' ρ->σ'.length=n->P σ' H'
noncomputable def rtR(K:FG)(J:Hp->Prop)(F0:Fz)(H0:Hp)(P:VK)(t:TV):Prop:=∀F' H' v,Grow J F0 H0 F' H'->Rp K F' H' t v->P v H'
noncomputable def rS(K:FG)(J:Hp->Prop)(FT:List PSp)(GT:List TV)(n:Nat)(F0:Fz)(H0:Hp)(PN:List (TV×V))(c:Ct):TS:=λ D σ H=>∃F ρ,ER K J F0 H0 PN F H σ ρ/\σ.length=n/\wS FT GT c ρ (nxR K J F0 H0 PN n D.nx) (rtR K J F0 H0 D.rt)
def ER.rr{K:FG}{i:Nat}(e:ER K J F0 H0 PN F H σ ρ)(g:Grow J F H F' H')(h:Rr K H F' H' t v)(nb:t.nb=true)(hi:i<σ.length):ER K J F0 H0 PN F' H' (σ.set i (some v)) (ρ.set i (some t)):=by
 cases t with
 |own l=>exact e.own g h hi
 |bor l=>cases nb
 |_=>exact(e.grow g).set h hi
def vK{x:Str}(xs:XS X N nm)(hf:∀x,X.env.scope.names.lookup x=some .cell->X.fn x=true)(h:lcl N nm i x=true):X.N[i]?=some x/\Loc X.env.scope x/\(X.fn x=true\/X.env.scope.names.lookup x=some .local)/\i<N.length:=by
 unfold lcl at h;rw[bu,iO] at h;have e:=ay h.1;have lo:Loc X.env.scope x:=by unfold Loc;rw[xs.nm];exact h.2.imp ay ay
 exact⟨by rw[xs.N];exact e,lo,lo.elim .inr λ z=>.inl (hf x z),(bc.mp e).1⟩
def nG(h:plE e=true):swapsWith e t n env=pure false:=by cases e<;>first|rfl|cases h
def Gu{own fv:List Str}{js tgs:List Nat}(hJ:JS J)(lt:∀i∈tgs,i<own.length)(h:rE X.K J FT GT (.comp own fv js tgs k it e) σ H Q):ju (rW X.K J FT GT k it) own.length js (tgG X.K tgs) (rE X.K J FT GT e) σ H Q:=by
 obtain⟨F,ρ,ev,w⟩:=h;refine⟨F,ρ,ev,cD it (λ ts w=>gP (λ its w F1 H1 xs Jt g1 rx ok=>?_) w) w⟩;obtain⟨hn,w⟩:=w
 have z:=ny (tc:=λ σ H Q=>Q true H) (te:=rE X.K J FT GT e) hJ g1 rx ok ev lt hn (λ t K'=>stE (cEn own js ρ) tgs t λ ρ'=>wE FT GT e ρ' λ y=>(y.nb=true/\K' [y.fz])) (λ t K K' h q=>eR (λ ρ' q=>av e (λ y q=>⟨q.1,h _ q.2⟩) q) q) w
  (λ t P x F' H' σ' b ev' sl rt R fin=>nk b ev' rt (λ i hi=>by rw[sl];unfold cQ;simp;have:=lt i hi;lia) λ σ2 ρ2 p ev2 sl2 keep=>by
   show if true=true then _ else _;rw[if_pos rfl];refine⟨F',ρ2,ev2,av e (λ y ⟨nb,p⟩ F2 H2 v g r=>?_) p⟩;obtain⟨F3,g3,_,_,rp⟩:=r.frz g nb
   exact fin [y.fz] [v] σ2 F3 H2 p (ar _) g3 ⟨v,[],O,rp,O⟩ ((keep _ ev' λ i hi u=>nr (lt i hi) u).grow g3) sl2)
 simpa only[dZ] using z
def Gv{own fv:List Str}{js tgs:List Nat}(hJ:JS J)(lt:∀i∈tgs,i<own.length)(h:rE X.K J FT GT (.compI own fv js tgs k it c e) σ H Q):iz (rW X.K J FT GT k it) own.length js (tgG X.K tgs) (rT X.K J FT GT c) (rE X.K J FT GT e) σ H Q:=by
 obtain⟨F,ρ,ev,w⟩:=h;refine⟨F,ρ,ev,cD it (λ ts w=>gP (λ its w F1 H1 xs Jt g1 rx ok=>?_) w) w⟩;obtain⟨hn,w⟩:=w
 exact ny (tc:=rT X.K J FT GT c) (te:=rE X.K J FT GT e) hJ g1 rx ok ev lt hn (λ t K'=>stE (cEn own js ρ) tgs t λ ρ'=>wE FT GT c ρ' λ x=>b1 x λ q=>if q=true then wE FT GT e ρ' λ y=>(y.nb=true/\K' [y.fz]) else K' []) (λ t K K' h q=>eR (λ ρ' q=>av c (λ x q=>cr (λ z q=>by
   split at q
   ·rw[if_pos (by assumption)];exact av e (λ y q=>⟨q.1,h _ q.2⟩) q
   ·rw[if_neg (by assumption)];exact h _ q) q) q) q) w
  (λ t P x F' H' σ' b ev' sl rt R fin=>nk b ev' rt (λ i hi=>by rw[sl];unfold cQ;simp;have:=lt i hi;lia) λ σ2 ρ2 p ev2 sl2 keep=>by
   have kp:=keep _ ev' λ i hi u=>nr (own:=own) (js:=js) (ρ:=ρ) (lt i hi) u;refine⟨F',ρ2,ev2,av c (λ x w=>cr (λ q w2 F2 H2 g2=>?_) w) p⟩;split at w2
   ·rw[if_pos (by assumption)];refine⟨F2,ρ2,ev2.grow g2,av e (λ y ⟨nb,p⟩ F3 H3 v g r=>?_) w2⟩;obtain⟨F4,g4,_,_,rp⟩:=r.frz g nb;exact fin [y.fz] [v] σ2 F4 H3 p (ar _) (g2.trans g4) ⟨v,[],O,rp,O⟩ ((kp.grow g2).grow g4) sl2
   ·rw[if_neg (by assumption)]
    exact fin [] [] σ2 F2 H2 w2 (bC _) g2 rfl (kp.grow g2) sl2)
theorem Gw{i:Nat}(xo:XOk X J FT GT fs gs)(xs:XS X N nm)(hN:X.N.Nodup)(hi:X.N[i]?=some x)(hx:Loc X.env.scope x)(hf:X.fn x=true\/X.env.scope.names.lookup x=some .local)(h:ck fs gs c N nm e=true) :
  PS X (.Assign [.Name x p'] e pos) (jc (rE X.K J FT GT c) (dL i)):=by
 have plain:swapsWith e (some (.Name x p')) pos.line X.env=pure false->PS X (.Assign [.Name x p'] e pos) (jc (rE X.K J FT GT c) (dL i)):=λ hs=>sB hN hi hx (sE c xo xs h) hs hf
 cases e with
 |ListComp elt gens sc lp=>
  cases hb:(X.env.blockKind == .function&&X.env.kindOf x == some .local&&p'.line == (Expr.ListComp elt gens sc lp).pos.line && !(sc.names.any λ(n,k)=>n == x&&(k == .local || k == .cell))) with
  |false=>exact plain (by show(pure _:Sem Bool)=_;rw[<- hb])
  |true=>
   have hsw:swapsWith (.ListComp elt gens sc lp) (some (.Name x p')) pos.line X.env=pure true:=by show(pure _:Sem Bool)=_;rw[<- hb]
   cases c with
   |comp own fv js tgs k it e=>
    obtain⟨_,_,_,_,e1,g⟩:=nc h;cases e1;obtain⟨⟨t,iter,ifs,z⟩,rfl,g'⟩:=iL g;obtain⟨g0,g1,h1,h2,h3,h4,h5⟩:=a7 g';cases (show ifs=[] from List.isEmpty_iff.mp g0);cases ay g1;intro pins s σ H D I q;obtain⟨cl,S⟩:=nh I.ok xs h1;have yx:∀(C:Addr) (ex:List Addr) (s:Shared) (H:Hp),XS (bh X (own++fv) sc cl C ex s H) (own++fv) (cE nm sc.names):=λ C ex s H=>⟨rfl,S.rel⟩;have lt:∀i∈tgs,i<own.length:=λ i hi=>ay (gW.mp h4 i hi);exact CV (g:=tgG X.K tgs) (te:=rE X.K J FT GT e) hN hi hx hf xo.calm (sI it k xo xs h2) S.clos S.cell S.kind S.names S.sub S.has S.len S.cap (λ C ex s H=>(jQ (X:=bh X (own++fv) sc cl C ex s H) S.nd xo.calm (yx C ex s H) (λ z=>by cases z) h3).1) (λ C ex s H=>sE e (jR xo) (yx C ex s H) h5) hsw (λ x=>kX (kZ h2)) pins s σ H D I (Gu xo.hJ lt q)
   |compI own fv js tgs k it c e=>
    obtain⟨_,_,_,_,e1,g⟩:=nc h;cases e1;obtain⟨⟨t,iter,ifs,z⟩,rfl,g'⟩:=iL g;obtain⟨cnd,e2,g⟩:=iL g';cases e2;obtain⟨g1,h1,h2,h3,h4,h7,h5,h6⟩:=a8 g;cases ay g1;intro pins s σ H D I q;obtain⟨cl,S⟩:=nh I.ok xs h1;have yx:∀(C:Addr) (ex:List Addr) (s:Shared) (H:Hp),XS (bh X (own++fv) sc cl C ex s H) (own++fv) (cE nm sc.names):=λ C ex s H=>⟨rfl,S.rel⟩;have lt:∀i∈tgs,i<own.length:=λ i hi=>ay (gW.mp h4 i hi);exact Dz (g:=tgG X.K tgs) (tc:=rT X.K J FT GT c) (te:=rE X.K J FT GT e) hN hi hx hf xo.calm (sI it k xo xs h2) S.clos S.cell S.kind S.names S.sub S.has S.len S.cap (λ C ex s H=>(jQ (X:=bh X (own++fv) sc cl C ex s H) S.nd xo.calm (yx C ex s H) (λ z=>by cases z) h3).1) (λ C ex s H=>sE e (jR xo) (yx C ex s H) h6) (λ C ex s H=>sT c (jR xo) (yx C ex s H) h7 h5) hsw (λ x=>kX (kZ h2)) pins s σ H D I (Gv xo.hJ lt q)
   |_=>exact Bool.noConfusion h
 |SetComp=>cases c<;>exact Bool.noConfusion h
 |DictComp=>cases c<;>exact Bool.noConfusion h
 |_=>exact plain rfl
end
section
variable {J:Hp->Prop}{FT:List PSp}{GT:List TV}{fs gs:List Str}{N:List Str}{nm:List (Str×NameKind)}{F0:Fz}{H0:Hp}{PN:List (TV×V)}
noncomputable def rM(K:FG)(J:Hp->Prop)(FT:List PSp)(GT:List TV)(F0:Fz)(H0:Hp)(PN:List (TV×V))(m:MM)(i:Nat)(l:Cd):TE:=λ σ H Q=>∃F ρ,ER K J F0 H0 PN F H σ ρ/\gX ρ[i]? λ xs=>wL FT GT l ρ λ ts=>mtP m xs ts λ y ys=>∀F' H' v,ER K J F0 H0 PN F' H' σ (ρ.set i (some (.own ys)))->Rp K F' H' y v->Q v H'
def ER.at_{K:FG}{i:Nat}(e:ER K J F0 H0 PN F H σ ρ)(h:ρ[i]?=some (some (.own l))):∃a vs,σ[i]?=some (some (.ref a))/\H a=some (.lst vs)/\RpL K F H l vs:=by
 obtain⟨v,e1,a,vs,rfl,_,q,r⟩:=e.ev.sl i _ h;exact⟨a,vs,e1,q,r⟩
def rl2{K:FG}{t u:TV}{vs:List V}(h:RpL K F H [t,u] vs):∃x y,vs=[x,y]/\Rp K F H t x/\Rp K F H u y:=by
 obtain⟨x,r,rfl,h1,y,r',rfl,h2,rfl⟩:=h;exact⟨x,y,O,h1,h2⟩
def rl1{K:FG}{t:TV}{vs:List V}(h:RpL K F H [t] vs):∃x,vs=[x]/\Rp K F H t x:=by
 obtain⟨x,r,rfl,h1,rfl⟩:=h;exact⟨x,O,h1⟩
def RpL.dropLast{K:FG}{vs:List V}(h:RpL K F H l vs):RpL K F H l.dropLast vs.dropLast:=by
 rw[vL,vL,<- h.length];exact h.take _
def RpL.eraseIdx{K:FG}{vs:List V}(h:RpL K F H l vs)(k:Nat):RpL K F H (l.eraseIdx k) (vs.eraseIdx k):=by
 rw[gK,gK];exact(h.take k).append (h.drop _)
theorem Gy(hJ:JS J){i:Nat}{Q:VK}(e:ER X.K J F0 H0 PN F H σ ρ)(h:ρ[i]?=some (some (.own l)))(ha:σ[i]?=some (some (.ref a)))(g:Grow J F H F1 H1)(r:RrL X.K H F1 H1 ts ws)
  (w:mtP m l ts λ y ys=>∀F' H' v,ER X.K J F0 H0 PN F' H' σ (ρ.set i (some (.own ys)))->Rp X.K F' H' y v->Q v H') :
  (m=.append/\lY (.ref a) ws H1 Q)\/(m=.insert/\mH (.ref a) ws H1 Q)\/(∃b,m=.extend b/\∃c vs zs,ws=[.ref c]/\SqB X.K b H1 c zs/\H1 a=some (.lst vs)/\vs.length+zs.length<=sizeLine/\Q .non (upd H1 a (.lst (vs++zs))))\/(m=.pop/\lZ (.ref a) ws H1 Q)\/(m=.pop/\kC (.ref a) ws H1 Q):=by
 rcases ts with _|⟨t,_|⟨u,_|⟨z,rr⟩⟩⟩
 ·cases m with
  |pop=>
   cases r;obtain⟨y,ey,w⟩:=w;have e1:=e.grow g;obtain⟨b,vs,eb,q,rl⟩:=e1.at_ h;rw[ha] at eb;cases eb;obtain⟨v,ev,rv⟩:=rl.get ey;obtain⟨em,ke⟩:=e1.mut hJ h ha rl.dropLast;exact .inr (.inr (.inr (.inl ⟨O,a,vs,v,O,O,q,by rw[<- rl.length];exact ev,w _ _ _ em (rv.ke ke)⟩)))
  |_=>exact w.elim
 ·cases m with
  |append=>
   obtain⟨nb,lz,w⟩:=w;obtain⟨F2,g2,_,r2⟩:=iN g r (by rw[da,nb];rfl);obtain⟨x,rfl,rx⟩:=rl1 r2;have e1:=e.grow g2;obtain⟨b,vs,eb,q,rl⟩:=e1.at_ h;rw[ha] at eb;cases eb;obtain⟨em,ke⟩:=e1.mut hJ h ha (rl.append (show RpL X.K F2 H1 [t.fz] [x] from ⟨x,[],rfl,rx,rfl⟩));exact .inl ⟨O,a,vs,x,O,O,q,by rw[<- rl.length];exact lz,w _ _ _ em rfl⟩
  |extend bb=>
   obtain⟨nb,w⟩:=w;obtain⟨mm,em',lz,w⟩:=kY w;have e1:=e.grow g;obtain⟨b,vs,eb,q,rl⟩:=e1.at_ h;rw[ha] at eb;cases eb;obtain⟨x,rfl,rt⟩:=iK r;obtain⟨c,zs,rfl,qc,rz⟩:=rt.vw.b em';obtain⟨em,ke⟩:=e1.mut hJ h ha (rl.append rz);exact .inr (.inr (.inl ⟨bb,O,c,vs,zs,O,qc,q,by rw[<- rl.length,<- rz.length];exact lz,w _ _ _ em rfl⟩))
  |pop=>
   obtain⟨k,rfl,c,n,y,e2,ey,w⟩:=dQ w;obtain⟨x,rfl,rt⟩:=iK r;cases rt;have e1:=e.grow g;obtain⟨b,vs,eb,q,rl⟩:=e1.at_ h;rw[ha] at eb;cases eb;obtain⟨v,ev,rv⟩:=rl.get ey;obtain⟨em,ke⟩:=e1.mut hJ h ha (rl.eraseIdx n);exact .inr (.inr (.inr (.inr ⟨O,a,vs,k,n,v,O,O,q,c.1,c.2,by rw[<- rl.length];exact e2,ev,w _ _ _ em (rv.ke ke)⟩)))
  |_=>exact w.elim
 ·cases m with
  |insert=>
   obtain⟨k,rfl,nb,c,lz,w⟩:=dQ w;obtain⟨F2,g2,_,r2⟩:=iN g r (by rw[da,da,nb];rfl);obtain⟨x,y,rfl,rx,ry⟩:=rl2 r2;cases rx;have e1:=e.grow g2;obtain⟨b,vs,eb,q,rl⟩:=e1.at_ h;rw[ha] at eb;cases eb;obtain⟨em,ke⟩:=e1.mut hJ h ha ((rl.take k.toNat).append (show RpL X.K F2 H1 (u.fz::l.drop k.toNat) (y::vs.drop k.toNat) from ⟨y,_,rfl,ry,rl.drop _⟩));exact .inr (.inl ⟨O,a,vs,k,y,O,O,q,c.1,by rw[<- rl.length];exact c.2,by rw[<- rl.length];exact lz,w _ _ _ em rfl⟩)
  |_=>exact w.elim
 ·cases m<;>exact w.elim
def Gz{i:Nat}{p ap cp:Pos}{es:List Expr}(xo:XOk X J FT GT fs gs)(xs:XS X N nm)(h1:N[i]?=some x)(h2:vs nm x=true)(h3:okN x=true)(h0:mmN m ≠ "__name__")(h5:ap.endLine=cp.line)(h6:es.length<20)(h7:ckL fs gs l N nm es=true):PE X (.Call (.Attribute (.Name x p) (mmN m) ap) es [] cp) (rM X.K J FT GT F0 H0 PN m i l):=by
 obtain⟨d1,d2,_⟩:=gU h3;have hv:PE X (.Name x p) (dJ i):=kh (by rw[xs.N];exact h1) (kW xs h2) d1 d2;have hl:=beq_iff_eq.mpr h5;have st:=nA h7;have ha:=sL l xo xs h7
 have rd:∀ {r:V->List V->Hp->VK->Prop}{σ:St}{H:Hp}{Q:VK},rM X.K J FT GT F0 H0 PN m i l σ H Q->(∀ {a ws H1},((m=.append/\lY (.ref a) ws H1 Q)\/(m=.insert/\mH (.ref a) ws H1 Q)\/(∃b,m=.extend b/\∃c vs zs,ws=[.ref c]/\SqB X.K b H1 c zs/\H1 a=some (.lst vs)/\vs.length+zs.length<=sizeLine/\Q .non (upd H1 a (.lst (vs++zs))))\/(m=.pop/\lZ (.ref a) ws H1 Q)\/(m=.pop/\kC (.ref a) ws H1 Q))->r (.ref a) ws H1 Q) ->
   ∃a,σ[i]?=some (some (.ref a))/\(tyV X.K "list" (.ref a) H)/\rA X.K J FT GT l σ H λ ws H1=>r (.ref a) ws H1 Q:=λ {r σ H Q} ⟨F,ρ,e,w⟩ hr=>by
  obtain⟨ys,hy,w⟩:=nE w;obtain⟨a,vs,ea,q,_⟩:=e.at_ hy;exact⟨a,ea,.inl ⟨O,vs,.of q⟩,F,ρ,e.ev,cD l (λ ts w F1 H1 ws g r=>hr (Gy xo.hJ e hy ea g r w)) w⟩
 have tv:∀ {σ:St}{H:Hp}{P:VK}{a:Addr},σ[i]?=some (some (.ref a))->P (.ref a) H->dJ i σ H P:=λ {σ H P a} e p=>by unfold dJ;rw[e];exact p
 cases es with
 |nil=>
  cases m with
  |pop=>
   refine(Bc (apos:=ap) (cpos:=cp) nH s0a s0b Bg hv rfl hl).imp λ σ H Q q=>?_
   have l0:l=.nil:=by cases l<;>first|rfl|exact Bool.noConfusion h7
   subst l0
   obtain⟨a,ea,ty,F,ρ,ev,w⟩:=rd (r:=λ x ws H Q=>ws=[]->lZ x [] H Q) q (λ h z=>by
    subst z
    rcases h with ⟨z,_⟩|⟨z,_⟩|⟨_,z,_⟩|⟨_,h⟩|⟨_,h⟩
    ·cases z
    ·cases z
    ·cases z
    ·exact h
    ·obtain⟨_,_,_,_,_,_,z,_⟩:=h;cases z)
   exact tv ea ⟨ty,w F H [] (.refl ev.w) .nil rfl⟩
  |append=>
    intro pins s σ H Q I q
    have l0:l=.nil:=by cases l<;>first|rfl|exact Bool.noConfusion h7
    subst l0;obtain⟨F,ρ,e,w⟩:=q;obtain⟨_,_,w⟩:=nE w;exact w.elim
  |insert=>
    intro pins s σ H Q I q
    have l0:l=.nil:=by cases l<;>first|rfl|exact Bool.noConfusion h7
    subst l0;obtain⟨F,ρ,e,w⟩:=q;obtain⟨_,_,w⟩:=nE w;exact w.elim
  |extend b=>exact absurd rfl h0
 |cons y es=>
  have sy:aN y=true:=by rw[da,bu] at st;exact st.1
  have ss:es.all aN=true:=by rw[da,bu] at st;exact st.2
  cases m with
  |append=>
   refine(pd (apos:=ap) (cpos:=cp) nH PySem.F.slot_list_append PySem.F.type_list_append Bf hv ha rfl (nz st h6) hl (aZ sy) (jP ss)).imp λ σ H Q q=>?_
   obtain⟨a,ea,ty,w⟩:=rd (r:=lY) q (λ h=>by
    rcases h with ⟨_,h⟩|⟨z,_⟩|⟨_,z,_⟩|⟨z,_⟩|⟨z,_⟩
    ·exact h
    all_goals cases z)
   exact tv ea ⟨ty,w⟩
  |insert=>
   refine(pd (apos:=ap) (cpos:=cp) nH PySem.F.slot_list_insert PySem.F.type_list_insert Dt hv ha rfl (nz st h6) hl (aZ sy) (jP ss)).imp λ σ H Q q=>?_
   obtain⟨a,ea,ty,w⟩:=rd (r:=mH) q (λ h=>by
    rcases h with ⟨z,_⟩|⟨_,h⟩|⟨_,z,_⟩|⟨z,_⟩|⟨z,_⟩
    ·cases z
    ·exact h
    all_goals cases z)
   exact tv ea ⟨ty,w⟩
  |pop=>
   refine(pd (apos:=ap) (cpos:=cp) nH s0a s0b CU hv ha rfl (nz st h6) hl (aZ sy) (jP ss)).imp λ σ H Q q=>?_
   obtain⟨a,ea,ty,w⟩:=rd (r:=λ x ws H Q=>ws≠[]->kC x ws H Q) q (λ h n=>by
    rcases h with ⟨z,_⟩|⟨z,_⟩|⟨_,z,_⟩|⟨_,h⟩|⟨_,h⟩
    ·cases z
    ·cases z
    ·cases z
    ·obtain⟨_,_,_,_,z,_⟩:=h;exact absurd z n
    ·exact h)
   refine tv ea ⟨ty,?_⟩;obtain⟨F,ρ,ev,w⟩:=w;refine⟨F,ρ,ev,?_⟩
   cases l with
   |cons b r=>exact av b (λ t w=>cD r (λ ts w F' H' vs g rr=>w F' H' vs g rr (λ z=>by subst z;cases rr)) w) w
   |_=>exact Bool.noConfusion h7
  |extend b=>exact absurd rfl h0
def GA(xo:XOk X J FT GT fs gs)(xs:XS X N nm)(h:ckM fs gs N nm m i l e=true):PE X e (rM X.K J FT GT F0 H0 PN m i l)/\plE e=true:=by
 refine dn h λ g es w cp k1=>?_;refine vt k1 λ o name ap k2=>?_;refine bj k2 λ x p k3=>?_;obtain⟨z0,h1,h2,h3,z1,z2,h7⟩:=a7 k3;refine cL z0 ?_;cases ay z1;obtain⟨h0,h5,h6⟩:=ay z2;exact⟨Gz xo xs (ay h1) h2 h3 h0 h5 h6 h7,O⟩
end
section
variable {J:Hp->Prop}{FT:List PSp}{GT:List TV}{fs gs:List Str}{N:List Str}{nm:List (Str×NameKind)}{F0:Fz}{H0:Hp}
theorem GC{K:PySem.W.Frag}{ts its:List TV}{n:Nat}{D:Ends}{tb:TS}(b:TV->En->(En->Prop)->Prop)(P:En->Prop)
  (e1:ER K J F0 H0 PN F1 H1 σ ρ) (sl:σ.length=n) (rx:RpL K F1 H1 (ts.map TV.fz) xs) (ok:ItOk K J Jt its ts xs) (w:itF b its ρ P) (fin:∀ρ',P ρ'->nxR K J F0 H0 PN n D.nx ρ')
  (st:∀t ρ' F' H' σ' x (Q:En->Prop) (D':Ends),b t ρ' Q->ER K J F0 H0 ((ts.map TV.fz).zip xs++PN) F' H' σ' ρ'->σ'.length=n->Rp K F' H' t x->D'.rt=D.rt->(∀ρ2,Q ρ2->nxR K J F0 H0 ((ts.map TV.fz).zip xs++PN) n D'.nx ρ2)->tgG K tgs x σ' H' λ σ2 H2=>tb D' σ2 H2) :
  ∃W:Nat->Nat->St->Hp->Prop,(∃m,W 0 m σ H1)/\∀i m σ H,W i m σ H ->
   (Jt.stop i H/\D.nx σ H)\/(Jt.go i H/\∃N:St->Hp->Prop,(∀σ' H',N σ' H'->∃m',m'<m/\W (i+1) m' σ' H')/\∀x H',Jt.yld i H x H'->tgG K tgs x σ H' λ σ2 H2=>tb { D with nx:=N,ct:=N,bk:=D.nx } σ2 H2):=by
 have zl:(ts.map TV.fz).length=xs.length:=rx.length
 have pin0:∀p∈(ts.map TV.fz).zip xs,Rp K F1 H1 p.1 p.2:=by
  intro p hp;obtain⟨i,hi⟩:=List.getElem?_of_mem hp;rw[vx] at hi;obtain⟨v,ev,rv⟩:=rx.get hi.1;rw[hi.2] at ev;cases ev;exact rv
 have vw:∀ {F:Fz}{H:Hp}{σ:St}{ρ:En},ER K J F0 H0 ((ts.map TV.fz).zip xs++PN) F H σ ρ->Paired (Vw K F H) ts xs:=λ {F H σ ρ} e=>by
  have f:=e.pn;clear rx ok w fin st pin0 e1
  revert xs
  induction ts with
  |nil=>intro xs zl e f;cases xs with|nil=>exact .nil|cons x xs=>simp at zl
  |cons t ts ih=>
   intro xs zl e f
   cases xs with
   |nil=>simp at zl
   |cons x xs=>
    refine .cons (Rp.vw (f (t.fz,x) pv)) (ih (by simpa using zl) ⟨e.ev,e.gr,e.nb,e.di,λ p hp=>f p (by
     rw[cz,s1m,List.cons_append]
     exact cX _ hp)⟩ λ p hp=>f p (by
     rw[cz,s1m,List.cons_append]
     exact cX _ hp))
 refine⟨λ i m σ H=>i≤its.length/\m=its.length - i/\∃F ρ,ER K J F0 H0 ((ts.map TV.fz).zip xs++PN) F H σ ρ/\σ.length=n/\itF b (its.drop i) ρ P,
  ⟨_,bC _,rfl,F1,ρ,⟨e1.ev,e1.gr,e1.nb,e1.di,λ p hp=>(bO.mp hp).elim (pin0 p) (e1.pn p)⟩,sl,w⟩,?_⟩
 rintro i m σ H ⟨hi,rfl,F,ρ,e,s,w⟩;have v:=vw e;by_cases c:i<its.length
 ·refine .inr ⟨ok.go F H i e.ev.w v c,λ σ' H'=>∃F ρ,ER K J F0 H0 ((ts.map TV.fz).zip xs++PN) F H' σ' ρ/\σ'.length=n/\itF b (its.drop (i+1)) ρ P,λ σ' H' q=>⟨_,fu,c,O,q⟩,λ x H' y=>?_⟩;obtain⟨t,et,gy,rt⟩:=ok.yld F H i x H' e.ev.w v c y
  have ed:its.drop i=t::its.drop (i+1):=by
   rw[iG c]
   congr 1
   rw[aF c] at et;exact bS et
  rw[ed] at w;exact st t ρ F H' σ x _ _ w (e.grow gy) s rt rfl λ ρ2 q F2 H2 σ2 e2 s2=>⟨F2,ρ2,e2,s2,q⟩
 ·have ei:i=its.length:=by lia
  subst ei;rw[qO] at w;refine .inl ⟨ok.stop F H e.ev.w v,fin ρ w F H σ ⟨e.ev,e.gr,e.nb,e.di,λ p hp=>e.pn p (bz _ hp)⟩ s⟩
structure YOk (X:Cx)(J:Hp->Prop)(FT:List PSp)(GT:List TV)(fs gs N:List Str)(nm:List (Str×NameKind))(lp:Bool):Prop where
 xo:XOk X J FT GT fs gs
 xs:XS X N nm
 nd:N.Nodup
 fn:∀x,X.env.scope.names.lookup x=some .cell->X.fn x=true
 ps:lp=true->PassesOwn (model X.prog X.w) X.A X.env X.xe
theorem vM{K:FG}{Q:St->Hp->Prop}(h:stE ρ is t P)(e:ER K J F0 H0 PN F H σ ρ)(rt:Rp K F H t v)(hl:∀i∈is,i<σ.length)
  (fin:∀σ' ρ',P ρ'->ER K J F0 H0 PN F H σ' ρ'->σ'.length=σ.length->Q σ' H):tgG K is v σ H Q:=by
 match is,h with
 |[i],h=>exact fin _ _ h (e.set rt (hl i pv)) pv
 |[i,j],h=>
  cases t with
  |tup l=>
   match l,h with
   |[x,y],h=>
    obtain⟨a,ws,rfl,q,v1,r1,rfl,h1,v2,r2,rfl,h2,rfl⟩:=rt;exact⟨a,_,O,q,O,v1,_,O,v2,_,O,O,fin _ _ h ((e.set h1 (hl i pv)).set h2 (by simpa using hl j pv)) pv⟩
   |[],h=>exact h.elim
   |[_],h=>exact h.elim
   |_::_::_::_,h=>exact h.elim
  |_=>exact h.elim
 |[i,j,k],h=>
  cases t with
  |tup l=>
   match l,h with
   |[x,y,z],h=>
    obtain⟨a,ws,rfl,q,v1,r1,rfl,h1,v2,r2,rfl,h2,v3,r3,rfl,h3,rfl⟩:=rt;exact⟨a,_,O,q,O,v1,_,O,v2,_,O,v3,_,O,O,fin _ _ h (((e.set h1 (hl i pv)).set h2 (by simpa using hl j pv)).set h3 (by simpa using hl k pv)) pv⟩
   |[],h=>exact h.elim
   |[_],h=>exact h.elim
   |[_,_],h=>exact h.elim
   |_::_::_::_::_,h=>exact h.elim
  |_=>exact h.elim
 |[],h=>exact h.elim
 |_::_::_::_::_,h=>exact h.elim
end
section
variable {J:Hp->Prop}{FT:List PSp}{GT:List TV}{fs gs:List Str}{N:List Str}{nm:List (Str×NameKind)}{F0:Fz}{H0:Hp}
def GD{tg e:Expr}(h:plE e=true):swapsWithSole [tg] e n env=pure false:=nG h
def GE:swapsWithSole [.Subscript o i p] e n env=pure false:=by cases e<;>rfl
def GF:swappedStores [.Subscript o i p] e env=pure none:=by cases e<;>rfl
def GG{tg e:Expr}(h:plE e=true):swappedStores [tg] e env=pure none:=by
 cases tg<;>first|rfl|(cases e<;>first|rfl|cases h)
theorem GH(h:gp i=true):∀v,assign (.Subscript o i p) env v=(do
   let ov <- holding [v] (eval o env)
   let iv <- holding [v,ov] (eval i env)
   standAt p
   holding [v,ov,iv] (setItem ov iv v)
   release [v,ov,iv] []):=by
 intro v
 cases i<;>first|rfl|(cases h;done)
theorem sS:∀(c:Ct) {X:Cx}{lp:Bool}{PN:List (TV×V)}{sts:List Stmt},YOk X J FT GT fs gs N nm lp->bX fs gs N nm lp c sts=true->PSs X sts (rS X.K J FT GT N.length F0 H0 PN c)
 |.nil,X,lp,PN,sts,y,h=>by
  refine cL h ?_;exact pss_nil.imp λ D σ H ⟨F,ρ,e,s,w⟩=>w F H σ e s
 |.never,X,lp,PN,sts,y,h=>pss_never.imp λ D σ H ⟨F,ρ,e,s,w⟩=>w.elim
 |.ret c,X,lp,PN,sts,y,h=>by
  refine Gp h λ o _ _ g=>?_
  cases o with
  |none=>exact Bool.noConfusion g
  |some e=>
   refine(fk (zu (sE c y.xo y.xs g)) pss_never).imp λ D σ H ⟨F,ρ,e,s,w⟩=>?_;obtain⟨F',e',_⟩:=e.fzC c;refine⟨F',_,e'.ev,av c (λ t ⟨nb,w⟩ F1 H1 v g r=>?_) w⟩;obtain⟨F2,g2,_,_,rp⟩:=r.frz g nb;exact w F2 H1 v (e'.gr.trans g2) rp
 |.set i c r,X,lp,PN,sts,y,h=>by
  ·refine nF h λ ts e _ rest k1=>?_;refine dD k1 λ t k2=>?_;refine bj k2 λ x _ k3=>?_;obtain⟨h1,h2,h3⟩:=_L.a3 k3;obtain⟨a1,a2,a3,a4⟩:=vK y.xs y.fn h1;refine(fk (Gw y.xo y.xs (by rw[y.xs.N];exact y.nd) a1 a2 a3 h2) (sS r (PN:=PN) y h3)).imp λ D σ H ⟨F,ρ,e,s,w⟩=>?_;obtain⟨F',e',_⟩:=e.fzC c;exact⟨F',_,e'.ev,av c (λ t ⟨nb,w⟩ F1 H1 v g r=>⟨F1,_,e'.rr g r nb fu,by rw[eF];exact s,w⟩) w⟩
 |.sd i c r,X,lp,PN,sts,y,h=>by
  ·refine nF h λ ts e _ rest k1=>?_;refine dD k1 λ t k2=>?_;refine bj k2 λ x _ k3=>?_;refine dn k3 λ f' as w cp k4=>?_;refine bj k4 λ u p k5=>?_;refine dD k5 λ z k6=>?_;obtain⟨h1,g0,g1,g2,g3,h2,h3⟩:=a7 k6;cases ay g1;obtain⟨a1,a2,a3,a4⟩:=vK y.xs y.fn h1;refine cL g0 ?_;have pe:=jo (p:=p) (pos:=cp) (Ex y.xo.calm) (glX y.xs g2) (y.xo.blt _ on) (by decide +kernel) (cO (sE c y.xo y.xs h2) pa_nil (aZ g3)) on on (aZ g3) rfl;refine(fk (sB (by rw[y.xs.N];exact y.nd) a1 a2 pe (nG rfl) a3) (sS r (PN:=PN) y h3)).imp λ D σ H ⟨F,ρ,e,s,w⟩=>?_;refine⟨F,ρ,e.ev,av c (λ t w F1 H1 v g rt=>?_) w⟩;obtain⟨l,et,ps,rfl,nd,w⟩:=eU (show l1 t _ from w);obtain⟨b,vs,rfl,rl,q⟩:=rt.lq et;refine⟨b,vs,ps,O,q,vI rl,nd,λ z hz=>?_⟩;have g2':Grow _ F1 H1 F1 (upd H1 z (dcO ps)):=.new y.xo.hJ g.w _ hz;exact⟨F1,_,(e.grow (g.trans g2')).setD cV fu,by rw[eF];exact s,w⟩
 |.sets is c r,X,lp,PN,sts,y,h=>by
  ·refine nF h λ ts e _ rest k1=>?_;refine dD k1 λ tg k2=>?_;obtain⟨h1,h2,h3,h4,h5⟩:=a5 k2;obtain⟨pg,lt⟩:=jQ (X:=X) (by rw[y.xs.N];exact y.nd) y.xo.calm y.xs (λ _=>y.fn) h1;obtain⟨tes,tk,tp,rfl⟩:=qQ h2;refine(fk (sx (sE c y.xo y.xs h4) pg (GD h3) (GG h3) rfl) (sS r (PN:=PN) y h5)).imp λ D σ H ⟨F,ρ,e,s,w⟩=>?_;refine⟨F,ρ,e.ev,av c (λ t w F1 H1 v g rr=>?_) w⟩
   cases t with
   |tup l=>exact vM w (e.grow g) rr (λ i hi=>by rw[s];exact lt i hi) λ σ' ρ' p e' s'=>⟨F1,ρ',e',s'.trans s,p⟩
   |_=>exact w.elim
 |.fz i r,X,lp,PN,sts,y,h=>by
  refine(sS r (PN:=PN) y (show bX fs gs N nm lp r sts=true from h)).imp λ D σ H ⟨F,ρ,e,s,w⟩=>?_;obtain⟨F',e',_⟩:=e.fz i;exact⟨F',_,e',s,w⟩
 |.ex c r,X,lp,PN,sts,y,h=>by
  ·refine vJ h λ e _ rest k1=>?_;obtain⟨h1,h2,h3⟩:=_L.a3 k1;exact(fk (sk (sE c y.xo y.xs h2) (nG h1)) (sS r (PN:=PN) y h3)).imp λ D σ H ⟨F,ρ,e,s,w⟩=>⟨F,ρ,e.ev,av c (λ t w F1 H1 v g rr=>⟨F1,ρ,e.grow g,s,w⟩) w⟩
 |.met m i l r,X,lp,PN,sts,y,h=>by
  ·refine vJ h λ e _ rest k1=>?_;obtain⟨h1,h2⟩:=an k1;obtain⟨pe,pl⟩:=GA (F0:=F0) (H0:=H0) (PN:=PN) (J:=J) (FT:=FT) (GT:=GT) y.xo y.xs h1;refine(fk (sk pe (nG pl)) (sS r (PN:=PN) y h2)).imp λ D σ H ⟨F,ρ,e,s,w⟩=>?_;obtain⟨F',e',_⟩:=ER.fzV l e;exact⟨F',_,e',qR (λ xs w=>cD l (λ ts w=>vH (λ y ys w F1 H1 v e1 _=>⟨F1,_,e1,s,w⟩) w) w) w⟩
 |.put i c d r,X,lp,PN,sts,y,h=>by
  ·refine nF h λ ts e _ rest k1=>?_;refine dD k1 λ t k2=>?_;refine kS k2 λ o yy _ k3=>?_;refine bj k3 λ x _ k4=>?_;obtain⟨h1,h2,h3,h4,h5,h6,h7⟩:=a7 k4;replace h1:=ay h1;obtain⟨d1,d2,_⟩:=gU h3;refine(fk (sx (sE d y.xo y.xs h6) (zA (kh (by rw[y.xs.N];exact h1) (kW y.xs h2) d1 d2) (sE c y.xo y.xs h5) AO (GH h4)) GE GF rfl) (sS r (PN:=PN) y h7)).imp λ D σ H ⟨F,ρ,e,s,w⟩=>?_;obtain⟨F',e',_⟩:=e.fzC d;obtain⟨xs,hx,w⟩:=nE w;refine⟨F',_,e'.ev,av d (λ t ⟨nb,w⟩ F1 H1 v g rr=>?_) w⟩;obtain⟨F2,g2,_,_,rp⟩:=rr.frz g nb;have e2:=e'.grow g2;obtain⟨a,vs,ea,q,_⟩:=e2.at_ hx;show dJ i σ H1 _;unfold dJ;rw[ea];refine⟨F2,_,e2.ev,av c (λ u w F3 H3 v3 g3 r3=>?_) w⟩;obtain⟨k,rfl,n,en,w⟩:=dQ w;cases r3;have e3:=e2.grow g3;obtain⟨a',vs',ea',q',rl⟩:=e3.at_ hx;rw[ea] at ea';cases ea';obtain⟨em,_⟩:=e3.mut y.xo.hJ hx ea (rl.set (rp.ke g3.ke) n);exact⟨a,vs',k,n,O,O,q',by rw[<- rl.length];exact en,F3,_,em,s,w⟩
 |.ite c a b r,X,lp,PN,sts,y,h=>by
  ·refine Gq h λ t x yy _ rest k1=>?_;obtain⟨h1,h2,h3,h4,h5⟩:=a5 k1;refine(fk (zx (sT c y.xo y.xs h1 h2) (sS a (PN:=PN) y h3) (sS b (PN:=PN) y h4)) (sS r (PN:=PN) y h5)).imp λ D σ H ⟨F,ρ,e,s,w⟩=>?_;refine⟨F,ρ,e.ev,av c (λ t w=>cr (λ k w F1 H1 g=>?_) w) w⟩;split at w
   ·rw[if_pos (by assumption)];exact⟨F1,ρ,e.grow g,s,bH a (λ ρ' w F' H' σ' e s=>⟨F',ρ',e,s,w⟩) (λ _ h=>h) w⟩
   ·rw[if_neg (by assumption)];exact⟨F1,ρ,e.grow g,s,bH b (λ ρ' w F' H' σ' e s=>⟨F',ρ',e,s,w⟩) (λ _ h=>h) w⟩
 |.for tg k it b r,X,lp,PN,sts,y,h=>by
  ·refine Gr h λ t iter body els _ rest k1=>?_;obtain⟨z0,h0,h1,h2,h3,h4⟩:=a6 k1;refine cL z0 ?_;obtain⟨pg,lt⟩:=jQ (X:=X) (by rw[y.xs.N];exact y.nd) y.xo.calm y.xs (λ _=>y.fn) h1;have hb:PSs X _ (λ D σ H=>∃PN,rS X.K J FT GT N.length F0 H0 PN b D σ H):=λ pins s σ H D I ⟨PN,q⟩=>sS b (PN:=PN) y h3 pins s σ H D I q;refine(fk (zK (y.ps h0) y.xo.calm (sI it k y.xo y.xs h2) pg hb (λ x=>kX (kZ h2))) (sS r (PN:=PN) y h4)).imp λ D σ H ⟨F,ρ,e,s,w⟩=>?_;obtain⟨F',e',_⟩:=ER.fzV it e;refine⟨F',_,e'.ev,cD it (λ ts ⟨nb,w⟩=>gP (λ its w F1 H1 xs Jt g rx ok=>?_) w) w⟩;obtain⟨F2,g2,_,r2⟩:=iN g rx nb;refine GC (n:=N.length) (tb:=λ D σ H=>∃PN,rS X.K J FT GT N.length F0 H0 PN b D σ H) _ _ (e'.grow g2) s r2 ok w (λ ρ' w F3 H3 σ3 e3 s3=>⟨F3,ρ',e3,s3,w⟩) λ t ρ' F3 H3 σ3 x Q D' bt e3 s3 rt ert fin=>?_;exact vM bt e3 rt (λ i hi=>by rw[s3];exact lt i hi) λ σ4 ρ4 p e4 s4=>⟨_,F3,ρ4,e4,s4.trans s3,bH b (λ ρ5 q=>fin ρ5 q) (λ u hu=>by rw[ert];exact hu) p⟩
 |.tri b r,X,lp,PN,sts,y,h=>by
  ·obtain⟨body,hs,els,fi,_,rest,rfl,k1⟩:=Gs h;obtain⟨z0,z1,z2,h1,h2⟩:=a5 k1;refine cL z1 ?_;refine cL z2 ?_
   cases hs with
   |nil=>exact Bool.noConfusion z0
   |cons h0 hs=>
   have hb:∀(xe:VS) (pn:LO),PSs (X.more xe pn) _ (rS X.K J FT GT N.length F0 H0 PN b):=λ xe pn=>sS b (X:=X.more xe pn) (PN:=PN) (lp:=false) ⟨⟨y.xo.calm,y.xo.units,y.xo.hJ,y.xo.fns,y.xo.glb,y.xo.dic,y.xo.blt,y.xo.len⟩,⟨y.xs.N,y.xs.nm⟩,y.nd,y.fn,λ z=>by cases z⟩ h1;exact(fk (DA hb) (sS r (PN:=PN) y h2)).imp λ D σ H ⟨F,ρ,e,s,w⟩=>⟨F,ρ,e,s,bH b (λ ρ' w F' H' σ' e s=>⟨F',ρ',e,s,w⟩) (λ _ h=>h) (w)⟩
end
noncomputable def en0(n:Nat)(ts:List TV):En:=ts.map some++List.replicate (n-ts.length) none
section
variable {P:Program}{w:World}{K:FG}{mg:SV}{base:Heap}{J:Hp->Prop}{FT:List PSp}{GT:List TV}{fs gs:List Str}
structure MOk (P:Program)(w:World)(K:FG)(mg:SV)(J:Hp->Prop)(GT:List TV)(gs:List Str):Prop where
 hJ:JS J
 glb:∀(g:Nat) x t,gs[g]?=some x->GT[g]?=some t->t.nb=true->∃v u,mg x=some u/\RelV v u/\∀F H,Rp K F H t v
 dic:∀(g:Nat) x l,gs[g]?=some x->GT[g]?=some (.bor l)->DOk P w K mg x l
 blt:∀x∈BN,mg x=none
def er0{vs:List V}(wd:Wd J F H)(r:RpL K F H ts vs):ER K J F H [] F H (dY N vs) (en0 N.length ts):=by
 have get:∀(i:Nat) t,(en0 N.length ts)[i]?=some (some t)->ts[i]?=some t:=λ i t h=>by
  unfold en0 at h;by_cases c:i<ts.length
  ·rw[cY (by simpa using c),aX] at h
   cases q:ts[i]? with
   |none=>rw[q] at h;cases h
   |some u=>rw[q] at h;cases h;rfl
  ·rw[cP (by simpa using c),jk] at h;split at h<;>cases h
 have sl:∀(i:Nat) t,(en0 N.length ts)[i]?=some (some t)->∃v,(dY N vs)[i]?=some (some v)/\Rp K F H t v:=λ i t h=>by
  obtain⟨v,ev,rv⟩:=r.get (get i t h);refine⟨v,?_,rv⟩;unfold dY;rw[cY (by simpa using (bc.mp ev).1),aX,ev];rfl
 refine⟨⟨wd,λ i t h=>let ⟨v,e,q⟩:=sl i t h;⟨v,e,vy q⟩⟩,.refl wd,λ i l a h1 h2=>?_,λ i k l l' v h1 h2 h3 h4=>?_,λ p hp=>by cases hp⟩
 ·obtain⟨v,_,q⟩:=sl i _ h1;exact q.elim
 ·obtain⟨v,_,q⟩:=sl i _ h1;exact q.elim
theorem qS{st:Stmt}(code:Ct)(F:Fun K x qual st f fd)(sc:FnScope N ps (cB st))(m:MOk P w K mg J GT gs)(hl:fs.length=FT.length)
  (fns:∀(f:Nat) x S,fs[f]?=some x->FT[f]?=some S->∃ps,Callee P w K mg base CX0 k x ps (pSp K J S))
  (hck:bX fs gs N (cB st).names true code (eP st)=true) (hlen:∀ts Q,S ts Q->ts.length=ps.length)
  (hw:∀ts Q,S ts Q->wS FT GT code (en0 N.length ts) (λ _=>Q .non) Q):FnOk P w K mg base CX0 (k+1) f fd ps (pSp K J S):=by
 refine F.ok sc (λ vs H Q E ⟨F1,ts,P1,wd,r,s,_⟩=>by rw[<- r.length];exact hlen _ _ s) (λ cdv A outer s H vs Q E hr h=>?_);obtain⟨F1,ts,P1,wd,r,sp,fin⟩:=h
 have nl:vs.length<=N.length:=by
  have z:=bK List.length sc.pre;rw[be] at z;have:=hlen _ _ sp;rw[<- r.length];lia
 have xo:XOk (iu CX0 P w K mg base N qual (cB st) f cdv A outer s H E).nox J FT GT fs gs:=⟨rfl,by have:=hr.un;show(A.deeper _).units+20<cLine;lia,m.hJ,λ g y S h1 h2=>let ⟨ps,c⟩:=fns g y S h1 h2;⟨k,ps,hr,c⟩,m.glb,m.dic,m.blt,hl⟩;refine⟨_,sS (F0:=F1) (H0:=H) (PN:=[]) code (lp:=true) ⟨xo,⟨O,O⟩,sc.nd,λ _ _=>rfl,λ _=>PassesOwn.never⟩ hck,F1,en0 N.length ts,er0 wd r,?_,?_⟩
 ·unfold dY;rw[aQ,ah,iw];show vs.length+(N.length-vs.length)=N.length;lia
 ·exact bH code (λ ρ' q F' H' σ' e _=>fin .non q F' H' .non e.gr rfl) (λ t q F' H' v g r=>fin t q F' H' v g r) (hw ts P1 sp)
end
structure Gl' (K:FG)(x:Str)(st:Stmt)(f:Addr)(fd:FuncData):Prop where
 F:Fun K x x st f fd
 a:W.nsIn K mainGlobals x=some (some (.ref f))
def Gx(K:FG)(x:Str)(st:Stmt):Prop:=∃f fd,Gl' K x st f fd
section
variable {K:FG}{x:Str}{st:Stmt}{f:Addr}{oc:Value}{od an:OA}{osl:AV}{kV doc pm cdv ct:Value}
def gl_ex(a:W.nsIn K mainGlobals x=some (some (.ref f)))(l:K.lookup f=some ⟨oc,od,.func (W.fnOf x x (jt st) (eP st) (cB st) .none kV doc pm an cdv ct),osl⟩)(c:W.codeIn K cdv x=true)(k:W.keepIn K (.ref f)=true):Gx K x st:=⟨_,_,Bq l c k,a⟩
def gx_int(h:W.nsIn K mainGlobals x=some (some (.int i t))):∃t,W.nsIn K mainGlobals x=some (some (.int i t)):=⟨_,h⟩
end
abbrev DR:=Str×List Str×PSp
def dFs(L:List DR)(j:Nat):List Str:=(L.take j).map (·.1)
def dFT(L:List DR)(j:Nat):List PSp:=(L.take j).map (·.2.2)
section
variable {P:Program}{w:World}{K:FG}{mg:SV}{base:Heap}{J:Hp->Prop}{GT:List TV}{gs:List Str}{L:List DR}
noncomputable def Cal(P:Program)(w:World)(K:FG)(mg:SV)(base:Heap)(J:Hp->Prop)(L:List DR)(j:Nat):Prop:=∀x ps S,L[j]?=some (x,ps,S)->Callee P w K mg base CX0 (j+1) x ps (pSp K J S)
noncomputable def Cals(P:Program)(w:World)(K:FG)(mg:SV)(base:Heap)(J:Hp->Prop)(L:List DR)(j:Nat):Prop:=∀i,i<j->Cal P w K mg base J L i
def Cals.z:Cals P w K mg base J L 0:=λ i h=>absurd h (gJ _)
def Cals.s(C:Cals P w K mg base J L j)(c:Cal P w K mg base J L j):Cals P w K mg base J L (j+1):=λ i h=>by
 by_cases e:i=j
 ·subst e;exact c
 ·exact C i fu
def Cals.fns(C:Cals P w K mg base J L j):∀(f:Nat) x S,(dFs L j)[f]?=some x->(dFT L j)[f]?=some S->∃ps,Callee P w K mg base CX0 j x ps (pSp K J S):=λ f x S h1 h2=>by
 unfold dFs at h1;unfold dFT at h2;rw[aX] at h1 h2
 cases q:(L.take j)[f]? with
 |none=>rw[q] at h1;cases h1
 |some d=>
  rw[q] at h1 h2;cases h1;cases h2;have lt:f<j:=by have:=(bc.mp q).1;rw[be] at this;lia
  rw[qT,if_pos lt] at q;exact⟨_,(C f lt d.1 d.2.1 d.2.2 q).mono fu⟩
def vN(j:Nat):(dFs L j).length=(dFT L j).length:=by unfold dFs dFT;rw[ah,ah]
theorem GI{x:Str}{ps N:List Str}{st:Stmt}{S:PSp}(code:Ct)(C:Cals P w K mg base J L j)(m:MOk P w K mg J GT gs)(hm:∀ {x:Str}{v:Option Value},W.nsIn K mainGlobals x=some v->mg x=v)(e:L[j]?=some (x,ps,S))(g:Gx K x st)(sc:FnScope N ps (cB st))
  (b:∀f fd,Fun K x x st f fd->Binds K fd ps []) (hck:bX (dFs L j) gs N (cB st).names true code (eP st)=true) (hlen:∀ts Q,S ts Q->ts.length=ps.length)
  (hw:∀ts Q,S ts Q->wS (dFT L j) GT code (en0 N.length ts) (λ _=>Q .non) Q):Cals P w K mg base J L (j+1):=by
 refine C.s λ x' ps' S' e'=>?_;rw[e] at e';cases e';obtain⟨f,fd,gf⟩:=g;exact Callee.mk' gf.F (hm gf.a) (b f fd gf.F) (qS code gf.F sc m (vN j) C.fns hck hlen hw)
noncomputable def qU:PSp:=λ ts Q=>∃ns:LI,ts=[.lst (ns.map .int)]/\ns.length<=63/\Q (.bl true)
noncomputable def lg(K:FG)(J:Hp->Prop):Sp:=λ vs H Q _=>∃(a:Addr) (ns:LI),vs=[.ref a]/\SqL K H a (ns.map V.int)/\ns.length<=63/\J H/\∀H',Q (.bl true) H'
def GJ(F:FnOk P w K mg base CX0 k f fd ps (pSp K J qU)):FnOk P w K mg base CX0 k f fd ps (lg K J):=F.imp λ vs H Q E ⟨a,ns,e,sq,l,j,q⟩=>by
 subst e
 rcases sq with rd|kk
 ·have ha:H a≠none:=by rcases rd with h|⟨o,h⟩<;>rw[h]<;>simp
  exact⟨λ b=>b=a,[.lst (ns.map .int)],_,⟨j,λ b e=>by rw[show b=a from e];exact ha⟩,⟨_,_,O,⟨a,_,O,.inl ⟨O,.inl rd⟩,RpL.ofInts ns⟩,O⟩,⟨ns,O,l,O⟩,λ t e F' H' v _ r=>by subst e;cases r;exact q H'⟩
 ·exact⟨λ _=>False,[.lst (ns.map .int)],_,⟨j,λ b e=>e.elim⟩,⟨_,_,O,⟨a,_,O,.inr kk,RpL.ofInts ns⟩,O⟩,⟨ns,O,l,O⟩,λ t e F' H' v _ r=>by subst e;cases r;exact q H'⟩
variable {FT:List PSp}
def bY{its:List TV}{Kn:En->Prop}(I:Nat->En->Prop)(h0:I 0 ρ)(st:∀i t ρ,its[i]?=some t->I i ρ->stE ρ tg t λ ρ'=>wS FT GT c ρ' (I (i+1)) rt)(fin:∀ρ,I its.length ρ->Kn ρ):itF (λ t ρ K=>stE ρ tg t λ ρ'=>wS FT GT c ρ' K rt) its ρ Kn:=by
 have go:∀(r:List TV) (i:Nat) (ρ:En),its.drop i=r->i<=its.length->I i ρ->itF (λ t ρ K=>stE ρ tg t λ ρ'=>wS FT GT c ρ' K rt) r ρ Kn:=by
  intro r
  induction r with
  |nil=>
   intro i ρ e li h;have:i=its.length:=by have:=bK List.length e;rw[eh] at this;simp at this;lia
   subst this;exact fin ρ h
  |cons t r ih=>
   intro i ρ e li h;have lt:i<its.length:=by have:=bK List.length e;rw[eh] at this;simp at this;lia
   rw[iG lt] at e
   injection e with e1 e2
   have et:its[i]?=some t:=by rw[aF lt,e1]
   exact eR (λ ρ' q=>bH c (λ ρ'' q=>ih (i+1) ρ'' e2 fu q) (λ _ q=>q) q) (st i t ρ et h)
 exact go its 0 ρ rfl (bC _) h0
end
end _L
namespace _L
open PySem PySem.Spec PyProof.Rows PySem.W PySem.Calls
section
variable {K:FG}{L:List (Addr×Pos×Str)}{F F1 F2 F':Fz}{H H1 H2 H':Hp}{cl:LA}{vcs:List V}
end
section
variable {P:Program}{w:World}{K:FG}{mg:SV}{base:Heap}{L:List (Addr×Pos×Str)}
variable {FT:List PSp}{GT:List TV}{fs gs:List Str}{F F1:Fz}{Hm H2 H1:Hp}{cl:LA}{vcs:List V}{caps:List TV}{N ps fv:List Str}{fa c':Addr}{name qual:Str}{params:Arguments}{scope:Scope}{k:Nat}{a b:TV}{p:V}{Q:VK}
end
section
variable {P:Program}{w:World}{K:FG}{mg:SV}{base:Heap}{L:List (Addr×Pos×Str)}{FT FI:List PSp}{GT:List TV}{fs fi gs:List Str}
variable {x tb at_ ql:Str}{st:Stmt}{f c T:Addr}{fd:FuncData}{N ps pst N':List Str}{js:List Nat}{k kk:Nat}{S:PSp}{A:TV->List TV->Prop}{pre:List Stmt}{e:Expr}{params:Arguments}{scope:Scope}{pos p1 p2 p3 p4:Pos}
end
section
variable {P:Program}{w:World}{K:FG}{mg:SV}{base:Heap}{L:List (Addr×Pos×Str)}{FT:List PSp}{GT:List TV}{fs gs:List Str}
variable {X:Cx}{N:List Str}{nm:List (Str×NameKind)}{kk fA:Nat}{A:TV->List TV->Prop}{SA:PSp}
variable {sd nf at_ aa:Str}{st:Stmt}{f:Addr}{fd:FuncData}{k:Nat}{p1 p2 p3 p4 p5 p6 p7 p8 p9 p10 p11 p12 pos:Pos}{x1:Nat}{sc:Scope}
end
abbrev Cd.a1(a:Cd):Cd:=.cons a .nil
abbrev Cd.a2(a b:Cd):Cd:=.cons a (.cons b .nil)
noncomputable abbrev Cd.a3(a b c:Cd):Cd:=.cons a (.cons b (.cons c .nil))
abbrev Cd.n(i:Int):Cd:=.c (.int i)
abbrev Cd.w(x:Str):Cd:=.c (.str x)
abbrev Cd.eq(a b:Cd):Cd:=.cmp .Eq a b
abbrev dr(x:Str)(ps:List Str)(S:PSp):DR:=(x,ps,S)
section
variable {P:Program}{w:World}{K:FG}{mg:SV}{base:Heap}{J:Hp->Prop}{GT:List TV}{gs:List Str}{D:List DR}{L:List (Addr×Pos×Str)}
noncomputable def scB(s:Scope)(ps N:List Str):Bool:=decide (s.kind=.function/\s.isCoroutine=false/\s.isGenerator=false/\N.Nodup/\N.take ps.length=ps/\(∀x∈ps,s.names.lookup x=some .local\/s.names.lookup x=some .cell)/\∀y∈s.names,y.2≠.free)
def qV(h:scB s ps N=true):FnScope N ps s:=let h:=ay h;⟨h.1,h.2.1,h.2.2.1,h.2.2.2.1,h.2.2.2.2.1,h.2.2.2.2.2.1,h.2.2.2.2.2.2⟩
end
abbrev V0:Cd:=.v 0
abbrev V1:Cd:=.v 1
abbrev V2:Cd:=.v 2
abbrev V3:Cd:=.v 3
abbrev V4:Cd:=.v 4
abbrev V5:Cd:=.v 5
abbrev V6:Cd:=.v 6
abbrev V7:Cd:=.v 7
abbrev V8:Cd:=.v 8
abbrev V9:Cd:=.v 9
abbrev V10:Cd:=.v 10
abbrev V11:Cd:=.v 11
abbrev N0:Cd:=.c (.int 0)
abbrev N1:Cd:=.c (.int 1)
abbrev N2:Cd:=.c (.int 2)
abbrev N3:Cd:=.c (.int 3)
abbrev N4:Cd:=.c (.int 4)
abbrev N5:Cd:=.c (.int 5)
abbrev N6:Cd:=.c (.int 6)
abbrev N7:Cd:=.c (.int 7)
abbrev N8:Cd:=.c (.int 8)
abbrev N9:Cd:=.c (.int 9)
abbrev N10:Cd:=.c (.int 10)
abbrev N11:Cd:=.c (.int 11)
abbrev Cd.x(i:Nat)(j:Int):Cd:=.ix (.v i) (.c (.int j))
abbrev Cd.c1(f:Nat)(a:Cd):Cd:=.call f (.a1 a)
abbrev Cd.c2(f:Nat)(a b:Cd):Cd:=.call f (.a2 a b)
abbrev Cd.c3(f:Nat)(a b c:Cd):Cd:=.call f (.a3 a b c)
abbrev Cd.ln(a:Cd):Cd:=.bi .len (.a1 a)
abbrev Cd.b1(f:BI)(a:Cd):Cd:=.bi f (.a1 a)
abbrev Cd.b2(f:BI)(a b:Cd):Cd:=.bi f (.a2 a b)
abbrev Cd.st(a b:Cd):Cd:=.sl a (.c .non) b
abbrev Cd.sf(a b:Cd):Cd:=.sl a b (.c .non)
abbrev Cd.es(a:Cd)(x:Str):Cd:=.cmp .Eq a (.c (.str x))
abbrev Cd.t0:Cd:=.tup .nil
abbrev Cd.l0:Cd:=.lst .nil
abbrev Cd.t1(a:Cd):Cd:=.tup (.a1 a)
abbrev Cd.t2(a b:Cd):Cd:=.tup (.a2 a b)
abbrev Cd.t3(a b c:Cd):Cd:=.tup (.a3 a b c)
abbrev Ct.nv(c:Cd)(r:Ct):Ct:=.ite c .never .nil r
abbrev Ct.r(c x:Cd)(r:Ct):Ct:=.ite c (.ret x) .nil r
abbrev Ct.i(c:Cd)(a r:Ct):Ct:=.ite c a .nil r
abbrev Cd.ad(a b:Cd):Cd:=.bin .Add a b
abbrev Cd.sb(a b:Cd):Cd:=.bin .Sub a b
abbrev Cd.ml(a b:Cd):Cd:=.bin .Mult a b
abbrev Cd.dv(a b:Cd):Cd:=.bin .FloorDiv a b
abbrev Cd.md(a b:Cd):Cd:=.bin .Mod a b
abbrev Cd.lt(a b:Cd):Cd:=.cmp .Lt a b
abbrev Cd.gt(a b:Cd):Cd:=.cmp .Gt a b
abbrev Cd.ne(a b:Cd):Cd:=.cmp .NotEq a b
abbrev Cd.ge(a b:Cd):Cd:=.cmp .GtE a b
noncomputable def qW:Nat->(LV->Prop)->Prop
 |0,Q=>Q []
 |n+1,Q=>∀u,qW n λ l=>Q (u::l)
theorem vO:∀ {n:Nat}{Q:LV->Prop},qW n Q->∀us:LV,us.length=n->Q us
 |0,_,h,us,e=>by rw[kQ e];exact h
 |_+1,_,h,_::us,e=>vO (h _) us (Nat.succ.inj e)
structure CM (P:Program)(w:World)(K:FG)(mg:SV)(base:Heap)(J:Hp->Prop)(GT:List TV)(gs:List Str)(D:List DR)(j:Nat):Prop where
 c:Cals P w K mg base J D j
 m:MOk P w K mg J GT gs
 hm:∀ {x:Str}{v:Option Value},W.nsIn K mainGlobals x=some v->mg x=v
noncomputable abbrev ZX'(D:List DR)(GT:List TV)(gs:List Str)(j:Nat)(st:Stmt)(N:List Str)(n p:Nat)(S:PSp)(c:Ct):Prop:=(bX (dFs D j) gs N (cB st).names true c (eP st)&&scB (cB st) (N.take p) N&&decide (p<=N.length/\N.length=n))=true/\∀ts Q,S ts Q->ts.length=p/\wS (dFT D j) GT c (en0 n ts) (λ _=>Q .non) Q
section
variable {P:Program}{w:World}{K:FG}{mg:SV}{base:Heap}{J:Hp->Prop}{GT:List TV}{gs:List Str}{D:List DR}{L:List (Addr×Pos×Str)}{j jj kk n n2 p i0:Nat}{x ql nn:Str}{N N' pst:List Str}{js:List Nat}{st:Stmt}{S:PSp}{code:Ct}{A:TV->List TV->Prop}{f c T:Addr}{fd:FuncData}
noncomputable abbrev Bds(x:Str)(st:Stmt)(ps:List Str)(p:Nat):Prop:=qW p λ us=>∀(kV doc pm:Value) (an:OA) (cdv ct:Value),bindArgs (W.fnOf x x (jt st) (eP st) (cB st) .none kV doc pm an cdv ct) ⟨us,[]⟩=pure (ps.zip us)
def Bds.ok(h:Bds x st (N.take p) p)(l:p<=N.length)(f:Addr)(fd:FuncData)(F:Fun K x x st f fd):Binds K fd (N.take p) []:=F.binds λ kV doc pm an cdv ct us hl=>vO h us (by rw[hl,be,jD l]) kV doc pm an cdv ct
def CM.d(C:CM P w K mg base J GT gs D j)(g:Gx K x st)(z:ZX' D GT gs j st N n p S code)(e:D[j]?=some (x,N.take p,S):=by rfl)(b:Bds x st (N.take p) p:=by repeat' (first|rfl|(refine λ _=>?_))):CM P w K mg base J GT gs D (j+1):=by
 obtain⟨z1,z2⟩:=z;simp only[bu,gY] at z1;obtain⟨⟨k1,k2⟩,k3,rfl⟩:=z1;exact⟨GI code C.c C.m C.hm e g (qV k2) (b.ok k3) k1 (λ ts Q h=>by rw[(z2 ts Q h).1,be,jD k3]) λ ts Q h=>(z2 ts Q h).2,C.m,C.hm⟩
def CM.law(C:CM P w K mg base J GT gs D j)(g:Gl' K x st f fd)(z:ZX' D GT gs j st N n p qU code):FnOk P w K mg base CX0 (j+1) f fd (N.take p) (lg K J):=by
 obtain⟨z1,z2⟩:=z;simp only[bu,gY] at z1;obtain⟨⟨k1,k2⟩,k3,rfl⟩:=z1;exact GJ (qS code g.F (qV k2) C.m (vN j) C.c.fns k1 (λ ts Q h=>by rw[(z2 ts Q h).1,be,jD k3]) λ ts Q h=>(z2 ts Q h).2)
end
noncomputable abbrev ZC'(GT:List TV)(gs:List Str)(x:Str)(st:Stmt)(N:List Str)(n p:Nat)(SS:Nat->PSp)(c:Ct):Prop:=(bX [x] gs N (cB st).names true c (eP st)&&scB (cB st) (N.take p) N&&decide (p<=N.length/\N.length=n))=true/\(∀ts Q,¬SS 0 ts Q)/\∀d ts Q,SS (d+1) ts Q->ts.length=p/\wS [SS d] GT c (en0 n ts) (λ _=>Q .non) Q
section
variable {P:Program}{w:World}{K:FG}{mg:SV}{base:Heap}{J:Hp->Prop}{GT:List TV}{gs:List Str}{D:List DR}{j n p d:Nat}{x:Str}{N:List Str}{st:Stmt}{SS:Nat->PSp}{code:Ct}
def CM.rc(C:CM P w K mg base J GT gs D j)(g:Gx K x st)(z:ZC' GT gs x st N n p SS code)(dj:d<=j:=by decide)(e:D[j]?=some (x,N.take p,SS d):=by rfl)(b:Bds x st (N.take p) p:=by repeat' (first|rfl|(refine λ _=>?_))):CM P w K mg base J GT gs D (j+1):=by
 obtain⟨z1,z0,z2⟩:=z;simp only[bu,gY] at z1;obtain⟨⟨k1,k2⟩,k3,rfl⟩:=z1;obtain⟨f,fd,gf⟩:=g;have lp:(N.take p).length=p:=by rw[be,jD k3]
 have all:∀d,Callee P w K mg base CX0 (d+1) x (N.take p) (pSp K J (SS d)):=λ d=>by
  induction d with
  |zero=>exact Callee.mk' gf.F (C.hm gf.a) (b.ok k3 f fd gf.F) ⟨λ vs H Q E ⟨_,ts,_,_,_,s,_⟩=>(z0 ts _ s).elim,λ A outer s H args us vs Q E h1 h2 h3 h4 ⟨_,ts,_,_,_,s,_⟩=>(z0 ts _ s).elim⟩
  |succ d ih=>
   refine Callee.mk' gf.F (C.hm gf.a) (b.ok k3 f fd gf.F) (qS (fs:=[x]) (FT:=[SS d]) code gf.F (qV k2) C.m rfl (λ i y S h1 h2=>?_) k1 (λ ts Q h=>by rw[(z2 d ts Q h).1,lp]) λ ts Q h=>(z2 d ts Q h).2)
   match i,h1,h2 with
   |0,h1,h2=>cases h1;cases h2;exact⟨_,ih⟩
   |i+1,h1,h2=>cases h1
 refine⟨C.c.s λ x' ps' S' e'=>?_,C.m,C.hm⟩;rw[e] at e';cases e';exact(all d).mono fu
end
end _L
namespace _M
open PySem _L PyProof.Rows
noncomputable def formsL:List (Str×List (Str×Int)):=[("in",[("sides",1)]),("num",[("number",1)]),("count",[("small",2),("sides",1)]),("each",[("word",1),("step",2)]),("pair",[("word",1),("step",2),("step",3)]),("pick",[("step",1),("step",2),("step",3)]),("turn",[("step",1),("sides",2)]),("flip",[("step",1),("small",2)]),("cut",[("step",1),("small",2),("small",3),("small",4),("small",5)]),("spread",[("step",1),("small",2),("small",3)]),("lay",[("step",1),("sides",2)]),("join",[("step",1),("step",2),("small",3)]),("fetch",[("step",1),("step",2)]),("fold",[("word",1),("step",2),("small",3)]),("run",[("word",1),("step",2),("small",3)])]
noncomputable def qX(K:FG):List (Str×Int)->List V->Prop
 |[],[]=>True
 |f::fs,x::xs=>(∃a,x=.ref a/\KTup K a [.str f.1,.int f.2])/\qX K fs xs
 |_,_=>False
noncomputable def qY(K:FG):List (Str×List (Str×Int))->LA->Prop
 |[],[]=>True
 |f::fs,p::ps=>(p.1=f.1/\∃xs,KTup K p.2 xs/\qX K f.2 xs)/\qY K fs ps
 |_,_=>False
noncomputable def vP(P:Program)(w:World)(K:FG)(d:Addr):Prop:=∃kvs,KTab P w K d kvs/\qY K formsL kvs
def lh{K:FG}{sl:AV}(h:K.lookup a=some ⟨.type "tuple",none,.seq its n,sl⟩)(z:its.size<=sizeLine)(v:Vals xs its.toList):KTup K a xs:=⟨_,its,n,h,rfl,rfl,rfl,z,v⟩
def ak(ns:LI):Int:=ns.foldl (λ a b=>a*b) 1
def nJ{ns:LI}{i:Nat}(h:ns[i]?=some x):ak (ns.take (i+1))=ak (ns.take i)*x:=by
 unfold ak;rw[gh,h,nK];rfl
def cF(ns:LI):Prop:=∀n∈ns,0<=n/\n<1000000000000000000
def aq(n:Int):Int:=if n=0 then 1 else n
def vQ(h:cF ns):cF (ns.map aq):=by
 intro n hn;obtain⟨m,hm,rfl⟩:=aT.mp hn;have:=h m hm;unfold aq;split<;>lia
def bP(ns:LI):Prop:=6<ns.length\/512<ak (ns.map aq)
def GK(xs:LI)(y:Int):ak (xs++[y])=ak xs*y:=by unfold ak;rw[nK];rfl
def GL(xs:LI):∀a:Int,xs.foldl (λ a b=>a*b) a=a*ak xs:=by
 induction xs with
 |nil=>intro a;show a=a*1;rw[s0q]
 |cons x xs ih=>intro a;show xs.foldl (λ a b=>a*b) (a*x)=a*(xs.foldl (λ a b=>a*b) (1*x));rw[ih,ih (1*x),s0x,s1n]
def cG(x:Int)(xs:LI):ak (x::xs)=x*ak xs:=by
 show xs.foldl (λ a b=>a*b) (1*x)=_;rw[GL,s0x]
noncomputable def fit(ns:LI):Prop:=(∀n∈ns,0<=n/\n<=512)/\ns.length<=6/\1<=ak (ns.map aq)/\ak (ns.map aq)<=512
noncomputable def grow(ns:LI)(free:Int)(i:Nat):Prop:=(∀n∈ns,0<=n/\n<=512)/\ns.length=i/\1<=free/\free<=512/\1<=ak (ns.map aq)/\free*ak (ns.map aq)<=512
noncomputable def off(ns:LI)(side:Int):Prop:=side<0\/(ns.length:Int)<=side
noncomputable def bad(ns:LI)(side first many step:Int):Prop:=first<0\/many<0\/step<1\/(0<many/\ns.getD side.toNat 0<=first+(many-1)*step)
def eW(h:¬off ns side):∃k:Nat,side=k/\k<ns.length:=by
 unfold off at h;exact⟨side.toNat,fu,fu⟩
instance (ns:LI):Decidable (bP ns):=by unfold bP;infer_instance
noncomputable def agr(x y:LI):Prop:=∀k:Nat,k<x.length->k<y.length->x[k]?=y[k]?
def GM(x:LI):agr x x:=λ _ _ _=>rfl
def vR(h:agr x y):agr y x:=λ k a b=>(h k b a).symm
def qZ{x y:LI}(h:x.length<=y.length):agr x y ↔ y.take x.length=x:=by
 constructor
 ·intro a;apply kN;intro k;by_cases c:k<x.length
  ·rw[oQ c];exact(a k c fu).symm
  ·rw[gc (by rw[be];lia),gc fu]
 ·intro e k hx hy;have z:=bK (λ l=>l[k]?) e;simp only[oQ hx] at z;exact z.symm
noncomputable def cu(x y:LI):Prop:=if y.length<x.length then x.take y.length=y else y.take x.length=x
def bJ(x y:LI):LI:=if y.length<x.length then x else y
def vS(x y:LI):cu x y ↔ agr x y:=by
 unfold cu;split
 ·rename_i h;exact(qZ fu).symm.trans ⟨vR,vR⟩
 ·rename_i h;exact(qZ fu).symm
def GN(h:agr x y)(l:x.length=y.length):x=y:=by
 have z:=(qZ (x:=x) (y:=y) fu).mp h;rw[l,dh] at z;exact z.symm
noncomputable def tups(H:Hp)(ps:List Addr)(L:LL):Prop:=ps.length=L.length/\∀(i:Nat) p m,ps[i]?=some p->L[i]?=some m->H p=some (.tup (m.map V.int))
def sm(ns:LI):Prop:=∀n∈ns,0<=n/\n<=1000000
def GO(h:sm ns):cF ns:=λ n hn=>by have:=h n hn;lia
noncomputable def dE(ns ms:LI)(side:Int):LI:=ns.set side.toNat (ns.getD side.toNat 0+ms.getD side.toNat 0)
def nL{n k:Nat}(h:k<n):ixN n (k:Int)=some k:=by unfold ixN;rw[if_pos fu];simp;lia
def getD_mem{ns:LI}{k:Nat}(h:k<ns.length):ns.getD k 0∈ns:=by rw[bG,aF h];exact iI h
noncomputable def lj(n:Int):Int:=if n%17=5 then [(-9223372036854775808:Int),9223372036854775807,-1,4611686018427387904].getD (n/17%4).toNat 0 else (n+9223372036854775808)%18446744073709551616-9223372036854775808
theorem rb:∀ {ns:LI},(∀n∈ns,0<=n)->0<=ak ns/\ak ns<=ak (ns.map aq)
 |[],_=>by decide
 |n::ns,h=>by
  obtain⟨i0,i1⟩:=rb (ns:=ns) λ m hm=>h m (cX _ hm);have n0:=h n dz;rw[cz,cG,cG];have o:n<=aq n/\0<=aq n:=by unfold aq;split<;>lia
  exact⟨Int.mul_nonneg n0 i0,s0p o.1 i1 i0 o.2⟩
def GP{ns:LI}{k:Nat}(hk:k<ns.length):ns[k]?=some (ns.getD k 0):=by rw[bG,aF hk];rfl
noncomputable def iQ(n:Int):Int:=(n+9223372036854775808)%18446744073709551616-9223372036854775808
def re(x y:Int):Int:=if y=0 then 0 else iQ (Int.fdiv x y)
def rf(x y:Int):Int:=if y=0 then x else Int.fmod x y
noncomputable def vT(w:Str)(x y:Int):Int :=
 if w="add" then iQ (x+y) else if w="sub" then iQ (x-y) else if w="mul" then iQ (x*y) else if w="quo" then re x y else if w="rest" then rf x y
 else if w="max" then (if x<y then y else x) else if w="min" then (if y<x then y else x) else if w="less" then (if x<y then 1 else 0) else if w="like" then (if x=y then 1 else 0)
 else if w="and" then Builtin.bitAnd x y else if w="or" then Builtin.bitOr x y else Builtin.bitXor x y
noncomputable def inB(x:Int):Prop:=-9223372036854775808<=x/\x<9223372036854775808
def GQ(n:Int):inB (lj n):=by
 unfold lj inB;split
 ·have h:n/17%4=0\/n/17%4=1\/n/17%4=2\/n/17%4=3:=by lia
  rcases h with h|h|h|h<;>rw[h]<;>exact⟨on,on⟩
 ·lia
def vU(x:Int):Int:=if x<0 then -x else x
noncomputable def vV(w:Str)(x:Int):Int:=if w="neg" then iQ (-x) else if w="abs" then iQ (vU x) else if w="sign" then (if x<0 then -1 else if 0<x then 1 else 0) else if x=0 then 1 else 0
def lu:List Str:=["neg","abs","sign","not"]
noncomputable def lw:List Str:=["add","sub","mul","quo","rest","max","min","less","like","and","or","xor"]
def rg(h:¬bP ns):ns.length<=6:=by unfold bP at h;lia
noncomputable abbrev fw:List Str:=["add","mul","max","min","and","or","xor"]
def isF(w:Str):Prop:=w∈fw
noncomputable def du(w:Str):Int:=if w="mul" then 1 else if w="max" then -9223372036854775808 else if w="min" then 9223372036854775807 else if w="and" then -1 else 0
def GR:du "add"=0:=by unfold du;rw[if_neg (by decide +kernel),if_neg (by decide +kernel),if_neg (by decide +kernel),if_neg (by decide +kernel)]
def GS:du "mul"=1:=by unfold du;rw[if_pos rfl]
def GU:du "max"=-9223372036854775808:=by unfold du;rw[if_neg (by decide +kernel),if_pos rfl]
def GV:du "min"=9223372036854775807:=by unfold du;rw[if_neg (by decide +kernel),if_neg (by decide +kernel),if_pos rfl]
def GW:du "and"=-1:=by unfold du;rw[if_neg (by decide +kernel),if_neg (by decide +kernel),if_neg (by decide +kernel),if_pos rfl]
def GX:du "or"=0:=by unfold du;rw[if_neg (by decide +kernel),if_neg (by decide +kernel),if_neg (by decide +kernel),if_neg (by decide +kernel)]
def GY:du "xor"=0:=by unfold du;rw[if_neg (by decide +kernel),if_neg (by decide +kernel),if_neg (by decide +kernel),if_neg (by decide +kernel)]
noncomputable def kinds:List Str:=["in","num","count","each","pair","pick","turn","flip","cut","spread","lay","join","fetch","fold","run"]
def gZ(i:Nat):Str:=kinds.getD i ""
noncomputable def GZ(fs:List (Str×Int)):LI:=fs.filterMap λ f=>if f.1=("step" : Str) then some f.2 else none
def vW(i:Nat):LI:=GZ ((formsL.getD i ("",[])).2)
def lx(n:Nat)(os:LI):Prop:=os.Perm (upL n)
def up_mem{n:Nat}{x:Int}:x∈upL n ↔ 0<=x/\x<n:=by
 unfold upL;constructor
 ·intro h;obtain⟨i,hi,rfl⟩:=aT.mp h;have:=cW.mp hi;lia
 ·intro h;exact aT.mpr ⟨x.toNat,cW.mpr fu,fu⟩
def dw(n:Nat):(upL n).length=n:=by simp[upL]
def Ha(n:Nat):(upL n).Pairwise (·<=·):=by
 unfold upL;rw[mP];exact List.Pairwise.imp (λ h=>by lia) (mO (n:=n))
theorem vX:∀ {l1 l2:LI},l1.Perm l2->l1.Pairwise (·<=·)->l2.Pairwise (·<=·)->l1=l2
 |[],l2,p,_,_=>(List.nil_perm.mp p).symm
 |a::l1,l2,p,h1,h2=>by
  cases l2 with
  |nil=>exact List.perm_nil.mp p
  |cons b l2=>
   obtain⟨a1,a2⟩:=mM.mp h1;obtain⟨b1,b2⟩:=mM.mp h2
   have ab:a<=b:=by
    rcases aG.mp (p.symm.subset (dz ..)) with e|e
    ·lia
    ·exact a1 b e
   have ba:b<=a:=by
    rcases aG.mp (p.subset (dz ..)) with e|e
    ·lia
    ·exact b1 a e
   have e:a=b:=fu;subst e;rw[vX (List.perm_cons a |>.mp p) a2 b2]
def vY{os ss:LI}(p:ss.Perm os)(s:ss.Pairwise (·<=·)):ss=upL n ↔ lx n os :=
 ⟨λ e=>p.symm.trans (by rw[e]),λ t=>vX (p.trans t) s (Ha n)⟩
def gq(ns os:LI):LI:=os.map λ k=>ns.getD k.toNat 0
def cU(ns:LI)(k:Nat)(m:Int):LI:=ns.take k++[m]++ns.drop k
def nM(ns:LI)(side:Int):Prop:=side<0\/(ns.length:Int)<side
def Hb(ns:LI)(k:Nat)(m:Int):(cU ns k m).length=ns.length+1:=by
 unfold cU;simp only[aQ,be,eh,List.length_cons,List.length_nil];lia
def ly{ns:LI}{k:Nat}(h:k<ns.length):ns.getD k 0∈ns:=by rw[bG,aF h];exact iI h
def hG{n:Int}(h:0<=n):1<=aq n:=by unfold aq;split<;>lia
def rh{n:Int}(h:0<=n):(if n > 1 then n else 1)=aq n:=by unfold aq;split<;>split<;>lia
def nN{ns:LI}(h:∀n∈ns,0<=n):1<=ak (ns.map aq):=by
 induction ns with
 |nil=>decide
 |cons n ns ih=>
  rw[cz,cG];have a:=hG (h n dz);have b:=ih λ m hm=>h m (cX _ hm);exact jS on (s0p a b on fu)
def rj{r d:Int}(h1:1<=d)(h2:d<=r):1<=r/d:=by
 have:=Int.ediv_le_ediv (a:=d) (b:=r) (c:=d) fu h2;rw[Int.ediv_self fu] at this;exact this
def Hc{ss:LI}{k:Nat}{x:Int}(kl:k<ss.length):ss.take k++[x]++ss.drop (k+1)=ss.set k x:=by
 rw[nO,if_pos kl,eO];rfl
def jT(h:fit ns):cF ns:=λ n hn=>by have:=h.1 n hn;exact⟨this.1,fu⟩
def nP(h:fit ns):¬bP ns:=λ b=>b.elim (λ z=>by have:=h.2.1;lia) (λ z=>by have:=h.2.2.2;lia)
def Hd{cs:LI}{n:Nat}(h:cs.length=n):(List.range n).map (λ i=>cs.getD i 0)=cs:=by
 subst h;apply kN;intro k;by_cases c:k<cs.length
 ·rw[aX,gT c];exact(GP c).symm
 ·rw[gc (by simp;lia),gc fu]
def nQ{a b:LI}(h:a.Perm b):ak a=ak b:=by
 induction h with
 |nil=>rfl
 |cons x _ ih=>rw[cG,cG,ih]
 |swap x y l=>rw[cG,cG,cG,cG,<- s1n,<- s1n,Int.mul_comm x y]
 |trans _ _ h1 h2=>rw[h1,h2]
def He{ns os:LI}(t:lx ns.length os):(gq ns os).Perm ns:=by
 have e:(upL ns.length).map (λ k:Int=>ns.getD k.toNat 0)=ns:=by
  unfold upL;rw[aV];exact Hd rfl
 have:=t.map (λ k:Int=>ns.getD k.toNat 0);rw[e] at this;exact this
inductive Stp where
 |inp (ms:LI)
 |num (n:Int)
 |count (ms:LI) (k:Int)
 |each (w:Str) (a:Nat)
 |pair (w:Str) (a b:Nat)
 |pick (a b c:Nat)
 |turn (a:Nat) (os:LI)
 |flip (a:Nat) (side:Int)
 |cut (a:Nat) (side f m g:Int)
 |spread (a:Nat) (side m:Int)
 |lay (a:Nat) (ms:LI)
 |join (a b:Nat) (side:Int)
 |fetch (a b:Nat)
 |fold (w:Str) (a:Nat) (side:Int)
 |run (w:Str) (a:Nat) (side:Int)
noncomputable def aJ(mo:Int)(ns:LI):Prop:=(∀n∈ns,0<=n/\n<=mo)/\ns.length<=6/\1<=ak (ns.map aq)/\ak (ns.map aq)<=mo
def cv(mo:Int):Prop:=2<=mo/\mo<=512
def hV{mo:Int}(h:aJ mo ns)(m:cv mo):fit ns:=⟨λ n hn=>by have:=h.1 n hn;have:=m.2;lia,h.2.1,h.2.2.1,jS h.2.2.2 m.2⟩
def nR{mo:Int}(m:cv mo):aJ mo []:=⟨(λ n hn=>nomatch hn),on,on,by have:=m.1;show(1:Int)<=mo;lia⟩
def rk{mo n:Int}(h:aJ mo ns)(l:ns.length<6)(n0:0<=n)(hn:n<=mo/ak (ns.map aq)):aJ mo (ns++[n]):=by
 have p:=h.2.2.1;have e:ak ((ns++[n]).map aq)=ak (ns.map aq)*aq n:=by rw[bD];exact GK _ _
 have o1:=hG n0;have d1:1<=mo/ak (ns.map aq):=rj p h.2.2.2;have le:mo/ak (ns.map aq)<=mo:=Int.ediv_le_self _ (by have:=h.2.2.2;lia);have m2:ak (ns.map aq)*(mo/ak (ns.map aq))<=mo:=s0g fu;generalize mo/ak (ns.map aq)=q at *;have o2:aq n<=q:=by unfold aq;split<;>lia
 have m1:=lA o2 (show 0<=ak (ns.map aq) by lia);refine⟨λ k hk=>?_,by rw[aQ,fF];lia,?_,?_⟩
 ·rcases bO.mp hk with z|z
  ·exact h.1 k z
  ·cases bd.mp z;lia
 ·rw[e];exact jS on (s0p p o1 on fu)
 ·rw[e];lia
noncomputable def OkS(Ss:LL)(S:LI):Stp->Prop
 |.inp ms=>S=ms/\¬bP ms
 |.num n=>S=[]/\inB n
 |.count ms k=>S=ms/\¬bP ms/\¬off ms k
 |.each w a=>Ss[a]?=some S/\w∈lu
 |.pair w a b=>∃A B,Ss[a]?=some A/\Ss[b]?=some B/\w∈lw/\cu A B/\S=bJ A B
 |.pick a b c=>∃A B C,Ss[a]?=some A/\Ss[b]?=some B/\Ss[c]?=some C/\cu A B/\cu (bJ A B) C/\S=bJ (bJ A B) C
 |.turn a os=>∃A,Ss[a]?=some A/\lx A.length os/\S=gq A os
 |.flip a side=>Ss[a]?=some S/\¬off S side
 |.cut a side f m g=>∃A,Ss[a]?=some A/\¬off A side/\¬bad A side f m g/\m<=512/\S=A.set side.toNat m
 |.spread a side m=>∃A,Ss[a]?=some A/\¬nM A side/\¬m<0/\m<=512/\¬bP (cU A side.toNat m)/\S=cU A side.toNat m
 |.lay a ms=>∃A,Ss[a]?=some A/\¬bP ms/\ak A=ak ms/\S=ms
 |.join a b side=>∃A B,Ss[a]?=some A/\Ss[b]?=some B/\A.length=B.length/\¬off A side/\A.eraseIdx side.toNat=B.eraseIdx side.toNat/\¬bP (dE A B side)/\S=dE A B side
 |.fetch a b=>∃n r B,Ss[a]?=some (n::r)/\n≠0/\Ss[b]?=some B/\¬bP (B++r)/\S=B++r
 |.fold w a side=>∃A,Ss[a]?=some A/\isF w/\¬off A side/\S=A.eraseIdx side.toNat
 |.run w a side=>Ss[a]?=some S/\isF w/\¬off S side
def jU{mo:Int}(h:aJ mo ns):∀n∈ns,0<=n:=λ n hn=>(h.1 n hn).1
def Hf{n m:Int}(h:n<=m)(h1:1<=m):aq n<=m:=by unfold aq;split<;>lia
def Hg{mo:Int}(h:aJ mo ns)(m:cv mo):aJ mo [ak ns]:=by
 have p:=rb (jU h);have b:=h.2.2.2;have o:=hG p.1;have e:ak ([ak ns].map aq)=aq (ak ns):=by show ak [aq (ak ns)]=_;rw[cG];exact s0q _
 refine⟨λ n hn=>?_,jr (bC _),by rw[e];exact o,by rw[e];exact Hf fu (by have:=m.1;lia)⟩;cases bd.mp hn;lia
def Hh{mo:Int}(h:aJ mo ns)(m:cv mo)(l:ns.length<6):aJ mo (1::ns):=by
 have e:ak ((1::ns).map aq)=ak (ns.map aq):=by rw[cz,cG];exact s0x _
 refine⟨λ n hn=>?_,by rw[List.length_cons];lia,by rw[e];exact h.2.2.1,by rw[e];exact h.2.2.2⟩
 rcases aG.mp hn with z|z
 ·have:=m.1;lia
 ·exact h.1 n z
def Hi{mo:Int}(h:aJ mo ns)(m:cv mo)(c:ak ns%2=0):aJ mo [ak ns/2,2]/\ak [ak ns/2,2]=ak ns:=by
 have p:=rb (jU h);have b:=h.2.2.2;have m1:=m.1;have e:ak ([ak ns/2,2].map aq)=aq (ak ns/2)*2:=by show ak [aq (ak ns/2),2]=_;rw[cG,cG];show _*(2*1)=_;rfl
 have e2:ak [ak ns/2,2]=ak ns/2*2:=by rw[cG,cG];show _*(2*1)=_;rfl
 generalize ak ns=P at *;have o:1<=aq (P/2)/\aq (P/2)*2<=mo:=by unfold aq;split<;>lia
 refine⟨⟨λ n hn=>?_,jr (jr (bC _)),by rw[e];lia,by rw[e];exact o.2⟩,by rw[e2];lia⟩
 rcases aG.mp hn with z|z
 ·lia
 ·cases bd.mp z;lia
def Hj{mo:Int}(h:aJ mo ns):aJ mo ns.reverse/\ak ns.reverse=ak ns:=by
 have p:=List.reverse_perm ns;have e:=nQ (p.map aq);exact⟨⟨λ n hn=>h.1 n (List.mem_reverse.mp hn),by rw[List.length_reverse];exact h.2.1,by rw[e];exact h.2.2.1,by rw[e];exact h.2.2.2⟩,nQ p⟩
def Hk{mo:Int}(h:aJ mo ns)(m:cv mo):cF ns:=λ n hn=>by have:=h.1 n hn;have:=m.2;exact⟨fu,fu⟩
noncomputable def iR(ns:LI)(d:Int):LI:=if d%4=1 then [ak ns] else if d%4=2/\ns.length<6 then 1::ns else if d%4=3/\ak ns%2=0 then [ak ns/2,2] else ns.reverse
def Hl{mo:Int}(h:aJ mo ns)(m:cv mo):aJ mo (iR ns d)/\ak (iR ns d)=ak ns:=by
 unfold iR;by_cases c1:d%4=1
 ·rw[if_pos c1];exact⟨Hg h m,by rw[cG];exact s0q _⟩
 rw[if_neg c1];by_cases c2:d%4=2/\ns.length<6
 ·rw[if_pos c2];exact⟨Hh h m c2.2,by rw[cG];exact s0x _⟩
 rw[if_neg c2];by_cases c3:d%4=3/\ak ns%2=0
 ·rw[if_pos c3];exact Hi h m c3.2
 rw[if_neg c3];exact Hj h
noncomputable def eH(A B:LI)(k:Nat):LI:=if A.length=B.length/\A.eraseIdx k=B.eraseIdx k then dE A B k else []
def Hn(i:Nat):upL (i+1)=upL i++[(i:Int)]:=by unfold upL;rw[List.range_succ,bD];rfl
def Ho{os:LI}(h:os.Perm (upL i)):(os.take j++(i:Int)::os.drop j).Perm (upL (i+1)):=by
 rw[Hn];refine List.Perm.trans List.perm_middle ?_;rw[mQ];exact(h.cons _).trans (vZ _ _).symm
def Hq{mo:Int}{ns os:LI}(h:aJ mo ns)(t:lx ns.length os):aJ mo (gq ns os):=by
 have p:=He t;have e:=nQ (p.map aq);exact⟨λ n hn=>h.1 n (p.subset hn),by rw[p.length_eq];exact h.2.1,by rw[e];exact h.2.2.1,by rw[e];exact h.2.2.2⟩
def Hr{mo:Int}{A B:LI}(p:A.Perm B)(h:aJ mo B):aJ mo A:=by
 have e:=nQ (p.map aq);exact⟨λ n hn=>h.1 n (p.subset hn),by rw[p.length_eq];exact h.2.1,by rw[e];exact h.2.2.1,by rw[e];exact h.2.2.2⟩
def Hs{mo x:Int}(h:aJ mo A)(l:A.length<6)(x0:0<=x)(x1:x<=mo/ak (A.map aq)):aJ mo (cU A k x):=by
 refine Hr ?_ (rk h l x0 x1);unfold cU;rw[eO];refine List.Perm.trans List.perm_middle ?_;show(x::(A.take k++A.drop k)).Perm _;rw[mQ];exact(vZ _ _).symm
def hW(x:Int)(xs:LI):ak ((x::xs).map aq)=aq x*ak (xs.map aq):=by rw[cz];exact cG _ _
def Ht{ns:LI}(h:∀n∈ns,0<=n):∀n∈ns,n<=ak (ns.map aq):=by
 induction ns with
 |nil=>exact λ n hn=>nomatch hn
 |cons x xs ih=>
  intro n hn;have hx:=h x (dz ..);have ht:∀n∈xs,0<=n:=λ n hn=>h n (cX _ hn);have p:=nN ht;have o:=hG hx;rw[hW]
  rcases aG.mp hn with e|hn
  ·rw[e];have le:x<=aq x:=by unfold aq;split<;>lia
   have:=lA p (show 0<=aq x by lia);lia
  ·have:=ih ht n hn;have:=nU o (show 0<=ak (xs.map aq) by lia);lia
def Hu{ns:LI}(h:∀n∈ns,0<=n):∀ {k:Nat}{m:Int},0<=m->m<=ns.getD k 0->ak ((ns.set k m).map aq)<=ak (ns.map aq):=by
 induction ns with
 |nil=>intro k m _ _;rw[List.set_nil];exact iE _
 |cons x xs ih=>
  intro k m m0 m1;have hx:=h x (dz ..);have ht:∀n∈xs,0<=n:=λ n hn=>h n (cX _ hn);have p:=nN ht
  cases k with
  |zero=>
   have m1:m<=x:=m1;show ak ((m::xs).map aq)<=_;rw[hW,hW];exact nU (by unfold aq;split<;>split<;>lia) fu
  |succ k=>
   have m1:m<=xs.getD k 0:=m1;show ak ((x::xs.set k m).map aq)<=_;rw[hW,hW];exact lA (ih ht m0 m1) (by have:=hG hx;lia)
def Hv{ns:LI}(h:∀n∈ns,0<=n):∀ {k:Nat},ak ((ns.eraseIdx k).map aq)<=ak (ns.map aq):=by
 induction ns with
 |nil=>intro k;rw[List.eraseIdx_nil];exact iE _
 |cons x xs ih=>
  intro k;have hx:=h x (dz ..);have ht:∀n∈xs,0<=n:=λ n hn=>h n (cX _ hn);have p:=nN ht
  cases k with
  |zero=>
   show ak (xs.map aq)<=_;rw[hW];have:=nU (hG hx) (show 0<=ak (xs.map aq) by lia);lia
  |succ k=>
   show ak ((x::xs.eraseIdx k).map aq)<=_;rw[hW,hW];exact lA (ih ht) (by have:=hG hx;lia)
def rn{mo:Int}{ns:LI}(nn:∀n∈ns,0<=n)(l:ns.length<=6)(w:ak (ns.map aq)<=mo):aJ mo ns:=⟨λ n hn=>⟨nn n hn,jS (Ht nn n hn) w⟩,l,nN nn,w⟩
def wa{mo m:Int}(h:aJ mo A)(m0:0<=m)(m1:m<=A.getD k 0):aJ mo (A.set k m):=rn (λ n hn=>by rcases nV hn with z|z;exact jU h n z;rw[z];exact m0) (by rw[eF];exact h.2.1) (jS (Hu (jU h) m0 m1) h.2.2.2)
def Hw{mo:Int}(h:aJ mo A):aJ mo (A.eraseIdx k):=rn (λ n hn=>jU h n (List.mem_of_mem_eraseIdx hn)) (bB (List.length_eraseIdx_le ..) h.2.1) (jS (Hv (jU h)) h.2.2.2)
def Hx{n f g e:Int}(n0:0<=n)(f0:0<=f)(g1:1<=g)(e0:0<=e):0<=(if (n-1-f).fdiv g+1-e > 0 then (n-1-f).fdiv g+1-e else 0)/\(if (n-1-f).fdiv g+1-e > 0 then (n-1-f).fdiv g+1-e else 0)<=n/\¬(0<(if (n-1-f).fdiv g+1-e > 0 then (n-1-f).fdiv g+1-e else 0)/\n<=f+((if (n-1-f).fdiv g+1-e > 0 then (n-1-f).fdiv g+1-e else 0)-1)*g):=by
 rw[lK _ fu];have q1:g*((n-1-f)/g)<=n-1-f:=s0g fu;generalize (n-1-f)/g=q at *;split
 ·rename_i c;have a1:=nU (show q+1-e-1<=q by lia) (show 0<=g by lia);rw[Int.mul_comm q g] at a1;have a2:=lA g1 (show 0<=q+1-e-1 by lia);generalize (q+1-e-1)*g=z at *;exact⟨fu,fu,λ y=>by lia⟩
 ·exact⟨fu,n0,λ y=>by lia⟩
def wb(A:LI):cu A A:=(vS A A).mpr (GM A)
def wc(h:cu x y)(l:y.length<=x.length):bJ x y=x:=by
 unfold bJ;split
 ·rfl
 ·exact(GN ((vS x y).mp h) fu).symm
def we{x y:LI}(l:x.length<y.length):bJ x y=y:=by unfold bJ;rw[if_neg fu]
def wf{P:LI->Prop}(h:P x)(h2:P y):P (bJ x y):=by unfold bJ;split<;>assumption
def eX{k:Int}{n:Nat}(h:k∈upL n):∃a:Nat,k=a/\a<n:=⟨k.toNat,(fQ (up_mem.mp h).1).symm,by have:=up_mem.mp h;lia⟩
def wg{a n:Nat}(h:a<n):(a:Int)∈upL n:=up_mem.mpr ⟨s1c _,Int.ofNat_lt.mpr h⟩
noncomputable def eI(mo:Int)(ds:List Stp)(Ss:LL):Prop:=ds.length=Ss.length/\(∀S∈Ss,aJ mo S)/\∀(i:Nat) (d:Stp) (S:LI),ds[i]?=some d->Ss[i]?=some S->OkS (Ss.take i) S d
def jV{mo:Int}(h:eI mo ds Ss)(o:OkS Ss S d)(f:aJ mo S):eI mo (ds++[d]) (Ss++[S]):=by
 refine⟨by rw[aQ,aQ,h.1];rfl,λ T hT=>?_,λ i d' S' e1 e2=>?_⟩
 ·rcases bO.mp hT with z|z
  ·exact h.2.1 T z
  ·cases bd.mp z;exact f
 ·by_cases c:i<ds.length
  ·rw[cY c] at e1;have c':i<Ss.length:=by rw[<- h.1];exact c
   rw[cY c'] at e2;rw[wj (cj c')];exact h.2.2 i d' S' e1 e2
  ·have jl:=(bc.mp e1).1;rw[aQ,fF] at jl;have je:i=ds.length:=fu;rw[je,cP (ar _),iS] at e1;rw[je,h.1,cP (ar _),iS] at e2;cases e1;cases e2;rw[je,h.1,wj (ar _),dh];exact o
def rq(mo:Int):eI mo [] []:=⟨rfl,(λ _ h=>nomatch h),(λ _ _ _ h=>nomatch h)⟩
def wn(h:¬eH A B k=[]):A.length=B.length/\A.eraseIdx k=B.eraseIdx k/\eH A B k=dE A B k:=by
 unfold eH at h ⊢;split
 ·rename_i c;exact⟨c.1,c.2,rfl⟩
 ·rename_i c;rw[if_neg c] at h;exact absurd rfl h
def wo{ns:LI}{m:Int}(h:∀n∈ns,0<=n/\n<=m)(m0:0<=m)(k:Nat):0<=ns.getD k 0/\ns.getD k 0<=m:=by
 by_cases c:k<ns.length
 ·exact h _ (ly c)
 ·rw[bG,gc fu];exact⟨iE _,m0⟩
noncomputable def Md(kd:Int)(A:LI)(k:Nat)(Ss Ms:LL):Prop:=(kd=11/\Ms=Ss.map (λ B=>eH A B k))\/(kd=12/\0<A.getD 0 0/\Ms=Ss.map (λ B=>B++A.drop 1))\/(¬kd=11/\¬0<A.getD 0 0/\Ms=[[]])
def Hy(h:Md kd A k Ss Ms)(l:Ss.length<=40):Ms.length<=40:=by
 rcases h with ⟨_,rfl⟩|⟨_,_,rfl⟩|⟨_,_,rfl⟩
 ·rw[ah];exact l
 ·rw[ah];exact l
 ·exact jr (bC _)
def Hz{kd mo:Int}(h:Md kd A k Ss Ms)(fA:aJ mo A)(fS:∀S∈Ss,aJ mo S)(m:cv mo):∀M∈Ms,∀n∈M,0<=n/\n<=1024:=by
 have m2:=m.2;have m1:=m.1
 rcases h with ⟨_,rfl⟩|⟨_,_,rfl⟩|⟨_,_,rfl⟩
 ·intro M hM n hn;obtain⟨B,hB,rfl⟩:=aT.mp hM;by_cases c:eH A B k=[]
  ·rw[c] at hn;exact nomatch hn
  ·rw[(wn c).2.2] at hn;unfold dE at hn
   rcases nV hn with z|z
   ·have:=fA.1 n z;lia
   ·have a1:=wo fA.1 (show 0<=mo by lia) (k:Int).toNat
    have a2:=wo (fS B hB).1 (show 0<=mo by lia) (k:Int).toNat
    lia
 ·intro M hM n hn;obtain⟨B,hB,rfl⟩:=aT.mp hM
  rcases bO.mp hn with z|z
  ·have:=(fS B hB).1 n z;lia
  ·have:=fA.1 n (s0h z);lia
 ·intro M hM n hn;cases bd.mp hM;exact nomatch hn
def HA{M:LI}(h:∀n∈M,0<=n/\n<=1024):cF M:=λ n hn=>by have:=h n hn;exact⟨this.1,fu⟩
def HB{M:LI}{mo:Int}(m:cv mo)(l:M.length<=6)(w:ak (M.map aq)<=mo):¬bP M:=λ z=>z.elim fu (by have:=m.2;lia)
def HC{Ss:LL}{M:Int}(h:M∈Ss.map (λ S=>(S.length:Int)))(h0:0<M):∃S∈Ss,0<S.length:=by
 obtain⟨S,hS,rfl⟩:=aT.mp h;exact⟨S,hS,fu⟩
noncomputable def kdN:Stp->Nat
 |.inp ..=>0|.num ..=>1|.count ..=>2|.each ..=>3|.pair ..=>4|.pick ..=>5|.turn ..=>6|.flip ..=>7|.cut ..=>8|.spread ..=>9|.lay ..=>10|.join ..=>11|.fetch ..=>12|.fold ..=>13|.run ..=>14
def wp(d:Stp):kdN d<15:=by cases d<;>exact ay rfl
noncomputable def aB:Stp->List Nat
 |.inp ..=>[]|.num ..=>[]|.count ..=>[]
 |.each _ a=>[a]|.pair _ a b=>[a,b]|.pick a b c=>[a,b,c]
 |.turn a _=>[a]|.flip a _=>[a]|.cut a ..=>[a]|.spread a ..=>[a]|.lay a _=>[a]
 |.join a b _=>[a,b]|.fetch a b=>[a,b]|.fold _ a _=>[a]|.run _ a _=>[a]
def HD:∀i j:Fin 15,gZ i.val=gZ j.val->i=j:=by decide +kernel
noncomputable def wq:Stp->Prop
 |.each w _=>w∈lu|.pair w _ _=>w∈lw|.fold w _ _=>isF w|.run w _ _=>isF w|_=>True
def rB(h:OkS Ss S d):wq d:=by
 cases d with
 |each w a=>exact h.2
 |pair w a b=>obtain⟨A,B,_,_,z,_⟩:=h;exact z
 |fold w a s=>obtain⟨A,_,z,_⟩:=h;exact z
 |run w a s=>exact h.2.1
 |_=>trivial
def jW(h:OkS Ss S d):∀a∈aB d,a<Ss.length:=by
 have g:∀ {a:Nat}{A:LI},Ss[a]?=some A->a<Ss.length:=λ e=>(bc.mp e).1;intro x hx
 cases d with
 |inp ms=>exact nomatch hx
 |num n=>exact nomatch hx
 |count ms k=>exact nomatch hx
 |each w a=>cases bd.mp hx;exact g h.1
 |pair w a b=>
  obtain⟨A,B,e1,e2,_⟩:=h
  rcases aG.mp hx with z|z
  ·rw[z];exact g e1
  ·cases bd.mp z;exact g e2
 |pick a b c=>
  obtain⟨A,B,C,e1,e2,e3,_⟩:=h
  rcases aG.mp hx with z|z
  ·rw[z];exact g e1
  rcases aG.mp z with z|z
  ·rw[z];exact g e2
  ·cases bd.mp z;exact g e3
 |turn a os=>obtain⟨A,e1,_⟩:=h;cases bd.mp hx;exact g e1
 |flip a s=>cases bd.mp hx;exact g h.1
 |cut a s f m gg=>obtain⟨A,e1,_⟩:=h;cases bd.mp hx;exact g e1
 |spread a s m=>obtain⟨A,e1,_⟩:=h;cases bd.mp hx;exact g e1
 |lay a ms=>obtain⟨A,e1,_⟩:=h;cases bd.mp hx;exact g e1
 |join a b s=>
  obtain⟨A,B,e1,e2,_⟩:=h
  rcases aG.mp hx with z|z
  ·rw[z];exact g e1
  ·cases bd.mp z;exact g e2
 |fetch a b=>
  obtain⟨n,r,B,e1,_,e2,_⟩:=h
  rcases aG.mp hx with z|z
  ·rw[z];exact g e1
  ·cases bd.mp z;exact g e2
 |fold w a s=>obtain⟨A,e1,_⟩:=h;cases bd.mp hx;exact g e1
 |run w a s=>cases bd.mp hx;exact g h.1
def HE(d:Stp):(aB d).length<=3:=by cases d<;>exact Nat.le_of_sub_eq_zero rfl
noncomputable def hZ(mo:Int)(ds:List Stp)(Ss:LL)(os:LI):Prop:=cv mo/\eI mo ds Ss/\0<ds.length/\ds.length<=40/\0<os.length/\os.length<=8/\∀o∈os,0<=o/\o<(ds.length:Int)
def rC{mo:Int}(h:eI mo ds Ss)(m:cv mo):∀T∈Ss,fit T:=λ T hT=>hV (h.2.1 T hT) m
def wt(h:fit A):sm A:=λ n hn=>by have:=h.1 n hn;exact⟨fu,fu⟩
def wu{ns:LI}{k:Nat}(hk:k<ns.length):(ns.set k v).getD k 0=v:=by rw[bG,lE hk];rfl
def lB{ns:LI}{k:Nat}(hk:k<ns.length):ns.set k (ns.getD k 0)=ns:=by rw[bG,aF hk];exact List.set_getElem_self _
section
variable {band:Int->Int->Int}
variable (hv:∀x y,band x y=2*band (x/2) (y/2)+(if x%2=1/\y%2=1 then 1 else 0))
include hv
end
noncomputable def bE(f:Nat->Nat):Stp->Stp
 |.inp ms=>.inp ms
 |.num n=>.num n
 |.count ms k=>.count ms k
 |.each w a=>.each w (f a)
 |.pair w a b=>.pair w (f a) (f b)
 |.pick a b c=>.pick (f a) (f b) (f c)
 |.turn a os=>.turn (f a) os
 |.flip a s=>.flip (f a) s
 |.cut a s g m h=>.cut (f a) s g m h
 |.spread a s m=>.spread (f a) s m
 |.lay a ms=>.lay (f a) ms
 |.join a b s=>.join (f a) (f b) s
 |.fetch a b=>.fetch (f a) (f b)
 |.fold w a s=>.fold w (f a) s
 |.run w a s=>.run w (f a) s
def rD{Ss Zs:LL}{f:Nat->Nat}(h:OkS Ss S d)(g:∀a∈aB d,∀A,Ss[a]?=some A->Zs[f a]?=some A):OkS Zs S (bE f d):=by
 cases d with
 |inp|num|count=>exact h
 |each|flip|run=>exact⟨g _ (.head _) _ h.1,h.2⟩
 |turn|cut|spread|lay|fold=>obtain⟨A,e,r⟩:=h;exact⟨A,g _ (.head _) _ e,r⟩
 |pair|join=>obtain⟨A,B,e1,e2,r⟩:=h;exact⟨A,B,g _ (.head _) _ e1,g _ (.tail _ (.head _)) _ e2,r⟩
 |fetch=>obtain⟨n,r,B,e1,n0,e2,z⟩:=h;exact⟨n,r,B,g _ (.head _) _ e1,n0,g _ (.tail _ (.head _)) _ e2,z⟩
 |pick=>obtain⟨A,B,C,e1,e2,e3,r⟩:=h;exact⟨A,B,C,g _ (.head _) _ e1,g _ (.tail _ (.head _)) _ e2,g _ (.tail _ (.tail _ (.head _))) _ e3,r⟩
end _M
structure PySem.W.Fast:Prop where(tw3053009763341531321 tw6221895050472286736 tw7920281239923290968 tw18431831715115501714 tw17335953431722937845 tw16341036533067506900 tw13358458950090244728 tw9621477318082882227 tw469828014412587941 tw2757504826153826275 tw3178035965263207707 tw4876939432438638761 tw1269407354369376957 tw16220749103811960103 tw4565065800153071930 tw7839288440836335504 tw9570863468949615338 tw16325482280851128310 tw5860908442757432464 tw2342909352465001267 tw16235467062082929086 tw5101887832043697875 tw10956996393092746503 tw9484949397037210392 tw5483158786076590466 tw15446376489763554334 tw378350069494439140 tw8823386453170654576 tw4699338392990074636 tw12597967873884644336 tw12245438565192030366 tw13886624122949615767 tw14067258532105408198 tw1160465853258463087 tw5043643947281875818 tw576389693667224602 tw11235220495251782381 tw7763477043501656649 tw14791609390805756124 tw9824086422546728465 tw11489681754020315759 tw8608873690024893303 tw963926818314592985 tw16678784890450603961 tw11711404029695753738 tw586089907319390101 tw7004955289941442379 tw18248799284285603110 tw7904671912528803510 tw12940950488952528577 tw15956405152063705666 tw2461558489051753704 tw16585223342464327850 tw9280349559532292985 tw9929542234843539153 tw12244400046341442965 tw4207575096877798994 tw12651100290094975299 tw15919171048272375875 tw5571767583260186890 tw401851013746694022 tw6790967541125847797 tw6675538008071135956 tw3476644579448303351 tw18440781524219719592 tw7735204845685371443 tw5162291873823101928 tw13759386908048189948 tw13183249731773389201 tw9239326090245114986 tw12949249039572752194 tw3824266765221044907 tw12571870287730352368 tw4345900490129653747 tw13843310208204619889 tw8369189265055135398 tw13961941836385279242 tw7711011939243938302 tw7849878972113041100 tw12279781355965320680 tw8203314358066979674 tw17542955701821552816 tw11102362519492622172 tw14164152865643178275 tw10066886719017713823 tw15113096504306861716 tw5633053755979338806 tw17872769903928589464 tw6807126919884399785 tw18390738919286321783 tw15293400113982951421 tw3375973449294721981 tw10549715180251760873 tw2048717089842002727 tw6780090263336483754 tw9533906908034019383 tw17080747073477137220 tw4955503679525167525 tw4075858653248959161 tw3510062819869389012 tw8662884078936999117 tw15609913050561528665 tw11290255512961581784 tw11525407364173818205 tw13259887744998520845 tw11750508250615053566 tw16869803698721840869 tw10121717921492865171 tw8927571957186356203 tw17087823098131246871 tw15575109658140459518 tw11589497815043726509 tw14943488315900842855 tw10441234257702958867 tw2193253742849231399 tw14866312095167673953 tw606894986337856526 tw18189168276304132099 tw12774919436987120875 tw3509946190865734195 tw1775042484260128633 tw17910182459399262709 tw3841786436653593492 tw6531697058587900529 tw14194017369405647610 tw6851628743882621852 tw8482385105475645904 tw10468572817044079960 tw6075006232401269572 tw16772441107538309957 tw7409955462459193741 tw13411828091886922149 tw3366459189269050553 tw5198886571781391407 tw10888544756545088245 tw1445757577262094686 tw14252669203528132781 tw18216676447612815447 tw16322443720490683346 tw11245125791974668880 tw7277005235565341659 tw12628864099271050961 tw2036406158499670269 tw7165494583751786207 tw10299164924374875329 tw10904271810924245843 tw9776233858509749750 tw1447647267455184685 tw12182939697514190330 tw6600344728657704719 tw10258861101091355636 tw14130936912465968450 tw2643039257993431126 tw16976340868103540984 tw10793005425513304401 tw17122845785567659449 tw1933567017984073875 tw15743986886998924716 tw15333970160593459591 tw13835503646335609753 tw15047844225992592970 tw15371241324524898699 tw17819996149486072155 tw16301737142381444358 tw7887729903239749798 tw3757535311508861851 tw3368050300102361394 tw7612460183918586253 tw8538012176436570616 tw288714374479039679 tw14222643937267904228 tw14441144852258093473 tw8059937122007531808 tw13079090166073804724 tw5099659735316986830 tw11623983057195669670 tw13383544204012016276 tw10895608723300300586 tw5927889239024647776 tw15150017949391689107 tw7320636798532454540 tw10195969064480862803 tw15943507969065613644 tw3882962455291375462 tw2623374828601458303 tw11376263405956350611 tw12912821636223278510 tw14314373098688995361 tw5786449912079724364 tw10297163071195567294 tw10359380807116725521 tw2471677179673309253 tw13981337465631849989 tw4033922248160918848 tw1996207297181379157 tw18106110883806278057 tw7425519508577654906 tw11638802732332119178 tw12904670565514225891 tw13325883332547258617 tw10258563404830253881 tw12704533199525705122 tw17150487840879461197 tw2025376641621983030 tw17143705130234069758 tw9790967923016881008 tw11074585166759246629 tw9147844905819903997:True)
namespace _M
open PySem _L PyProof.Rows
noncomputable def top(i:Nat):Stmt:=PySem.Challenge.pw_sideloom_k45_thinned.main.body.getD i (.Pass ⟨0,0,0,0⟩)
def tI(ns:LI):TV:=.tup (ns.map .int)
def lI(ns:LI):TV:=.lst (ns.map .int)
def iT{ns:LI}{i:Nat}(h:(ns.map TV.int)[i]?=some t):∃n,t=.int n/\ns[i]?=some n:=by
 rw[aX] at h
 cases q:ns[i]? with
 |none=>rw[q] at h;cases h
 |some n=>rw[q] at h;cases h;exact⟨n,rfl,rfl⟩
def au(ns:LI):(ns.map TV.int).length=ns.length:=ah ..
def p64:kq 2 64:=⟨on,on,on⟩
def p63:kq 2 63:=⟨on,on,on⟩
def eY{i j:Int}(h0:-18446744073709551616<j)(h1:j<18446744073709551616):IntMulOk i j:=CMul.ok (.inr ⟨fu,fu⟩)
def wv{i j:Int}(h0:-18446744073709551616<i)(h1:i<18446744073709551616):IntMulOk i j:=CMul.ok (.inl ⟨fu,fu⟩)
def s2{a b:Prop}{P:Bool}(h1:P=true->a)(h2:P=false->b):if P=true then a else b:=by
 cases P
 ·exact h2 rfl
 ·exact h1 rfl
def sF{a b:Prop}{P:Bool}(h:P=false)(k:b):if P=true then a else b:=by rw[h];exact k
def sT{a b:Prop}{P:Bool}(h:P=true)(k:a):if P=true then a else b:=by rw[h];exact k
def cl{FT:List PSp}{f:Nat}{ts:List TV}{K:TV->Prop}(e:FT[f]?=some S)(h:S (ts.map .fz) K)(n:ts.all TV.nb=true):∃P,(∃S,FT[f]?=some S/\S (ts.map .fz) P)/\∀t,P t->(ts.all TV.nb=false->LF t)/\K t:=⟨K,⟨S,e,h⟩,λ t k=>⟨λ z=>(by rw[n] at z;cases z),k⟩⟩
theorem dF{GT:List TV}{α:Type}(f g:α->TV):∀(l:List α) {Kn:List TV->Prop},(∀a∈l,stE ρ tg (f a) λ ρ'=>wE FT GT e ρ' λ y=>y.nb=true/\y.fz=g a)->Kn (l.map g)->cmF (λ t K'=>stE ρ tg t λ ρ'=>wE FT GT e ρ' λ y=>(y.nb=true/\K' [y.fz])) (l.map f) Kn
 |[],_,_,k=>k
 |a::l,Kn,h,k=>eR (λ ρ' q=>av e (λ y ⟨n,z⟩=>⟨n,by rw[z];exact dF f g l (λ b hb=>h b (by simp[hb])) k⟩) q) (h a pv)
def HF{n:Int}(h:(!decide (n=0))=true):aq n=n:=by unfold aq;rw[if_neg (by simpa using h)]
def HG{n:Int}(h:(!decide (n=0))=false):aq n=1:=by unfold aq;rw[if_pos (by simpa using h)]
def neF{a b:Int}(h:a=b):(!_L.eqT (TV.int a).fz (TV.int b).fz)=false:=by subst h;show(!decide (a=a))=false;rw[bf rfl];rfl
def fR{GT:List TV}{α:Type}{l:List α}{f:α->TV}{its:List TV}(h0:its=l.map f)(g:α->TV){Kn:List TV->Prop}(h:∀a∈l,stE ρ tg (f a) λ ρ'=>wE FT GT e ρ' λ y=>y.nb=true/\y.fz=g a)(k:Kn (l.map g)):cmF (λ t K'=>stE ρ tg t λ ρ'=>wE FT GT e ρ' λ y=>(y.nb=true/\K' [y.fz])) its Kn:=h0 ▸ dF f g l h k
def bZ{ns:LI}{k:Nat}(h:k<ns.length):atI (ns.map TV.int) (k:Int)=some (.int (ns.getD k 0)):=bv (by rw[aX,aF h,bG,aF h];rfl)
def gu{n i:Nat}(h:((List.range n).map f)[i]?=some a):i<n/\a=f i:=by
 have hi:=(bc.mp h).1;rw[ah,bA] at hi;rw[aX,gT hi] at h;exact⟨hi,(bS h).symm⟩
def sE{a b:Prop}{x y:Str}(h1:x=y->a)(h2:x≠y->b):if _L.eqT (TV.str x).fz (TV.str y).fz=true then a else b:=by
 by_cases h:x=y
 ·rw[if_pos (show _L.eqT (TV.str x).fz (TV.str y).fz=true from bf h)];exact h1 h
 ·rw[if_neg (by rw[show _L.eqT (TV.str x).fz (TV.str y).fz=decide (x=y) from rfl];simpa using h)];exact h2 h
def sN{a b:Prop}{x y:Int}(h1:x=y->a)(h2:x≠y->b):if _L.eqT (TV.int x).fz (TV.int y).fz=true then a else b:=by
 by_cases h:x=y
 ·rw[if_pos (show _L.eqT (TV.int x).fz (TV.int y).fz=true from bf h)];exact h1 h
 ·rw[if_neg (by rw[show _L.eqT (TV.int x).fz (TV.int y).fz=decide (x=y) from rfl];simpa using h)];exact h2 h
def s3{a b:Prop}{P:Prop} [Decidable P] (h1:P->a)(h2:¬P->b):if decide P=true then a else b:=by
 by_cases h:P
 ·rw[if_pos (bf h)];exact h1 h
 ·rw[if_neg (by simpa using h)];exact h2 h
theorem rF:∀(l m:LI),_L.eqTL (l.map TV.int) (m.map TV.int)=decide (l=m)
 |[],[]=>rfl
 |[],_::_=>rfl
 |_::_,[]=>rfl
 |x::xs,y::ys=>by
  rw[cz,cz,_L.eqTL_c,rF xs ys,show _L.eqT (TV.int x) (TV.int y)=decide (x=y) from rfl,<- Bool.decide_and];exact oN.mpr (by rw[List.cons.injEq])
def gx(l m:LI):_L.eqT (TV.tup (l.map TV.int)) (TV.tup (m.map TV.int))=decide (l=m):=rF l m
def ww(l m:LI):_L.eqT (TV.lst (l.map TV.int)) (TV.lst (m.map TV.int))=decide (l=m):=rF l m
def dpI(ns:LI):∀x∈ns.map TV.int,_L.dp 8 x:=λ x hx=>by obtain⟨n,_,rfl⟩:=aT.mp hx;trivial
def dpT(ns:LI):_L.dp 9 (TV.tup (ns.map TV.int)):=dpI ns
def dpL(ns:LI):_L.dp 9 (TV.lst (ns.map TV.int)):=dpI ns
def nW{ns:LI}{o:Int}(h0:0<=o)(h1:o<ns.length):atI (ns.map TV.int) o=some (.int (ns.getD o.toNat 0)):=by
 have z:=bZ (ns:=ns) (k:=o.toNat) fu
 rwa [show((o.toNat:Nat):Int)=o by lia] at z
def wx(x:Int):aH x y=Int.fdiv x y:=by unfold aH;split<;>first|rfl|exact(lK _ fu).symm
def HH(x:Int):aD x y=Int.fmod x y:=by unfold aD;split<;>first|rfl|exact(sG _ fu).symm
noncomputable def stI:Stp->List TV
 |.inp ms=>[.str "in",tI ms]
 |.num n=>[.str "num",.int n]
 |.count ms k=>[.str "count",tI ms,.int k]
 |.each w a=>[.str "each",.str w,.int a]
 |.pair w a b=>[.str "pair",.str w,.int a,.int b]
 |.pick a b c=>[.str "pick",.int a,.int b,.int c]
 |.turn a os=>[.str "turn",.int a,tI os]
 |.flip a side=>[.str "flip",.int a,.int side]
 |.cut a side f m g=>[.str "cut",.int a,.int side,.int f,.int m,.int g]
 |.spread a side m=>[.str "spread",.int a,.int side,.int m]
 |.lay a ms=>[.str "lay",.int a,tI ms]
 |.join a b side=>[.str "join",.int a,.int b,.int side]
 |.fetch a b=>[.str "fetch",.int a,.int b]
 |.fold w a side=>[.str "fold",.str w,.int a,.int side]
 |.run w a side=>[.str "run",.str w,.int a,.int side]
def stT(d:Stp):TV:=.tup (stI d)
def fl2:∀x∈[TV.str "fold",TV.str "run"],flT x=true:=on
def aE{α:Type}{f:α->TV}{Ss:List α}{a:Nat}{A:α}(e:Ss[a]?=some A):atI (Ss.map f) (a:Int)=some (f A):=bv (by rw[aX,e];rfl)
def clB{FT:List PSp}{f:Nat}{ts:List TV}{K:TV->Prop}(e:FT[f]?=some S)(h:S (ts.map .fz) λ t=>LF t/\K t):∃P,(∃S,FT[f]?=some S/\S (ts.map .fz) P)/\∀t,P t->(ts.all TV.nb=false->LF t)/\K t:=⟨_,⟨S,e,h⟩,λ t k=>⟨λ _=>k.1,k.2⟩⟩
def sl3{n:Nat}(h:n<=3):n<sizeLine:=aR fu
def LFI(ns:LI):LF (tI ns):=by unfold tI;simp only[LF];intro x hx;obtain⟨n,_,rfl⟩:=aT.mp hx;simp[LF]
def nX{α:Type}{f:α->TV}{l:List α}{i:Nat}(h:(l.map f)[i]?=some t):∃a,t=f a/\l[i]?=some a:=by
 rw[aX] at h;obtain⟨a,ea,rfl⟩:=mG.mp h;exact⟨a,O,ea⟩
def LF2(S:LI):LF (.tup [tI S,.non]):=by
 simp only[LF];intro x hx;simp only[aG,aU,aY] at hx
 rcases hx with rfl|rfl
 ·exact LFI S
 ·simp[LF]
def neT{a b:Int}(h:a≠b):(!_L.eqT (TV.int a).fz (TV.int b).fz)=true:=by rw[show _L.eqT (TV.int a).fz (TV.int b).fz=decide (a=b) from rfl];simp[h]
theorem eZ{GT:List TV}{α:Type}(f g:α->TV)(p:α->Bool):∀(l:List α) {its:List TV}{Kn:List TV->Prop},its=l.map f->(∀a∈l,stE ρ tg (f a) λ ρ'=>wE FT GT c ρ' λ x=>x=.bl (p a)/\(p a=true->wE FT GT e ρ' λ y=>y.nb=true/\y.fz=g a))->Kn ((l.filter p).map g)->cmF (λ t K'=>stE ρ tg t λ ρ'=>wE FT GT c ρ' λ x=>b1 x λ q=>if q=true then wE FT GT e ρ' λ y=>(y.nb=true/\K' [y.fz]) else K' []) its Kn
 |[],_,_,h0,_,k=>by subst h0;exact k
 |a::l,_,Kn,h0,h,k=>by
  subst h0;show stE ρ tg (f a) λ ρ'=>wE FT GT c ρ' λ x=>b1 x λ q=>if q=true then wE FT GT e ρ' (λ y=>y.nb=true/\cmF _ (l.map f) λ ys=>Kn ([y.fz]++ys)) else cmF _ (l.map f) λ ys=>Kn ([]++ys);refine eR (λ ρ' q=>av c (λ x ⟨e1,q⟩=>?_) q) (h a pv);subst e1;have hr:=λ b hb=>h b (cX a hb);show if p a=true then _ else _;by_cases z:p a=true
  ·rw[if_pos z];rw[List.filter_cons_of_pos z,cz] at k;exact av e (λ y ⟨n,w⟩=>⟨n,by rw[w];exact eZ f g p l rfl hr k⟩) (q z)
  ·rw[if_neg z];rw[List.filter_cons_of_neg z] at k;exact eZ f g p l rfl hr k
def p62:kq 2 62:=⟨on,on,on⟩
def HI{i:Int}(h0:0<=i)(h1:i<4):atI [TV.int (-(2 ^ (63:Int).toNat)),TV.int (2 ^ (63:Int).toNat-1),TV.int (-1),TV.int (2 ^ (62:Int).toNat)] i=some (.int ([(-9223372036854775808:Int),9223372036854775807,-1,4611686018427387904].getD i.toNat 0)):=by
 have:i=0\/i=1\/i=2\/i=3:=fu
 rcases this with rfl|rfl|rfl|rfl<;>rfl
def rG{f:Nat->Nat}{n a:Nat}(h:a<n):atI ((List.range n).map λ k=>TV.int (f k:Nat)) (a:Int)=some (.int (f a:Nat)):=bv (by rw[aX,gT h];rfl)
def bn{n:Nat}(h:n<=1000):n<=sizeLine:=cj (aR h)
def g0L:0<=sizeLine:=bn on
def g1L:1<=sizeLine:=bn on
def g2L:2<=sizeLine:=bn on
def g3L:3<=sizeLine:=bn on
def g4L:4<=sizeLine:=bn on
def g6L:6<=sizeLine:=bn on
def g7L:7<=sizeLine:=bn on
def HJ:12<=sizeLine:=bn on
def rH(ns:LI)(a b:Option Int):ao (ns.map TV.int) a b=((ns.drop (_H.sIx ns.length 0 a)).take (_H.sIx ns.length ns.length b-_H.sIx ns.length 0 a)).map TV.int:=by
 unfold ao;rw[ah,List.map_take,List.map_drop]
def eJ(ns:LI)(k:Nat):ao (ns.map TV.int) none (some (k:Int))=(ns.take k).map TV.int:=by
 rw[rH];simp only[_H.sIx,List.drop_zero,Nat.sub_zero];rw[if_neg fu,Int.toNat_natCast,Nat.min_def];split
 ·rfl
 ·rw[jB fu,jB fu]
def fb(ns:LI)(k:Nat):ao (ns.map TV.int) (some (k:Int)) none=(ns.drop k).map TV.int:=by
 rw[rH];simp only[_H.sIx];rw[if_neg fu,Int.toNat_natCast,Nat.min_def];split
 ·rw[jB (by rw[eh];lia)]
 ·rw[qO,List.drop_of_length_le fu];simp
noncomputable def rJ(i:Nat):LI:=[[],[],[],[2],[2,3],[1,2,3],[1],[1],[1],[1],[1],[1,2],[1,2],[2],[2]].getD i []
def wy:∀i,i<15->vW i=rJ i:=by decide +kernel
def mdT(d:Stp)(S:LI):TV:=.tup [stT d,tI S]
def bw{i j:Int}(h:0<j):aD i j=i%j:=if_pos h
def wz{i j:Int}(h:0<j):aH i j=i/j:=if_pos h
def HK(k:Int)(h0:0<=k)(h1:k<7):∃x:Int,atI [TV.int 2,TV.int 3,TV.int 1,TV.int 4,TV.int 2,TV.int 3,TV.int 0] k=some (.int x)/\0<=x:=by
 have:k=0\/k=1\/k=2\/k=3\/k=4\/k=5\/k=6:=fu
 rcases this with rfl|rfl|rfl|rfl|rfl|rfl|rfl<;>exact⟨_,rfl,on⟩
def rK(ws:List Str){k:Int}(h0:0<=k)(h1:k<(ws.length:Int)):∃w,atI (ws.map TV.str) k=some (.str w)/\w∈ws:=by
 have l:k.toNat<ws.length:=fu;refine⟨ws[k.toNat],?_,iI l⟩;have z:=bv (xs:=ws.map TV.str) (j:=k.toNat) (v:=.str ws[k.toNat]) (by rw[aX,aF l];rfl)
 rwa [fQ h0] at z
def ig(ms:LI):_L.eqT (TV.tup (ms.map TV.int)).fz (TV.tup []).fz=decide (ms=[]):=gx ms []
def nY(d:Stp):LF (stT d):=by
 unfold stT;simp only[LF];intro x hx
 cases d<;>simp only[stI,aG,aU,aY] at hx<;>(try rcases hx with rfl|rfl|rfl|rfl|rfl|rfl)<;>(try rcases hx with rfl|rfl|rfl|rfl|rfl)<;>(try rcases hx with rfl|rfl|rfl|rfl)<;>(try rcases hx with rfl|rfl|rfl)<;>(try rcases hx with rfl|rfl)<;>first|exact LFI _|simp[LF]
def nZ(d:Stp)(S:LI):LF (mdT d S):=by
 unfold mdT;simp only[LF];intro x hx;simp only[aG,aU,aY] at hx
 rcases hx with rfl|rfl
 ·exact nY d
 ·exact LFI S
def jX(n:Nat):((List.range (((n:Nat):Int)).toNat).map λ i:Nat=>TV.int (i:Nat))=(upL n).map TV.int:=by unfold upL;rw[aV];rfl
def mxT(h:cu A B):TV.tup (if (A.map TV.int).length<(B.map TV.int).length then B.map TV.int else A.map TV.int)=tI (bJ A B):=by
 rw[au,au];by_cases c:A.length<B.length
 ·rw[if_pos c,we c];rfl
 ·rw[if_neg c,wc h fu];rfl
noncomputable def pB(Ss:LL)(A:LI)(k:Int):Bool:=@decide (cu A (Ss.getD k.toNat [])) (Classical.propDecidable _)
def oa:pB Ss A k=true ↔ cu A (Ss.getD k.toNat []):=by unfold pB;exact @decide_eq_true_iff _ (Classical.propDecidable _)
def wA{a b:Bool}{p:Prop}(h1:a=true ↔ p)(h2:b=true ↔ p):a=b:=by
 cases a<;>cases b<;>simp_all
def eK{Ss:LL}{a:Nat}(h:a<Ss.length):Ss[a]?=some (Ss.getD a []):=by rw[bG,aF h];rfl
def or3{G N:Prop}{e1 e2 e3:Bool}(g:(e1=true\/e2=true/\e3=true)->G)(n:e1=false->N):if e1=true then G else True/\(if e2=true then (if e3=true then G else N) else N):=by
 cases e1
 ·refine⟨rm,?_⟩;cases e2
  ·exact n rfl
  ·cases e3
   ·exact n rfl
   ·exact g (.inr ⟨O,O⟩)
 ·exact g (.inl rfl)
def HL{A:LI}{k:Nat}:(ao (A.map TV.int) none (some (k:Int))++[TV.int x])++ao (A.map TV.int) (some (k:Int)) none=(cU A k x).map TV.int:=by rw[eJ,fb];unfold cU;simp
def wB{A:LI}{k:Nat}(kl:k<A.length):(ao (A.map TV.int) none (some (k:Int))++[TV.int x])++ao (A.map TV.int) (some ((k:Int)+1)) none=(A.set k x).map TV.int:=by
 rw[show(k:Int)+1=((k+1:Nat):Int) by lia,eJ,fb,<- Hc kl];simp
def gz{A:LI}(h:A.length<=6):(ao (A.map TV.int) a b).length<=6:=by
 rw[rH,au,be,eh];lia
def jY{GT:List TV}(P:En->Prop)(h:wS FT GT (.ite c a b .nil) ρ P rt)(k:∀ρ',P ρ'->wS FT GT r ρ' nx rt):wS FT GT (.ite c a b r) ρ nx rt :=
 av c (λ t q=>cr (λ _ q=>jJ (λ q=>bH a (λ ρ' p=>k ρ' p) (λ _ h=>h) q) (λ q=>bH b (λ ρ' p=>k ρ' p) (λ _ h=>h) q) q) q) h
def wC{A:LI}(h:0<A.length):atI (A.map TV.int) 0=some (.int (A.getD 0 0)):=bZ (k:=0) h
def HM(k:Int)(h0:0<=k)(h1:k<6):∃x:Int,atI [TV.int 1,TV.int 2,TV.int 3,TV.int 2,TV.int 1,TV.int 8] k=some (.int x)/\1<=x/\x<=8:=by
 have:k=0\/k=1\/k=2\/k=3\/k=4\/k=5:=fu
 rcases this with rfl|rfl|rfl|rfl|rfl|rfl<;>exact⟨_,rfl,on,on⟩
def og(d:Stp):_L.dp 9 (stT d):=by
 unfold stT;intro x hx
 cases d<;>simp only[stI,aG,aU,aY] at hx<;>(try rcases hx with rfl|rfl|rfl|rfl|rfl|rfl)<;>(try rcases hx with rfl|rfl|rfl|rfl|rfl)<;>(try rcases hx with rfl|rfl|rfl|rfl)<;>(try rcases hx with rfl|rfl|rfl)<;>(try rcases hx with rfl|rfl)<;>first|trivial|(unfold tI;intro y hy;obtain⟨n,_,rfl⟩:=aT.mp hy;trivial)
def fU(d:Stp):atI (stI d) 0=some (.str (gZ (kdN d))):=by cases d<;>rfl
def jZ(d:Stp):_L.eqT (TV.str (gZ (kdN d))).fz (TV.str "in").fz=decide (kdN d=0):=by cases d<;>rfl
def cN{ds:List Stp}{a:Nat}(h:a<ds.length):ds[a]?=some (ds.getD a (.num 0)):=by rw[bG,aF h];rfl
noncomputable def alk:Nat->TV->Prop
 |0,_=>False
 |_+1,.non=>True|_+1,.int _=>True|_+1,.str _=>True
 |d+1,.tup l=>l.length<=1000/\∀x∈l,alk d x
 |_+1,_=>False
def HN(h:alk d t):t.fz=t/\t.nb=true:=by
 cases d with
 |zero=>exact h.elim
 |succ d=>cases t<;>first|exact⟨rfl,rfl⟩|exact h.elim
noncomputable def gA(ds:List Stp)(k:Nat)(R:List Bool):List Bool:=if R.getD k false=true then (aB (ds.getD k (.num 0))).foldl (λ R a=>R.set a true) R else R
noncomputable def bM(ds:List Stp)(n:Nat):Nat->List Bool->List Bool
 |0,R=>R
 |i+1,R=>gA ds (n-1-i) (bM ds n i R)
noncomputable def bQ(n:Nat)(es:LI):List Bool:=es.foldl (λ R e=>R.set e.toNat true) (List.replicate n false)
noncomputable def cH(ds:List Stp)(es:LI):List Nat:=(List.range ds.length).filter λ k=>(bM ds ds.length ds.length (bQ ds.length es)).getD k false
def HP(l:List Bool)(es:LI):(es.foldl (λ R e=>R.set e.toNat true) l).length=l.length:=by
 induction es generalizing l with
 |nil=>rfl
 |cons e es ih=>rw[lX,ih,eF]
def ka(n:Nat)(es:LI):(bQ n es).length=n:=by unfold bQ;rw[HP,iw]
def HQ{es:LI}{i:Nat}(h:es[i]?=some e):bQ n (es.take (i+1))=(bQ n (es.take i)).set e.toNat true:=by unfold bQ;rw[gh,h,nK];rfl
def wD(l:List Bool)(as:List Nat):(as.foldl (λ R a=>R.set a true) l).length=l.length:=by
 induction as generalizing l with
 |nil=>rfl
 |cons e es ih=>rw[lX,ih,eF]
def HR(ds:List Stp)(k:Nat)(R:List Bool):(gA ds k R).length=R.length:=by
 unfold gA;split
 ·exact wD _ _
 ·rfl
theorem oh(ds:List Stp)(n:Nat)(R:List Bool):∀i,(bM ds n i R).length=R.length
 |0=>rfl
 |i+1=>by rw[bM,HR,oh ds n R i]
def wF{n:Nat}(h:n<=40):Builtin.Range.small ((n:Int)-1) (-1) (-1)=true/\Builtin.Range.rangeSize ((n:Int)-1) (-1) (-1)=(n:Int):=by
 have z:∀m:Fin 41,Builtin.Range.small ((m.val:Int)-1) (-1) (-1)=true/\Builtin.Range.rangeSize ((m.val:Int)-1) (-1) (-1)=(m.val:Int):=by decide +kernel
 exact z ⟨n,fu⟩
def atB{R:List Bool}{k:Nat}(h:k<R.length):atI (R.map TV.bl) (k:Int)=some (.bl (R.getD k false)):=bv (by rw[aX,aF h,bG,aF h];rfl)
def oT:Option Nat->TV
 |none=>.non
 |some k=>.int (k:Nat)
noncomputable def sdA(Ss:LL)(a:Nat)(s:Int):Int:=(Ss.getD a []).getD s.toNat 0
noncomputable def ij(Ss:LL):Stp->Option Nat
 |.turn a os=>if os=upL os.length then some a else none
 |.flip a s=>if sdA Ss a s<2 then some a else none
 |.cut a s _ m _=>if m=sdA Ss a s then some a else none
 |.lay a ms=>if ms=Ss.getD a [] then some a else none
 |.join a b s=>if sdA Ss a s=0 then some b else if sdA Ss b s=0 then some a else none
 |_=>none
def dG{Ss:LL}{a:Nat}(e:Ss[a]?=some A):Ss.getD a []=A:=by rw[bG,e];rfl
noncomputable def iU(fs:List Stp):Stp->Option Nat
 |.flip a s=>(match fs.getD a (.num 0) with|.flip b s2=>if s2=s then some b else none|_=>none)
 |_=>none
def iV{x y:TV}{xs ys:List TV}(h:_L.eqTL (x::xs) (y::ys)=true):_L.eqT x y=true/\_L.eqTL xs ys=true:=by
 have h:(_L.eqT x y&&_L.eqTL xs ys)=true:=h
 rwa [bu] at h
def fc(h:_L.eqT (TV.int a) (TV.int b)=true):a=b:=ay h
def dy{a b:Nat}(h:_L.eqT (TV.int (a:Int)) (TV.int (b:Int))=true):a=b:=Int.ofNat.inj (ay (p:=(a:Int)=(b:Int)) h)
def oj(h:_L.eqT (TV.str a) (TV.str b)=true):a=b:=ay h
def rN(h:_L.eqT (tI a) (tI b)=true):a=b:=by have z:decide (a=b)=true:=(gx a b).symm.trans h;exact ay z
def wG(h:_L.eqT (stT d) (stT e)=true):d=e:=by
  have h:_L.eqTL (stI d) (stI e)=true:=h
  have hk:kdN d=kdN e:=by
    have z:_L.eqT (.str (gZ (kdN d))) (.str (gZ (kdN e)))=true:=by cases d<;>cases e<;>exact(iV h).1
    have k:=HD ⟨kdN d,wp d⟩ ⟨kdN e,wp e⟩ (oj z);exact bK Fin.val k
  cases d<;>cases e<;>first
    |(exact absurd hk (iW rfl))
    | (obtain⟨_,h1⟩:=iV h;obtain⟨a1,h2⟩:=iV h1;first
        |(cases rN a1;rfl)|(cases fc a1;rfl)
        | (obtain⟨a2,h3⟩:=iV h2;first
            |(cases rN a1;cases fc a2;rfl)|(cases oj a1;cases dy a2;rfl)|(cases dy a1;cases rN a2;rfl)|(cases dy a1;cases fc a2;rfl)|(cases dy a1;cases dy a2;rfl)
            | (obtain⟨a3,h4⟩:=iV h3;first
                |(cases oj a1;cases dy a2;cases dy a3;rfl)|(cases dy a1;cases dy a2;cases dy a3;rfl)|(cases dy a1;cases fc a2;cases fc a3;rfl)|(cases dy a1;cases dy a2;cases fc a3;rfl)|(cases oj a1;cases dy a2;cases fc a3;rfl)
                |(obtain⟨a4,h5⟩:=iV h4;obtain⟨a5,h6⟩:=iV h5;cases dy a1;cases fc a2;cases fc a3;cases fc a4;cases fc a5;rfl))))
noncomputable def im(fs:List Stp)(g:Nat->Nat)(d:Stp)(r:Nat):Prop:=r<=fs.length/\(∀j,j<r->¬(g j=j/\fs[j]?=some d))/\(r<fs.length->g r=r/\fs[r]?=some d)
noncomputable def StR(fs:List Stp)(g:Nat->Nat)(Ss:LL)(d:Stp)(r:Nat):Prop:=if kdN d=0 then r=fs.length else match ij Ss d with|some k=>r=k|none=>match iU fs d with|some k=>r=k|none=>im fs g d r
def HS{l:List TV}{i:Nat}(h:(l.mapIdx λ i x=>TV.tup [.int (i:Nat),x])[i]?=some t):∃x,l[i]?=some x/\t=.tup [.int (i:Nat),x]:=by
 rw[qC] at h
 cases e:l[i]? with
 |none=>rw[e] at h;cases h
 |some x=>rw[e] at h;cases h;exact⟨x,rfl,rfl⟩
def fl5:∀x∈[TV.str "turn",TV.str "flip",TV.str "cut",TV.str "lay",TV.str "join"],flT x=true:=on
noncomputable def miT:Option Nat->TV
 |none=>.int (-1)
 |some k=>.int (k:Nat)
def wH(A:LI):gq A (upL A.length)=A:=by
 unfold gq upL;rw[aV];apply jF pv;intro i h1 h2;simp[aF h2]
def HU{A B:LI}{k:Nat}(hk:k<A.length)(ll:A.length=B.length)(e:A.eraseIdx k=B.eraseIdx k):A.set k (B.getD k 0)=B:=by
 rw[gK,gK] at e;obtain⟨e1,e2⟩:=List.append_inj e (by rw[be,be,ll]);have hb:k<B.length:=fu;have eb:B=B.take k++B[k]::B.drop (k+1):=by rw[<- iG hb,mQ]
 rw[nO,if_pos hk,e1,e2,bG,aF hb];exact eb.symm
def dU{α:Type}{x:Option α}{a b:α}(h:x=some a)(g:x=some b):a=b:=bS (h.symm.trans g)
def HV(h:OkS Ss S d)(g:OkS Ss S' d):S=S':=by
 cases d with
 |inp|num|count=>exact h.1.trans g.1.symm
 |each|flip|run=>exact dU h.1 g.1
 |turn|cut|spread|lay|fold=>obtain⟨A,e,r⟩:=h;obtain⟨A',e',r'⟩:=g;cases dU e e';first|exact r.2.2.2.2.trans r'.2.2.2.2.symm|exact r.2.2.2.trans r'.2.2.2.symm|exact r.2.2.trans r'.2.2.symm|exact r.2.trans r'.2.symm
 |pair=>obtain⟨A,B,e1,e2,_,_,r⟩:=h;obtain⟨A',B',e1',e2',_,_,r'⟩:=g;cases dU e1 e1';cases dU e2 e2';exact r.trans r'.symm
 |join=>obtain⟨A,B,e1,e2,_,_,_,_,r⟩:=h;obtain⟨A',B',e1',e2',_,_,_,_,r'⟩:=g;cases dU e1 e1';cases dU e2 e2';exact r.trans r'.symm
 |fetch=>obtain⟨n,r,B,e1,n0,e2,_,z⟩:=h;obtain⟨n',r',B',e1',n0',e2',_,z'⟩:=g;cases dU e1 e1';cases dU e2 e2';exact z.trans z'.symm
 |pick=>obtain⟨A,B,C,e1,e2,e3,_,_,r⟩:=h;obtain⟨A',B',C',e1',e2',e3',_,_,r'⟩:=g;cases dU e1 e1';cases dU e2 e2';cases dU e3 e3';exact r.trans r'.symm
def HW(ok:OkS Ss S d)(h:ij Ss d=some k):Ss[k]?=some S/\k∈aB d:=by
 cases d with
 |turn a os=>
  obtain⟨A,ea,tk,rfl⟩:=ok;replace h:(if os=upL os.length then some a else none)=some k:=h;split at h
  ·rename_i c;cases h;have ol:os.length=A.length:=by rw[tk.length_eq,dw]
   refine⟨?_,.head _⟩;rw[c,ol,wH];exact ea
  ·cases h
 |flip a s=>
  replace h:(if sdA Ss a s<2 then some a else none)=some k:=h;split at h
  ·cases h;exact⟨ok.1,.head _⟩
  ·cases h
 |cut a s f m g=>
  obtain⟨A,ea,no,nb,m5,rfl⟩:=ok;obtain⟨i,rfl,hi⟩:=eW no;replace h:(if m=(Ss.getD a []).getD ((i:Nat):Int).toNat 0 then some a else none)=some k:=h;split at h
  ·rename_i c;cases h;refine⟨?_,.head _⟩;rw[c,dG ea,Int.toNat_natCast,lB hi];exact ea
  ·cases h
 |lay a ms=>
  obtain⟨A,ea,nb,e,rfl⟩:=ok;replace h:(if S=Ss.getD a [] then some a else none)=some k:=h;split at h
  ·rename_i c;cases h;refine⟨?_,.head _⟩;rw[c,dG ea];exact ea
  ·cases h
 |join a b s=>
  obtain⟨A,B,ea,eb,ll,no,ee,nb,rfl⟩:=ok;obtain⟨i,rfl,hi⟩:=eW no;replace h:(if (Ss.getD a []).getD ((i:Nat):Int).toNat 0=0 then some b else if (Ss.getD b []).getD ((i:Nat):Int).toNat 0=0 then some a else none)=some k:=h;rw[dG ea,dG eb,Int.toNat_natCast] at h;rw[Int.toNat_natCast] at ee;unfold dE;rw[Int.toNat_natCast];split at h
  ·rename_i c;cases h;refine⟨?_,.tail _ (.head _)⟩;rw[c,Int.zero_add,HU hi ll ee];exact eb
  ·split at h
   ·rename_i c;cases h;refine⟨?_,.head _⟩;rw[c,Int.add_zero,lB hi];exact ea
   ·cases h
 |_=>cases h
noncomputable def wI(Ss:LL)(fs:List Stp):Prop:=∀(j:Nat) (e:Stp),fs[j]?=some e->∃T,Ss[j]?=some T/\OkS Ss T e/\∀a∈aB e,a<j
def HX{g:Nat->Nat}(h:StR fs g Ss d r)(ok:OkS Ss S d)(ha:∀a∈aB d,a<fs.length)(fo:wI Ss fs)(es:Ss[fs.length]?=some S):r<=fs.length/\Ss[r]?=some S:=by
 unfold StR at h;by_cases c0:kdN d=0
 ·rw[if_pos c0] at h;subst h;exact⟨ar _,es⟩
 rw[if_neg c0] at h
 cases hs:ij Ss d with
 |some k=>
  rw[hs] at h;have h:r=k:=h;subst h;obtain⟨a,b⟩:=HW ok hs;exact⟨cj (ha _ b),a⟩
 |none=>
  rw[hs] at h
  cases hu:iU fs d with
  |some k=>
   rw[hu] at h;have h:r=k:=h;subst h
   cases d with
   |flip a s=>
    have al:=ha a (.head _);obtain⟨T,eT,oT,lT⟩:=fo a _ (cN al);replace hu:(match fs.getD a (.num 0) with|.flip b s2=>if s2=s then some b else none|_=>none)=some r:=hu;cases dU ok.1 eT;generalize fs.getD a (.num 0)=d2 at hu oT lT
    cases d2 with
    |flip b s2=>
     replace hu:(if s2=s then some b else none)=some r:=hu;split at hu
     ·cases hu;exact⟨by have:=lT _ (.head _);lia,oT.1⟩
     ·cases hu
    |_=>cases hu
   |_=>cases hu
  |none=>
   rw[hu] at h;have h:im fs g d r:=h;refine⟨h.1,?_⟩
   rcases fO r fs.length with c|c
   ·obtain⟨T,eT,oT,_⟩:=fo r d (h.2.2 c).2;rw[eT,HV oT ok]
   ·have:r=fs.length:=Nat.le_antisymm h.1 c;rw[this];exact es
def HY{g:Nat->Nat}(h:StR fs g Ss d r)(h':StR fs g Ss d r'):r=r':=by
 unfold StR at h h';by_cases c0:kdN d=0
 ·rw[if_pos c0] at h h';lia
 rw[if_neg c0] at h h'
 cases hs:ij Ss d with
 |some k=>rw[hs] at h h';exact Eq.trans h (Eq.symm h')
 |none=>
  rw[hs] at h h'
  cases hu:iU fs d with
  |some k=>rw[hu] at h h';exact Eq.trans h (Eq.symm h')
  |none=>
   rw[hu] at h h';have h:im fs g d r:=h;have h':im fs g d r':=h'
   rcases Nat.lt_trichotomy r r' with c|c|c
   ·exact absurd (h.2.2 (by have:=h'.1;lia)) (h'.2.1 r c)
   ·exact c
   ·exact absurd (h'.2.2 (by have:=h.1;lia)) (h.2.1 r' c)
def gF(gs:List Nat)(j:Nat):Nat:=gs.getD j 0
noncomputable def gB(ds:List Stp)(Ss:LL):Nat->List Stp->List Nat->Prop
 |0,fs,gs=>fs=[]/\gs=[]
 |n+1,fs,gs=>∃fs0 gs0 d r,gB ds Ss n fs0 gs0/\ds[n]?=some d/\StR fs0 (gF gs0) Ss (bE (gF gs0) d) r/\fs=fs0++[bE (gF gs0) d]/\gs=gs0++[r]
theorem wJ:∀ {n:Nat}{fs fs':List Stp}{gs gs':List Nat},gB ds Ss n fs gs->gB ds Ss n fs' gs'->fs=fs'/\gs=gs'
 |0,_,_,_,_,h,h'=>⟨h.1.trans h'.1.symm,h.2.trans h'.2.symm⟩
 |n+1,_,_,_,_,⟨fs0,gs0,d,r,t,e,s,e1,e2⟩,⟨fs1,gs1,d',r',t',e',s',e1',e2'⟩=>by
  obtain⟨rfl,rfl⟩:=wJ t t';cases dU e e';cases HY s s';exact⟨e1.trans e1'.symm,e2.trans e2'.symm⟩
def HZ(f:Nat->Nat)(d:Stp):aB (bE f d)=(aB d).map f:=by cases d<;>rfl
structure ThI (Ss:LL)(n:Nat)(fs:List Stp)(gs:List Nat):Prop where
 fl:fs.length=n
 gl:gs.length=n
 fo:wI Ss fs
 st:∀j,j<n->gF gs j<=j/\Ss[gF gs j]?=Ss[j]?
def rO{mo:Int}{gs:List Nat}(gd:eI mo ds Ss)(I:ThI Ss n fs gs)(e:ds[n]?=some d):∃S,Ss[n]?=some S/\OkS Ss S (bE (gF gs) d)/\∀a∈aB (bE (gF gs) d),a<n:=by
 have nl:n<ds.length:=(bc.mp e).1;have nS:n<Ss.length:=by rw[<- gd.1];exact nl
 have eS:=aF nS;have ok:=gd.2.2 n d _ e eS;have al:∀a∈aB d,a<n:=λ a h=>by have:=jW ok a h;rw[be] at this;lia
 refine⟨_,eS,rD ok λ a h A ea=>?_,λ a h=>?_⟩
 ·have an:=al a h;rw[qT,if_pos an] at ea;rw[(I.st a an).2];exact ea
 ·rw[HZ] at h;obtain⟨b,hb,rfl⟩:=aT.mp h;have:=al b hb;have:=(I.st b this).1;lia
def wK{gs:List Nat}{r j:Nat}(h:j<gs.length):gF (gs++[r]) j=gF gs j:=by unfold gF;rw[bG,bG,cY h]
def wM{gs:List Nat}{r:Nat}:gF (gs++[r]) gs.length=r:=by unfold gF;rw[bG,cP (ar _),iS];rfl
def Ia{gs:List Nat}(I:ThI Ss n fs gs)(eS:Ss[n]?=some S)(ok:OkS Ss S d)(ha:∀a∈aB d,a<n)(s:StR fs (gF gs) Ss d r):ThI Ss (n+1) (fs++[d]) (gs++[r]):=by
 obtain⟨r1,r2⟩:=HX s ok (by rw[I.fl];exact ha) I.fo (by rw[I.fl];exact eS);rw[I.fl] at r1;refine⟨by rw[aQ,I.fl];rfl,by rw[aQ,I.gl];rfl,λ j e h=>?_,λ j h=>?_⟩
 ·rcases fO j fs.length with c|c
  ·rw[cY c] at h;exact I.fo j e h
  ·rw[cP c] at h
   have jl:j-fs.length=0:=by
    have:=(bc.mp h).1;simp at this;lia
   rw[jl] at h;cases h;have:j=n:=by have:=I.fl;lia
   subst this;exact⟨S,eS,ok,ha⟩
 ·rcases fO j n with c|c
  ·rw[wK (by rw[I.gl];exact c)];exact I.st j c
  ·have:j=gs.length:=by have:=I.gl;lia
   subst this;rw[wM];rw[I.gl];exact⟨r1,by rw[r2,eS]⟩
def Ib(Ss:LL):ThI Ss 0 [] []:=⟨rfl,rfl,(λ j e h=>by cases h),(λ j h=>absurd h (gJ _))⟩
theorem kc{mo:Int}(gd:eI mo ds Ss):∀ {n:Nat}{fs:List Stp}{gs:List Nat},gB ds Ss n fs gs->ThI Ss n fs gs
 |0,_,_,⟨e1,e2⟩=>by subst e1 e2;exact Ib Ss
 |n+1,_,_,⟨fs0,gs0,d,r,t,e,s,e1,e2⟩=>by
  subst e1 e2;have I:=kc gd t;obtain⟨S,eS,ok,ha⟩:=rO gd I e;exact Ia I eS ok ha s
theorem rP:∀(as:List Nat) (R:List Bool) (j:Nat),(as.foldl (λ R a=>R.set a true) R).getD j false=true ↔ (j∈as/\j<R.length)\/R.getD j false=true
 |[],R,j=>by simp
 |a::as,R,j=>by
  rw[lX,rP as];rw[eF,bG,bG,cM];by_cases c:a=j
  ·subst c;rw[if_pos rfl];by_cases l:a<R.length
   ·simp[l]
   ·simp[l]
  ·rw[if_neg c];have:¬j=a:=λ z=>c z.symm;simp[this]
def wN{n:Nat}{es:LI}(he:∀e∈es,0<=e/\e<(n:Int))(j:Nat):(bQ n es).getD j false=true ↔ (j:Int)∈es:=by
 have e:bQ n es=(es.map Int.toNat).foldl (λ R a=>R.set a true) (List.replicate n false):=by unfold bQ;rw[List.foldl_map]
 rw[e,rP,iw];have z:¬(List.replicate n false).getD j false=true:=by rw[bG,jk];split<;>simp
 constructor
 ·rintro(⟨h,_⟩|h)
  ·obtain⟨x,hx,rfl⟩:=aT.mp h;rw[fQ (he x hx).1];exact hx
  ·exact absurd h z
 ·intro h;exact .inl ⟨aT.mpr ⟨_,h,Int.toNat_natCast j⟩,by have:=(he _ h).2;lia⟩
section
variable {ds:List Stp}{R:List Bool}{n:Nat}
def oo(hl:R.length=n)(i j:Nat):(bM ds n (i+1) R).getD j false=true ↔ (bM ds n i R).getD j false=true\/((bM ds n i R).getD (n-1-i) false=true/\j∈aB (ds.getD (n-1-i) (.num 0))/\j<n):=by
 show(gA ds (n-1-i) (bM ds n i R)).getD j false=true ↔ _;unfold gA;split
 ·rename_i c;rw[rP,oh,hl];constructor
  ·rintro(h|h)
   ·exact .inr ⟨c,h⟩
   ·exact .inl h
  ·rintro(h|h)
   ·exact .inr h
   ·exact .inl h.2
 ·rename_i c;constructor
  ·exact .inl
  ·rintro(h|h)
   ·exact h
   ·exact absurd h.1 c
theorem rQ(hl:R.length=n):∀m,(bM ds n i R).getD j false=true->(bM ds n (i+m) R).getD j false=true
 |0,h=>h
 |m+1,h=>(oo hl (i+m) j).mpr (.inl (rQ hl m h))
theorem wO(hl:R.length=n)(ha:∀(k:Nat) (e:Stp),ds[k]?=some e->∀a∈aB e,a<k)(dl:ds.length=n){k:Nat}(hk:k<n):∀m,n-1-k+m<=n->(bM ds n (n-1-k+m) R).getD k false=true->(bM ds n (n-1-k) R).getD k false=true
 |0,_,h=>h
 |m+1,hm,h=>by
  rcases(oo hl (n-1-k+m) k).mp h with h|⟨_,h,_⟩
  ·exact wO hl ha dl hk m fu h
  ·have lt:n-1-(n-1-k+m)<ds.length:=by lia
   have:=ha _ _ (cN lt) k h;lia
end
def mem_reach{ds:List Stp}{es:LI}{k:Nat}:k∈cH ds es ↔ k<ds.length/\(bM ds ds.length ds.length (bQ ds.length es)).getD k false=true:=by
 unfold cH;rw[dH,cW]
def wP{ds:List Stp}{es:LI}(he:∀e∈es,0<=e/\e<(ds.length:Int)){k:Nat}(h:(k:Int)∈es):k∈cH ds es:=by
 refine mem_reach.mpr ⟨by have:=(he _ h).2;lia,?_⟩;have:=rQ (ds:=ds) (ka ds.length es) ds.length (i:=0) ((wN he k).mpr h)
 rwa [Nat.zero_add] at this
def wQ{ds:List Stp}{es:LI}(ha:∀(k:Nat) (e:Stp),ds[k]?=some e->∀a∈aB e,a<k){k a:Nat}(h:k∈cH ds es)(m:a∈aB (ds.getD k (.num 0))):a∈cH ds es:=by
 obtain⟨kl,hk⟩:=mem_reach.mp h;have al:=ha k _ (cN kl) a m;have hl:=ka ds.length es;have b:=wO hl ha rfl kl (k+1) fu (by rw[show ds.length-1-k+(k+1)=ds.length by lia];exact hk);refine mem_reach.mpr ⟨fu,?_⟩;have s:=(oo hl (ds.length-1-k) a).mpr (.inr ⟨by rw[show ds.length-1-(ds.length-1-k)=k by lia];exact b,by rw[show ds.length-1-(ds.length-1-k)=k by lia];exact m,fu⟩);have t:=rQ hl k s
 rwa [show ds.length-1-k+1+k=ds.length by lia] at t
def wR(ds:List Stp)(es:LI):(cH ds es).Pairwise (· < ·):=by unfold cH;exact List.Pairwise.filter _ mO
theorem wU:∀ {l m:LI},l.Pairwise (· < ·)->m.Pairwise (· < ·)->(∀x,x∈l ↔ x∈m)->l=m
 |[],[],_,_,_=>rfl
 |[],y::m,_,_,h=>absurd ((h y).mpr (.head _)) aU
 |x::l,[],_,_,h=>absurd ((h x).mp (.head _)) aU
 |x::l,y::m,p,q,h=>by
  rw[mM] at p q
  have xy:x=y:=by
   rcases aG.mp ((h x).mp (.head _)) with e|e
   ·exact e
   ·rcases aG.mp ((h y).mpr (.head _)) with e'|e'
    ·exact e'.symm
    ·have:=q.1 x e;have:=p.1 y e';lia
  subst xy;rw[wU p.2 q.2 λ z=>?_];constructor
  ·intro hz
   rcases aG.mp ((h z).mp (.tail _ hz)) with e|e
   ·have:=p.1 z hz;lia
   ·exact e
  ·intro hz
   rcases aG.mp ((h z).mpr (.tail _ hz)) with e|e
   ·have:=q.1 z hz;lia
   ·exact e
theorem rR:∀(n:Nat) (l:LI),l.Nodup->(∀x∈l,0<=x/\x<(n:Int))->l.length<=n
 |0,l,_,h=>by
  cases l with
  |nil=>exact ar _
  |cons x r=>have:=h x (.head _);lia
 |n+1,l,nd,h=>by
  by_cases m:(n:Int)∈l
  ·have e:=List.length_erase_of_mem m
   have:=rR n (l.erase n) (nd.erase _) λ x hx=>by
    rw[nd.mem_erase_iff] at hx;have:=h x hx.2;have:=hx.1;lia
   lia
  ·have:=rR n l nd λ x hx=>by
    have:=h x hx;have:x≠(n:Int):=λ z=>m (z ▸ hx);lia
   lia
theorem wV(x:Nat):∀(K:List Nat) (o:Nat),((K.zipIdx o).map λ p=>((p.1:Int),(p.2:Int))).lookup (x:Int)=if x∈K then some (((K.idxOf x+o:Nat)):Int) else none
 |[],o=>by simp
 |a::r,o=>by
  rw[List.zipIdx_cons,cz,gb,List.idxOf_cons];by_cases c:a=x
  ·subst c;simp
  ·have c':((x:Int) == (a:Int))=false:=mS (λ z=>c fu);have c2:(a == x)=false:=mS c;have c3:¬x=a:=λ z=>c z.symm;rw[c',wV x r (o+1),c2];simp only[aG,c3,false_or];split
   ·congr 1;simp;lia
   ·rfl
noncomputable def fg(K:List Nat):List (Int×Int):=(List.range K.length).map λ i=>(((K.getD i 0:Nat):Int),(i:Int))
def rV(K:List Nat)(x:Nat):(fg K).lookup (x:Int)=if x∈K then some ((K.idxOf x:Nat):Int) else none:=by
 have e:fg K=(K.zipIdx 0).map λ p=>((p.1:Int),(p.2:Int)):=by
  unfold fg;apply jF pv;intro i h1 h2;simp at h1;simp[aF h1]
 rw[e,wV x K 0];rfl
def Ic{K:List Nat}(h:K.Pairwise (· < ·)):((fg K).map (·.1)).Nodup:=by
 have e:(fg K).map (·.1)=K.map λ k:Nat=>(k:Int):=by
  unfold fg;apply jF pv;intro i h1 h2;simp at h2;simp[aF h2]
 rw[e];unfold List.Nodup;rw[mP];exact h.imp λ h=>by lia
def Ie{K:List Nat}(h:K.Pairwise (· < ·)){i k:Nat}(e:K[i]?=some k):K.idxOf k=i:=by
 obtain⟨hi,rfl⟩:=bc.mp e;exact List.Nodup.idxOf_getElem (h.imp λ h=>aK h) i hi
noncomputable def plT(K:List Nat)(x:Nat):TV:=if x∈K then .int ((K.idxOf x:Nat):Int) else .non
noncomputable def esL(ds:List Stp)(os:LI)(gs:List Nat):LI:=(((List.range ds.length).filter λ k=>decide (kdN (ds.getD k (.num 0))=0)).map λ k:Nat=>(k:Int))++os.map λ o=>((gF gs o.toNat:Nat):Int)
noncomputable def thT(ds:List Stp)(os:LI)(fs:List Stp)(gs:List Nat):TV :=
 .tup [.tup [.tup ((cH fs (esL ds os gs)).map λ k=>stT (bE (λ a=>(cH fs (esL ds os gs)).idxOf a) (fs.getD k (.num 0)))),.tup (os.map λ o=>.int (((cH fs (esL ds os gs)).idxOf (gF gs o.toNat):Nat):Int))],.tup ((List.range ds.length).map λ j=>plT (cH fs (esL ds os gs)) (gF gs j))]
def iX{n:Nat}{gs:List Nat}(h:gs.length=n):(gs.map λ r:Nat=>TV.int (r:Nat))=(List.range n).map λ k=>TV.int (gF gs k:Nat):=by
 subst h;apply jF pv;intro i h1 h2;simp at h1;simp[gF,aF h1]
def lC{gs:List Nat}{a:Nat}(h:a<gs.length):atI (gs.map λ r:Nat=>TV.int (r:Nat)) (a:Int)=some (.int (gF gs a:Nat)):=by rw[iX rfl];exact rG h
def wW{α:Type}(F:α->TV)(l:List α)(d:α):((l.map F).mapIdx λ i x=>TV.tup [.int (i:Nat),x])=(List.range l.length).map λ i=>TV.tup [.int (i:Nat),F (l.getD i d)]:=by
 apply jF pv;intro i h1 h2;simp at h1;simp[aF h1]
def Ig(K:List Nat)(x:Nat):dgT (fg K) (x:Int)=plT K x:=by
 unfold dgT plT;rw[rV]
 split<;>rename_i c<;>split at c<;>first|(cases c;rename_i m;rw[if_pos m])|(cases c;done)|(rename_i m;rw[if_neg m])
def wX(K:List Nat)(x:Nat):(plT K x).nb=true/\(plT K x).fz=plT K x:=by
 unfold plT;split
 ·exact⟨O,O⟩
 ·exact⟨O,O⟩
def Ih{GT:List TV}(d:Stp)(h:atI F k=some (stT d)){Kn:List TV->Prop}(q:Kn ((aB d).map λ a:Nat=>TV.int (a:Nat))):cmF (λ t K'=>stE [none,some (.own F),some (.int k)] [0] t λ ρ'=>wE FT GT (.ix (.ix V1 V2) V0) ρ' λ y=>(y.nb=true/\K' [y.fz])) ((rJ (kdN d)).map .int) Kn:=by
 cases d with
 |inp=>exact q
 |num=>exact q
 |count=>exact q
 |pair=>exact⟨_,h,_,rfl,rfl,_,h,_,rfl,rfl,q⟩
 |join=>exact⟨_,h,_,rfl,rfl,_,h,_,rfl,rfl,q⟩
 |fetch=>exact⟨_,h,_,rfl,rfl,_,h,_,rfl,rfl,q⟩
 |pick=>exact⟨_,h,_,rfl,rfl,_,h,_,rfl,rfl,_,h,_,rfl,rfl,q⟩
 |_=>exact⟨_,h,_,rfl,rfl,q⟩
theorem rX(k:Int):∀ks:LI,_L.inT (.int k) (ks.map TV.int)=true ↔ k∈ks
 |[]=>by simp[_L.inT]
 |x::r=>by
  have ih:=rX k r;show(_L.eqT (.int x) (.int k) || _L.inT (.int k) (r.map TV.int))=true ↔ _;rw[iO,ih,aG];show decide (x=k)=true\/_ ↔ _;rw[gY];exact⟨λ h=>h.elim (λ z=>.inl z.symm) .inr,λ h=>h.elim (λ z=>.inl z.symm) .inr⟩
noncomputable def whL(n:Nat)(K:List Nat)(i:Nat):List TV:=(List.range n).map λ j=>if j∈K.take i then .int ((K.idxOf j:Nat):Int) else .non
def Ii(n:Nat)(K:List Nat):(List.replicate n [TV.non]).flatten=whL n K 0:=by
 unfold whL
 induction n with
 |zero=>rfl
 |succ n ih=>rw[List.replicate_succ',List.flatten_append,ih,List.range_succ,bD];simp
def rY{n i j:Nat}{K:List Nat}(h:j<n):(whL n K i)[j]?=some (if j∈K.take i then .int ((K.idxOf j:Nat):Int) else .non):=by
 unfold whL;rw[aX,gT h];rfl
def Ij{n i k:Nat}{K:List Nat}(pw:K.Pairwise (· < ·))(e:K[i]?=some k):(whL n K i).set k (.int (i:Nat))=whL n K (i+1):=by
 apply kN;intro j;rw[cM]
 rcases fO j n with c|c
 ·rw[rY c,rY c,gh,e];by_cases z:k=j
  ·subst z;rw[if_pos rfl,if_pos (by unfold whL;rw[ah,bA];exact c),if_pos (show k∈K.take i++(some k).toList from bz _ (.head _)),Ie pw e]
  ·have z':¬j=k:=λ h=>z h.symm;rw[if_neg z];simp[z']
 ·have l0:∀i,(whL n K i)[j]?=none:=λ i=>gc (by unfold whL;rw[ah,bA];exact c);rw[l0,l0];split
  ·rename_i z;subst z;rw[if_neg (by unfold whL;rw[ah,bA];lia)]
  ·rfl
inductive MoreOk (mo:Int)(Ys:LL)(S:LI):List (Stp×LI)->Prop where
 |no:MoreOk mo Ys S []
 |one {d:Stp}(o:OkS Ys S d):MoreOk mo Ys S [(d,S)]
 |two {d e:Stp}{T:LI}(o:OkS Ys T d) (f:aJ mo T) (p:OkS (Ys++[T]) S e):MoreOk mo Ys S [(d,T),(e,S)]
def Ik{Zs Ys:LL}(h:OkS Zs S d):OkS (Zs++Ys) S d:=by
 have z:=rD (f:=λ a=>a) h λ a ha A e=>show(Zs++Ys)[a]?=some A by rw[cY (jW h a ha)];exact e
 have r:bE (λ a=>a) d=d:=by cases d<;>rfl
 rwa [r] at z
def Il{mo:Int}(h:aJ mo S)(m:cv mo):¬bP S:=by
 unfold bP;have:=h.2.1;have:=h.2.2.2;have:=m.2;lia
def wY{S:LI}{k:Nat}(hk:k<S.length):dE (S.set k 0) S (k:Int)=S:=by
 unfold dE;rw[Int.toNat_natCast,wu hk,List.set_set,Int.zero_add,lB hk]
def wZ{S:LI}{k:Nat}(hk:k<S.length):dE S (S.set k 0) (k:Int)=S:=by
 unfold dE;rw[Int.toNat_natCast,wu hk,Int.add_zero,lB hk]
theorem Im{mo:Int}{Zs:LL}(g:eI mo ds Zs)(ok:OkS Zs S d)(f:aJ mo S)(h:MoreOk mo (Zs++[S]) S es) :
  eI mo (ds++((d,S)::es).map (·.1)) (Zs++((d,S)::es).map (·.2))/\es.length<=2/\(Zs++((d,S)::es).map (·.2))[Zs.length]?=some S/\(Zs++((d,S)::es).map (·.2))[Zs.length+es.length]?=some S:=by
 have g1:=jV g ok f;have a0:∀r:LL,(Zs++S::r)[Zs.length]?=some S:=λ r=>by rw[cP (ar _),iS];rfl
 cases h with
 |no=>exact⟨g1,on,a0 _,a0 _⟩
 |one o=>
  refine⟨by have:=jV g1 o f;rwa [eO,eO] at this,bN rfl,a0 _,?_⟩;rw[cP fu,xa];rfl
 |two o f2 p=>
  refine⟨by have:=jV (jV g1 o f2) p f;rwa [eO,eO,eO,eO] at this,bN rfl,a0 _,?_⟩;rw[cP fu,xa];rfl
def xc{l:List TV}(h:l.length<=1000)(g:∀x∈l,alk d x):alk (d+1) (.tup l):=⟨h,g⟩
def oq{α:Type}{l:List α}{f:α->TV}(h:l.length<=1000)(g:∀a∈l,alk d (f a)):alk (d+1) (.tup (l.map f)):=⟨by rw[ah];exact h,λ x hx=>by obtain⟨a,ha,rfl⟩:=aT.mp hx;exact g a ha⟩
def ou{d:Nat}{l:LI}(h:l.length<=1000):alk (d+2) (tI l):=oq h λ _ _=>trivial
def Io{f:Nat->Nat}{e:Nat}(ok:OkS Ss S d)(fS:∀T∈Ss,fit T):alk (e+3) (stT (bE f d)):=by
 have go:∀l:List TV,l.length<=1000->(∀x∈l,alk (e+2) x)->alk (e+3) (.tup l):=λ l a b=>⟨a,b⟩
 cases d with
 |inp ms=>
  exact go _ (bN rfl) λ x hx=>by
   simp only[bE,stI,aG,aU,aY] at hx
   rcases hx with rfl|rfl
   ·exact trivial
   ·exact ou (by have:=rg ok.2;lia)
 |count ms k=>
  exact go _ (bN rfl) λ x hx=>by
   simp only[bE,stI,aG,aU,aY] at hx
   rcases hx with rfl|rfl|rfl
   ·exact trivial
   ·exact ou (by have:=rg ok.2.1;lia)
   ·exact trivial
 |turn a os=>
  obtain⟨A,ea,tk,_⟩:=ok;have a6:=(fS _ (bg ea)).2.1;have ol:os.length=A.length:=by rw[tk.length_eq,dw]
  exact go _ (bN rfl) λ x hx=>by
   simp only[bE,stI,aG,aU,aY] at hx
   rcases hx with rfl|rfl|rfl
   ·exact trivial
   ·exact trivial
   ·exact ou fu
 |lay a ms=>
  obtain⟨A,ea,nb,_⟩:=ok
  exact go _ (bN rfl) λ x hx=>by
   simp only[bE,stI,aG,aU,aY] at hx
   rcases hx with rfl|rfl|rfl
   ·exact trivial
   ·exact trivial
   ·exact ou (by have:=rg nb;lia)
 |_=>
  exact go _ (bN rfl) λ x hx=>by
   simp only[bE,stI,aG,aU,aY] at hx
   rcases hx with rfl|rfl|rfl|rfl|rfl|rfl<;>exact trivial
def Ip{os:LI}{mo:Int}{gs:List Nat}(gd:hZ mo ds Ss os)(th:gB ds Ss ds.length fs gs):alk 8 (thT ds os fs gs):=by
 obtain⟨hmo,gl,d0,d40,o0,o8,ho⟩:=gd;have I:=kc gl th;have fS:=rC gl hmo;have K40:(cH fs (esL ds os gs)).length<=40:=by unfold cH;exact bB (fV _ _) (by rw[bA,I.fl];exact d40)
 unfold thT;refine xc (bN rfl) λ x hx=>?_;simp only[aG,aU,aY] at hx
 rcases hx with rfl|rfl
 ·refine xc (bN rfl) λ x hx=>?_;simp only[aG,aU,aY] at hx
  rcases hx with rfl|rfl
  ·refine oq fu λ k hk=>?_;have kl:=(mem_reach.mp hk).1;obtain⟨T,_,o,_⟩:=I.fo k _ (cN kl);exact Io o fS
  ·exact oq fu λ _ _=>trivial
 ·refine oq (by rw[bA];lia) λ j _=>?_;unfold plT;split<;>exact trivial
def zp0:PSp:=λ ts Q=>∃n,ts=[.int n]/\Q (.int (iQ n))
noncomputable def zc0:Ct:=(.ret (.ad (.md (.sb V0 (.g 0)) (.bin .Pow N2 (.n 64))) (.g 0)))
noncomputable def zp1:PSp:=λ ts Q=>∃n:Int,ts=[.int n]/\Q (.int (if n<0 then -1 else if 0<n then 1 else 0))
noncomputable def zc1:Ct:=(.r (.lt V0 N0) (.neg N1) (.ret (.ite (.gt V0 N0) N1 N0)))
noncomputable def zp2:PSp:=λ ts Q=>∃x y:Int,ts=[.int x,.int y]/\inB x/\inB y/\Q (.int (re x y))
def zc2:Ct:=(.r (.eq V1 N0) N0 (.ret (.c1 0 (.dv V0 V1))))
noncomputable def zp3:PSp:=λ ts Q=>∃x y:Int,ts=[.int x,.int y]/\Q (.int (rf x y))
def zc3:Ct:=(.ret (.ite (.eq V1 N0) V0 (.md V0 V1)))
noncomputable def zp4:PSp:=λ ts Q=>∃(w:Str) (x:Int),ts=[.str w,.int x]/\w∈lu/\Q (.int (vV w x))
noncomputable def zc4:Ct:=(.r (.es V0 "neg") (.c1 0 (.neg V1)) (.r (.es V0 "abs") (.c1 0 (.b1 .abs V1)) (.r (.es V0 "sign") (.c1 1 V1) (.r (.es V0 "not") (.ite (.eq V1 N0) N1 N0) .never))))
noncomputable def zp5:PSp:=λ ts Q=>∃(w:Str) (x y:Int),ts=[.str w,.int x,.int y]/\inB x/\inB y/\w∈lw/\Q (.int (vT w x y))
noncomputable def zc5:Ct:=(.r (.es V0 "add") (.c1 0 (.ad V1 V2)) (.r (.es V0 "sub") (.c1 0 (.sb V1 V2)) (.r (.es V0 "mul") (.c1 0 (.ml V1 V2)) (.r (.es V0 "quo") (.c2 2 V1 V2) (.r (.es V0 "rest") (.c2 3 V1 V2) (.r (.es V0 "max") (.b2 .max V1 V2) (.r (.es V0 "min") (.b2 .min V1 V2) (.r (.es V0 "less") (.ite (.lt V1 V2) N1 N0) (.r (.es V0 "like") (.ite (.eq V1 V2) N1 N0) (.r (.es V0 "and") (.bin .BitAnd V1 V2) (.r (.es V0 "or") (.bin .BitOr V1 V2) (.r (.es V0 "xor") (.bin .BitXor V1 V2) .never))))))))))))
noncomputable def zp6:PSp:=λ ts Q=>∃(w:Str),ts=[.str w]/\isF w/\Q (.int (du w))
noncomputable def zc6:Ct:=(.r (.cmp .In V0 (.t3 (.w "add") (.w "or") (.w "xor"))) N0 (.r (.es V0 "mul") N1 (.r (.es V0 "max") (.g 0) (.r (.es V0 "min") (.g 1) (.r (.es V0 "and") (.neg N1) .never)))))
noncomputable def zp7:PSp:=λ ts Q=>∃i:Nat,i<15/\ts=[.str (gZ i)]/\Q (.lst ((vW i).map .int))
noncomputable def zc7:Ct:=(.ret (.compI ["kind","place"] [] [] [0,1] .seq (.a1 (.dk 6 V0)) (.es V0 "step") V1))
noncomputable def zp8:PSp:=λ ts Q=>∃d:Stp,ts=[stT d]/\Q (tI ((aB d).map λ a:Nat=>(a:Int)))
noncomputable def zc8:Ct:=(.ret (.b1 .tuple (.comp ["place"] ["step"] [0] [0] .seq (.a1 (.c1 7 (.x 0 0))) (.ix V1 V0))))
noncomputable def zp9:PSp:=λ ts Q=>∃(d:Stp) (f:Nat->Nat),ts=[stT d,tI ((aB d).map λ a=>((f a:Nat):Int))]/\Q (stT (bE f d))
noncomputable def zc9:Ct:=(.set 2 (.b1 .list V0) (.for [3,4] (.zip false true) (.a2 (.c1 7 (.x 0 0)) V1) (.put 2 V3 V4 .nil) (.ret (.b1 .tuple V2))))
noncomputable def xf:PSp:=λ ts Q=>∃(t:TV) (ds:List Stp) (es:LI),ts=[t,lI es]/\t=.lst (ds.map stT)/\ds.length<=40/\(∀e∈es,0<=e/\e<(ds.length:Int))/\(∀d∈ds,∀a∈aB d,a<ds.length)/\Q (.lst ((cH ds es).map λ k=>.int (k:Nat)))
noncomputable def Iq:Ct:=(.set 2 (.comp ["step"] [] [] [0] .seq (.a1 V0) (.c (.bl false))) (.for [3] .seq (.a1 V1) (.put 2 V3 (.c (.bl true)) .nil) (.for [4] .rng3 (.a3 (.sb (.ln V0) N1) (.neg N1) (.neg N1)) (.i (.ix V2 V4) (.for [5] .seq (.a1 (.c1 8 (.ix V0 V4))) (.put 2 V5 (.c (.bl true)) .nil) .nil) .nil) (.ret (.compI ["k"] ["reached"] [2] [0] .rng (.a1 (.ln V0)) (.ix V1 V0) V0)))))
noncomputable def xg:PSp:=λ ts Q=>∃(t:TV),ts=[t]/\∃ns,(t=tI ns\/t=lI ns)/\cF ns/\Q (.int (ak ns))
noncomputable def Ir:Ct:=(.set 1 N1 (.for [2] .seq (.a1 V0) (.set 1 (.ml V1 V2) .nil) (.ret V1)))
noncomputable def xh:PSp:=λ ts Q=>∃ns,ts=[tI ns]/\cF ns/\ns.length<=63/\Q (.int (ak (ns.map aq)))
noncomputable def Iu:Ct:=(.ret (.c1 11 (.comp ["side"] [] [] [0] .seq (.a1 V0) (.ite (.ne V0 N0) V0 N1))))
noncomputable def xi:PSp:=λ ts Q=>∃ns,ts=[tI ns]/\cF ns/\ns.length<=63/\¬bP ns/\Q (tI ns)
noncomputable def Iv:Ct:=(.nv (.gt (.ln V0) (.g 2)) (.nv (.gt (.c1 12 V0) (.g 3)) (.ret V0)))
noncomputable def xj:PSp:=λ ts Q=>∃(ns:LI) (k:Nat) (m:Int),ts=[tI ns,.int k,.int m]/\ns.length<=63/\k<ns.length/\Q (tI (ns.set k m))
noncomputable def Iw:Ct:=(.ret (.ad (.ad (.st V0 V1) (.t1 V2)) (.sf V0 (.ad V1 N1))))
noncomputable def xk:PSp:=λ ts Q=>∃(ns:LI) (k:Nat) (m:Int),ts=[tI ns,.int k,.int m]/\ns.length<=63/\Q (tI (cU ns k m))
noncomputable def Ix:Ct:=(.ret (.ad (.ad (.st V0 V1) (.t1 V2)) (.sf V0 V1)))
noncomputable def xn:PSp:=λ ts Q=>∃(ns:LI) (k:Nat),ts=[tI ns,.int k]/\ns.length<=63/\k<ns.length/\Q (tI (ns.eraseIdx k))
def Iy:Ct:=(.ret (.ad (.st V0 V1) (.sf V0 (.ad V1 N1))))
noncomputable def xp:PSp:=λ ts Q=>∃(ns:LI) (side:Int),ts=[tI ns,.int side]/\¬off ns side/\Q .non
def Iz:Ct:=(.nv (.or (.lt V1 N0) (.ge V1 (.ln V0))) .nil)
noncomputable def xq:PSp:=λ ts Q=>∃(ns os:LI),ts=[tI ns,tI os]/\ns.length<=20/\os.length<=20/\lx ns.length os/\Q (tI (gq ns os))
noncomputable def IA:Ct:=(.nv (.ne (.b1 .sorted V1) (.lrng false (.ln V0))) (.ret (.b1 .tuple (.comp ["side"] ["sides"] [0] [0] .seq (.a1 V1) (.ix V1 V0)))))
noncomputable def xr:PSp:=λ ts Q=>∃(ns:LI) (side:Int),ts=[tI ns,.int side]/\¬off ns side/\Q (tI ns)
def IB:Ct:=(.ex (.c2 17 V0 V1) (.ret V0))
noncomputable def xt:PSp:=λ ts Q=>∃(ns:LI) (side first many step:Int),ts=[tI ns,.int side,.int first,.int many,.int step]/\ns.length<=63/\-100<many/\many<1000000/\¬off ns side/\¬bad ns side first many step/\Q (tI (ns.set side.toNat many))
noncomputable def IC:Ct:=(.ex (.c2 17 V0 V1) (.nv (.or (.lt V2 N0) (.or (.lt V3 N0) (.lt V4 N1))) (.nv (.and (.gt V3 N0) (.ge (.ad V2 (.ml (.sb V3 N1) V4)) (.ix V0 V1))) (.ret (.c3 14 V0 V1 V3)))))
noncomputable def xv:PSp:=λ ts Q=>∃(ns:LI) (side many:Int),ts=[tI ns,.int side,.int many]/\cF ns/\ns.length<=20/\many<1000000/\¬nM ns side/\¬many<0/\¬bP (cU ns side.toNat many)/\Q (tI (cU ns side.toNat many))
noncomputable def ID:Ct:=(.nv (.or (.lt V1 N0) (.gt V1 (.ln V0))) (.nv (.lt V2 N0) (.ret (.c1 13 (.c3 15 V0 V1 V2)))))
noncomputable def xw:PSp:=λ ts Q=>∃(ns ms:LI),ts=[tI ns,tI ms]/\cF ns/\cF ms/\ms.length<=20/\¬bP ms/\ak ns=ak ms/\Q (tI ms)
noncomputable def IE:Ct:=(.ex (.c1 13 V1) (.nv (.ne (.c1 11 V0) (.c1 11 V1)) (.ret V1)))
noncomputable def xx:PSp:=λ ts Q=>∃(ns ms:LI) (side:Int),ts=[tI ns,tI ms,.int side]/\sm ns/\sm ms/\ns.length<=20/\ns.length=ms.length/\¬off ns side/\ns.eraseIdx side.toNat=ms.eraseIdx side.toNat/\¬bP (dE ns ms side)/\Q (tI (dE ns ms side))
noncomputable def IF:Ct:=(.nv (.ne (.ln V0) (.ln V1)) (.ex (.c2 17 V0 V2) (.nv (.ne (.c2 16 V0 V2) (.c2 16 V1 V2)) (.ret (.c1 13 (.c3 14 V0 V2 (.ad (.ix V0 V2) (.ix V1 V2))))))))
noncomputable def xz:PSp:=λ ts Q=>∃(ns ms:LI),ts=[tI ns,tI ms]/\ms.take ns.length=ns/\Q (tI ms)
def IG:Ct:=(.nv (.ne (.st V1 (.ln V0)) V0) (.ret V1))
noncomputable def xA:PSp:=λ ts Q=>∃(ns ms:LI),ts=[tI ns,tI ms]/\cu ns ms/\Q (tI (bJ ns ms))
noncomputable def IH:Ct:=(.r (.gt (.ln V0) (.ln V1)) (.c2 24 V1 V0) (.ret (.c2 24 V0 V1)))
noncomputable def xB:PSp:=λ ts Q=>∃(ns ms ks:LI),ts=[tI ns,tI ms,tI ks]/\cu ns ms/\cu (bJ ns ms) ks/\Q (tI (bJ (bJ ns ms) ks))
def II:Ct:=(.ret (.c2 25 (.c2 25 V0 V1) V2))
noncomputable def xC:PSp:=λ ts Q=>∃(n:Int) (r ms:LI),ts=[tI (n::r),tI ms]/\cF (n::r)/\cF ms/\r.length<20/\ms.length<=20/\n≠0/\¬bP (ms++r)/\Q (tI (ms++r))
noncomputable def IJ:Ct:=(.nv (.eq (.ln V0) N0) (.nv (.eq (.x 0 0) N0) (.ret (.c1 13 (.ad V1 (.sf V0 N1))))))
noncomputable def xD:PSp:=λ ts Q=>∃(ns:LI) (side:Int),ts=[tI ns,.int side]/\ns.length<=63/\¬off ns side/\Q (tI (ns.eraseIdx side.toNat))
def IL:Ct:=(.ex (.c2 17 V0 V1) (.ret (.c2 16 V0 V1)))
noncomputable def xE:PSp:=λ ts Q=>∃(ns:LI) (side:Int),ts=[tI ns,.int side]/\cF ns/\ns.length<=20/\¬bP ns/\¬off ns side/\Q (tI ns)
noncomputable def IM:Ct:=(.ex (.c1 13 V0) (.ex (.c2 17 V0 V1) (.ret V0)))
def xF:PSp:=λ ts Q=>∃d:Stp,ts=[stT d]/\wq d/\Q .non
noncomputable def IN:Ct:=(.i (.es (.x 0 0) "each") (.ex (.c2 4 (.x 0 1) N0) .nil) (.i (.es (.x 0 0) "pair") (.ex (.c3 5 (.x 0 1) N0 N0) .nil) (.i (.cmp .In (.x 0 0) (.t2 (.w "fold") (.w "run"))) (.ex (.c1 6 (.x 0 1)) .nil) .nil)))
noncomputable def xG:PSp:=λ ts Q=>∃(d:Stp) (S:LI) (Ss:LL),ts=[stT d]/\kdN d<3/\OkS Ss S d/\fit S/\Q (tI S)
noncomputable def IP:Ct:=(.r (.es (.x 0 0) "in") (.c1 13 (.x 0 1)) (.r (.es (.x 0 0) "count") (.c2 29 (.x 0 1) (.x 0 2)) (.ret .t0)))
noncomputable def xH:PSp:=λ ts Q=>∃(d:Stp) (S A:LI) (Ss:LL) (a:Nat),ts=[stT d,tI A]/\aB d=[a]/\Ss[a]?=some A/\fit A/\OkS Ss S d/\fit S/\Q (tI S)
noncomputable def IQ:Ct:=(.set 2 (.x 0 0) (.r (.es V2 "turn") (.c2 18 V1 (.x 0 2)) (.r (.es V2 "flip") (.c2 19 V1 (.x 0 2)) (.r (.es V2 "cut") (.call 20 (.cons V1 (.cons (.x 0 2) (.cons (.x 0 3) (.cons (.x 0 4) (.cons (.x 0 5) .nil)))))) (.r (.es V2 "spread") (.c3 21 V1 (.x 0 2) (.x 0 3)) (.r (.es V2 "lay") (.c2 22 V1 (.x 0 2)) (.r (.es V2 "fold") (.c2 28 V1 (.x 0 3)) (.r (.es V2 "run") (.c2 19 V1 (.x 0 3)) (.ret V1)))))))))
noncomputable def xI:PSp:=λ ts Q=>∃(t:TV) (d:Stp) (S:LI) (Ss:LL),ts=[stT d,t]/\t=.lst (Ss.map tI)/\(∀T∈Ss,fit T)/\OkS Ss S d/\fit S/\Q (tI S)
noncomputable def IR:Ct:=(.ex (.c1 30 V0) (.set 2 (.comp ["number"] ["sides"] [1] [0] .seq (.a1 (.c1 8 V0)) (.ix V1 V0)) (.set 3 (.x 0 0) (.r (.eq (.ln V2) N0) (.c1 31 V0) (.r (.eq (.ln V2) N1) (.c2 32 V0 (.x 2 0)) (.r (.es V3 "pair") (.c2 25 (.x 2 0) (.x 2 1)) (.r (.es V3 "join") (.c3 23 (.x 2 0) (.x 2 1) (.x 0 3)) (.r (.es V3 "fetch") (.c2 27 (.x 2 0) (.x 2 1)) (.ret (.c3 26 (.x 2 0) (.x 2 1) (.x 2 2)))))))))))
noncomputable def xJ:PSp:=λ ts Q=>∃(t:TV) (d:Stp) (S:LI) (Ss:LL),ts=[stT d,t]/\t=.lst (Ss.map tI)/\(∀T∈Ss,fit T)/\Ss.length<40/\OkS Ss S d/\fit S/\Q (.tup [tI S,.non])
noncomputable def IS:Ct:=(.set 2 (.ln V1) (.r (.ge V2 (.g 4)) (.t2 (.c .non) (.w "many")) (.r (.b1 .any (.comp ["number"] ["k"] [2] [0] .seq (.a1 (.c1 8 V0)) (.or (.lt V0 N0) (.ge V0 V1)))) (.t2 (.c .non) (.w "name")) (.tri (.ret (.t2 (.c2 33 V0 V1) (.c .non))) .nil))))
noncomputable def xK:PSp:=λ ts Q=>∃(ds:List Stp) (Ss:LL) (os:LI) (mo:Int),ts=[.tup [.tup (ds.map stT),tI os]]/\hZ mo ds Ss os/\Q (.tup [.tup (Ss.map tI),.non])
noncomputable def IT:Ct:=(.set 1 (.x 0 0) (.set 2 (.x 0 1) (.set 3 .l0 (.for [4] .seq (.a1 V1) (.set 5 (.c2 34 V4 V3) (.r (.cmp .IsNot (.x 5 1) (.c .non)) (.t2 (.b1 .tuple V3) (.t2 (.ln V3) (.x 5 1))) (.met .append 3 (.a1 (.x 5 0)) .nil))) (.r (.or (.not (.cm2 .LtE .LtE N1 (.ln V2) (.g 5))) (.b1 .any (.comp ["out"] ["steps"] [1] [0] .seq (.a1 V2) (.or (.lt V0 N0) (.ge V0 (.ln V1)))))) (.t2 (.b1 .tuple V3) (.t2 (.ln V1) (.w "out"))) (.ret (.t2 (.b1 .tuple V3) (.c .non))))))))
noncomputable def xL:PSp:=λ ts Q=>∃(ds:List Stp) (Ss:LL) (os:LI) (mo:Int),ts=[.tup [.tup (ds.map stT),tI os]]/\hZ mo ds Ss os/\Q (.tup (Ss.map tI))
noncomputable def IU:Ct:=(.set 1 (.c1 35 V0) (.set 2 (.x 1 1) (.nv (.cmp .IsNot V2 (.c .non)) (.ret (.x 1 0)))))
noncomputable def xM:PSp:=λ ts Q=>∃(d:Stp) (S:LI) (Ss:LL),ts=[stT d,.tup (Ss.map tI)]/\OkS Ss S d/\(∀T∈Ss,fit T)/\Q (oT (ij Ss d))
noncomputable def IV:Ct:=(.set 2 (.x 0 0) (.ite (.es V2 "turn") (.set 3 (.eq (.x 0 2) (.lrng true (.ln (.x 0 2)))) .nil) (.ite (.es V2 "flip") (.set 3 (.lt (.ix (.ix V1 (.x 0 1)) (.x 0 2)) N2) .nil) (.ite (.es V2 "cut") (.set 3 (.eq (.x 0 4) (.ix (.ix V1 (.x 0 1)) (.x 0 2))) .nil) (.ite (.es V2 "lay") (.set 3 (.eq (.x 0 2) (.ix V1 (.x 0 1))) .nil) (.ite (.and (.es V2 "join") (.eq (.ix (.ix V1 (.x 0 1)) (.x 0 3)) N0)) (.ret (.x 0 2)) (.set 3 (.and (.es V2 "join") (.eq (.ix (.ix V1 (.x 0 2)) (.x 0 3)) N0)) .nil) .nil) .nil) .nil) .nil) (.ret (.ite V3 (.x 0 1) (.c .non)))))
noncomputable def xN:PSp:=λ ts Q=>∃(d:Stp) (fs:List Stp),ts=[stT d,.lst (fs.map stT)]/\(∀a∈aB d,a<fs.length)/\Q (oT (iU fs d))
noncomputable def IW:Ct:=(.r (.ne (.x 0 0) (.w "flip")) (.c .non) (.set 2 (.ix V1 (.x 0 1)) (.ret (.ite (.and (.es (.x 2 0) "flip") (.eq (.x 2 2) (.x 0 2))) (.x 2 1) (.c .non)))))
noncomputable def xO:PSp:=λ ts Q=>∃(d:Stp) (S:LI) (Ss:LL) (fs:List Stp) (g:Nat->Nat),ts=[stT d,.lst (fs.map stT),.lst ((List.range fs.length).map λ k=>.int (g k:Nat)),.tup (Ss.map tI)]/\OkS Ss S d/\(∀T∈Ss,fit T)/\(∀a∈aB d,a<fs.length)/\∀r,StR fs g Ss d r->Q (.int (r:Nat))
noncomputable def IY:Ct:=(.set 4 (.ln V1) (.r (.es (.x 0 0) "in") V4 (.set 5 (.c2 37 V0 V3) (.r (.cmp .IsNot V5 (.c .non)) V5 (.set 6 (.c2 38 V0 V1) (.r (.cmp .IsNot V6 (.c .non)) V6 (.for [7,8] (.enum false) (.a1 V1) (.r (.and (.eq (.ix V2 V7) V7) (.eq V8 V0)) V7 .nil) (.ret V4))))))))
noncomputable def xP:PSp:=λ ts Q=>∃(ds:List Stp) (Ss:LL) (os:LI) (mo:Int),ts=[.tup [.tup (ds.map stT),tI os]]/\hZ mo ds Ss os/\∀fs gs,gB ds Ss ds.length fs gs->Q (thT ds os fs gs)
noncomputable def IZ:Ct:=(.set 1 (.c1 36 V0) (.set 2 .l0 (.set 3 .l0 (.for [4] .seq (.a1 (.x 0 0)) (.set 5 (.c2 9 V4 (.b1 .tuple (.comp ["number"] ["stands"] [3] [0] .seq (.a1 (.c1 8 V4)) (.ix V1 V0)))) (.met .append 3 (.a1 (.call 39 (.cons V5 (.cons V2 (.cons V3 (.cons V1 .nil)))))) (.met .append 2 (.a1 V5) .nil))) (.set 6 (.comp ["out"] ["stands"] [3] [0] .seq (.a1 (.x 0 1)) (.ix V1 V0)) (.set 7 (.compI ["k","step"] [] [] [0,1] (.enum true) (.a1 (.x 0 0)) (.es (.x 1 0) "in") V0) (.fz 2 (.set 8 (.c2 10 V2 (.ad V7 V6)) (.sd 9 (.comp ["k","number"] [] [] [0,1] (.enum false) (.a1 V8) (.t2 V1 V0)) (.set 10 (.comp ["k"] ["forms","new"] [2,9] [0] .seq (.a1 V8) (.c2 9 (.ix V1 V0) (.b1 .tuple (.comp ["number"] ["new"] [2] [0] .seq (.a1 (.c1 8 (.ix V1 V0))) (.di 1 V0))))) (.set 11 (.b1 .tuple (.comp ["end"] ["new"] [9] [0] .seq (.a1 V6) (.di 1 V0))) (.ret (.t2 (.t2 (.b1 .tuple V10) V11) (.b1 .tuple (.comp ["number"] ["new"] [9] [0] .seq (.a1 V3) (.dg 1 V0))))))))))))))))
noncomputable def xQ:PSp:=λ ts Q=>∃(t:TV) (ns:LI),ts=[t]/\(t=tI ns\/t=lI ns)/\cF ns/\Q (.int (ak ns))
noncomputable def Ja:Ct:=(.set 1 N1 (.for [2] .seq (.a1 V0) (.set 1 (.ml V1 V2) .nil) (.ret V1)))
noncomputable def xR:PSp:=λ ts Q=>∃ns:LI,ts=[tI ns]/\cF ns/\ns.length<=500/\Q (.int (ak (ns.map aq)))
noncomputable def Jb:Ct:=(.ret (.c1 41 (.comp ["length"] [] [] [0] .seq (.a1 V0) (.b2 .max N1 V0))))
def xS:PSp:=λ ts Q=>∃n:Int,ts=[.int n]/\Q (.int (lj n))
noncomputable def Jc:Ct:=(.r (.eq (.md V0 (.n 17)) N5) (.ix (.lst (.cons (.neg (.bin .Pow N2 (.n 63))) (.cons (.sb (.bin .Pow N2 (.n 63)) N1) (.cons (.neg N1) (.cons (.bin .Pow N2 (.n 62)) .nil))))) (.md (.dv V0 (.n 17)) N4)) (.ret (.sb (.md (.ad V0 (.bin .Pow N2 (.n 63))) (.bin .Pow N2 (.n 64))) (.bin .Pow N2 (.n 63)))))
noncomputable def xT:PSp:=λ ts Q=>∃(ks:LI) (d:Int),ts=[lI ks,.int d]/\0<ks.length/\ks.length<1000000/\∀k∈ks,Q (.int k)
noncomputable def Jd:Ct:=(.r (.eq (.md V1 N3) N0) (.ix V0 (.md (.dv V1 N3) (.ln V0))) (.ret (.ix V0 (.sb (.sb (.ln V0) N1) (.md (.dv V1 N3) (.b2 .min N3 (.ln V0)))))))
noncomputable def xU:PSp:=λ ts Q=>∃kd n cell mo:Int,ts=[.int kd,.int n,.int cell,.int mo]/\cv mo/\∀d S,(∀Ss,OkS Ss S d)->aJ mo S->Q (mdT d S)
noncomputable def Je:Ct:=(.r (.eq V0 N1) (.t2 (.t2 (.w "num") (.c1 43 V2)) .t0) (.set 4 .t0 (.set 5 (.dv V1 (.n 15)) (.for [6] .rng (.a1 (.md V5 N5)) (.set 5 (.dv V5 N5) (.set 7 (.dv V3 (.c1 42 V4)) (.set 8 (.b2 .min (.ix (.lst (.cons N2 (.cons N3 (.cons N1 (.cons N4 (.cons N2 (.cons N3 (.cons N0 .nil)))))))) (.md V5 N7)) V7) (.i (.eq (.md V5 N11) N10) (.set 8 V7 .nil) (.set 4 (.ad V4 (.t1 V8)) .nil))))) (.i (.eq V0 N0) (.fz 4 (.ret (.t2 (.t2 (.w "in") V4) V4))) (.i (.eq V4 .t0) (.set 4 (.t1 (.b2 .min N3 V3)) .nil) (.fz 4 (.ret (.t2 (.t3 (.w "count") V4 (.md (.dv V1 (.n 15)) (.ln V4))) V4)))))))))
noncomputable def xV:PSp:=λ ts Q=>∃(ns ms:LI),ts=[tI ns,tI ms]/\∀b,(b=true ↔ cu ns ms)->Q (.bl b)
noncomputable def Jf:Ct:=(.set 2 (.b2 .min (.ln V0) (.ln V1)) (.ret (.eq (.st V0 V2) (.st V1 V2))))
noncomputable def xW:PSp:=λ ts Q=>∃(kd d0 d1 d2 mo:Int) (Ss:LL),ts=[.int kd,lI [d0,d1,d2],.lst (Ss.map tI)]/\0<Ss.length/\Ss.length<=40/\(∀S∈Ss,aJ mo S)/\∀d S,OkS Ss S d->aJ mo S->Q (mdT d S)
noncomputable def Jg:Ct:=(.set 3 (.lrng false (.ln V2)) (.set 4 (.c2 44 V3 (.x 1 0)) (.r (.eq V0 N3) (.t2 (.t3 (.w "each") (.ix (.lst (.cons (.w "neg") (.cons (.w "abs") (.cons (.w "sign") (.cons (.w "not") .nil))))) (.md (.x 1 2) N4)) V4) (.ix V2 V4)) (.set 5 (.compI ["k"] ["sides","a"] [2,4] [0] .seq (.a1 V3) (.c2 46 (.ix V1 V2) (.ix V1 V0)) V0) (.set 6 (.c2 44 V5 (.x 1 1)) (.set 7 (.mxl (.ix V2 V4) (.ix V2 V6)) (.i (.eq V0 N4) (.set 8 (.lst (.cons (.w "add") (.cons (.w "sub") (.cons (.w "mul") (.cons (.w "quo") (.cons (.w "rest") (.cons (.w "max") (.cons (.w "min") (.cons (.w "less") (.cons (.w "like") (.cons (.w "and") (.cons (.w "or") (.cons (.w "xor") .nil))))))))))))) (.ret (.t2 (.tup (.cons (.w "pair") (.cons (.ix V8 (.md (.x 1 2) (.n 12))) (.cons V4 (.cons V6 .nil))))) V7))) (.set 5 (.compI ["k"] ["sides","b"] [2,6] [0] .seq (.a1 V5) (.c2 46 (.ix V1 V2) (.ix V1 V0)) V0) (.set 9 (.c2 44 V5 (.x 1 2)) (.ret (.t2 (.tup (.cons (.w "pick") (.cons V4 (.cons V6 (.cons V9 .nil))))) (.mxl V7 (.ix V2 V9)))))))))))))
noncomputable def xX:PSp:=λ ts Q=>∃(ns:LI) (d mo:Int),ts=[tI ns,.int d]/\aJ mo ns/\cv mo/\Q (tI (iR ns d))
noncomputable def Jh:Ct:=(.set 2 (.c1 41 V0) (.r (.eq (.md V1 N4) N1) (.t1 V2) (.r (.and (.eq (.md V1 N4) N2) (.lt (.ln V0) N6)) (.ad (.t1 N1) V0) (.r (.and (.eq (.md V1 N4) N3) (.eq (.md V2 N2) N0)) (.t2 (.dv V2 N2) N2) (.ret (.trev true V0))))))
noncomputable def xY:PSp:=λ ts Q=>∃(kd d0 d1 d2 mo:Int) (a:Nat) (A:LI) (Ss:LL),ts=[.int kd,lI [d0,d1,d2],.int a,tI A,.int mo]/\Ss[a]?=some A/\aJ mo A/\cv mo/\∀d S,OkS Ss S d->aJ mo S->Q (mdT d S)
noncomputable def Ji:Ct:=(.i (.eq V0 N6) (.set 5 .l0 (.set 6 (.x 1 2) (.for [7] .rng (.a1 (.ln V3)) (.met .insert 5 (.a2 (.md V6 (.ad V7 N1)) V7) (.set 6 (.dv V6 (.ad V7 N1)) .nil)) (.ret (.t2 (.t3 (.w "turn") V2 (.b1 .tuple V5)) (.b1 .tuple (.comp ["k"] ["own"] [3] [0] .seq (.a1 V5) (.ix V1 V0)))))))) (.r (.eq V0 N10) (.t2 (.t3 (.w "lay") V2 (.c2 48 V3 (.x 1 2))) (.c2 48 V3 (.x 1 2))) (.i (.or (.eq V3 .t0) (.and (.eq V0 N9) (.lt (.ln V3) N6))) (.set 8 (.md (.x 1 1) (.ad (.ln V3) N1)) (.set 9 (.ad N1 (.md (.x 1 2) (.b2 .min N4 (.dv V4 (.c1 42 V3))))) (.i (.eq (.md (.x 1 2) N9) N8) (.set 9 N0 .nil) (.fz 9 (.fz 8 (.ret (.t2 (.tup (.cons (.w "spread") (.cons V2 (.cons V8 (.cons V9 .nil))))) (.ad (.ad (.st V3 V8) (.t1 V9)) (.sf V3 V8))))))))) (.set 10 (.md (.x 1 1) (.ln V3)) (.i (.ne V0 N8) (.fz 10 (.ret (.t2 (.t3 (.w "flip") V2 V10) V3))) (.set 11 (.ad N1 (.md (.x 1 2) N3)) (.set 12 (.md (.dv (.x 1 2) N3) (.b2 .max N1 (.ix V3 V10))) (.set 13 (.b2 .max N0 (.sb (.ad (.dv (.sb (.sb (.ix V3 V10) N1) (.v 12)) V11) N1) (.md (.dv (.x 1 2) (.n 300)) N3))) (.fz 11 (.fz 12 (.fz 10 (.ret (.t2 (.tup (.cons (.w "cut") (.cons V2 (.cons V10 (.cons (.v 12) (.cons (.v 13) (.cons V11 .nil))))))) (.ad (.ad (.st V3 V10) (.t1 (.v 13))) (.sf V3 (.ad V10 N1))))))))))))))))
noncomputable def xZ:PSp:=λ ts Q=>∃(A B:LI) (k:Nat),ts=[tI A,tI B,.int k]/\k<A.length/\A.length<=6/\B.length<=6/\Q (tI (eH A B k))
noncomputable def Jj:Ct:=(.r (.or (.ne (.ln V0) (.ln V1)) (.ne (.ad (.st V0 V2) (.sf V0 (.ad V2 N1))) (.ad (.st V1 V2) (.sf V1 (.ad V2 N1))))) .t0 (.ret (.ad (.ad (.st V0 V2) (.t1 (.ad (.ix V0 V2) (.ix V1 V2)))) (.sf V0 (.ad V2 N1)))))
noncomputable def ye:PSp:=λ ts Q=>∃(kd d0 d1 d2 mo:Int) (Ss:LL),ts=[.int kd,lI [d0,d1,d2],.lst (Ss.map tI),.int mo]/\(∃S∈Ss,0<S.length)/\11<=kd/\kd<=14/\Ss.length<=40/\(∀S∈Ss,aJ mo S)/\cv mo/\∀d S,OkS Ss S d->aJ mo S->Q (mdT d S)
noncomputable def Jk:Ct:=(.set 4 (.compI ["k"] ["sides"] [2] [0] .rng (.a1 (.ln V2)) (.ne (.ix V1 V0) .t0) V0) (.set 5 (.c2 44 V4 (.x 1 0)) (.set 6 (.ix V2 V5) (.set 7 (.md (.x 1 1) (.ln V6)) (.set 8 (.lst (.cons (.w "add") (.cons (.w "mul") (.cons (.w "max") (.cons (.w "min") (.cons (.w "and") (.cons (.w "or") (.cons (.w "xor") .nil)))))))) (.i (.eq V0 (.n 13)) (.fz 7 (.ret (.t2 (.tup (.cons (.w "fold") (.cons (.ix V8 (.md (.x 1 2) N7)) (.cons V5 (.cons V7 .nil))))) (.ad (.st V6 V7) (.sf V6 (.ad V7 N1)))))) (.i (.eq V0 (.n 14)) (.fz 7 (.ret (.t2 (.tup (.cons (.w "run") (.cons (.ix V8 (.md (.x 1 2) N7)) (.cons V5 (.cons V7 .nil))))) V6))) (.set 9 (.lst (.a1 .t0)) (.ite (.eq V0 N11) (.set 9 (.comp ["other"] ["own","side"] [6,7] [0] .seq (.a1 V2) (.c3 50 V1 V0 V2)) .nil) (.i (.gt (.x 6 0) N0) (.set 9 (.comp ["other"] ["own"] [6] [0] .seq (.a1 V2) (.ad V0 (.sf V1 N1))) .nil) .nil) (.set 10 (.compI ["k"] ["kind","made","own"] [0,9,6] [0] .rng (.a1 (.ln V9)) (.or (.and (.eq V1 (.n 12)) (.gt (.x 3 0) N0)) (.ne (.ix V2 V0) .t0)) V0) (.set 10 (.compI ["k"] ["most","made"] [3,9] [0] .seq (.a1 V10) (.and (.cmp .LtE (.ln (.ix V2 V0)) N6) (.cmp .LtE (.c1 42 (.ix V2 V0)) V1)) V0) (.i (.eq (.ln V10) N0) (.fz 7 (.ret (.t2 (.t3 (.w "flip") V5 V7) V6))) (.set 11 (.c2 44 V10 (.x 1 2)) (.i (.eq V0 N11) (.fz 7 (.ret (.t2 (.tup (.cons (.w "join") (.cons V5 (.cons V11 (.cons V7 .nil))))) (.ix V9 V11)))) (.ret (.t2 (.t3 (.w "fetch") V5 V11) (.ix V9 V11)))))))))))))))))
noncomputable def yf:PSp:=λ ts Q=>∃(cell mo:Int) (Ss:LL),ts=[.int cell,.lst (Ss.map tI),.int mo]/\Ss.length<=40/\(∀S∈Ss,aJ mo S)/\cv mo/\∀d S,OkS Ss S d->aJ mo S->Q (mdT d S)
noncomputable def Jl:Ct:=(.set 3 (.md (.ml V0 (.n 48271)) (.n 2147483647)) (.set 4 (.md V3 (.n 15)) (.set 5 (.lst (.a3 (.md (.dv V3 (.n 15)) (.n 120)) (.md (.dv V3 (.n 1800)) (.n 120)) (.dv V3 (.n 216000)))) (.r (.or (.eq (.ln V1) N0) (.lt V4 N3)) (.call 45 (.cons (.md V4 N3) (.cons V3 (.cons V0 (.cons V2 .nil))))) (.r (.lt V4 N6) (.c3 47 V4 V5 V1) (.r (.and (.gt V4 N10) (.gt (.b1 .max (.comp ["own"] [] [] [0] .seq (.a1 V1) (.ln V0))) N0)) (.call 51 (.cons V4 (.cons V5 (.cons V1 (.cons V2 .nil))))) (.set 6 (.c2 44 (.lrng false (.ln V1)) (.x 5 0)) (.ret (.call 49 (.cons (.b2 .min V4 (.sb N10 (.b1 .int (.gt V4 N10)))) (.cons V5 (.cons V6 (.cons (.ix V1 V6) (.cons V2 .nil))))))))))))))
noncomputable def yg:PSp:=λ ts Q=>∃(cs:LI) (mo:Int),ts=[lI cs,.int mo]/\cs.length<=40/\cv mo/\∀ds Ss os,hZ mo ds Ss os->ds.length<=cs.length+1->Q (.tup [.tup (ds.map stT),tI os,.lst (Ss.map tI)])
noncomputable def Jm:Ct:=(.set 2 .l0 (.set 3 .l0 (.for [4] .seq (.a1 V0) (.set 5 (.c3 52 V4 V3 V1) (.met .append 2 (.a1 (.x 5 0)) (.met .append 3 (.a1 (.x 5 1)) .nil))) (.i (.eq (.ln V2) N0) (.met .append 2 (.a1 (.t2 (.w "num") N0)) (.met .append 3 (.a1 .t0) .nil)) (.set 6 .l0 (.set 7 (.md (.ml (.b1 .sum V0) (.n 16807)) (.n 2147483647)) (.for [8] .rng (.a1 (.ix (.lst (.cons N1 (.cons N2 (.cons N3 (.cons N2 (.cons N1 (.cons N8 .nil))))))) (.md V7 N6))) (.set 7 (.md (.ad (.ml V7 (.n 48271)) N11) (.n 2147483647)) (.met .append 6 (.a1 (.md (.dv V7 (.n 16)) (.ln V2))) .nil)) (.put 6 (.md V7 (.ln V6)) (.sb (.ln V2) N1) (.fz 3 (.ret (.t3 (.b1 .tuple V2) (.b1 .tuple V6) V3)))))))))))
noncomputable def yh:PSp:=λ ts Q=>∃d:Stp,ts=[.str (gZ (kdN d))]/\Q (.lst ((rJ (kdN d)).map .int))
noncomputable def Jn:Ct:=(.r (.or (.es V0 "in") (.or (.es V0 "num") (.es V0 "count"))) .l0 (.r (.es V0 "pick") (.lst (.a3 N1 N2 N3)) (.r (.es V0 "pair") (.lst (.a2 N2 N3)) (.r (.or (.es V0 "each") (.or (.es V0 "fold") (.es V0 "run"))) (.lst (.a1 N2)) (.r (.or (.es V0 "join") (.es V0 "fetch")) (.lst (.a2 N1 N2)) (.ret (.lst (.a1 N1))))))))
noncomputable def yi:PSp:=λ ts Q=>∃(d:Stp) (wh:List TV) (f:Nat->Nat),ts=[stT d,.lst wh]/\(∀a∈aB d,wh[a]?=some (.int (f a:Nat)))/\Q (stT (bE f d))
noncomputable def Jo:Ct:=(.set 2 (.b1 .list V0) (.for [3] .seq (.a1 (.c1 54 (.x 0 0))) (.put 2 V3 (.ix V1 (.ix V0 V3)) .nil) (.ret (.b1 .tuple V2))))
noncomputable def yj:PSp:=λ ts Q=>∃(d:Stp) (S:LI) (n:Nat) (way other mo:Int) (Zs:LL),ts=[stT d,tI S,.int (n:Nat),.int way,.int other]/\cv mo/\aJ mo S/\Zs.length=n/\OkS Zs S d/\∀es,MoreOk mo (Zs++[S]) S es->Q (.lst (es.map λ e=>mdT e.1 e.2))
noncomputable def Jp:Ct:=(.r (.and (.eq V3 N1) (.ne (.x 0 0) (.w "in"))) (.lst (.a1 (.t2 V0 V1))) (.r (.eq V3 N2) (.lst (.a1 (.t2 (.t3 (.w "turn") V2 (.lrng true (.ln V1))) V1))) (.r (.eq V3 N3) (.lst (.a1 (.t2 (.t3 (.w "lay") V2 V1) V1))) (.r (.eq V3 N4) (.lst (.a2 (.t2 (.t3 (.w "each") (.w "neg") V2) V1) (.t2 (.t3 (.w "each") (.w "neg") V2) V1))) (.r (.or (.eq V1 .t0) (.or (.eq V3 N0) (.eq V3 N1))) .l0 (.set 5 (.md V4 (.ln V1)) (.i (.eq V3 N5) (.fz 5 (.ret (.lst (.a2 (.t2 (.t3 (.w "flip") V2 V5) V1) (.t2 (.t3 (.w "flip") (.ad V2 N1) V5) V1))))) (.i (.eq V3 N6) (.set 6 (.ml (.md (.dv V4 (.n 18)) N5) (.b1 .int (.eq (.ix V1 V5) N0))) (.fz 6 (.fz 5 (.ret (.lst (.a1 (.t2 (.tup (.cons (.w "cut") (.cons V2 (.cons V5 (.cons V6 (.cons (.ix V1 V5) (.cons (.ad N1 (.ml (.md (.dv V4 N6) N3) (.b1 .int (.lt (.ix V1 V5) N2)))) .nil))))))) V1))))))) (.fz 5 (.set 7 (.lst (.a2 (.t2 (.tup (.cons (.w "cut") (.cons V2 (.cons V5 (.cons N0 (.cons N0 (.cons N2 .nil))))))) (.ad (.ad (.st V1 V5) (.t1 N0)) (.sf V1 (.ad V5 N1)))) (.t2 (.tup (.cons (.w "join") (.cons (.ad V2 N1) (.cons V2 (.cons V5 .nil))))) V1))) (.i (.eq (.md (.dv V4 N6) N2) N0) (.put 7 N1 (.t2 (.tup (.cons (.w "join") (.cons V2 (.cons (.ad V2 N1) (.cons V5 .nil))))) V1) .nil) (.ret V7))))))))))))
noncomputable def yk:PSp:=λ ts Q=>∃(ds:List Stp) (Ss:LL) (os cs:LI) (mo:Int),ts=[.tup [.tup (ds.map stT),tI os,.lst (Ss.map tI)],lI cs]/\hZ mo ds Ss os/\ds.length<=13/\∀ds Ss os,hZ mo ds Ss os->Q (.tup [.tup (ds.map stT),tI os,.lst (Ss.map tI)])
noncomputable def Jq:Ct:=(.set 2 .l0 (.set 3 .l0 (.set 4 .l0 (.for [5] .rng (.a1 (.ln (.x 0 0))) (.set 6 (.c2 55 (.ix (.x 0 0) V5) V4) (.set 7 (.md (.ad (.ml (.b1 .sum (.sf V1 V5)) (.n 16807)) (.ml V5 V5)) (.n 2147483629)) (.set 8 (.ad (.lst (.a1 (.t2 V6 (.ix (.x 0 2) V5)))) (.call 56 (.cons V6 (.cons (.ix (.x 0 2) V5) (.cons (.ln V2) (.cons (.md (.dv V7 N5) N8) (.cons (.dv V7 (.n 40)) .nil))))))) (.for [9] .seq (.a1 V8) (.met .append 2 (.a1 (.x 9 0)) (.met .append 3 (.a1 (.x 9 1)) .nil)) (.set 10 (.sb (.ln V2) N1) (.i (.or (.eq (.md V7 N5) N0) (.and (.es (.ix (.ix V2 V10) N0) "each") (.eq (.ln V8) N3))) (.set 10 (.sb (.ln V2) (.ln V8)) .nil) (.met .append 4 (.a1 V10) .nil))))))) (.set 11 (.b1 .tuple (.comp ["out"] ["where"] [4] [0] .seq (.a1 (.x 0 1)) (.ix V1 V0))) (.fz 3 (.ret (.t3 (.b1 .tuple V2) V11 V3))))))))
noncomputable def ym:PSp:=λ ts Q=>∃(d:Stp) (S:LI) (Ss:LL),ts=[stT d,.lst (Ss.map tI)]/\OkS Ss S d/\(∀T∈Ss,fit T)/\Q (miT (ij Ss d))
noncomputable def Jr:Ct:=(.r (.cmp .NotIn (.x 0 0) (.tup (.cons (.w "turn") (.cons (.w "flip") (.cons (.w "cut") (.cons (.w "lay") (.cons (.w "join") .nil))))))) (.neg N1) (.set 2 (.ix V1 (.x 0 1)) (.r (.and (.es (.x 0 0) "join") (.eq (.ix V2 (.x 0 3)) N0)) (.x 0 2) (.set 3 (.and (.es (.x 0 0) "turn") (.eq (.b1 .list (.x 0 2)) (.b1 .sorted (.x 0 2)))) (.i (.or (.and (.es (.x 0 0) "flip") (.lt (.ix V2 (.x 0 2)) N2)) (.and (.es (.x 0 0) "cut") (.eq (.ix V2 (.x 0 2)) (.x 0 4)))) (.set 3 (.c (.bl true)) .nil) (.i (.or (.and (.es (.x 0 0) "lay") (.eq V2 (.x 0 2))) (.and (.es (.x 0 0) "join") (.eq (.ix (.ix V1 (.x 0 2)) (.x 0 3)) N0))) (.set 3 (.c (.bl true)) .nil) (.r V3 (.x 0 1) (.ret (.neg N1)))))))))
noncomputable def yn:PSp:=λ ts Q=>∃(d:Stp) (S:LI) (Ss:LL) (fs:List Stp) (g:Nat->Nat),ts=[.int (fs.length:Nat),.lst ((fs++[d]).map stT),.lst ((List.range fs.length).map λ k=>.int (g k:Nat)),.lst (Ss.map tI)]/\OkS Ss S d/\(∀T∈Ss,fit T)/\(∀a∈aB d,a<fs.length)/\fs.length<=40/\∀r,StR fs g Ss d r->Q (.int (r:Nat))
noncomputable def Js:Ct:=(.set 4 (.ix V1 V0) (.r (.es (.x 4 0) "in") V0 (.r (.ge (.c2 58 V4 V3) N0) (.c2 58 V4 V3) (.r (.and (.es (.x 4 0) "flip") (.and (.es (.ix (.ix V1 (.x 4 1)) N0) "flip") (.eq (.ix (.ix V1 (.x 4 1)) N2) (.x 4 2)))) (.ix (.ix V1 (.x 4 1)) N1) (.ret (.b1 .min (.compI ["j"] ["k","form","stands","forms"] [0,4,2,1] [0] .rng (.a1 (.ad V0 N1)) (.or (.eq V0 V1) (.and (.eq (.ix V3 V0) V0) (.eq (.ix V4 V0) V2))) V0)))))))
noncomputable def yp:PSp:=λ ts Q=>∃(ds:List Stp) (Ss:LL) (os:LI) (mo:Int),ts=[.tup (ds.map stT),tI os,.lst (Ss.map tI)]/\hZ mo ds Ss os/\∀fs gs,gB ds Ss ds.length fs gs->Q (thT ds os fs gs)
noncomputable def Ju:Ct:=(.set 3 .l0 (.set 4 .l0 (.for [5] .rng (.a1 (.ln V0)) (.met .append 3 (.a1 (.c2 55 (.ix V0 V5) V4)) (.met .append 4 (.a1 (.call 59 (.cons V5 (.cons V3 (.cons V4 (.cons V2 .nil)))))) .nil)) (.set 6 (.ad (.compI ["k"] ["steps"] [0] [0] .rng (.a1 (.ln V0)) (.es (.ix (.ix V1 V0) N0) "in") V0) (.comp ["k"] ["stands"] [4] [0] .seq (.a1 V1) (.ix V1 V0))) (.for [5] .rng3 (.a3 (.sb (.ln V0) N1) (.neg N1) (.neg N1)) (.i (.cmp .In V5 V6) (.set 6 (.ad V6 (.comp ["spot"] ["forms","k"] [3,5] [0] .seq (.a1 (.c1 54 (.ix (.ix V3 V5) N0))) (.ix (.ix V1 V2) V0))) .nil) .nil) (.set 7 (.ss V6) (.set 8 (.ml (.lst (.a1 (.c .non))) (.ln V0)) (.for [5] .rng (.a1 (.ln V7)) (.put 8 (.ix V7 V5) V5 .nil) (.set 9 (.b1 .tuple (.comp ["k"] ["where","forms"] [8,3] [0] .seq (.a1 V7) (.c2 55 (.ix V2 V0) V1))) (.ret (.t2 (.t2 V9 (.b1 .tuple (.comp ["k"] ["where","stands"] [8,4] [0] .seq (.a1 V1) (.ix V1 (.ix V2 V0))))) (.b1 .tuple (.comp ["k"] ["where"] [8] [0] .seq (.a1 V4) (.ix V1 V0))))))))))))))
noncomputable def yq:Nat->PSp:=λ d ts Q=>∃t,ts=[t,t]/\alk d t/\Q (.bl true)
def Jv:PSp:=yq 8
noncomputable def Jw:Ct:=(.i (.isi .isT V1) (.r (.or (.not (.isi .isT V0)) (.ne (.ln V0) (.ln V1))) (.c (.bl false)) (.for [2] .rng (.a1 (.ln V1)) (.r (.not (.c2 0 (.ix V0 V2) (.ix V1 V2))) (.c (.bl false)) .nil) (.ret (.c (.bl true))))) (.r (.cmp .Is V1 (.c .non)) (.cmp .Is V0 (.c .non)) (.r (.isi .isS V1) (.and (.isi .isS V0) (.eq V0 V1)) (.ret (.and (.isi .isI V0) (.and (.not (.isi .isB V0)) (.eq V0 V1)))))))
def yr:PSp:=qU
noncomputable def Jx:Ct:=(.set 1 (.c2 57 (.c2 53 (.st V0 (.n 12)) (.n 12)) V0) (.ret (.c2 61 (.c1 40 (.t2 (.x 1 0) (.x 1 1))) (.c3 60 (.x 1 0) (.x 1 1) (.x 1 2)))))
noncomputable def DL:List DR:=[dr "wrapped" ["n"] zp0,dr "sign_of" ["x"] zp1,dr "quotient" ["x","y"] zp2,dr "remainder" ["x","y"] zp3,dr "once" ["word","x"] zp4,dr "twice" ["word","x","y"] zp5,dr "neutral" ["word"] zp6,dr "arg_places" ["form"] zp7,dr "args_of" ["step"] zp8,dr "with_args" ["step","numbers"] zp9,dr "reached_from" ["steps","ends"] xf,dr "amount" ["sides"] xg,dr "breadth" ["sides"] xh,dr "allowed" ["sides"] xi,dr "changed_at" ["row","k","number"] xj,dr "added_at" ["row","k","number"] xk,dr "dropped_at" ["row","k"] xn,dr "ask_side" ["sides","side"] xp,dr "turned_sides" ["sides","order"] xq,dr "flipped_sides" ["sides","side"] xr,dr "cut_sides" ["sides","side","first","many","step"] xt,dr "spread_sides" ["sides","side","many"] xv,dr "laid_sides" ["sides","others"] xw,dr "joined_sides" ["sides","others","side"] xx,dr "led_sides" ["sides","others"] xz,dr "paired_sides" ["sides","others"] xA,dr "picked_sides" ["marks","sides","others"] xB,dr "fetched_sides" ["sides","others"] xC,dr "folded_sides" ["sides","side"] xD,dr "counted_sides" ["sides","side"] xE,dr "ask_word" ["step"] xF,dr "first_sides" ["step"] xG,dr "moved_sides" ["step","sides"] xH,dr "step_sides" ["step","sides"] xI,dr "step_told" ["step","sides"] xJ,dr "program_told" ["program"] xK,dr "checked" ["program"] xL,dr "still_for" ["step","sides"] xM,dr "unflipped" ["step","forms"] xN,dr "standing_for" ["step","forms","stands","sides"] xO,dr "thinned" ["program"] xP,dr "_law_size" ["sides"] xQ,dr "_law_wide" ["sides"] xR,dr "_law_number" ["n"] xS,dr "_law_recent" ["pool","d"] xT,dr "_law_begun" ["kind","n","cell","most"] xU,dr "_law_led" ["one","other"] xV,dr "_law_lifted" ["kind","d","sides"] xW,dr "_law_laid" ["own","d"] xX,dr "_law_moved" ["kind","d","a","own","most"] xY,dr "_law_both" ["own","other","side"] xZ,dr "_law_met" ["kind","d","sides","most"] ye,dr "_law_step" ["cell","sides","most"] yf,dr "_law_program" ["cells","most"] yg,dr "_law_spots" ["kind"] yh,dr "_law_with" ["step","where"] yi,dr "_law_more" ["step","own","at","way","other"] yj,dr "_law_thick" ["made","cells"] yk,dr "_law_still" ["form","sides"] ym,dr "_law_stand" ["k","forms","stands","sides"] yn,dr "_law_due" ["steps","outs","sides"] yp,dr "_law_alike" ["found","due"] Jv,dr "law" ["script"] yr]
noncomputable def gs:List Str:=["LOW","HIGH","MOST_SIDES","MOST_BREADTH","MOST_STEPS","MOST_OUTS","PARTS"]
noncomputable def GT:List TV:=[.int (-9223372036854775808),.int 9223372036854775807,.int 6,.int 512,.int 40,.int 8,.bor [.tup [.str "in",.tup [.tup [.str "sides",.int 1]]],.tup [.str "num",.tup [.tup [.str "number",.int 1]]],.tup [.str "count",.tup [.tup [.str "small",.int 2],.tup [.str "sides",.int 1]]],.tup [.str "each",.tup [.tup [.str "word",.int 1],.tup [.str "step",.int 2]]],.tup [.str "pair",.tup [.tup [.str "word",.int 1],.tup [.str "step",.int 2],.tup [.str "step",.int 3]]],.tup [.str "pick",.tup [.tup [.str "step",.int 1],.tup [.str "step",.int 2],.tup [.str "step",.int 3]]],.tup [.str "turn",.tup [.tup [.str "step",.int 1],.tup [.str "sides",.int 2]]],.tup [.str "flip",.tup [.tup [.str "step",.int 1],.tup [.str "small",.int 2]]],.tup [.str "cut",.tup [.tup [.str "step",.int 1],.tup [.str "small",.int 2],.tup [.str "small",.int 3],.tup [.str "small",.int 4],.tup [.str "small",.int 5]]],.tup [.str "spread",.tup [.tup [.str "step",.int 1],.tup [.str "small",.int 2],.tup [.str "small",.int 3]]],.tup [.str "lay",.tup [.tup [.str "step",.int 1],.tup [.str "sides",.int 2]]],.tup [.str "join",.tup [.tup [.str "step",.int 1],.tup [.str "step",.int 2],.tup [.str "small",.int 3]]],.tup [.str "fetch",.tup [.tup [.str "step",.int 1],.tup [.str "step",.int 2]]],.tup [.str "fold",.tup [.tup [.str "word",.int 1],.tup [.str "step",.int 2],.tup [.str "small",.int 3]]],.tup [.str "run",.tup [.tup [.str "word",.int 1],.tup [.str "step",.int 2],.tup [.str "small",.int 3]]]]]
noncomputable abbrev ZX(j i:Nat)(N:List Str)(n p:Nat)(S:PSp)(c:Ct):Prop:=ZX' DL GT gs j (top i) N n p S c
noncomputable abbrev ZC(i:Nat)(x:Str)(N:List Str)(n p:Nat)(SS:Nat->PSp)(c:Ct):Prop:=ZC' GT gs x (top i) N n p SS c
def zw0:ZX 0 11 ["n"] 1 1 zp0 zc0:=by
 refine⟨by kernel_rfl,?_⟩;rintro ts Q ⟨n,rfl,q⟩;refine⟨O,?_⟩;exact⟨p64,on,O,q⟩
def zw1:ZX 1 12 ["x"] 1 1 zp1 zc1:=by
 refine⟨by kernel_rfl,?_⟩;rintro ts Q ⟨n,rfl,q⟩;refine⟨O,?_⟩;exact s3 (λ h=>⟨O,by rw[if_pos h] at q;exact q⟩) (λ h=>s3 (λ h2=>⟨O,by rw[if_neg h,if_pos h2] at q;exact q⟩) (λ h2=>⟨O,by rw[if_neg h,if_neg h2] at q;exact q⟩))
def zw2:ZX 2 13 ["x","y"] 2 2 zp2 zc2:=by
 refine⟨by kernel_rfl,?_⟩;rintro ts Q ⟨x,y,rfl,hx,hy,q⟩;refine⟨O,?_⟩;unfold inB at hx hy;unfold re at q;exact⟨rm,sN (λ h=>⟨O,by rw[if_pos h] at q;exact q⟩) (λ h=>⟨⟨h,fu,fu⟩,cl rfl ⟨_,O,O,by rw[if_neg h] at q;rw[wx];exact q⟩ rfl⟩)⟩
def zw3:ZX 3 14 ["x","y"] 2 2 zp3 zc3:=by
 refine⟨by kernel_rfl,?_⟩;rintro ts Q ⟨x,y,rfl,q⟩;refine⟨O,?_⟩;unfold rf at q;exact⟨rm,sN (λ h=>⟨O,by rw[if_pos h] at q;exact q⟩) (λ h=>⟨h,O,by rw[if_neg h,<- HH] at q;exact q⟩)⟩
def zw4:ZX 4 15 ["word","x"] 2 2 zp4 zc4:=by
 refine⟨by kernel_rfl,?_⟩;rintro ts Q ⟨wd,x,rfl,hw,q⟩;refine⟨O,?_⟩;unfold vV vU at q;refine⟨rm,sE (λ c=>?_) (λ c0=>?_)⟩
 ·rw[if_pos c] at q;exact cl rfl ⟨_,rfl,rfl,q⟩ rfl
 rw[if_neg c0] at q;refine⟨rm,sE (λ c=>?_) (λ c1=>?_)⟩
 ·rw[if_pos c] at q;exact cl rfl ⟨_,rfl,rfl,q⟩ rfl
 rw[if_neg c1] at q;refine⟨rm,sE (λ c=>?_) (λ c2=>?_)⟩
 ·rw[if_pos c] at q;exact cl rfl ⟨_,rfl,rfl,q⟩ rfl
 rw[if_neg c2] at q;refine⟨rm,sE (λ c=>?_) (λ c3=>?_)⟩
 ·exact⟨rm,sN (λ h=>⟨O,by rw[if_pos h] at q;exact q⟩) (λ h=>⟨O,by rw[if_neg h] at q;exact q⟩)⟩
 simp only[lu,aG,aU,aY] at hw;exact absurd hw (by simp only[c0,c1,c2,c3,or_self,not_false_eq_true])
def zw5:ZX 5 16 ["word","x","y"] 3 3 zp5 zc5:=by
 refine⟨by kernel_rfl,?_⟩;rintro ts Q ⟨wd,x,y,rfl,hx,hy,hw,q⟩;refine⟨O,?_⟩;unfold vT at q;have hx':=hx;unfold inB at hx';refine⟨rm,sE (λ c=>?_) (λ c0=>?_)⟩
 ·rw[if_pos c] at q;exact cl rfl ⟨_,rfl,rfl,q⟩ rfl
 rw[if_neg c0] at q;refine⟨rm,sE (λ c=>?_) (λ c1=>?_)⟩
 ·rw[if_pos c] at q;exact cl rfl ⟨_,rfl,rfl,q⟩ rfl
 rw[if_neg c1] at q;refine⟨rm,sE (λ c=>?_) (λ c2=>?_)⟩
 ·rw[if_pos c] at q;exact⟨wv fu fu,cl rfl ⟨_,rfl,rfl,q⟩ rfl⟩
 rw[if_neg c2] at q;refine⟨rm,sE (λ c=>?_) (λ c3=>?_)⟩
 ·rw[if_pos c] at q;exact cl rfl ⟨x,y,rfl,hx,hy,rfl,q⟩ rfl
 rw[if_neg c3] at q;refine⟨rm,sE (λ c=>?_) (λ c4=>?_)⟩
 ·rw[if_pos c] at q;exact cl rfl ⟨x,y,rfl,rfl,q⟩ rfl
 rw[if_neg c4] at q;refine⟨rm,sE (λ c=>?_) (λ c5=>?_)⟩
 ·rw[if_pos c] at q;exact⟨rfl,q⟩
 rw[if_neg c5] at q;refine⟨rm,sE (λ c=>?_) (λ c6=>?_)⟩
 ·rw[if_pos c] at q;exact⟨rfl,q⟩
 rw[if_neg c6] at q;refine⟨rm,sE (λ c=>?_) (λ c7=>?_)⟩
 ·rw[if_pos c] at q;exact s3 (λ h=>⟨rfl,by rw[if_pos h] at q;exact q⟩) (λ h=>⟨rfl,by rw[if_neg h] at q;exact q⟩)
 rw[if_neg c7] at q;refine⟨rm,sE (λ c=>?_) (λ c8=>?_)⟩
 ·rw[if_pos c] at q;exact⟨trivial,sN (λ h=>⟨rfl,by rw[if_pos h] at q;exact q⟩) (λ h=>⟨rfl,by rw[if_neg h] at q;exact q⟩)⟩
 rw[if_neg c8] at q;refine⟨rm,sE (λ c=>?_) (λ c9=>?_)⟩
 ·rw[if_pos c] at q;exact⟨rfl,q⟩
 rw[if_neg c9] at q;refine⟨rm,sE (λ c=>?_) (λ c10=>?_)⟩
 ·rw[if_pos c] at q;exact⟨rfl,q⟩
 rw[if_neg c10] at q;refine⟨rm,sE (λ c=>?_) (λ c11=>?_)⟩
 ·exact⟨O,q⟩
 simp only[lw,aG,aU,aY] at hw;exact absurd hw (by simp only[c0,c1,c2,c3,c4,c5,c6,c7,c8,c9,c10,c11,or_self,not_false_eq_true])
def zw6:ZX 6 17 ["word"] 1 1 zp6 zc6:=by
 refine⟨by kernel_rfl,?_⟩;rintro ts Q ⟨wd,rfl,hw,q⟩;refine⟨O,?_⟩;have fl:∀x∈[TV.str "add",TV.str "or",TV.str "xor"],flT x=true:=on;unfold isF at hw;simp only[fw,aG,aU,aY] at hw;refine⟨O,g3L,O,fl,s2 (λ h=>⟨O,?_⟩) (λ h=>⟨rm,sE (λ c=>⟨O,?_⟩) (λ c0=>⟨rm,sE (λ c=>⟨O,?_⟩) (λ c1=>⟨rm,sE (λ c=>⟨O,?_⟩) (λ c2=>⟨rm,sE (λ c=>⟨O,?_⟩) (λ c3=>?_)⟩)⟩)⟩)⟩)⟩
 ·have h:(decide (Str.ofString "add"=wd) || (decide (Str.ofString "or"=wd) || (decide (Str.ofString "xor"=wd) || false)))=true:=h;simp only[iO,gY,mI,aY] at h
  rcases h with rfl|rfl|rfl
  ·rw[GR] at q;exact q
  ·rw[GX] at q;exact q
  ·rw[GY] at q;exact q
 ·subst c;rw[GS] at q;exact q
 ·subst c;rw[GU] at q;exact q
 ·subst c;rw[GV] at q;exact q
 ·subst c;rw[GW] at q;exact q
 ·have h:(decide (Str.ofString "add"=wd) || (decide (Str.ofString "or"=wd) || (decide (Str.ofString "xor"=wd) || false)))=false:=h;simp only[Bool.or_eq_false_iff,vv,and_true] at h
  rcases hw with z|z|z|z|z|z|z
  ·exact absurd z.symm h.1
  ·exact absurd z c0
  ·exact absurd z c1
  ·exact absurd z c2
  ·exact absurd z c3
  ·exact absurd z.symm h.2.1
  ·exact absurd z.symm h.2.2
def zw7:ZX 7 22 ["form"] 1 1 zp7 zc7:=by
 refine⟨by kernel_rfl,?_⟩;rintro ts Q ⟨i,hi,rfl,q⟩;refine⟨O,?_⟩;have sl:∀n:Nat,n<=9->n<sizeLine:=λ n h=>aR fu
 match i,hi with
 |0,_=>exact⟨_,rfl,sl 1 on,trivial,rfl,q⟩
 |1,_=>exact⟨_,rfl,sl 1 on,trivial,rfl,q⟩
 |2,_=>exact⟨_,rfl,sl 2 on,trivial,trivial,rfl,q⟩
 |3,_=>exact⟨_,rfl,sl 2 on,trivial,trivial,rfl,rfl,q⟩
 |4,_=>exact⟨_,rfl,sl 3 on,trivial,trivial,rfl,trivial,rfl,rfl,q⟩
 |5,_=>exact⟨_,rfl,sl 3 on,trivial,rfl,trivial,rfl,trivial,rfl,rfl,q⟩
 |6,_=>exact⟨_,rfl,sl 2 on,trivial,rfl,trivial,rfl,q⟩
 |7,_=>exact⟨_,rfl,sl 2 on,trivial,rfl,trivial,rfl,q⟩
 |8,_=>exact⟨_,rfl,sl 5 on,trivial,rfl,trivial,trivial,trivial,trivial,rfl,q⟩
 |9,_=>exact⟨_,rfl,sl 3 on,trivial,rfl,trivial,trivial,rfl,q⟩
 |10,_=>exact⟨_,rfl,sl 2 on,trivial,rfl,trivial,rfl,q⟩
 |11,_=>exact⟨_,rfl,sl 3 on,trivial,rfl,trivial,rfl,trivial,rfl,q⟩
 |12,_=>exact⟨_,rfl,sl 2 on,trivial,rfl,trivial,rfl,rfl,q⟩
 |13,_=>exact⟨_,rfl,sl 3 on,trivial,trivial,rfl,trivial,rfl,q⟩
 |14,_=>exact⟨_,rfl,sl 3 on,trivial,trivial,rfl,trivial,rfl,q⟩
 |i+15,h=>lia
def zw8:ZX 8 23 ["step"] 1 1 zp8 zc8:=by
 refine⟨by kernel_rfl,?_⟩;rintro ts Q ⟨d,rfl,q⟩;refine⟨O,?_⟩;have sl:∀n:Nat,n<=3->n<sizeLine:=λ n h=>aR fu;have k15:kdN d<15:=by cases d<;>exact bN rfl
 refine⟨_,fU d,cl rfl ⟨kdN d,k15,O,?_⟩ rfl⟩;rw[wy _ k15]
 cases d<;>first|exact⟨sl 0 on,rfl,q⟩|exact⟨sl 1 on,_,rfl,rfl,rfl,q⟩|exact⟨sl 2 on,_,rfl,rfl,_,rfl,rfl,rfl,q⟩|exact⟨sl 3 on,_,rfl,rfl,_,rfl,rfl,_,rfl,rfl,rfl,q⟩
def zw9:ZX 9 24 ["step","numbers","parts","place","number"] 5 2 zp9 zc9:=by
 refine⟨by kernel_rfl,?_⟩;rintro ts Q ⟨d,f,rfl,q⟩;refine⟨O,?_⟩;have k15:kdN d<15:=by cases d<;>exact bN rfl
 refine⟨O,_,fU d,cl rfl ⟨kdN d,k15,O,?_⟩ rfl⟩;rw[wy _ k15]
 cases d with
 |inp=>exact⟨rfl,rfl,q⟩
 |num=>exact⟨rfl,rfl,q⟩
 |count=>exact⟨rfl,rfl,q⟩
 |each=>refine⟨rfl,rfl,2,rfl,?_⟩;refine⟨rfl,?_⟩;exact q
 |turn=>refine⟨rfl,rfl,1,rfl,?_⟩;refine⟨rfl,?_⟩;exact q
 |flip=>refine⟨rfl,rfl,1,rfl,?_⟩;refine⟨rfl,?_⟩;exact q
 |cut=>refine⟨rfl,rfl,1,rfl,?_⟩;refine⟨rfl,?_⟩;exact q
 |spread=>refine⟨rfl,rfl,1,rfl,?_⟩;refine⟨rfl,?_⟩;exact q
 |lay=>refine⟨rfl,rfl,1,rfl,?_⟩;refine⟨rfl,?_⟩;exact q
 |fold=>refine⟨rfl,rfl,2,rfl,?_⟩;refine⟨rfl,?_⟩;exact q
 |run=>refine⟨rfl,rfl,2,rfl,?_⟩;refine⟨rfl,?_⟩;exact q
 |pair w a b=>
  refine⟨O,O,2,O,?_⟩;show wS _ _ .nil [some (stT (.pair w a b)),some (tI [((f a:Nat):Int),((f b:Nat):Int)]),some (.own [.str "pair",.str w,.int ((f a:Nat):Int),.int b]),some (.int 2),some (.int ((f a:Nat):Int))] _ _;unfold wS;refine⟨O,3,O,?_⟩;exact⟨O,q⟩
 |join a b s=>
  refine⟨O,O,1,O,?_⟩;show wS _ _ .nil [some (stT (.join a b s)),some (tI [((f a:Nat):Int),((f b:Nat):Int)]),some (.own [.str "join",.int ((f a:Nat):Int),.int b,.int s]),some (.int 1),some (.int ((f a:Nat):Int))] _ _;unfold wS;refine⟨O,2,O,?_⟩;exact⟨O,q⟩
 |fetch a b=>
  refine⟨O,O,1,O,?_⟩;show wS _ _ .nil [some (stT (.fetch a b)),some (tI [((f a:Nat):Int),((f b:Nat):Int)]),some (.own [.str "fetch",.int ((f a:Nat):Int),.int b]),some (.int 1),some (.int ((f a:Nat):Int))] _ _;unfold wS;refine⟨O,2,O,?_⟩;exact⟨O,q⟩
 |pick a b c=>
  refine⟨O,O,1,O,?_⟩;show wS _ _ .nil [some (stT (.pick a b c)),some (tI [((f a:Nat):Int),((f b:Nat):Int),((f c:Nat):Int)]),some (.own [.str "pick",.int ((f a:Nat):Int),.int b,.int c]),some (.int 1),some (.int ((f a:Nat):Int))] _ _;unfold wS;refine⟨O,2,O,?_⟩;show wS _ _ .nil [some (stT (.pick a b c)),some (tI [((f a:Nat):Int),((f b:Nat):Int),((f c:Nat):Int)]),some (.own [.str "pick",.int ((f a:Nat):Int),.int ((f b:Nat):Int),.int c]),some (.int 2),some (.int ((f b:Nat):Int))] _ _;unfold wS;refine⟨O,3,O,?_⟩;exact⟨O,q⟩
def Jy:ZX 10 25 ["steps","ends","reached","end","k","number"] 6 2 xf Iq:=by
 refine⟨by kernel_rfl,?_⟩;rintro ts Q ⟨t,ds,es,rfl,rfl,l40,he,ha,q⟩;refine⟨O,?_⟩;have e0:ds.map (λ _=>TV.bl false)=(bQ ds.length (es.take 0)).map .bl:=by unfold bQ;rw[List.take_zero,List.foldl_nil,List.map_replicate,List.map_const']
 refine⟨by rw[ah];exact aR fu,dF stT (λ _=>.bl false) ds (λ d _=>⟨O,O⟩) ⟨O,O,bY (λ i ρ=>∃y,ρ=[some (.lst (ds.map stT)),some (lI es),some (.own ((bQ ds.length (es.take i)).map .bl)),y,none,none]) ⟨_,by rw[<- e0];rfl⟩ (λ i u ρ hu h=>?_) (λ ρ h=>?_)⟩⟩
 ·obtain⟨y,rfl⟩:=h;obtain⟨e,rfl,hn⟩:=iT hu;have b:=he e (bg hn);obtain⟨k,rfl⟩:∃k:Nat,e=k:=⟨e.toNat,fu⟩;exact⟨O,k,nL (by rw[ah,ka];lia),_,by rw[HQ hn,s1q];rfl⟩
 ·obtain⟨y,rfl⟩:=h;rw[ah,dh];obtain⟨r1,r2⟩:=wF l40;have lm:(((ds.map stT).length:Nat):Int)=ds.length:=by rw[ah]
  refine⟨O,⟨on,on,by rw[lm];exact r1⟩,bY (λ i ρ=>∃y4 y5,ρ=[some (.lst (ds.map stT)),some (lI es),some (.own ((bM ds ds.length i (bQ ds.length es)).map .bl)),y,y4,y5]) ⟨_,_,O⟩ (λ i u ρ hu h=>?_) (λ ρ h=>?_)⟩
  ·obtain⟨y4,y5,rfl⟩:=h;rw[lm,r2] at hu;obtain⟨il,rfl⟩:=gu hu;have il:i<ds.length:=fu;obtain⟨k,ek⟩:∃k:Nat,(ds.length:Int)-1+(i:Int)*(-1)=k:=⟨ds.length-1-i,fu⟩;have kk:ds.length-1-i=k:=fu;have kl:k<ds.length:=fu;rw[ek];have lR:(bM ds ds.length i (bQ ds.length es)).length=ds.length:=by rw[oh,ka]
   have st:bM ds ds.length (i+1) (bQ ds.length es)=gA ds k (bM ds ds.length i (bQ ds.length es)):=by rw[bM,kk]
   rw[st];generalize bM ds ds.length i (bQ ds.length es)=R at *;refine⟨_,atB fu,s2 (λ h=>?_) (λ h=>⟨_,_,by unfold gA;rw[if_neg (by rw[h];decide)];rfl⟩)⟩;have ed:=cN kl;have rs:gA ds k R=(aB (ds.getD k (.num 0))).foldl (λ R a=>R.set a true) R:=by unfold gA;rw[if_pos h]
   rw[rs];have hd:=ha _ (bg ed);generalize ds.getD k (.num 0)=d at ed hd;refine⟨stT d,aE ed,cl rfl ⟨d,O,O,bY (λ j ρ=>∃y5,ρ=[some (.lst (ds.map stT)),some (lI es),some (.own ((((aB d).take j).foldl (λ R a=>R.set a true) R).map .bl)),y,some (.int k),y5]) ⟨_,O⟩ (λ j u ρ hu h=>?_) (λ ρ h=>?_)⟩ rfl⟩
   ·obtain⟨y5,rfl⟩:=h;obtain⟨n,rfl,hn⟩:=iT hu;rw[aX] at hn
    cases ea:(aB d)[j]? with
    |none=>rw[ea] at hn;cases hn
    |some a=>
     rw[ea] at hn;cases hn;have al:=hd a (bg ea);exact⟨O,a,nL (by rw[ah,wD];lia),_,by rw[gh,ea,nK];show _=[_,_,some (TV.own (List.map TV.bl ((((aB d).take j).foldl (λ R a=>R.set a true) R).set a true))),_,_,_];rw[s1q];rfl⟩
   ·obtain⟨y5,rfl⟩:=h;rw[ah,ah,dh];exact⟨_,_,O⟩
  ·obtain⟨y4,y5,rfl⟩:=h;have ll:((List.range (Builtin.Range.rangeSize ((((ds.map stT).length:Nat):Int)-1) (-1) (-1)).toNat).map λ k:Nat=>TV.int ((((ds.map stT).length:Nat):Int)-1+(k:Int) * -1)).length=ds.length:=by rw[ah,bA,lm,r2];lia
   rw[ll];have lR:(bM ds ds.length ds.length (bQ ds.length es)).length=ds.length:=by rw[oh,ka]
   refine⟨⟨fu,by rw[ah];lia⟩,by rw[ah,bA,ah];exact aR fu,eZ (λ k:Nat=>.int (k:Nat)) (λ k:Nat=>.int (k:Nat)) (λ k=>(bM ds ds.length ds.length (bQ ds.length es)).getD k false) (List.range ds.length) (by rw[ah];rfl) (λ k hk=>⟨_,atB (by rw[lR];exact cW.mp hk),O,λ _=>⟨O,O⟩⟩) ⟨O,q⟩⟩
def Jz:ZX 11 29 ["sides","product","side"] 3 1 xg Ir:=by
 refine⟨by kernel_rfl,?_⟩;rintro ts Q ⟨t,rfl,ns,ht,sd,q⟩;refine⟨O,?_⟩
 rcases ht with rfl|rfl
 ·refine⟨O,O,bY (λ i ρ=>∃y,ρ=[some (tI ns),some (.int (ak (ns.take i))),y]) ⟨_,O⟩ (λ i u ρ hu ⟨y,e⟩=>?_) (λ ρ ⟨y,e⟩=>?_)⟩
  ·subst e;obtain⟨n,rfl,hn⟩:=iT hu;have b:=sd n (bg hn);exact⟨eY fu fu,O,some (.int n),by rw[nJ hn];rfl⟩
  ·subst e;rw[au,dh];exact⟨O,q⟩
 ·refine⟨O,O,bY (λ i ρ=>∃y,ρ=[some (lI ns),some (.int (ak (ns.take i))),y]) ⟨_,O⟩ (λ i u ρ hu ⟨y,e⟩=>?_) (λ ρ ⟨y,e⟩=>?_)⟩
  ·subst e;obtain⟨n,rfl,hn⟩:=iT hu;have b:=sd n (bg hn);exact⟨eY fu fu,O,some (.int n),by rw[nJ hn];rfl⟩
  ·subst e;rw[au,dh];exact⟨O,q⟩
def JA:ZX 12 30 ["sides"] 1 1 xh Iu:=by
 refine⟨by kernel_rfl,?_⟩;rintro ts Q ⟨ns,rfl,sd,l,q⟩;refine⟨O,?_⟩;refine⟨by rw[au];exact aR fu,dF .int (λ n=>.int (aq n)) ns (λ n _=>?_) (cl rfl ⟨_,O,ns.map aq,.inr (by unfold lI;rw[aV];rfl),vQ sd,O,q⟩ rfl)⟩;refine⟨rm,s2 (λ h=>⟨O,?_⟩) (λ h=>⟨O,?_⟩)⟩
 ·rw[HF h];rfl
 ·rw[HG h];rfl
def JB:ZX 13 31 ["sides"] 1 1 xi Iv:=by
 refine⟨by kernel_rfl,?_⟩;rintro ts Q ⟨ns,rfl,sd,l,nb,q⟩;refine⟨O,?_⟩;unfold bP at nb;exact sF (aP (show ¬((6:Int)<((ns.map TV.int).length:Nat)) by rw[au];lia)) (cl rfl ⟨ns,O,sd,l,sF (aP (show ¬((512:Int)<ak (ns.map aq)) by lia)) ⟨O,q⟩⟩ rfl)
def JC:ZX 14 32 ["row","k","number"] 3 3 xj Iw:=by
 refine⟨by kernel_rfl,?_⟩;rintro ts Q ⟨ns,k,m,rfl,l,kl,q⟩;refine⟨O,?_⟩;have e1:=eJ ns k;have e2:ao (ns.map TV.int) (some ((k:Int)+1)) none=(ns.drop (k+1)).map TV.int:=by rw[show(k:Int)+1=((k+1:Nat):Int) by lia];exact fb ns (k+1)
 have e3:(ao (ns.map TV.int) none (some (k:Int))++[TV.int m])++ao (ns.map TV.int) (some ((k:Int)+1)) none=(ns.set k m).map TV.int:=by rw[e1,e2,nO,if_pos kl];simp
 have l1:(ao (ns.map TV.int) none (some (k:Int))).length<=63:=by rw[e1,au,be];lia
 have l2:(ao (ns.map TV.int) (some ((k:Int)+1)) none).length<=63:=by rw[e2,au,eh];lia
 unfold tI at q;rw[<- e3] at q;exact⟨O,g1L,bn (show(ao (ns.map TV.int) none (some (k:Int))).length+1<=1000 by lia),bn (show(ao (ns.map TV.int) none (some (k:Int))++[TV.int m]).length+(ao (ns.map TV.int) (some ((k:Int)+1)) none).length<=1000 by rw[aQ,fF];lia),O,q⟩
def JD:ZX 15 33 ["row","k","number"] 3 3 xk Ix:=by
 refine⟨by kernel_rfl,?_⟩;rintro ts Q ⟨ns,k,m,rfl,l,q⟩;refine⟨O,?_⟩;have e1:=eJ ns k;have e2:=fb ns k;have e3:(ao (ns.map TV.int) none (some (k:Int))++[TV.int m])++ao (ns.map TV.int) (some (k:Int)) none=(cU ns k m).map TV.int:=by rw[e1,e2];unfold cU;simp
 have l1:(ao (ns.map TV.int) none (some (k:Int))).length<=63:=by rw[e1,au,be];lia
 have l2:(ao (ns.map TV.int) (some (k:Int)) none).length<=63:=by rw[e2,au,eh];lia
 unfold tI at q;rw[<- e3] at q;exact⟨O,g1L,bn (show(ao (ns.map TV.int) none (some (k:Int))).length+1<=1000 by lia),bn (show(ao (ns.map TV.int) none (some (k:Int))++[TV.int m]).length+(ao (ns.map TV.int) (some (k:Int)) none).length<=1000 by rw[aQ,fF];lia),O,q⟩
def JE:ZX 16 34 ["row","k"] 2 2 xn Iy:=by
 refine⟨by kernel_rfl,?_⟩;rintro ts Q ⟨ns,k,rfl,l,kl,q⟩;refine⟨O,?_⟩;have e1:=eJ ns k;have e2:ao (ns.map TV.int) (some ((k:Int)+1)) none=(ns.drop (k+1)).map TV.int:=by rw[show(k:Int)+1=((k+1:Nat):Int) by lia];exact fb ns (k+1)
 have e3:ao (ns.map TV.int) none (some (k:Int))++ao (ns.map TV.int) (some ((k:Int)+1)) none=(ns.eraseIdx k).map TV.int:=by rw[e1,e2,gK,bD]
 have l1:(ao (ns.map TV.int) none (some (k:Int))).length<=63:=by rw[e1,au,be];lia
 have l2:(ao (ns.map TV.int) (some ((k:Int)+1)) none).length<=63:=by rw[e2,au,eh];lia
 unfold tI at q;rw[<- e3] at q;exact⟨bn (show(ao (ns.map TV.int) none (some (k:Int))).length+(ao (ns.map TV.int) (some ((k:Int)+1)) none).length<=1000 by lia),O,q⟩
def JF:ZX 17 36 ["sides","side"] 2 2 xp Iz:=by
 refine⟨by kernel_rfl,?_⟩;rintro ts Q ⟨ns,side,rfl,no,q⟩;refine⟨O,?_⟩;unfold off at no;exact sF (aP (show ¬side<0 by lia)) (sF (aP (show ¬((ns.map TV.int).length:Int)<=side by rw[au];lia)) q)
def JG:ZX 18 37 ["sides","order"] 2 2 xq IA:=by
 refine⟨by kernel_rfl,?_⟩;rintro ts Q ⟨ns,os,rfl,l1,l2,tk,q⟩;refine⟨O,?_⟩;refine⟨os,O,fu,λ ss pm pw=>?_⟩;have c:=(vY (n:=ns.length) pm pw).mpr tk;refine⟨⟨fu,by rw[au];lia⟩,dpL _,sF ?_ ?_⟩
 ·show(!_L.eqT (TV.lst (ss.map TV.int)) (TV.lst ((List.range (((ns.map TV.int).length:Nat):Int).toNat).map λ i:Nat=>TV.int (i:Nat))))=false;rw[show((List.range (((ns.map TV.int).length:Nat):Int).toNat).map λ i:Nat=>TV.int (i:Nat))=(upL ns.length).map TV.int by rw[au];unfold upL;rw[aV];rfl,ww,c];simp
 ·refine⟨by rw[au];exact aR fu,dF .int (λ o:Int=>.int (ns.getD o.toNat 0)) os (λ o ho=>?_) ⟨O,by unfold tI gq at q;rw[aV] at q;exact q⟩⟩;have om:=up_mem.mp (tk.subset ho);exact⟨_,nW om.1 om.2,O,O⟩
def JH:ZX 19 38 ["sides","side"] 2 2 xr IB:=by
 refine⟨by kernel_rfl,?_⟩;rintro ts Q ⟨ns,side,rfl,no,q⟩;refine⟨O,?_⟩;exact cl rfl ⟨ns,side,O,no,O,q⟩ rfl
def JI:ZX 20 39 ["sides","side","first","many","step"] 5 5 xt IC:=by
 refine⟨by kernel_rfl,?_⟩;rintro ts Q ⟨ns,side,f,m,g,rfl,l,m0,m1,no,nb,q⟩;refine⟨O,?_⟩;refine cl rfl ⟨ns,side,O,no,?_⟩ rfl;obtain⟨k,rfl,hk⟩:=eW no;unfold bad at nb;simp only[Int.toNat_natCast] at nb q;refine sF (aP λ z=>nb (.inl z)) (sF (aP λ z=>nb (.inr (.inl z))) (sF (aP λ z=>nb (.inr (.inr (.inl z)))) ?_));refine s3 (λ c=>?_) (λ c=>cl rfl ⟨ns,k,m,O,l,hk,O,q⟩ rfl);exact⟨wv fu fu,_,bZ hk,sF (aP λ z=>nb (.inr (.inr (.inr ⟨c,z⟩)))) (cl rfl ⟨ns,k,m,O,l,hk,O,q⟩ rfl)⟩
def JJ:ZX 21 40 ["sides","side","many"] 3 3 xv ID:=by
 refine⟨by kernel_rfl,?_⟩;rintro ts Q ⟨ns,side,m,rfl,sd,l,m1,no,mn,nb,q⟩;refine⟨O,?_⟩;unfold nM at no;obtain⟨k,rfl⟩:∃k:Nat,side=k:=⟨side.toNat,fu⟩;simp only[Int.toNat_natCast] at nb q;have il:=Hb ns k m;refine sF (aP (show ¬((ns.map TV.int).length:Int)<k by rw[au];lia)) (sF (aP mn) (cl rfl ⟨ns,k,m,O,fu,cl rfl ⟨cU ns k m,O,λ n hn=>?_,fu,nb,O,q⟩ rfl⟩ rfl));unfold cU at hn;simp only[bO,bd] at hn
 rcases hn with (h|h)|h
 ·exact sd n (s0i h)
 ·lia
 ·exact sd n (s0h h)
def JK:ZX 22 41 ["sides","others"] 2 2 xw IE:=by
 refine⟨by kernel_rfl,?_⟩;rintro ts Q ⟨ns,ms,rfl,sd,sm',l,nb,e,q⟩;refine⟨O,?_⟩;exact cl rfl ⟨ms,O,sm',fu,nb,cl rfl ⟨_,O,ns,.inl rfl,sd,cl rfl ⟨_,O,ms,.inl rfl,sm',rm,sF (neF e) ⟨O,q⟩⟩ rfl⟩ rfl⟩ rfl
def JL:ZX 23 42 ["sides","others","side"] 3 3 xx IF:=by
 refine⟨by kernel_rfl,?_⟩;rintro ts Q ⟨ns,ms,side,rfl,hn,hm,l,ll,no,c,nb,q⟩;refine⟨O,?_⟩;refine⟨rm,sF (neF (by rw[au,au,ll])) (cl rfl ⟨ns,side,O,no,?_⟩ rfl)⟩;obtain⟨k,rfl,hk⟩:=eW no;simp only[Int.toNat_natCast] at c;have n1:=hn _ (getD_mem hk);have n2:=hm _ (getD_mem (ns:=ms) (k:=k) fu);refine cl rfl ⟨ns,k,O,fu,hk,cl rfl ⟨ms,k,O,fu,fu,dpT _,sF ?_ ?_⟩ rfl⟩ rfl
 ·show(!_L.eqT (TV.tup ((ns.eraseIdx k).map TV.int)) (TV.tup ((ms.eraseIdx k).map TV.int)))=false;rw[gx,c];simp
 ·refine⟨_,bZ hk,_,bZ (ns:=ms) fu,cl rfl ⟨ns,k,_,O,fu,hk,cl rfl ⟨_,O,λ n hn'=>?_,by rw[eF];lia,nb,O,q⟩ rfl⟩ rfl⟩
  rcases nV hn' with z|z
  ·exact GO hn n z
  ·lia
def JM:ZX 24 43 ["sides","others"] 2 2 xz IG:=by
 refine⟨by kernel_rfl,?_⟩;rintro ts Q ⟨ns,ms,rfl,c,q⟩;refine⟨O,?_⟩;have e1:ao (ms.map TV.int) none (some (((ns.map TV.int).length:Nat):Int))=ns.map TV.int:=by rw[au,eJ,c]
 exact⟨by show _L.dp 9 (TV.tup (ao (ms.map TV.int) none (some (((ns.map TV.int).length:Nat):Int))));rw[e1];exact dpT ns,sF (by show(!_L.eqT (TV.tup (ao (ms.map TV.int) none (some (((ns.map TV.int).length:Nat):Int)))) (TV.tup (ns.map TV.int)))=false;rw[e1,gx];simp) ⟨O,q⟩⟩
def JN:ZX 25 44 ["sides","others"] 2 2 xA IH:=by
 refine⟨by kernel_rfl,?_⟩;rintro ts Q ⟨ns,ms,rfl,c,q⟩;refine⟨O,?_⟩;unfold cu at c;unfold bJ at q;refine s2 (λ h=>?_) (λ h=>?_)
 ·have h:(((ms.map TV.int).length:Nat):Int)<((ns.map TV.int).length:Nat):=ay h;rw[au,au] at h;rw[if_pos fu] at c q;exact cl rfl ⟨ms,ns,O,c,O,q⟩ rfl
 ·have h:¬(((ms.map TV.int).length:Nat):Int)<((ns.map TV.int).length:Nat):=iW h;rw[au,au] at h;rw[if_neg fu] at c q;exact cl rfl ⟨ns,ms,O,c,O,q⟩ rfl
def JO:ZX 26 45 ["marks","sides","others"] 3 3 xB II:=by
 refine⟨by kernel_rfl,?_⟩;rintro ts Q ⟨ns,ms,ks,rfl,c1,c2,q⟩;refine⟨O,?_⟩;exact cl rfl ⟨ns,ms,O,c1,cl rfl ⟨_,ks,O,c2,O,q⟩ rfl⟩ rfl
def JP:ZX 27 46 ["sides","others"] 2 2 xC IJ:=by
 refine⟨by kernel_rfl,?_⟩;rintro ts Q ⟨n,r,ms,rfl,sd,sm',l1,l2,n0,nb,q⟩;refine⟨O,?_⟩;have e1:ao ((n::r).map TV.int) (some 1) none=r.map TV.int:=fb (n::r) 1;have lc:(ao ((n::r).map TV.int) (some 1) none).length<=20:=by rw[e1,au];lia
 refine⟨rm,.int n,bv (j:=0) rfl,rm,sN (λ h=>absurd h n0) (λ _=>⟨bn (show(ms.map TV.int).length+(ao ((n::r).map TV.int) (some 1) none).length<=1000 by rw[au];lia),cl rfl ⟨ms++r,?_,λ x hx=>?_,by rw[aQ];lia,nb,O,q⟩ rfl⟩)⟩
 ·show[TV.tup (ms.map TV.int++ao ((n::r).map TV.int) (some 1) none)]=[tI (ms++r)];rw[e1,<- bD];rfl
 ·rcases bO.mp hx with h|h
  ·exact sm' x h
  ·exact sd x (cX _ h)
def JQ:ZX 28 47 ["sides","side"] 2 2 xD IL:=by
 refine⟨by kernel_rfl,?_⟩;rintro ts Q ⟨ns,side,rfl,l,no,q⟩;refine⟨O,?_⟩;refine cl rfl ⟨ns,side,O,no,?_⟩ rfl;obtain⟨k,rfl,hk⟩:=eW no;simp only[Int.toNat_natCast] at q;exact cl rfl ⟨ns,k,O,l,hk,O,q⟩ rfl
def JR:ZX 29 48 ["sides","side"] 2 2 xE IM:=by
 refine⟨by kernel_rfl,?_⟩;rintro ts Q ⟨ns,side,rfl,sd,l,nb,no,q⟩;refine⟨O,?_⟩;exact cl rfl ⟨ns,O,sd,fu,nb,cl rfl ⟨ns,side,O,no,O,q⟩ rfl⟩ rfl
def JT:ZX 30 50 ["step"] 1 1 xF IN:=by
 refine⟨by kernel_rfl,?_⟩;rintro ts Q ⟨d,rfl,hw,q⟩;refine⟨O,?_⟩
 cases d with
 |each w a=>exact⟨_,rfl,trivial,_,rfl,cl rfl ⟨w,0,rfl,hw,_,rfl,trivial,_,rfl,rfl,g2L,rfl,fl2,q⟩ rfl⟩
 |pair w a b=>exact⟨_,rfl,trivial,_,rfl,trivial,_,rfl,cl rfl ⟨w,0,0,rfl,⟨on,on⟩,⟨on,on⟩,hw,_,rfl,rfl,g2L,rfl,fl2,q⟩ rfl⟩
 |fold w a s=>exact⟨_,rfl,trivial,_,rfl,trivial,_,rfl,rfl,g2L,rfl,fl2,_,rfl,cl rfl ⟨w,rfl,hw,q⟩ rfl⟩
 |run w a s=>exact⟨_,rfl,trivial,_,rfl,trivial,_,rfl,rfl,g2L,rfl,fl2,_,rfl,cl rfl ⟨w,rfl,hw,q⟩ rfl⟩
 |_=>exact⟨_,rfl,trivial,_,rfl,trivial,_,rfl,rfl,g2L,rfl,fl2,q⟩
def JU:ZX 31 51 ["step"] 1 1 xG IP:=by
 refine⟨by kernel_rfl,?_⟩;rintro ts Q ⟨d,S,Ss,rfl,k3,ok,fs,q⟩;refine⟨O,?_⟩;have sd:=jT fs;have s6:=fs.2.1
 cases d with
 |inp ms=>obtain⟨rfl,nb⟩:=ok;exact⟨_,rfl,trivial,_,rfl,cl rfl ⟨S,rfl,sd,fu,nb,rfl,q⟩ rfl⟩
 |count ms k=>obtain⟨rfl,nb,no⟩:=ok;exact⟨_,rfl,trivial,_,rfl,trivial,_,rfl,_,rfl,cl rfl ⟨S,k,rfl,sd,fu,nb,no,rfl,q⟩ rfl⟩
 |num n=>obtain⟨rfl,_⟩:=ok;exact⟨_,rfl,trivial,_,rfl,trivial,rfl,g0L,rfl,q⟩
 |_=>exact absurd k3 (iW rfl)
def JV:ZX 32 52 ["step","sides","form"] 3 2 xH IQ:=by
 refine⟨by kernel_rfl,?_⟩;rintro ts Q ⟨d,S,A,Ss,a,rfl,ha,ea,fA,ok,fs,q⟩;refine⟨O,?_⟩;have sd:=jT fs;have sdA:=jT fA;have s6:=fs.2.1;have a6:=fA.2.1
 cases d with
 |each w a=>
  cases ha;cases ok.1.symm.trans ea;exact⟨_,O,O,rm,rm,rm,rm,rm,rm,rm,O,q⟩
 |turn a os=>
  cases ha;obtain⟨A',ea',tk,rfl⟩:=ok;cases ea'.symm.trans ea;exact⟨_,O,O,rm,_,O,cl rfl ⟨A,os,O,fu,by rw[tk.length_eq,dw];lia,tk,O,q⟩ rfl⟩
 |flip a s=>
  cases ha;obtain⟨ea',no⟩:=ok;cases ea'.symm.trans ea;exact⟨_,O,O,rm,rm,_,O,cl rfl ⟨S,s,O,no,O,q⟩ rfl⟩
 |cut a s f m g=>
  cases ha;obtain⟨A',ea',no,nb,m5,rfl⟩:=ok;cases ea'.symm.trans ea;exact⟨_,O,O,rm,rm,rm,_,O,_,O,_,O,_,O,cl rfl ⟨A,s,f,m,g,O,fu,by unfold bad at nb;lia,fu,no,nb,O,q⟩ rfl⟩
 |spread a s m=>
  cases ha;obtain⟨A',ea',no,nm,m5,nb,rfl⟩:=ok;cases ea'.symm.trans ea;exact⟨_,O,O,rm,rm,rm,rm,_,O,_,O,cl rfl ⟨A,s,m,O,sdA,fu,fu,no,nm,nb,O,q⟩ rfl⟩
 |lay a ms=>
  cases ha;obtain⟨A',ea',nb,e,rfl⟩:=ok;cases ea'.symm.trans ea;exact⟨_,O,O,rm,rm,rm,rm,rm,_,O,cl rfl ⟨A,S,O,sdA,sd,fu,nb,e,O,q⟩ rfl⟩
 |fold w a s=>
  cases ha;obtain⟨A',ea',hw,no,rfl⟩:=ok;cases ea'.symm.trans ea;exact⟨_,O,O,rm,rm,rm,rm,rm,rm,_,O,cl rfl ⟨A,s,O,fu,no,O,q⟩ rfl⟩
 |run w a s=>
  cases ha;obtain⟨ea',hw,no⟩:=ok;cases ea'.symm.trans ea;exact⟨_,O,O,rm,rm,rm,rm,rm,rm,rm,_,O,cl rfl ⟨S,s,O,no,O,q⟩ rfl⟩
 |_=>cases ha
def JW:ZX 33 53 ["step","sides","used","form"] 4 2 xI IR:=by
 refine⟨by kernel_rfl,?_⟩;rintro ts Q ⟨t,d,S,Ss,rfl,ht,fS,ok,fs,q⟩;refine⟨O,?_⟩;subst ht
 cases d with
 |pair w a b=>
  obtain⟨A,B,ea,eb,hw,po,rfl⟩:=ok;exact cl rfl ⟨(Stp.pair w a b),O,hw,cl rfl ⟨(Stp.pair w a b),O,sl3 (bN rfl),tI A,aE ea,O,tI B,aE eb,O,O,_,O,O,rm,rm,rm,_,O,_,O,cl rfl ⟨A,B,O,po,O,q⟩ rfl⟩ rfl⟩ rfl
 |join a b s=>
  obtain⟨A,B,ea,eb,ll,no,ee,nb,rfl⟩:=ok;have fA:=fS _ (bg ea);have fB:=fS _ (bg eb);have a6:=fA.2.1;exact cl rfl ⟨(Stp.join a b s),O,rm,cl rfl ⟨(Stp.join a b s),O,sl3 (bN rfl),tI A,aE ea,O,tI B,aE eb,O,O,_,O,O,rm,rm,rm,rm,_,O,_,O,_,O,cl rfl ⟨A,B,s,O,wt fA,wt fB,fu,ll,no,ee,nb,O,q⟩ rfl⟩ rfl⟩ rfl
 |fetch a b=>
  obtain⟨n,r,B,ea,n0,eb,nb,rfl⟩:=ok;have fA:=fS _ (bg ea);have fB:=fS _ (bg eb);have a6:=fA.2.1;have b6:=fB.2.1;rw[List.length_cons] at a6;exact cl rfl ⟨(Stp.fetch a b),O,rm,cl rfl ⟨(Stp.fetch a b),O,sl3 (bN rfl),tI (n::r),aE ea,O,tI B,aE eb,O,O,_,O,O,rm,rm,rm,rm,rm,_,O,_,O,cl rfl ⟨n,r,B,O,jT fA,jT fB,fu,fu,n0,nb,O,q⟩ rfl⟩ rfl⟩ rfl
 |pick a b c=>
  obtain⟨A,B,C,ea,eb,ec,p1,p2,rfl⟩:=ok;exact cl rfl ⟨(Stp.pick a b c),O,rm,cl rfl ⟨(Stp.pick a b c),O,sl3 (bN rfl),tI A,aE ea,O,tI B,aE eb,O,tI C,aE ec,O,O,_,O,O,rm,rm,rm,rm,rm,_,O,_,O,_,O,cl rfl ⟨A,B,C,O,p1,p2,O,q⟩ rfl⟩ rfl⟩ rfl
 |_=>first|exact cl rfl ⟨_,rfl,rB ok,cl rfl ⟨_,rfl,sl3 (bN rfl),rfl,_,rfl,rfl,trivial,cl rfl ⟨_,S,Ss,rfl,bN rfl,ok,fs,rfl,q⟩ rfl⟩ rfl⟩ rfl|exact cl rfl ⟨_,rfl,rB ok,cl rfl ⟨_,rfl,sl3 (bN rfl),tI S,aE ok.1,rfl,rfl,_,rfl,rfl,trivial,trivial,_,rfl,cl rfl ⟨_,S,S,Ss,_,rfl,rfl,ok.1,fS _ (bg ok.1),ok,fs,rfl,q⟩ rfl⟩ rfl⟩ rfl|(obtain⟨A,ea,_⟩:=id ok;exact cl rfl ⟨_,rfl,rB ok,cl rfl ⟨_,rfl,sl3 (bN rfl),tI A,aE ea,rfl,rfl,_,rfl,rfl,trivial,trivial,_,rfl,cl rfl ⟨_,S,A,Ss,_,rfl,rfl,ea,fS _ (bg ea),ok,fs,rfl,q⟩ rfl⟩ rfl⟩ rfl)
def JX:ZX 34 54 ["step","sides","k"] 3 2 xJ IS:=by
 refine⟨by kernel_rfl,?_⟩;rintro ts Q ⟨t,d,S,Ss,rfl,ht,fS,l40,ok,fs,q⟩;refine⟨O,?_⟩;have al:=jW ok;have a3:=HE d;subst ht;refine⟨O,sF (aP (show ¬(40:Int)<=((Ss.map tI).length:Nat) by rw[ah];lia)) (cl rfl ⟨d,O,by rw[ah,ah];exact sl3 a3,fR (l:=aB d) (f:=λ a:Nat=>.int (a:Int)) (by rw[aV];rfl) (λ _=>.bl false) (λ a ha=>?_) ⟨(aB d).map λ _=>false,by rw[aV];rfl,sF pv (cl rfl ⟨_,d,S,Ss,O,O,fS,ok,fs,O,g2L,O,q⟩ rfl)⟩⟩ rfl)⟩;refine⟨O,?_⟩;have:=al a ha;show TV.bl (decide (((Ss.map tI).length:Nat)<=(a:Int)))=TV.bl false;rw[ah,aP fu]
def JY:ZX 35 55 ["program","steps","outs","sides","step","told"] 6 1 xK IT:=by
 refine⟨by kernel_rfl,?_⟩;rintro ts Q ⟨ds,Ss,os,mo,rfl,gd,q⟩;refine⟨O,?_⟩;obtain⟨hmo,gl,d0,d40,o0,o8,ho⟩:=gd;refine⟨_,O,O,_,O,O,O,bC _,O,O,?_⟩;refine bY (λ i ρ=>∃y z,ρ=[some (.tup [.tup (ds.map stT),tI os]),some (.tup (ds.map stT)),some (tI os),some (.own ((Ss.take i).map tI)),y,z]) ⟨_,_,O⟩ (λ i u ρ hu ⟨y,z,e⟩=>?_) (λ ρ ⟨y,z,e⟩=>?_)
 ·subst e;obtain⟨d,rfl,ed⟩:=nX hu;have idl:=(bc.mp ed).1;have il:i<Ss.length:=by rw[<- gl.1];exact idl
  have eS:=aF il;generalize Ss[i]=S at eS;have ok:=gl.2.2 i d S ed eS;have fs:=gl.2.1 S (bg eS);exact clB rfl ⟨_,d,S,Ss.take i,O,O,λ T hT=>hV (gl.2.1 T (s0i hT)) hmo,by rw[be];lia,ok,hV fs hmo,LF2 S,O,_,O,O,_,O,O,by rw[ah,be];exact aR fu,_,_,by rw[gh,eS,bD];rfl⟩
 ·subst e;rw[ah,jB (by rw[gl.1];exact ar _)];refine sT (bf (show(1:Int)<=((os.map TV.int).length:Nat) by rw[au];lia)) (sF (by rw[bf (show(((os.map TV.int).length:Nat):Int)<=8 by rw[au];lia)];rfl) ⟨by rw[au];exact aR fu,dF .int (λ _=>.bl false) os (λ o ho'=>?_) ⟨os.map λ _=>false,by rw[aV];rfl,sF pv ⟨O,g2L,O,q⟩⟩⟩);have b:=ho o ho';refine sF (aP (show ¬o<0 by lia)) ⟨O,?_⟩;show TV.bl (decide (((ds.map stT).length:Nat)<=o))=TV.bl false;rw[ah,aP fu]
def JZ:ZX 36 56 ["program","told","fault"] 3 1 xL IU:=by
 refine⟨by kernel_rfl,?_⟩;rintro ts Q ⟨ds,Ss,os,mo,rfl,gd,q⟩;refine⟨O,?_⟩;exact cl rfl ⟨ds,Ss,os,mo,O,gd,O,_,O,O,O,_,O,O,q⟩ rfl
def Ka:ZX 37 58 ["step","sides","form","is_still"] 4 2 xM IV:=by
 refine⟨by kernel_rfl,?_⟩;rintro ts Q ⟨d,S,Ss,rfl,ok,fS,q⟩;refine⟨O,?_⟩
 cases d with
 |turn a os=>
  obtain⟨A,ea,tk,rfl⟩:=ok;have a6:=(fS _ (bg ea)).2.1;have ol:os.length<=6:=by rw[tk.length_eq,dw];exact a6
  have eq:_L.eqT (tI os) (TV.tup ((List.range (((os.map TV.int).length:Nat):Int).toNat).map λ i:Nat=>TV.int (i:Nat)))=decide (os=upL os.length):=by rw[au,jX];exact gx _ _
  refine⟨_,O,O,rm,_,O,_,O,⟨fu,by rw[au];lia⟩,dpT _,O,?_⟩;replace q:Q (oT (if os=upL os.length then some a else none)):=q;by_cases c:os=upL os.length
  ·rw[if_pos c] at q;exact sT (eq.trans (bf c)) ⟨_,O,O,q⟩
  ·rw[if_neg c] at q;exact sF (eq.trans (aP c)) ⟨O,q⟩
 |flip a s=>
  obtain⟨ea,no⟩:=ok;obtain⟨k,rfl,hk⟩:=eW no;replace q:Q (oT (if (Ss.getD a []).getD (k:Int).toNat 0<2 then some a else none)):=q;rw[dG ea,Int.toNat_natCast] at q;refine⟨_,O,O,rm,rm,_,O,tI S,aE ea,_,O,_,bZ hk,O,s3 (λ c=>?_) (λ c=>?_)⟩
  ·rw[if_pos c] at q;exact⟨_,rfl,rfl,q⟩
  ·rw[if_neg c] at q;exact⟨rfl,q⟩
 |cut a s f m g=>
  obtain⟨A,ea,no,nb,m5,rfl⟩:=ok;obtain⟨k,rfl,hk⟩:=eW no;replace q:Q (oT (if m=(Ss.getD a []).getD (k:Int).toNat 0 then some a else none)):=q;rw[dG ea,Int.toNat_natCast] at q;refine⟨_,O,O,rm,rm,rm,_,O,_,O,tI A,aE ea,_,O,_,bZ hk,rm,O,sN (λ c=>?_) (λ c=>?_)⟩
  ·rw[if_pos c] at q;exact⟨_,rfl,rfl,q⟩
  ·rw[if_neg c] at q;exact⟨rfl,q⟩
 |lay a ms=>
  obtain⟨A,ea,nb,e,rfl⟩:=ok;replace q:Q (oT (if S=Ss.getD a [] then some a else none)):=q;rw[dG ea] at q;have eq:_L.eqT (tI S) (tI A)=decide (S=A):=gx S A;refine⟨_,O,O,rm,rm,rm,rm,_,O,_,O,tI A,aE ea,dpT _,O,?_⟩;by_cases c:S=A
  ·rw[if_pos c] at q;exact sT (eq.trans (bf c)) ⟨_,rfl,rfl,q⟩
  ·rw[if_neg c] at q;exact sF (eq.trans (aP c)) ⟨rfl,q⟩
 |join a b s=>
  obtain⟨A,B,ea,eb,ll,no,ee,nb,rfl⟩:=ok;obtain⟨k,rfl,hk⟩:=eW no;replace q:Q (oT (if (Ss.getD a []).getD (k:Int).toNat 0=0 then some b else if (Ss.getD b []).getD (k:Int).toNat 0=0 then some a else none)):=q;rw[dG ea,dG eb,Int.toNat_natCast] at q;refine⟨_,O,O,rm,rm,rm,rm,rm,_,O,tI A,aE ea,_,O,_,bZ hk,rm,sN (λ c=>?_) (λ c=>?_)⟩
  ·rw[if_pos c] at q;exact⟨_,rfl,rfl,q⟩
  ·rw[if_neg c] at q;refine⟨rm,_,O,tI B,aE eb,_,O,_,bZ fu,rm,O,sN (λ c=>?_) (λ c=>?_)⟩
   ·rw[if_pos c] at q;exact⟨_,rfl,rfl,q⟩
   ·rw[if_neg c] at q;exact⟨rfl,q⟩
 |_=>exact⟨_,rfl,rfl,trivial,trivial,trivial,trivial,trivial,trivial,rfl,rfl,q⟩
def Kb:ZX 38 59 ["step","forms","inner"] 3 2 xN IW:=by
 refine⟨by kernel_rfl,?_⟩;rintro ts Q ⟨d,fs,rfl,ha,q⟩;refine⟨O,?_⟩
 cases d with
 |flip a s=>
  have ef:=cN (ha a (by simp[aB]));replace q:Q (oT (match fs.getD a (.num 0) with|.flip b s2=>if s2=s then some b else none|_=>none)):=q;generalize fs.getD a (.num 0)=d2 at ef q
  cases d2 with
  |flip b s2=>
   replace q:Q (oT (if s2=s then some b else none)):=q;refine⟨_,O,rm,_,O,stT (.flip b s2),aE ef,O,_,O,rm,_,O,_,O,rm,sN (λ c=>?_) (λ c=>?_)⟩
   ·rw[if_pos c] at q;exact⟨_,rfl,rfl,q⟩
   ·rw[if_neg c] at q;exact⟨rfl,q⟩
  |_=>exact⟨_,rfl,trivial,_,rfl,stT _,aE ef,rfl,_,rfl,trivial,rfl,q⟩
 |_=>exact⟨_,rfl,trivial,rfl,q⟩
def Kc:ZX 39 60 ["step","forms","stands","sides","k","still","inner","number","form"] 9 4 xO IY:=by
 refine⟨by kernel_rfl,?_⟩;rintro ts Q ⟨d,S,Ss,fs,g,rfl,ok,fS,ha,q⟩;refine⟨O,?_⟩;have lm:(((fs.map stT).length:Nat):Int)=(fs.length:Nat):=by rw[ah]
 unfold StR at q;refine⟨O,_,fU d,rm,?_⟩;by_cases c0:kdN d=0
 ·simp only[if_pos c0] at q;exact sT ((jZ d).trans (bf c0)) ⟨O,by show Q (.int ((fs.map stT).length:Nat));rw[lm];exact q _ rfl⟩
 simp only[if_neg c0] at q;refine sF ((jZ d).trans (aP c0)) (cl rfl ⟨d,S,Ss,O,ok,fS,?_⟩ rfl)
 cases hs:ij Ss d with
 |some k=>rw[hs] at q;exact⟨rfl,rfl,rfl,q k rfl⟩
 |none=>
  rw[hs] at q;refine⟨O,O,cl rfl ⟨d,fs,O,ha,?_⟩ rfl⟩
  cases hu:iU fs d with
  |some k=>rw[hu] at q;exact⟨rfl,rfl,rfl,q k rfl⟩
  |none=>
   rw[hu] at q;refine⟨O,O,O,bY (λ i ρ=>(∀j,j<i->¬(g j=j/\fs[j]?=some d))/\∃y7 y8,ρ=[some (stT d),some (.lst (fs.map stT)),some (.lst ((List.range fs.length).map λ k=>.int (g k:Nat))),some (.tup (Ss.map tI)),some (.int ((fs.map stT).length:Nat)),some .non,some .non,y7,y8]) ⟨λ j hj=>absurd hj (gJ _),_,_,O⟩ (λ i u ρ hu' h=>?_) (λ ρ h=>?_)⟩
   ·obtain⟨hp,y7,y8,rfl⟩:=h;obtain⟨x,ex,rfl⟩:=HS hu';obtain⟨f,rfl,ef⟩:=nX ex;have il:=(bc.mp ef).1;refine⟨_,rG il,rm,sN (λ c1=>⟨og f,?_⟩) (λ c1=>⟨λ j hj hh=>?_,_,_,O⟩)⟩
    ·cases hE:_L.eqT (stT f) (stT d) with
     |true=>
      cases wG hE;exact sT hE ⟨O,q i ⟨fu,hp,λ _=>⟨fu,ef⟩⟩⟩
     |false=>
      refine sF hE ⟨λ j hj hh=>?_,_,_,O⟩;by_cases ji:j=i
      ·subst ji;rw[ef] at hh;cases hh.2;rw[_L.eqT_self (og d)] at hE;cases hE
      ·exact hp j fu hh
    ·by_cases ji:j=i
     ·subst ji;exact c1 (by rw[hh.1])
     ·exact hp j fu hh
   ·obtain⟨hp,y7,y8,rfl⟩:=h;refine⟨O,?_⟩;show Q (.int ((fs.map stT).length:Nat));rw[lm];exact q _ ⟨ar _,λ j hj=>hp j (by rw[rZ,ah];exact hj),λ z=>absurd z (cg _)⟩
def Kd:ZX 40 61 ["program","sides","forms","stands","step","form","ends","ins","kept","new","steps","outs"] 12 1 xP IZ:=by
 refine⟨by kernel_rfl,?_⟩;rintro ts Q ⟨ds,Ss,os,mo,rfl,gd,q⟩;refine⟨O,?_⟩;obtain⟨hmo,gl,d0,d40,o0,o8,ho⟩:=id gd;have sz:∀n:Nat,n<=50->n<sizeLine:=λ n h=>aR fu;have ar3:∀d:Stp,(aB d).length<=3:=λ d=>by cases d<;>exact bN rfl
 refine cl rfl ⟨ds,Ss,os,mo,O,gd,O,O,g0L,O,O,g0L,O,_,O,O,bY (λ i ρ=>∃fs gs y4 y5,gB ds Ss i fs gs/\ρ=[some (.tup [.tup (ds.map stT),tI os]),some (.tup (Ss.map tI)),some (.own (fs.map stT)),some (.own (gs.map λ r:Nat=>.int (r:Nat))),y4,y5,none,none,none,none,none,none]) ⟨[],[],_,_,⟨O,O⟩,O⟩ (λ i u ρ hu h=>?_) (λ ρ h=>?_)⟩ rfl
 ·obtain⟨fs,gs,y4,y5,th,rfl⟩:=h;obtain⟨d,rfl,ed⟩:=nX hu;have idl:=(bc.mp ed).1;have I:=kc gl th;obtain⟨S,eS,ok,ha⟩:=rO gl I ed
  have al:∀a∈aB d,a<gs.length:=λ a h=>by
   have:=jW (gl.2.2 i d _ ed eS) a h;rw[be] at this;rw[I.gl];lia
  have em:(aB d).map (λ a=>TV.int (gF gs a:Nat))=((aB d).map λ a=>((gF gs a:Nat):Int)).map TV.int:=by rw[aV];rfl
  refine cl rfl ⟨d,O,by rw[ah,ah];exact sz _ (by have:=ar3 d;lia),fR (l:=aB d) (f:=λ a:Nat=>.int (a:Nat)) (by rw[aV];rfl) (λ a=>.int (gF gs a:Nat)) (λ a h=>⟨_,lC (al a h),O,O⟩) ?_⟩ rfl;rw[em];refine cl rfl ⟨d,gF gs,O,O,?_⟩ rfl;refine clB rfl ⟨bE (gF gs) d,S,Ss,fs,gF gs,by rw[I.fl,<- iX I.gl];rfl,ok,rC gl hmo,by rw[I.fl];exact ha,λ r hr=>⟨by simp[LF],O,by rw[ah,I.gl];exact sz _ fu,O,by rw[ah,I.fl];exact sz _ fu,fs++[bE (gF gs) d],gs++[r],_,_,⟨fs,gs,d,r,th,ed,hr,O,O⟩,by rw[bD,bD];rfl⟩⟩
 obtain⟨fs,gs,y4,y5,th,rfl⟩:=h;rw[ah] at th;have I:=kc gl th;replace q:=q fs gs th;unfold thT at q;have gst:∀j,j<ds.length->gF gs j<fs.length:=λ j hj=>by have:=(I.st j hj).1;rw[I.fl];lia
 have eb:∀e∈esL ds os gs,0<=e/\e<(fs.length:Int):=λ e he=>by
  unfold esL at he
  rcases bO.mp he with z|z
  ·obtain⟨k,hk,rfl⟩:=aT.mp z;have:=cW.mp (dH.mp hk).1;rw[I.fl];lia
  ·obtain⟨o,hoo,rfl⟩:=aT.mp z;have:=ho o hoo;have:=gst o.toNat fu;lia
 have ae:∀(k:Nat) (e:Stp),fs[k]?=some e->∀a∈aB e,a<k:=λ k e h a m=>by obtain⟨_,_,_,z⟩:=I.fo k e h;exact z a m
 have ins8:((List.range ds.length).filter λ k=>decide (kdN (ds.getD k (.num 0))=0)).length<=40:=bB (fV _ _) (by rw[bA];exact d40);have emE:(((List.range ds.length).filter λ k=>decide (kdN (ds.getD k (.num 0))=0)).map λ k:Nat=>TV.int (k:Nat))++(os.map λ o=>TV.int (gF gs o.toNat:Nat))=(esL ds os gs).map TV.int:=by unfold esL;rw[bD,aV,aV];rfl
 generalize hK:cH fs (esL ds os gs)=K at q;have pw:K.Pairwise (· < ·):=hK ▸ wR fs _;have kl:∀k∈K,k<fs.length:=λ k h=>by rw[<- hK] at h;exact(mem_reach.mp h).1
 have K40:K.length<=40:=by rw[<- hK];unfold cH;exact bB (fV _ _) (by rw[bA,I.fl];exact d40)
 have ain:∀k∈K,∀a∈aB (fs.getD k (.num 0)),a∈K:=λ k h a m=>by rw[<- hK] at h ⊢;exact wQ ae h m
 have oin:∀o∈os,gF gs o.toNat∈K:=λ o h=>by rw[<- hK];exact wP eb (by unfold esL;exact bz _ (aT.mpr ⟨o,h,rfl⟩))
 refine⟨_,O,by rw[au];exact sz _ fu,fR (l:=os) (f:=TV.int) rfl (λ o=>.int (gF gs o.toNat:Nat)) (λ o h=>?_) ⟨O,_,O,by rw[rZ,ah];exact sz _ fu,eZ (λ k:Nat=>.tup [.int (k:Nat),stT (ds.getD k (.num 0))]) (λ k:Nat=>.int (k:Nat)) (λ k=>decide (kdN (ds.getD k (.num 0))=0)) (List.range ds.length) (wW stT ds (.num 0)) (λ k h=>⟨_,fU _,rm,bK TV.bl (jZ _),λ _=>⟨O,O⟩⟩) ⟨O,?_⟩⟩⟩
 ·obtain⟨j,rfl⟩:∃j:Nat,o=j:=⟨o.toNat,by have:=ho o h;lia⟩;have:=ho _ h;exact⟨_,lC (by rw[I.gl];lia),O,by rw[Int.toNat_natCast];rfl⟩
 refine⟨by rw[ah,ah];exact cj (sz _ fu),?_⟩;rw[emE];refine cl rfl ⟨_,fs,esL ds os gs,O,O,by rw[I.fl];exact d40,eb,λ d h a m=>?_,?_⟩ rfl
 ·obtain⟨k,hk⟩:=List.mem_iff_getElem?.mp h;have:=ae k d hk a m;have:=(bc.mp hk).1;lia
 rw[hK];refine⟨O,by rw[rZ,ah];exact sz _ fu,fR (l:=List.range K.length) (f:=λ i:Nat=>.tup [.int (i:Nat),.int (K.getD i 0:Nat)]) (wW (λ k:Nat=>TV.int (k:Nat)) K 0) (λ i:Nat=>.tup [.int (K.getD i 0:Nat),.int (i:Nat)]) (λ i h=>⟨O,g2L,O,O⟩) ⟨fg K,by unfold fg;rw[aV];rfl,Ic pw,by rw[ah];exact sz _ fu,dF (λ k:Nat=>.int (k:Nat)) (λ k=>stT (bE (λ a=>K.idxOf a) (fs.getD k (.num 0)))) K (λ k hk=>?_) ⟨O,by rw[ah];exact sz _ fu,dF (λ o:Int=>.int (gF gs o.toNat:Nat)) (λ o=>.int ((K.idxOf (gF gs o.toNat):Nat):Int)) os (λ o h=>?_) ⟨O,O,g2L,by rw[ah];exact sz _ (by rw[I.gl];lia),fR (l:=List.range ds.length) (f:=λ j:Nat=>.int (gF gs j:Nat)) (iX I.gl) (λ j=>plT K (gF gs j)) (λ j h=>?_) ⟨O,g2L,O,q⟩⟩⟩⟩⟩
 ·have ek:=cN (kl k hk);have em:(aB (fs.getD k (.num 0))).map (λ a=>TV.int ((K.idxOf a:Nat):Int))=((aB (fs.getD k (.num 0))).map λ a=>((K.idxOf a:Nat):Int)).map TV.int:=by rw[aV];rfl
  have am:=ain k hk;generalize fs.getD k (.num 0)=d at ek em am;refine⟨stT d,aE ek,stT d,aE ek,cl rfl ⟨d,O,by rw[ah,ah];exact sz _ (by have:=ar3 d;lia),fR (l:=aB d) (f:=λ a:Nat=>.int (a:Nat)) (by rw[aV];rfl) (λ a=>.int ((K.idxOf a:Nat):Int)) (λ a h=>⟨_,by rw[rV,if_pos (am a h)],O,O⟩) ?_⟩ rfl⟩;rw[em];exact cl rfl ⟨d,λ a=>K.idxOf a,O,O,O⟩ rfl
 ·exact⟨_,by rw[rV,if_pos (oin o h)],O,O⟩
 ·show(dgT (fg K) _).nb=true/\(dgT (fg K) _).fz=_;rw[Ig];exact wX K _
def Kf:ZX 41 63 ["sides","size","length"] 3 1 xQ Ja:=by
 refine⟨by kernel_rfl,?_⟩;rintro ts Q ⟨t,ns,rfl,ht,sd,q⟩;refine⟨O,?_⟩
 rcases ht with rfl|rfl
 ·refine⟨O,O,bY (λ i ρ=>∃y,ρ=[some (tI ns),some (.int (ak (ns.take i))),y]) ⟨_,O⟩ (λ i u ρ hu ⟨y,e⟩=>?_) (λ ρ ⟨y,e⟩=>?_)⟩
  ·subst e;obtain⟨n,rfl,hn⟩:=iT hu;have b:=sd n (bg hn);exact⟨eY fu fu,O,some (.int n),by rw[nJ hn];rfl⟩
  ·subst e;rw[au,dh];exact⟨O,q⟩
 ·refine⟨O,O,bY (λ i ρ=>∃y,ρ=[some (lI ns),some (.int (ak (ns.take i))),y]) ⟨_,O⟩ (λ i u ρ hu ⟨y,e⟩=>?_) (λ ρ ⟨y,e⟩=>?_)⟩
  ·subst e;obtain⟨n,rfl,hn⟩:=iT hu;have b:=sd n (bg hn);exact⟨eY fu fu,O,some (.int n),by rw[nJ hn];rfl⟩
  ·subst e;rw[au,dh];exact⟨O,q⟩
def Kg:ZX 42 64 ["sides"] 1 1 xR Jb:=by
 refine⟨by kernel_rfl,?_⟩;rintro ts Q ⟨ns,rfl,sd,l,q⟩;refine⟨O,?_⟩;refine⟨by rw[au];exact aR fu,dF .int (λ n=>.int (aq n)) ns (λ n hn=>⟨O,?_⟩) (cl rfl ⟨_,ns.map aq,O,.inr (by unfold lI;rw[aV];rfl),vQ sd,O,q⟩ rfl)⟩;rw[<- rh (sd n hn).1];rfl
def Kh:ZX 43 65 ["n"] 1 1 xS Jc:=by
 refine⟨by kernel_rfl,?_⟩;rintro ts Q ⟨n,rfl,q⟩;refine⟨O,?_⟩;have m17:aD n 17=n%17:=if_pos on;unfold lj at q;refine⟨on,rm,sN (λ h=>?_) (λ h=>?_)⟩
 ·rw[m17] at h;rw[if_pos h] at q;have e:aD (aH n 17) 4=n/17%4:=by rw[show aH n 17=n/17 from if_pos on];exact if_pos on
  exact⟨p63,p63,p62,O,g4L,⟨on,on,on⟩,on,.int _,(by rw[e];exact HI fu fu),O,q⟩
 ·rw[m17] at h;rw[if_neg h] at q;exact⟨p63,p64,on,p63,O,q⟩
def Ki:ZX 44 66 ["pool","d"] 2 2 xT Jd:=by
 refine⟨by kernel_rfl,?_⟩;rintro ts Q ⟨ks,d,rfl,l,l2,q⟩;refine⟨O,?_⟩;have in1:∀i:Int,0<=i->i<ks.length->Q (.int (ks.getD i.toNat 0)):=λ i h0 h1=>q _ (getD_mem fu);have d3:aH d 3=d/3:=if_pos on;refine⟨on,rm,sN (λ h=>?_) (λ h=>?_)⟩
 ·have m1:aD (aH d 3) (((ks.map TV.int).length:Nat):Int)=d/3%(ks.length:Int):=by rw[au,d3];exact if_pos fu
  have a0:=eN (d/3) (show(ks.length:Int)≠0 by lia);have a1:=fh (d/3) (show(0:Int)<ks.length by lia);exact⟨⟨on,on,on⟩,by rw[au];lia,.int (ks.getD (d/3%(ks.length:Int)).toNat 0),by rw[m1];exact nW a0 a1,O,in1 _ a0 a1⟩
 ·have m1:aD (aH d 3) (if (((ks.map TV.int).length:Nat):Int)<3 then (((ks.map TV.int).length:Nat):Int) else 3)=d/3%(if (ks.length:Int)<3 then (ks.length:Int) else 3):=by rw[au,d3];exact if_pos (by split<;>lia)
  have a0:=eN (d/3) (show(if (ks.length:Int)<3 then (ks.length:Int) else 3)≠0 by split<;>lia);have a1:=fh (d/3) (show(0:Int)<(if (ks.length:Int)<3 then (ks.length:Int) else 3) by split<;>lia);have a2:(if (ks.length:Int)<3 then (ks.length:Int) else 3)<=ks.length:=by split<;>lia
  exact⟨⟨on,on,on⟩,by rw[au];split<;>lia,.int (ks.getD ((ks.length:Int)-1-d/3%(if (ks.length:Int)<3 then (ks.length:Int) else 3)).toNat 0),by rw[m1,au];exact nW fu fu,O,in1 _ fu fu⟩
def Kj:ZX 45 67 ["kind","n","cell","most","made","part","k","free","length"] 9 4 xU Je:=by
 refine⟨by kernel_rfl,?_⟩;rintro ts Q ⟨kd,n,cell,mo,rfl,hmo,q⟩;refine⟨O,?_⟩;have m2:=hmo.1;have m3:=hmo.2;refine⟨rm,sN (λ c=>cl rfl ⟨cell,O,O,g2L,O,g0L,O,g2L,O,q (.num (lj cell)) [] (λ _=>⟨O,GQ cell⟩) (nR hmo)⟩ rfl) (λ c=>?_)⟩;have b5:0<=aD (aH n 15) 5/\aD (aH n 15) 5<5:=by rw[bw on];lia
 refine⟨O,g0L,O,⟨on,on,on⟩,O,on,O,⟨fu,fu⟩,?_⟩;refine bY (λ i ρ=>∃(ms:LI) (pt:Int) (y6 y7 y8:Option TV),aJ mo ms/\ms.length=i/\ρ=[some (.int kd),some (.int n),some (.int cell),some (.int mo),some (tI ms),some (.int pt),y6,y7,y8]) ⟨[],_,_,_,_,nR hmo,O,O⟩ (λ i t ρ ht h=>?_) (λ ρ h=>?_)
 ·obtain⟨ms,pt,y6,y7,y8,hf,ml,rfl⟩:=h;obtain⟨il,rfl⟩:=gu ht;have sdm:cF ms:=λ n hn=>by have:=hf.1 n hn;exact⟨fu,fu⟩
  have pb:=hf.2.2;have d1:1<=mo/ak (ms.map aq):=rj pb.1 pb.2;have dv:aH mo (ak (ms.map aq))=mo/ak (ms.map aq):=wz fu;have fs:=λ n=>rk (n:=n) hf fu;obtain⟨x,hx,x0⟩:=HK (aD (aH pt 5) 7) (by rw[bw on];lia) (by rw[bw on];lia);refine⟨⟨on,on,on⟩,O,cl rfl ⟨ms,O,sdm,fu,⟨fu,fu,fu⟩,O,O,g7L,on,.int x,hx,O,?_⟩ rfl⟩;rw[dv];generalize mo/ak (ms.map aq)=fr at *
  have fin:∀x:Int,0<=x->x<=fr->(ms.map TV.int).length + [TV.int x].length<=sizeLine/\(TV.tup (ms.map TV.int++[TV.int x])).nb=true/\∃(ms':LI) (pt':Int) (y6 y7 y8:Option TV),aJ mo ms'/\ms'.length=i+1/\[some (TV.int kd),some (.int n),some (.int cell),some (.int mo),some (TV.tup (ms.map TV.int++[TV.int x])),some (.int (aH pt 5)),some (.int (i:Nat)),some (.int fr),some (.int x)]=[some (.int kd),some (.int n),some (.int cell),some (.int mo),some (tI ms'),some (.int pt'),y6,y7,y8]:=λ x x0 x1=>
   ⟨bn (show(ms.map TV.int).length+1<=1000 by rw[au];lia),rfl,ms++[x],_,_,_,_,fs x x0 x1,by rw[aQ,ml];rfl,by unfold tI;rw[bD];rfl⟩
  exact⟨on,rm,sN (λ _=>⟨O,O,g1L,fin fr fu (iE _)⟩) (λ _=>⟨O,g1L,fin _ (by split<;>lia) (by split<;>lia)⟩)⟩
 ·obtain⟨ms,pt,y6,y7,y8,hf,ml,rfl⟩:=h;refine⟨rm,sN (λ _=>⟨O,g2L,O,g2L,O,q (.inp ms) ms (λ _=>⟨O,nP (hV hf hmo)⟩) hf⟩) (λ _=>⟨O,g0L,dpT ms,?_⟩)⟩
  have fin:∀ns:LI,aJ mo ns->0<ns.length->((15:Int)≠0/\-18446744073709551616<(15:Int)/\(15:Int)<1606938044258990275541962092341162602522202993782792835301376)/\(((ns.map TV.int).length:Nat):Int)≠0/\[TV.str "count",tI ns,TV.int (aD (aH n 15) ((ns.map TV.int).length:Nat))].all TV.nb=true/\3<=sizeLine/\[TV.tup [TV.str "count",tI ns,TV.int (aD (aH n 15) ((ns.map TV.int).length:Nat))],tI ns].all TV.nb=true/\2<=sizeLine/\true=true/\Q (.tup [TV.tup [TV.str "count",tI ns,TV.int (aD (aH n 15) ((ns.map TV.int).length:Nat))],tI ns]):=λ ns hf l0=>by
   refine⟨⟨on,on,on⟩,by rw[au];lia,O,g3L,O,g2L,O,?_⟩;rw[au,bw fu];have f0:=eN (aH n 15) (show(ns.length:Int)≠0 by lia);have f1:=fh (aH n 15) (show(0:Int)<ns.length by lia);exact q (.count ns (aH n 15%ns.length)) ns (λ _=>⟨O,nP (hV hf hmo),λ z=>by unfold off at z;lia⟩) hf
  by_cases c0:ms=[]
  ·have x0:0<=(if mo<3 then mo else 3)/\(if mo<3 then mo else 3)<=mo:=by split<;>lia
   exact sT ((ig ms).trans (bf c0)) ⟨O,g1L,O,fin [if mo<3 then mo else 3] (rk (ns:=[]) (nR hmo) on x0.1 (by show _<=mo/1;rw[Int.ediv_one];exact x0.2)) (kM _)⟩
  ·exact sF ((ig ms).trans (aP c0)) (fin ms hf (iF.mpr c0))
def Kk:ZX 46 68 ["one","other","least"] 3 2 xV Jf:=by
 refine⟨by kernel_rfl,?_⟩;rintro ts Q ⟨ns,ms,rfl,q⟩;refine⟨O,?_⟩;have hm:(if (((ms.map TV.int).length:Nat):Int)<(((ns.map TV.int).length:Nat):Int) then (((ms.map TV.int).length:Nat):Int) else (((ns.map TV.int).length:Nat):Int))=((if ms.length<ns.length then ms.length else ns.length:Nat):Int):=by rw[au,au];split<;>split<;>lia
 refine⟨O,?_⟩;rw[hm];generalize hL:(if ms.length<ns.length then ms.length else ns.length)=L;have e1:=eJ ns L;have e2:=eJ ms L;refine⟨by show _L.dp 9 (TV.tup (ao (ns.map TV.int) none (some (L:Int))));rw[e1];exact dpT _,O,?_⟩;show Q (.bl (_L.eqT (TV.tup (ao (ns.map TV.int) none (some (L:Int)))) (TV.tup (ao (ms.map TV.int) none (some (L:Int))))));rw[e1,e2,gx];refine q _ ?_;rw[gY];unfold cu;subst hL;by_cases c:ms.length<ns.length
 ·rw[if_pos c,if_pos c,dh]
 ·rw[if_neg c,if_neg c,dh];exact eq_comm
def Kl:ZX 47 69 ["kind","d","sides","every","a","fit","b","longer","words","c"] 10 3 xW Jg:=by
 refine⟨by kernel_rfl,?_⟩;rintro ts Q ⟨kd,d0,d1,d2,mo,Ss,rfl,n0,n4,hS,q⟩;refine⟨O,?_⟩;refine⟨⟨fu,by rw[ah];lia⟩,O,?_⟩;rw[ah,jX];refine⟨_,O,clB rfl ⟨upL Ss.length,d0,O,by rw[dw];exact n0,by rw[dw];lia,λ k hk=>?_⟩⟩;obtain⟨a,rfl,al⟩:=eX hk;have eA:=eK al;generalize Ss.getD a []=A at eA;have fA:=hS _ (bg eA);obtain⟨w4,hw4,wm4⟩:=rK lu (k:=aD d2 4) (by rw[bw on];lia) (by rw[bw on];show d2%4<((4:Nat):Int);lia);refine⟨by simp[LF],O,rm,sN (λ _=>⟨O,g4L,_,O,on,.str w4,hw4,O,g3L,tI A,aE eA,O,g2L,O,q (.each w4 a) A ⟨eA,wm4⟩ fA⟩) (λ _=>?_)⟩;refine⟨by rw[au,dw];exact aR fu,eZ TV.int TV.int (pB Ss A) (upL Ss.length) rfl (λ k hk=>?_) ?_⟩
 ·obtain⟨j,rfl,jl⟩:=eX hk;exact⟨tI A,aE eA,tI (Ss.getD j []),aE (eK jl),cl rfl ⟨A,Ss.getD j [],O,λ b hb=>⟨by rw[wA hb (oa (k:=(j:Int)))],λ _=>⟨O,O⟩⟩⟩ rfl⟩
 generalize hks:(upL Ss.length).filter (pB Ss A)=ks;have km:∀k,k∈ks ↔ k∈upL Ss.length/\cu A (Ss.getD k.toNat []):=λ k=>by rw[<- hks,dH,oa]
 have kl:ks.length<=40:=by rw[<- hks];exact bB (fV _ _) (by rw[dw];exact n4)
 have kpos:0<ks.length:=oy ((km a).mpr ⟨wg al,by rw[Int.toNat_natCast,bG,eA];exact wb A⟩);refine⟨O,_,O,clB rfl ⟨ks,d1,O,kpos,fu,λ k hk=>?_⟩⟩;obtain⟨ku,pB'⟩:=(km k).mp hk;obtain⟨b,rfl,bl⟩:=eX ku;have eB:=eK bl;rw[Int.toNat_natCast] at pB';generalize Ss.getD b []=B at eB pB';have fB:=hS _ (bg eB);have fL:aJ mo (bJ A B):=wf fA fB;obtain⟨w,hw,wm⟩:=rK lw (k:=aD d2 12) (by rw[bw on];lia) (by rw[bw on];show d2%12<((12:Nat):Int);lia);refine⟨by simp[LF],O,tI A,aE eA,tI B,aE eB,O,?_⟩;rw[mxT pB'];refine⟨rm,sN (λ _=>⟨O,HJ,O,_,O,on,.str w,hw,O,g4L,O,g2L,O,q (.pair w a b) (bJ A B) ⟨A,B,eA,eB,wm,pB',O⟩ fL⟩) (λ _=>?_)⟩;refine⟨by rw[au];exact aR fu,eZ TV.int TV.int (pB Ss B) ks rfl (λ k hk=>?_) ?_⟩
 ·obtain⟨j,rfl,jl⟩:=eX ((km k).mp hk).1;exact⟨tI B,aE eB,tI (Ss.getD j []),aE (eK jl),cl rfl ⟨B,Ss.getD j [],O,λ b hb=>⟨by rw[wA hb (oa (k:=(j:Int)))],λ _=>⟨O,O⟩⟩⟩ rfl⟩
 generalize hls:ks.filter (pB Ss B)=ls;have lm:∀k,k∈ls ↔ k∈ks/\cu B (Ss.getD k.toNat []):=λ k=>by rw[<- hls,dH,oa]
 have ll:ls.length<=40:=by rw[<- hls];exact bB (fV _ _) kl
 have lpos:0<ls.length:=oy ((lm b).mpr ⟨hk,by rw[Int.toNat_natCast,bG,eB];exact wb B⟩);refine⟨O,_,O,clB rfl ⟨ls,d2,O,lpos,fu,λ k hk2=>?_⟩⟩;obtain⟨kk,pC⟩:=(lm k).mp hk2;obtain⟨ku2,pAC⟩:=(km k).mp kk;obtain⟨c,rfl,cl'⟩:=eX ku2;have eC:=eK cl';rw[Int.toNat_natCast] at pC pAC;generalize Ss.getD c []=C at eC pC pAC;have fC:=hS _ (bg eC)
 have pLC:cu (bJ A B) C:=by
  by_cases z:A.length<B.length
  ·rw[we z];exact pC
  ·rw[wc pB' fu];exact pAC
 have z:Q (.tup [stT (.pick a b c),TV.tup (if ((bJ A B).map TV.int).length<(C.map TV.int).length then C.map TV.int else (bJ A B).map TV.int)]):=by rw[mxT pLC];exact q (.pick a b c) (bJ (bJ A B) C) ⟨A,B,C,eA,eB,eC,pB',pLC,rfl⟩ (wf fL fC)
 exact⟨by simp[LF],O,O,g4L,tI C,aE eC,O,g2L,O,z⟩
def Km:ZX 48 70 ["own","d","size"] 3 2 xX Jh:=by
 refine⟨by kernel_rfl,?_⟩;rintro ts Q ⟨ns,d,mo,rfl,ft,mk,q⟩;refine⟨O,?_⟩;have fA:=hV ft mk;have sd:=jT fA;have l6:=fA.2.1;have m4:aD d 4=d%4:=if_pos on;unfold iR at q;refine cl rfl ⟨_,ns,O,.inl rfl,sd,O,on,rm,sN (λ h=>?_) (λ h=>⟨on,rm,?_⟩)⟩ rfl
 ·rw[m4] at h;rw[if_pos h] at q;exact⟨O,g1L,O,q⟩
 rw[m4] at h;rw[if_neg h] at q;have v2:aH (ak ns) 2=ak ns/2:=if_pos on;have w2:aD (ak ns) 2=ak ns%2:=if_pos on;have rv:Q (tI ns.reverse)->Q (TV.tup (ns.map TV.int).reverse):=λ q=>by rw[<- List.map_reverse];exact q
 refine sN (λ h2=>?_) (λ h2=>?_)
 ·rw[m4] at h2;refine s2 (λ h3=>?_) (λ h3=>?_)
  ·have h3:(((ns.map TV.int).length:Nat):Int)<6:=ay h3;rw[au] at h3;rw[if_pos ⟨h2,fu⟩] at q;exact⟨O,g1L,bn (show 1+(ns.map TV.int).length<=1000 by rw[au];lia),O,q⟩
  ·have h3:¬(((ns.map TV.int).length:Nat):Int)<6:=iW h3;rw[au] at h3;rw[if_neg fu,if_neg fu] at q;exact⟨on,rm,sN (λ h4=>by rw[m4] at h4;lia) (λ h4=>⟨O,rv q⟩)⟩
 ·rw[m4] at h2;rw[if_neg (λ z=>h2 z.1)] at q;refine⟨on,rm,sN (λ h4=>⟨on,rm,sN (λ h5=>?_) (λ h5=>⟨O,rv ?_⟩)⟩) (λ h4=>⟨O,rv ?_⟩)⟩
  ·rw[m4] at h4;rw[w2] at h5;rw[if_pos ⟨h4,h5⟩,<- v2] at q;exact⟨⟨on,on,on⟩,O,g2L,O,q⟩
  ·rw[w2] at h5
   rwa [if_neg (λ z=>h5 z.2)] at q
  ·rw[m4] at h4
   rwa [if_neg (λ z=>h4 z.1)] at q
def Ko:ZX 49 71 ["kind","d","a","own","most","order","part","k","place","length","side","gap","first","many"] 14 5 xY Ji:=by
 refine⟨by kernel_rfl,?_⟩;rintro ts Q ⟨kd,d0,d1,d2,mo,a,A,Ss,rfl,ea,hf,hmo,q⟩;refine⟨O,?_⟩;have a6:=hf.2.1;have sd:=Hk hf hmo;have m1:=hmo.1;have m2:=hmo.2;have pb:=hf.2.2;refine⟨rm,sN (λ _=>?_) (λ _=>?_)⟩
 ·refine⟨O,g0L,O,_,O,O,O,⟨fu,by rw[au];lia⟩,?_⟩;refine bY (λ i ρ=>∃(os:LI) (n:Int) (y:Option TV),os.Perm (upL i)/\ρ=[some (.int kd),some (lI [d0,d1,d2]),some (.int a),some (tI A),some (.int mo),some (.own (os.map .int)),some (.int n),y,none,none,none,none,none,none]) ⟨[],_,_,List.Perm.refl _,O⟩ (λ i t ρ ht h=>?_) (λ ρ h=>?_)
  ·obtain⟨os,n,y,pm,rfl⟩:=h;obtain⟨il,rfl⟩:=gu ht;rw[au] at il;have ol:os.length=i:=by rw[pm.length_eq,dw]
   have mp:aD n ((i:Int)+1)=n%((i:Int)+1):=bw fu;have f0:=eN n (show(i:Int)+1≠0 by lia);have f1:=fh n (show(0:Int)<(i:Int)+1 by lia);refine⟨show(i:Int)+1≠0 by lia,O,⟨by rw[mp];exact f0,by rw[mp,au,ol];lia⟩,by rw[au];exact aR fu,⟨show(i:Int)+1≠0 by lia,show -18446744073709551616<(i:Int)+1 by lia,show(i:Int)+1<_ by lia⟩,O,os.take (aD n ((i:Int)+1)).toNat++(i:Int)::os.drop (aD n ((i:Int)+1)).toNat,aH n ((i:Int)+1),some (.int (i:Nat)),Ho pm,by rw[bD,cz,List.map_take,List.map_drop];rfl⟩
  ·obtain⟨os,n,y,pm,rfl⟩:=h;rw[ah,bA,au,Int.toNat_natCast] at pm;have ol:os.length=A.length:=by rw[pm.length_eq,dw]
   have om:∀z∈os,0<=z/\z<(A.length:Int):=λ z hz=>up_mem.mp (pm.subset hz);refine⟨O,g3L,by rw[au];exact aR fu,dF .int (λ z:Int=>.int (A.getD z.toNat 0)) os (λ z hz=>⟨_,nW (om z hz).1 (om z hz).2,O,O⟩) ⟨O,g2L,O,?_⟩⟩;have z:=q (.turn a os) (gq A os) ⟨A,ea,pm,rfl⟩ (Hq hf pm);unfold mdT stT stI tI gq at z;rw[aV] at z;exact z
 have lo:=Hl (d:=d2) hf hmo;refine⟨rm,sN (λ _=>⟨_,O,cl rfl ⟨A,d2,mo,O,hf,hmo,O,g3L,_,O,cl rfl ⟨A,d2,mo,O,hf,hmo,O,g2L,O,q (.lay a (iR A d2)) (iR A d2) ⟨A,ea,nP (hV lo.1 hmo),lo.2.symm,O⟩ lo.1⟩ rfl⟩ rfl⟩) (λ _=>?_)⟩;refine⟨O,g0L,dpT A,or3 (λ sp=>?_) (λ ne=>?_)⟩
 ·have l6:A.length<6:=by
   rcases sp with z|⟨_,z⟩
   ·have z:=ay ((ig A).symm.trans z);rw[z];decide
   ·have z:(((A.map TV.int).length:Nat):Int)<6:=ay z;rw[au] at z;lia
  have mp:aD d1 ((((A.map TV.int).length:Nat):Int)+1)=d1%((A.length:Int)+1):=by rw[au];exact bw fu
  have f0:=eN d1 (show(A.length:Int)+1≠0 by lia);have f1:=fh d1 (show(0:Int)<(A.length:Int)+1 by lia);obtain⟨k,hk⟩:∃k:Nat,d1%((A.length:Int)+1)=k:=⟨_,(fQ f0).symm⟩;rw[hk] at f1 mp;refine⟨_,O,show(((A.map TV.int).length:Nat):Int)+1≠0 by rw[au];lia,O,?_⟩;rw[mp];have dv:=rj pb.1 pb.2;have de:aH mo (ak (A.map aq))=mo/ak (A.map aq):=wz fu;refine⟨_,O,cl rfl ⟨A,O,sd,fu,⟨fu,fu,fu⟩,?_⟩ rfl⟩;rw[de];have fi:=λ x=>Hs (x:=x) (k:=k) hf l6;have fm:mo/ak (A.map aq)<=mo:=Int.ediv_le_self _ fu;generalize mo/ak (A.map aq)=fr at *;have c4:0<(if fr<4 then fr else 4)/\(if fr<4 then fr else 4)<=fr:=by split<;>lia
  have me:aD d2 (if fr<4 then fr else 4)=d2%(if fr<4 then fr else 4):=bw c4.1;have g0:=eN d2 (show(if fr<4 then fr else 4)≠0 by lia);have g1:=fh d2 c4.1
  have fin:∀x:Int,0<=x->x<=fr->Q (.tup [.tup [.str "spread",.int a,.int k,.int x],.tup ((ao (A.map TV.int) none (some (k:Int))++[TV.int x])++ao (A.map TV.int) (some (k:Int)) none)]):=λ x x0 x1=>by
   rw[HL];exact q (.spread a k x) (cU A k x) ⟨A,ea,by unfold nM;lia,fu,fu,nP (hV (fi x x0 x1) hmo),O⟩ (fi x x0 x1)
  have la:=gz (a:=none) (b:=some (k:Int)) a6;have lb:=gz (a:=some (k:Int)) (b:=none) a6;have l2:∀x,(ao (A.map TV.int) none (some (k:Int))++[TV.int x]).length+(ao (A.map TV.int) (some (k:Int)) none).length<=sizeLine:=λ x=>bn (by rw[aQ,fF];lia);have l1:(ao (A.map TV.int) none (some (k:Int))).length+1<=sizeLine:=bn fu;exact⟨show(if fr<4 then fr else 4)≠0 by lia,O,_,O,on,rm,sN (λ _=>⟨O,O,g4L,O,g1L,l1,l2 _,O,g2L,O,fin 0 fu fu⟩) (λ _=>⟨O,g4L,O,g1L,l1,l2 _,O,g2L,O,fin _ (by rw[me];lia) (by rw[me];lia)⟩)⟩
 ·have A0:0<A.length:=iF.mpr (iW ((ig A).symm.trans ne));have mp:aD d1 (((A.map TV.int).length:Nat):Int)=d1%(A.length:Int):=by rw[au];exact bw fu
  have f0:=eN d1 (show(A.length:Int)≠0 by lia);have f1:=fh d1 (show(0:Int)<(A.length:Int) by lia);obtain⟨k,hk⟩:∃k:Nat,d1%(A.length:Int)=k:=⟨_,(fQ f0).symm⟩;rw[hk] at f1 mp;refine⟨_,O,show(((A.map TV.int).length:Nat):Int)≠0 by rw[au];lia,O,?_⟩;rw[mp];have kl:k<A.length:=fu;refine⟨rm,s2 (λ _=>⟨O,g3L,O,g2L,O,q (.flip a k) A ⟨ea,by unfold off;lia⟩ hf⟩) (λ _=>?_)⟩;have an:=(hf.1 _ (ly kl)).1;have am:=(hf.1 _ (ly kl)).2;have o1:=hG an;have ge:aD d2 3=d2%3:=bw on;have fe:aD (aH d2 3) (if A.getD k 0 > 1 then A.getD k 0 else 1)=aH d2 3%aq (A.getD k 0):=by rw[rh an];exact bw fu
  have h0:=eN (aH d2 3) (show aq (A.getD k 0)≠0 by lia);have g1:1<=1+aD d2 3/\1+aD d2 3<=3:=by rw[ge];lia
  refine⟨_,O,on,O,_,O,⟨on,on,on⟩,_,bZ kl,show(if A.getD k 0 > 1 then A.getD k 0 else 1)≠0 by rw[rh an];lia,O,?_⟩;rw[fe];generalize aH d2 3%aq (A.getD k 0)=f at *;generalize 1+aD d2 3=g at *;have e3:0<=aD (aH d2 300) 3:=by rw[bw on];lia
  have cm:=Hx (e:=aD (aH d2 300) 3) an h0 g1.1 e3;rw[<- wx] at cm;have la:=gz (a:=none) (b:=some (k:Int)) a6;have lb:=gz (a:=some ((k:Int)+1)) (b:=none) a6;have l2:∀x,(ao (A.map TV.int) none (some (k:Int))++[TV.int x]).length+(ao (A.map TV.int) (some ((k:Int)+1)) none).length<=sizeLine:=λ x=>bn (by rw[aQ,fF];lia);refine⟨_,bZ kl,⟨fu,fu,fu⟩,_,O,⟨on,on,on⟩,on,O,?_⟩;generalize (if aH (A.getD k 0-1-f) g+1-aD (aH d2 300) 3 > 0 then aH (A.getD k 0-1-f) g+1-aD (aH d2 300) 3 else 0)=m at *;refine⟨O,g6L,O,g1L,bn (by show(ao (A.map TV.int) none (some (k:Int))).length+1<=1000;lia),l2 m,O,g2L,O,?_⟩;show Q (.tup [.tup [.str "cut",.int a,.int k,.int f,.int m,.int g],.tup ((ao (A.map TV.int) none (some (k:Int))++[TV.int m])++ao (A.map TV.int) (some ((k:Int)+1)) none)]);rw[wB kl];exact q (.cut a k f m g) (A.set k m) ⟨A,ea,by unfold off;lia,by unfold bad;rw[Int.toNat_natCast];exact λ z=>z.elim fu λ z=>z.elim fu λ z=>z.elim fu cm.2.2,fu,by rw[Int.toNat_natCast]⟩ (wa hf cm.1 cm.2.1)
def Kp:ZX 50 72 ["own","other","side"] 3 3 xZ Jj:=by
 refine⟨by kernel_rfl,?_⟩;rintro ts Q ⟨A,B,k,rfl,kl,a6,b6,q⟩;refine⟨O,?_⟩
 have ct:∀L:LI,L.length<=6->ao (L.map TV.int) none (some (k:Int))++ao (L.map TV.int) (some ((k:Int)+1)) none=(L.eraseIdx k).map TV.int/\(ao (L.map TV.int) none (some (k:Int))).length<=6/\(ao (L.map TV.int) (some ((k:Int)+1)) none).length<=6:=λ L hL=>by
  have e1:=eJ L k;have e2:ao (L.map TV.int) (some ((k:Int)+1)) none=(L.drop (k+1)).map TV.int:=by rw[show(k:Int)+1=((k+1:Nat):Int) by lia];exact fb L (k+1)
  refine⟨by rw[e1,e2,gK,bD],by rw[e1,au,be];lia,by rw[e2,au,eh];lia⟩
 obtain⟨ea,la,lb⟩:=ct A a6;obtain⟨eb,lc,ld⟩:=ct B b6;unfold eH at q;have nl:∀a b:Nat,a<=6->b<=6->a+b<=sizeLine:=λ a b h1 h2=>bn fu;have dpA:_L.dp 9 (TV.tup (ao (A.map TV.int) none (some (k:Int))++ao (A.map TV.int) (some ((k:Int)+1)) none)):=by rw[ea];exact dpT _
 have eq1:_L.eqT (TV.tup (ao (A.map TV.int) none (some (k:Int))++ao (A.map TV.int) (some ((k:Int)+1)) none)) (TV.tup (ao (B.map TV.int) none (some (k:Int))++ao (B.map TV.int) (some ((k:Int)+1)) none))=decide (A.eraseIdx k=B.eraseIdx k):=by rw[ea,eb,gx]
 by_cases c1:A.length=B.length
 ·by_cases c2:A.eraseIdx k=B.eraseIdx k
  ·rw[if_pos ⟨c1,c2⟩] at q;have e1:=eJ A k;have e2:ao (A.map TV.int) (some ((k:Int)+1)) none=(A.drop (k+1)).map TV.int:=by rw[show(k:Int)+1=((k+1:Nat):Int) by lia];exact fb A (k+1)
   have e3:(ao (A.map TV.int) none (some (k:Int))++[TV.int (A.getD k 0+B.getD k 0)])++ao (A.map TV.int) (some ((k:Int)+1)) none=(dE A B k).map TV.int:=by unfold dE;rw[Int.toNat_natCast,e1,e2,nO,if_pos kl];simp
   unfold tI at q;rw[<- e3] at q;exact⟨rm,sF (neF (by rw[au,au,c1])) ⟨nl _ _ la lb,nl _ _ lc ld,dpA,sF (by show(!_L.eqT (TV.tup _) (TV.tup _))=false;rw[eq1,bf c2];rfl) ⟨_,bZ kl,_,bZ fu,O,g1L,nl _ 1 la on,bn (show(ao (A.map TV.int) none (some (k:Int))++[TV.int (A.getD k 0+B.getD k 0)]).length+(ao (A.map TV.int) (some ((k:Int)+1)) none).length<=1000 by rw[aQ,fF];lia),O,q⟩⟩⟩
  ·rw[if_neg (λ z=>c2 z.2)] at q;exact⟨rm,sF (neF (by rw[au,au,c1])) ⟨nl _ _ la lb,nl _ _ lc ld,dpA,sT (by show(!_L.eqT (TV.tup _) (TV.tup _))=true;rw[eq1,aP c2];rfl) ⟨O,g0L,O,q⟩⟩⟩
 ·rw[if_neg (λ z=>c1 z.1)] at q;exact⟨rm,sT (neT (by rw[au,au];lia)) ⟨O,g0L,O,q⟩⟩
def Kq:ZX 51 73 ["kind","d","sides","most","sided","a","own","side","words","made","fit","b"] 12 4 ye Jk:=by
 refine⟨by kernel_rfl,?_⟩;rintro ts Q ⟨kd,d0,d1,d2,mo,Ss,rfl,⟨S0,S0m,S0l⟩,k11,k14,n4,hS,hmo,q⟩;refine⟨O,?_⟩;obtain⟨j0,j0l,j0e⟩:=List.mem_iff_getElem.mp S0m;refine⟨⟨fu,by rw[ah];lia⟩,by rw[ah,bA,ah];exact aR fu,eZ TV.int TV.int (λ k:Int=>!decide (Ss.getD k.toNat []=[])) (upL Ss.length) (by rw[ah];exact jX _) (λ k hk=>?_) ?_⟩
 ·obtain⟨j,rfl,jl⟩:=eX hk;exact⟨tI (Ss.getD j []),aE (eK jl),O,g0L,dpT _,by rw[Int.toNat_natCast,<- ig];rfl,λ _=>⟨O,O⟩⟩
 generalize hks:(upL Ss.length).filter (λ k:Int=>!decide (Ss.getD k.toNat []=[]))=ks;have km:∀k,k∈ks ↔ k∈upL Ss.length/\Ss.getD k.toNat []≠[]:=λ k=>by rw[<- hks,dH];simp
 have kl:ks.length<=40:=by rw[<- hks];exact bB (fV _ _) (by rw[dw];exact n4)
 have kpos:0<ks.length:=oy ((km j0).mpr ⟨wg j0l,by rw[Int.toNat_natCast,bG,aF j0l,j0e];exact iF.mp S0l⟩);refine⟨O,_,O,clB rfl ⟨ks,d0,O,kpos,fu,λ k hk=>?_⟩⟩;obtain⟨ku,An⟩:=(km k).mp hk;obtain⟨a,rfl,al⟩:=eX ku;have eA:=eK al;rw[Int.toNat_natCast] at An;generalize Ss.getD a []=A at eA An;have A0:=iF.mpr An;have fA:=hS _ (bg eA);have a6:=fA.2.1;have mp:aD d1 (((A.map TV.int).length:Nat):Int)=d1%(A.length:Int):=by rw[au];exact bw fu
 have f0:=eN d1 (show(A.length:Int)≠0 by lia);have f1:=fh d1 (show(0:Int)<(A.length:Int) by lia);obtain⟨k,hk⟩:∃k:Nat,d1%(A.length:Int)=k:=⟨_,(fQ f0).symm⟩;rw[hk] at f1 mp;have kl:k<A.length:=fu;refine⟨by simp[LF],O,tI A,aE eA,O,_,O,show(((A.map TV.int).length:Nat):Int)≠0 by rw[au];lia,O,?_⟩;rw[mp];obtain⟨w,hw,wm⟩:=rK fw (k:=aD d2 7) (by rw[bw on];lia) (by rw[bw on];show d2%7<((7:Nat):Int);lia);have la:=gz (a:=none) (b:=some (k:Int)) a6;have lb:=gz (a:=some ((k:Int)+1)) (b:=none) a6;have er:ao (A.map TV.int) none (some (k:Int))++ao (A.map TV.int) (some ((k:Int)+1)) none=(A.eraseIdx k).map TV.int:=by rw[show(k:Int)+1=((k+1:Nat):Int) by lia,eJ,fb,gK,bD]
 have qf:Q (.tup [.tup [.str "fold",.str w,.int a,.int k],.tup (ao (A.map TV.int) none (some (k:Int))++ao (A.map TV.int) (some ((k:Int)+1)) none)]):=by
  rw[er];exact q (.fold w a k) (A.eraseIdx k) ⟨A,eA,wm,by unfold off;lia,by rw[Int.toNat_natCast]⟩ (Hw fA)
 refine⟨O,g7L,O,rm,sN (λ _=>⟨_,O,on,.str w,hw,O,g4L,bn (by show(ao (A.map TV.int) none (some (k:Int))).length+(ao (A.map TV.int) (some ((k:Int)+1)) none).length<=1000;lia),O,g2L,O,qf⟩) (λ n13=>?_)⟩;refine⟨rm,sN (λ _=>⟨_,O,on,.str w,hw,O,g4L,O,g2L,O,q (.run w a k) A ⟨eA,wm,by unfold off;lia⟩ fA⟩) (λ n14=>?_)⟩;refine⟨O,g0L,O,g1L,O,?_⟩;refine jY (λ ρ=>∃Ms:LL,Md kd A k Ss Ms/\ρ=[some (.int kd),some (lI [d0,d1,d2]),some (.lst (Ss.map tI)),some (.int mo),some (.own (ks.map .int)),some (.int a),some (tI A),some (.int k),some (.own (fw.map .str)),some (.own (Ms.map tI)),none,none]) ?_ (λ ρ' ⟨Ms,hM,e⟩=>?_)
 ·refine⟨rm,sN (λ c11=>⟨by rw[ah];exact aR fu,dF tI (λ B=>tI (eH A B k)) Ss (λ B hB=>cl rfl ⟨A,B,k,O,kl,a6,(hS B hB).2.1,O,O⟩ rfl) ⟨O,Ss.map (λ B=>eH A B k),.inl ⟨c11,O⟩,by rw[aV];rfl⟩⟩) (λ c11=>⟨_,wC A0,s3 (λ cA=>⟨by rw[ah];exact aR fu,dF tI (λ B=>tI (B++A.drop 1)) Ss (λ B hB=>?_) ⟨O,Ss.map (λ B=>B++A.drop 1),.inr (.inl ⟨fu,cA,O⟩),by rw[aV];rfl⟩⟩) (λ cA=>⟨[[]],.inr (.inr ⟨c11,cA,O⟩),O⟩)⟩)⟩;have e1:ao (A.map TV.int) (some 1) none=(A.drop 1).map TV.int:=fb A 1;have b6:=(hS B hB).2.1;have lc:=gz (a:=some 1) (b:=none) a6;refine⟨bn (by show(B.map TV.int).length+(ao (A.map TV.int) (some 1) none).length<=1000;rw[au];lia),O,?_⟩;show TV.tup (B.map TV.int++ao (A.map TV.int) (some 1) none)=tI (B++A.drop 1);rw[e1,<- bD];rfl
 subst e;have ml:=Hy hM n4;have mb:=Hz hM fA hS hmo;refine⟨⟨fu,by rw[ah];lia⟩,by rw[ah,bA,ah];exact aR fu,eZ TV.int TV.int (λ k:Int=>(decide (kd=12)&&decide (0<A.getD 0 0)) || !decide (Ms.getD k.toNat []=[])) (upL Ms.length) (by rw[ah];exact jX _) (λ k hk=>?_) ?_⟩
 ·obtain⟨j,rfl,jl⟩:=eX hk;have nn:(!_L.eqT (tI (Ms.getD j [])).fz (TV.tup []).fz)=!decide (Ms.getD ((j:Int).toNat) []=[]):=by rw[Int.toNat_natCast,<- ig];rfl
  refine⟨rm,sN (λ c12=>⟨_,wC A0,s3 (λ cA=>?_) (λ cA=>?_)⟩) (λ c12=>?_)⟩
  ·exact⟨by rw[bf c12,bf cA];rfl,λ _=>⟨O,O⟩⟩
  ·exact⟨tI (Ms.getD j []),aE (eK jl),O,g0L,dpT _,by rw[aP cA,mU,ni,<- nn];rfl,λ _=>⟨O,O⟩⟩
  ·exact⟨tI (Ms.getD j []),aE (eK jl),O,g0L,dpT _,by rw[aP c12,lG,ni,<- nn];rfl,λ _=>⟨O,O⟩⟩
 generalize hks1:(upL Ms.length).filter (λ k:Int=>(decide (kd=12)&&decide (0<A.getD 0 0)) || !decide (Ms.getD k.toNat []=[]))=ks1;have km1:∀k,k∈ks1 ↔ k∈upL Ms.length/\((kd=12/\0<A.getD 0 0)\/Ms.getD k.toNat []≠[]):=λ k=>by rw[<- hks1,dH];simp
 have kl1:ks1.length<=40:=by rw[<- hks1];exact bB (fV _ _) (by rw[dw];exact ml)
 refine⟨O,by rw[au];exact aR fu,eZ TV.int TV.int (λ k:Int=>decide ((Ms.getD k.toNat []).length<=6)&&decide (ak ((Ms.getD k.toNat []).map aq)<=mo)) ks1 rfl (λ k hk=>?_) ?_⟩
 ·obtain⟨j,rfl,jl⟩:=eX ((km1 k).mp hk).1;rw[Int.toNat_natCast];have eM:=eK jl;generalize Ms.getD j []=M at *;refine⟨tI M,aE eM,s2 (λ c6=>?_) (λ c6=>?_)⟩
  ·have c6:(((M.map TV.int).length:Nat):Int)<=6:=ay c6;rw[au] at c6;exact⟨tI M,aE eM,cl rfl ⟨M,O,HA (mb M (bg eM)),fu,by rw[bf (show M.length<=6 by lia),Bool.true_and],λ _=>⟨O,O⟩⟩ rfl⟩
  ·have c6:¬(((M.map TV.int).length:Nat):Int)<=6:=iW c6;rw[au] at c6;exact⟨by rw[aP (show ¬M.length<=6 by lia),lG],λ _=>⟨O,O⟩⟩
 generalize hls:ks1.filter (λ k:Int=>decide ((Ms.getD k.toNat []).length<=6)&&decide (ak ((Ms.getD k.toNat []).map aq)<=mo))=ls;have lm:∀k,k∈ls ↔ k∈ks1/\(Ms.getD k.toNat []).length<=6/\ak ((Ms.getD k.toNat []).map aq)<=mo:=λ k=>by rw[<- hls,dH,bu,gY,gY]
 have ll:ls.length<=40:=by rw[<- hls];exact bB (fV _ _) kl1
 refine⟨O,rm,sN (λ _=>⟨O,g3L,O,g2L,O,q (.flip a k) A ⟨eA,by unfold off;lia⟩ fA⟩) (λ lne=>?_)⟩;have lne:ls.length≠0:=λ z=>lne (by rw[au,z];rfl);refine⟨_,O,clB rfl ⟨ls,d2,O,fu,fu,λ x hx=>?_⟩⟩;obtain⟨xm,m6,mw⟩:=(lm x).mp hx;obtain⟨xu,hb⟩:=(km1 x).mp xm;obtain⟨b,rfl,bl⟩:=eX xu;rw[Int.toNat_natCast] at m6 mw hb;have eM:=eK bl;generalize Ms.getD b []=M at *;have nb:=HB hmo m6 mw;have fM:=rn (λ n hn=>(mb M (bg eM) n hn).1) m6 mw;refine⟨by simp[LF],O,rm,sN (λ c11=>?_) (λ n11=>?_)⟩
 ·have mne:¬M=[]:=hb.elim (λ z=>by lia) id
  obtain⟨B,eB,rfl⟩:∃B,Ss[b]?=some B/\M=eH A B k:=by
   rcases hM with ⟨_,rfl⟩|⟨z,_⟩|⟨z,_⟩
   ·rw[aX] at eM
    cases hx:Ss[b]? with
    |none=>rw[hx] at eM;cases eM
    |some B=>rw[hx] at eM;cases eM;exact⟨B,rfl,rfl⟩
   ·lia
   ·exact absurd c11 z
  obtain⟨j1,j2,j3⟩:=wn mne;exact⟨O,g4L,tI (eH A B k),aE eM,O,g2L,O,q (.join a b k) (eH A B k) ⟨A,B,eA,eB,j1,by unfold off;lia,by rw[Int.toNat_natCast];exact j2,by rw[<- j3];exact nb,j3⟩ fM⟩
 have k12:kd=12:=fu
 obtain⟨n,r,rfl⟩:∃n r,A=n::r:=by
  match A,A0 with
  |n::r,_=>exact⟨n,r,rfl⟩
 obtain⟨B,n0,eB,rfl⟩:∃B,0<n/\Ss[b]?=some B/\M=B++r:=by
  rcases hM with ⟨z,_⟩|⟨_,z,rfl⟩|⟨_,z,rfl⟩
  ·exact absurd z n11
  ·rw[aX] at eM
   cases hx:Ss[b]? with
   |none=>rw[hx] at eM;cases eM
   |some B=>rw[hx] at eM;cases eM;exact⟨B,z,rfl,rfl⟩
  ·rcases hb with y|y
   ·exact absurd y.2 z
   ·match b,eM with
    |0,eM=>cases eM;exact absurd rfl y
 exact⟨O,g3L,tI (B++r),aE eM,O,g2L,O,q (.fetch a b) (B++r) ⟨n,r,B,eA,fu,eB,nb,O⟩ fM⟩
def Kr:ZX 52 74 ["cell","sides","most","n","kind","d","a"] 7 3 yf Jl:=by
 refine⟨by kernel_rfl,?_⟩;rintro ts Q ⟨cell,mo,Ss,rfl,n4,hS,hmo,q⟩;refine⟨O,?_⟩;refine⟨eY on on,on,O,?_⟩;generalize aD (cell*48271) 2147483647=n;refine⟨on,O,?_⟩;obtain⟨kd,ek⟩:∃kd,aD n 15=kd:=⟨_,rfl⟩;have kb:0<=kd/\kd<15:=by rw[<- ek,bw on];lia
 rw[ek];refine⟨⟨on,on,on⟩,on,⟨on,on,on⟩,on,⟨on,on,on⟩,O,g3L,O,?_⟩;generalize aD (aH n 15) 120=d0;generalize aD (aH n 1800) 120=d1;generalize aH n 216000=d2;refine⟨rm,s2 (λ _=>⟨on,cl rfl ⟨_,n,cell,mo,O,hmo,λ d S ok fs=>⟨O,q d S (ok Ss) fs⟩⟩ rfl⟩) (λ h0=>s3 (λ _=>⟨on,cl rfl ⟨_,n,cell,mo,O,hmo,λ d S ok fs=>⟨O,q d S (ok Ss) fs⟩⟩ rfl⟩) (λ k3=>?_))⟩
 have n0:0<Ss.length:=by
  have h0:¬(((Ss.map tI).length:Nat):Int)=0:=iW h0;rw[ah] at h0;lia
 refine s3 (λ _=>clB rfl ⟨kd,d0,d1,d2,mo,Ss,O,n0,n4,hS,λ d S ok fs=>⟨nZ d S,O,q d S ok fs⟩⟩) (λ k6=>?_);refine jY (λ ρ=>ρ=[some (.int cell),some (.lst (Ss.map tI)),some (.int mo),some (.int n),some (.int kd),some (.own [.int d0,.int d1,.int d2]),none]) ?_ (λ ρ' e=>?_)
 ·refine s3 (λ h10=>⟨by rw[ah];exact aR fu,dF tI (λ S=>.int ((S.map TV.int).length:Nat)) Ss (λ S _=>⟨O,O⟩) ⟨Ss.map (λ S=>(S.length:Int)),by rw[aV];exact s0w λ S _=>by rw[au];rfl,by rw[ah];exact n0,λ M hM _=>s3 (λ hM0=>?_) (λ _=>rfl)⟩⟩) (λ h10=>rfl);exact clB rfl ⟨kd,d0,d1,d2,mo,Ss,O,HC hM fu,fu,fu,n4,hS,hmo,λ d S ok fs=>⟨nZ d S,O,q d S ok fs⟩⟩
 subst e;refine⟨⟨fu,by rw[ah];lia⟩,_,O,cl rfl ⟨upL Ss.length,d0,by show[TV.lst ((List.range (((Ss.map tI).length:Nat):Int).toNat).map λ i:Nat=>TV.int (i:Nat)),TV.int d0]=_;rw[ah,jX];rfl,by rw[dw];exact n0,by rw[dw];lia,λ k hk=>?_⟩ rfl⟩;obtain⟨a,rfl,al⟩:=eX hk;have eA:=eK al;generalize Ss.getD a []=A at eA;exact⟨O,tI A,aE eA,clB rfl ⟨_,d0,d1,d2,mo,a,A,Ss,O,eA,hS _ (bg eA),hmo,λ d S ok fs=>⟨nZ d S,O,q d S ok fs⟩⟩⟩
def Ks:ZX 53 75 ["cells","most","steps","sides","cell","made","outs","n","k"] 9 2 yg Jm:=by
 refine⟨by kernel_rfl,?_⟩;rintro ts Q ⟨cs,mo,rfl,c40,hmo,q⟩;refine⟨O,?_⟩;refine⟨O,g0L,O,O,g0L,O,O,?_⟩;refine bY (λ i ρ=>∃(ds:List Stp) (Ss:LL) (y4 y5:Option TV),eI mo ds Ss/\ds.length=i/\ρ=[some (lI cs),some (.int mo),some (.own (ds.map stT)),some (.own (Ss.map tI)),y4,y5,none,none,none]) ⟨[],[],_,_,rq mo,O,O⟩ (λ i t ρ ht h=>?_) (λ ρ h=>?_)
 ·obtain⟨ds,Ss,y4,y5,gl,dl,rfl⟩:=h;obtain⟨c,rfl,hc⟩:=iT ht;have il:=(bc.mp hc).1;have Sl:Ss.length=i:=by rw[<- gl.1,dl]
  exact clB rfl ⟨c,mo,Ss,O,fu,gl.2.1,hmo,λ d S ok fs=>⟨nZ d S,O,_,O,O,by rw[ah,dl];exact aR fu,_,O,O,by rw[ah,Sl];exact aR fu,ds++[d],Ss++[S],_,_,jV gl ok fs,by rw[aQ,dl];rfl,by rw[bD,bD];rfl⟩⟩
 obtain⟨ds,Ss,y4,y5,gl,dl,rfl⟩:=h;rw[ah] at dl;refine jY (λ ρ=>∃(ds:List Stp) (Ss:LL),eI mo ds Ss/\0<ds.length/\ds.length<=40/\ds.length<=cs.length+1/\ρ=[some (lI cs),some (.int mo),some (.own (ds.map stT)),some (.own (Ss.map tI)),y4,y5,none,none,none]) ?_ (λ ρ' h=>?_)
 ·refine⟨rm,sN (λ z=>?_) (λ z=>⟨ds,Ss,gl,by rw[ah] at z;lia,fu,fu,O⟩)⟩;rw[ah] at z;have e1:ds=[]:=yt.mp fu;have e2:Ss=[]:=yt.mp (by rw[<- gl.1,e1];rfl);subst e1 e2;exact⟨O,g2L,O,sl3 (n:=0) on,O,g0L,O,sl3 (n:=0) on,[.num 0],[[]],jV (rq mo) (d:=.num 0) (S:=[]) ⟨O,by unfold inB;decide⟩ (nR hmo),on,on,Nat.le_add_left _ _,O⟩
 obtain⟨ds,Ss,gl,d0,d40,dc,rfl⟩:=h;refine⟨O,g0L,O,cs,O,eY on on,on,O,?_⟩;generalize aD (cs.sum*16807) 2147483647=n;obtain⟨x,hx,x1,x8⟩:=HM (aD n 6) (by rw[bw on];lia) (by rw[bw on];lia);refine⟨O,g6L,on,.int x,hx,O,⟨fu,fu⟩,?_⟩;refine bY (λ i ρ=>∃(os:LI) (n:Int) (y8:Option TV),os.length=i/\(∀o∈os,0<=o/\o<(ds.length:Int))/\ρ=[some (lI cs),some (.int mo),some (.own (ds.map stT)),some (.own (Ss.map tI)),y4,y5,some (.own (os.map .int)),some (.int n),y8]) ⟨[],n,_,O,(λ o ho=>nomatch ho),O⟩ (λ i t ρ ht h=>?_) (λ ρ h=>?_)
 ·obtain⟨os,n,y8,ol,ob,rfl⟩:=h;obtain⟨il,rfl⟩:=gu ht;have f0:=eN (aH (aD (n*48271+11) 2147483647) 16) (show(ds.length:Int)≠0 by lia);have f1:=fh (aH (aD (n*48271+11) 2147483647) 16) (show(0:Int)<ds.length by lia);have em:aD (aH (aD (n*48271+11) 2147483647) 16) (((ds.map stT).length:Nat):Int)=aH (aD (n*48271+11) 2147483647) 16%(ds.length:Int):=by rw[ah];exact bw fu
  refine⟨eY on on,on,O,⟨on,on,on⟩,by rw[ah];lia,O,by rw[au,ol];exact aR fu,os++[aD (aH (aD (n*48271+11) 2147483647) 16) (((ds.map stT).length:Nat):Int)],aD (n*48271+11) 2147483647,some (.int (i:Nat)),by rw[aQ,ol];rfl,λ o ho=>?_,by rw[bD];rfl⟩
  rcases bO.mp ho with z|z
  ·exact ob o z
  ·cases bd.mp z;rw[em];exact⟨f0,f1⟩
 obtain⟨os,n,y8,ol,ob,rfl⟩:=h;rw[ah,bA] at ol;have f0:=eN n (show(os.length:Int)≠0 by lia);have f1:=fh n (show(0:Int)<os.length by lia);obtain⟨k,hk⟩:∃k:Nat,n%(os.length:Int)=k:=⟨_,(fQ f0).symm⟩;rw[hk] at f1;refine⟨O,by rw[au];lia,k,by rw[au,bw fu,hk];exact nL fu,O,g3L,O,?_⟩
 have z:=q ds Ss (os.set k ((ds.length:Int) - 1)) ⟨hmo,gl,d0,d40,by rw[eF];lia,by rw[eF];lia,λ o ho=>by
  rcases nV ho with z|z
  ·exact ob o z
  ·lia⟩ dc
 unfold tI at z;rw[s1q] at z;show Q (.tup [.tup (ds.map stT),.tup ((os.map TV.int).set k (.int (((ds.map stT).length:Nat)-1))),.lst (Ss.map tI)]);rw[ah];exact z
def Kt:ZX 54 76 ["kind"] 1 1 yh Jn:=by
 refine⟨by kernel_rfl,?_⟩;rintro ts Q ⟨d,rfl,q⟩;refine⟨O,?_⟩
 cases d with
 |inp=>exact⟨trivial,rfl,g0L,rfl,q⟩
 |num=>exact⟨trivial,trivial,rfl,g0L,rfl,q⟩
 |count=>exact⟨trivial,trivial,trivial,rfl,g0L,rfl,q⟩
 |pick=>exact⟨trivial,trivial,trivial,trivial,rfl,g3L,rfl,q⟩
 |pair=>exact⟨trivial,trivial,trivial,trivial,trivial,rfl,g2L,rfl,q⟩
 |each=>exact⟨trivial,trivial,trivial,trivial,trivial,trivial,rfl,g1L,rfl,q⟩
 |fold=>exact⟨trivial,trivial,trivial,trivial,trivial,trivial,trivial,rfl,g1L,rfl,q⟩
 |run=>exact⟨trivial,trivial,trivial,trivial,trivial,trivial,trivial,trivial,rfl,g1L,rfl,q⟩
 |join=>exact⟨trivial,trivial,trivial,trivial,trivial,trivial,trivial,trivial,trivial,rfl,g2L,rfl,q⟩
 |fetch=>exact⟨trivial,trivial,trivial,trivial,trivial,trivial,trivial,trivial,trivial,trivial,rfl,g2L,rfl,q⟩
 |turn=>exact⟨trivial,trivial,trivial,trivial,trivial,trivial,trivial,trivial,trivial,trivial,rfl,g1L,rfl,q⟩
 |flip=>exact⟨trivial,trivial,trivial,trivial,trivial,trivial,trivial,trivial,trivial,trivial,rfl,g1L,rfl,q⟩
 |cut=>exact⟨trivial,trivial,trivial,trivial,trivial,trivial,trivial,trivial,trivial,trivial,rfl,g1L,rfl,q⟩
 |spread=>exact⟨trivial,trivial,trivial,trivial,trivial,trivial,trivial,trivial,trivial,trivial,rfl,g1L,rfl,q⟩
 |lay=>exact⟨trivial,trivial,trivial,trivial,trivial,trivial,trivial,trivial,trivial,trivial,rfl,g1L,rfl,q⟩
def Ku:ZX 55 77 ["step","where","row","spot"] 4 2 yi Jo:=by
 refine⟨by kernel_rfl,?_⟩;rintro ts Q ⟨d,wh,f,rfl,ha,q⟩;refine⟨O,?_⟩;refine⟨O,_,fU d,cl rfl ⟨d,O,?_⟩ rfl⟩
 cases d with
 |inp=>exact⟨rfl,rfl,q⟩
 |num=>exact⟨rfl,rfl,q⟩
 |count=>exact⟨rfl,rfl,q⟩
 |each w a=>exact⟨rfl,_,rfl,.int (f a:Nat),bv (ha a (by simp[aB])),rfl,_,rfl,rfl,q⟩
 |pair w a b=>exact⟨rfl,_,rfl,.int (f a:Nat),bv (ha a (by simp[aB])),rfl,_,rfl,_,rfl,.int (f b:Nat),bv (ha b (by simp[aB])),rfl,_,rfl,rfl,q⟩
 |pick a b c=>exact⟨rfl,_,rfl,.int (f a:Nat),bv (ha a (by simp[aB])),rfl,_,rfl,_,rfl,.int (f b:Nat),bv (ha b (by simp[aB])),rfl,_,rfl,_,rfl,.int (f c:Nat),bv (ha c (by simp[aB])),rfl,_,rfl,rfl,q⟩
 |turn a os=>exact⟨rfl,_,rfl,.int (f a:Nat),bv (ha a (by simp[aB])),rfl,_,rfl,rfl,q⟩
 |flip a s=>exact⟨rfl,_,rfl,.int (f a:Nat),bv (ha a (by simp[aB])),rfl,_,rfl,rfl,q⟩
 |cut a s g m h=>exact⟨rfl,_,rfl,.int (f a:Nat),bv (ha a (by simp[aB])),rfl,_,rfl,rfl,q⟩
 |spread a s m=>exact⟨rfl,_,rfl,.int (f a:Nat),bv (ha a (by simp[aB])),rfl,_,rfl,rfl,q⟩
 |lay a ms=>exact⟨rfl,_,rfl,.int (f a:Nat),bv (ha a (by simp[aB])),rfl,_,rfl,rfl,q⟩
 |join a b s=>exact⟨rfl,_,rfl,.int (f a:Nat),bv (ha a (by simp[aB])),rfl,_,rfl,_,rfl,.int (f b:Nat),bv (ha b (by simp[aB])),rfl,_,rfl,rfl,q⟩
 |fetch a b=>exact⟨rfl,_,rfl,.int (f a:Nat),bv (ha a (by simp[aB])),rfl,_,rfl,_,rfl,.int (f b:Nat),bv (ha b (by simp[aB])),rfl,_,rfl,rfl,q⟩
 |fold w a s=>exact⟨rfl,_,rfl,.int (f a:Nat),bv (ha a (by simp[aB])),rfl,_,rfl,rfl,q⟩
 |run w a s=>exact⟨rfl,_,rfl,.int (f a:Nat),bv (ha a (by simp[aB])),rfl,_,rfl,rfl,q⟩
def Kv:ZX 56 78 ["step","own","at","way","other","side","first","made"] 8 5 yj Jp:=by
 refine⟨by kernel_rfl,?_⟩;rintro ts Q ⟨d,S,n,way,other,mo,Zs,rfl,hmo,fS,zl,ok,q⟩;refine⟨O,?_⟩;have yl:(Zs++[S]).length=n+1:=by rw[aQ,zl];rfl
 have e0:(Zs++[S])[n]?=some S:=by rw[cP fu,zl,iS];rfl
 have e1:∀T,(Zs++[S]++[T])[n]?=some S:=λ T=>by rw[cY fu];exact e0
 have e2:∀T,(Zs++[S]++[T])[n+1]?=some T:=λ T=>by rw[cP fu,yl,iS];rfl
 have nb:=Il fS hmo;have s6:=fS.2.1;have q0:Q (.lst []):=q [] .no;have q1:∀d',OkS (Zs++[S]) S d'->Q (.lst [mdT d' S]):=λ d' o=>q _ (.one o);have q2:∀d1 T d2,OkS (Zs++[S]) T d1->aJ mo T->OkS (Zs++[S]++[T]) S d2->Q (.lst [mdT d1 T,mdT d2 S]):=λ d1 T d2 a b c=>q _ (.two a b c);refine jY (λ ρ=>ρ=[some (stT d),some (tI S),some (.int (n:Nat)),some (.int way),some (.int other),none,none,none]) ⟨rm,sN (λ c=>⟨_,fU d,rm,s2 (λ h=>⟨O,g2L,O,g1L,O,q1 d (Ik ok)⟩) (λ h=>rfl)⟩) (λ c=>rfl)⟩ (λ ρ' h=>?_);subst h;refine⟨rm,sN (λ c=>?_) (λ c=>⟨rm,sN (λ c=>⟨O,g3L,O,g2L,O,g1L,O,q1 (.lay n S) ⟨S,e0,nb,O,O⟩⟩) (λ c=>⟨rm,sN (λ c=>⟨O,g3L,O,g2L,O,g3L,O,g2L,O,g2L,O,q2 (.each "neg" n) S (.each "neg" n) ⟨e0,on⟩ fS ⟨e1 S,on⟩⟩) (λ c=>?_)⟩)⟩)⟩
 ·refine⟨⟨fu,by rw[au];lia⟩,O,g3L,O,g2L,O,g1L,O,?_⟩;have z:=q1 (.turn n (upL S.length)) ⟨S,e0,.refl _,(wH S).symm⟩;show Q (.lst [.tup [.tup [.str "turn",.int (n:Nat),.tup ((List.range (((S.map TV.int).length:Nat):Int).toNat).map λ i:Nat=>TV.int (i:Nat))],tI S]]);rw[au,jX];exact z
 refine jY (λ ρ=>S≠[]/\ρ=[some (stT d),some (tI S),some (.int (n:Nat)),some (.int way),some (.int other),none,none,none]) ⟨O,g0L,dpT _,?_⟩ (λ ρ' h=>?_)
 ·by_cases c:S=[]
  ·exact sT ((ig S).trans (bf c)) ⟨O,g0L,O,q0⟩
  ·exact sF ((ig S).trans (aP c)) ⟨rm,sN (λ _=>⟨O,g0L,O,q0⟩) (λ _=>⟨rm,sN (λ _=>⟨O,g0L,O,q0⟩) (λ _=>⟨c,O⟩)⟩)⟩
 obtain⟨ne,rfl⟩:=h;have S0:0<S.length:=iF.mpr ne;have mp:aD other (((S.map TV.int).length:Nat):Int)=other%(S.length:Int):=by rw[au];exact bw fu
 have f0:=eN other (show(S.length:Int)≠0 by lia);have f1:=fh other (show(0:Int)<(S.length:Int) by lia);obtain⟨k,hk⟩:∃k:Nat,other%(S.length:Int)=k:=⟨_,(fQ f0).symm⟩;rw[hk] at f1 mp;refine⟨show(((S.map TV.int).length:Nat):Int)≠0 by rw[au];lia,O,?_⟩;rw[mp];have kl:k<S.length:=fu;have no:¬off S k:=by unfold off;lia
 have an:=(fS.1 _ (ly kl)).1;have am:=(fS.1 _ (ly kl)).2;refine⟨rm,sN (λ c=>⟨O,g3L,O,g2L,O,g3L,O,g2L,O,g2L,O,q2 (.flip n k) S (.flip (n+1) k) ⟨e0,no⟩ fS ⟨e2 S,no⟩⟩) (λ c=>⟨rm,sN (λ c=>?_) (λ c=>?_)⟩)⟩
 ·have b0:∀b:Bool,(-18446744073709551616<(if b=true then (1:Int) else 0))/\(if b=true then (1:Int) else 0)<18446744073709551616:=λ b=>by cases b<;>decide
  refine⟨⟨on,on,on⟩,on,_,bZ kl,rm,eY (b0 _).1 (b0 _).2,O,_,bZ kl,⟨on,on,on⟩,on,_,bZ kl,eY (b0 _).1 (b0 _).2,O,g6L,O,g2L,O,g1L,O,?_⟩;have m5:0<=aD (aH other 18) 5:=by rw[bw on];lia
  have m3:0<=aD (aH other 6) 3:=by rw[bw on];lia
  refine q1 (.cut n k (aD (aH other 18) 5*(if _L.eqT (TV.int (S.getD k 0)).fz (TV.int 0).fz=true then 1 else 0)) (S.getD k 0) (1+aD (aH other 6) 3*(if decide (S.getD k 0<2)=true then 1 else 0))) ⟨S,e0,no,?_,by have:=hmo.2;lia,by rw[Int.toNat_natCast,lB kl]⟩;generalize aD (aH other 18) 5=x at m5;generalize aD (aH other 6) 3=y at m3;have eq0:_L.eqT (TV.int (S.getD k 0)).fz (TV.int 0).fz=decide (S.getD k 0=0):=rfl;rw[eq0];unfold bad;rw[Int.toNat_natCast];generalize S.getD k 0=A at an;by_cases a0:A=0
  ·subst a0;simp;lia
  ·by_cases a2:A<2
   ·have:A=1:=by lia
    subst this;simp;lia
   ·simp[a0,a2];lia
 ·have la:=gz (a:=none) (b:=some (k:Int)) s6;have lb:=gz (a:=some ((k:Int)+1)) (b:=none) s6;have l2:(ao (S.map TV.int) none (some (k:Int))++[TV.int 0]).length+(ao (S.map TV.int) (some ((k:Int)+1)) none).length<=sizeLine:=bn (by rw[aQ,fF];lia);have md:.tup ((ao (S.map TV.int) none (some (k:Int))++[TV.int 0])++ao (S.map TV.int) (some ((k:Int)+1)) none)=tI (S.set k 0):=by rw[wB kl];rfl
  have fT:aJ mo (S.set k 0):=wa fS (iE 0) an;have oc:OkS (Zs++[S]) (S.set k 0) (.cut n k 0 0 2):=⟨S,e0,no,by unfold bad;lia,on,by rw[Int.toNat_natCast]⟩;have sl:(S.set k 0).length=S.length:=eF;have er:(S.set k 0).eraseIdx k=S.eraseIdx k:=by rw[List.eraseIdx_set_eq]
  refine⟨O,g6L,O,g1L,bn (by show(ao (S.map TV.int) none (some (k:Int))).length+1<=1000;lia),l2,O,g2L,O,g4L,O,g2L,O,g2L,O,?_⟩;refine⟨⟨on,on,on⟩,on,rm,sN (λ c=>⟨O,g4L,O,g2L,O,1,O,O,?_⟩) (λ c=>⟨O,?_⟩)⟩
  ·show Q (.lst [.tup [.tup [.str "cut",.int (n:Nat),.int (k:Nat),.int 0,.int 0,.int 2],.tup ((ao (S.map TV.int) none (some (k:Int))++[TV.int 0])++ao (S.map TV.int) (some ((k:Int)+1)) none)],.tup [.tup [.str "join",.int (n:Nat),.int ((n:Int)+1),.int (k:Nat)],tI S]]);rw[md];exact q2 (.cut n k 0 0 2) (S.set k 0) (.join n (n+1) k) oc fT ⟨S,S.set k 0,e1 _,e2 _,sl.symm,no,by rw[Int.toNat_natCast];exact er.symm,by rw[wZ kl];exact nb,(wZ kl).symm⟩
  ·show Q (.lst [.tup [.tup [.str "cut",.int (n:Nat),.int (k:Nat),.int 0,.int 0,.int 2],.tup ((ao (S.map TV.int) none (some (k:Int))++[TV.int 0])++ao (S.map TV.int) (some ((k:Int)+1)) none)],.tup [.tup [.str "join",.int ((n:Int)+1),.int (n:Nat),.int (k:Nat)],tI S]]);rw[md];exact q2 (.cut n k 0 0 2) (S.set k 0) (.join (n+1) n k) oc fT ⟨S.set k 0,S,e2 _,e1 _,sl,by unfold off;rw[sl];lia,by rw[Int.toNat_natCast];exact er,by rw[wY kl];exact nb,(wY kl).symm⟩
def Kw:ZX 57 79 ["made","cells","steps","sides","where","k","step","n","more","two","spot","outs"] 12 2 yk Jq:=by
 refine⟨by kernel_rfl,?_⟩;rintro ts Q ⟨ds,Ss,os,cs,mo,rfl,gd,d13,q⟩;refine⟨O,?_⟩;obtain⟨hmo,gl,d0,d40,o0,o8,ho⟩:=gd;have sz:∀n:Nat,n<=50->n<sizeLine:=λ n h=>aR fu;have lm:(((ds.map stT).length:Nat):Int)=ds.length:=by rw[ah]
 have wT:∀l:List (Stp×LI),(l.map λ e=>mdT e.1 e.2).length=l.length:=λ l=>ah ..;refine⟨O,g0L,O,O,g0L,O,O,g0L,O,_,O,O,⟨fu,fu⟩,bY (λ i ρ=>∃(es:List Stp) (Zs:LL) (wh:List Nat) (y5 y6 y7 y8 y9 y10:Option TV),eI mo es Zs/\i<=es.length/\es.length<=3*i/\wh.length=i/\(∀j A,j<i->Ss[j]?=some A->Zs[gF wh j]?=some A)/\ρ=[some (.tup [.tup (ds.map stT),tI os,.lst (Ss.map tI)]),some (lI cs),some (.own (es.map stT)),some (.own (Zs.map tI)),some (.own (wh.map λ r:Nat=>.int (r:Nat))),y5,y6,y7,y8,y9,y10,none]) ⟨[],[],[],_,_,_,_,_,_,rq mo,ar _,ar _,O,(λ j A h=>absurd h (gJ _)),O⟩ (λ i u ρ hu h=>?_) (λ ρ h=>?_)⟩
 ·obtain⟨es,Zs,wh,y5,y6,y7,y8,y9,y10,ge,li,l3,wl,hw,rfl⟩:=h;obtain⟨il,rfl⟩:=gu hu;have il:i<ds.length:=fu;have ed:=cN il;obtain⟨S,eS⟩:∃S,Ss[i]?=some S:=⟨_,aF (show i<Ss.length by rw[<- gl.1];exact il)⟩;have ok:=gl.2.2 i _ _ ed eS;have fS:=gl.2.1 _ (bg eS);generalize ds.getD i (.num 0)=d at ed ok;have al:∀a∈aB d,a<i:=λ a h=>by have:=jW ok a h;rw[be] at this;lia
  have ok':OkS Zs S (bE (gF wh) d):=rD ok λ a h A e=>by
   rw[qT,if_pos (al a h)] at e;exact hw a A (al a h) e
  refine⟨_,O,stT d,aE ed,clB rfl ⟨d,_,gF wh,O,λ a h=>?_,nY _,O,cs.drop i,fb cs i,eY on on,eY fu fu,on,O,?_⟩⟩
  ·rw[iX wl,aX,gT (al a h)];rfl
  generalize aD ((cs.drop i).sum*16807+(i:Int)*(i:Int)) 2147483629=n;generalize bE (gF wh) d=d' at ok';have zl:Zs.length=es.length:=ge.1.symm;refine⟨_,O,tI S,aE eS,O,g2L,O,g1L,_,O,tI S,aE eS,⟨on,on,on⟩,on,⟨on,on,on⟩,cl rfl ⟨d',S,(es.map stT).length,_,_,mo,Zs,O,hmo,fS,by rw[ah];exact zl,ok',λ ms me=>?_⟩ rfl⟩;obtain⟨G,m2,at0,at1⟩:=Im ge ok' fS me;refine⟨by rw[wT];exact bn (by show 1+ms.length<=1000;lia),O,?_⟩;have el:[TV.tup [stT d',tI S]]++(ms.map λ e=>mdT e.1 e.2)=((d',S)::ms).map λ e=>mdT e.1 e.2:=rfl;have Ll:((d',S)::ms).length=ms.length+1:=rfl;generalize (d',S)::ms=L at G at0 at1 el Ll;show wS _ _ _ [some (.tup [.tup (ds.map stT),tI os,.lst (Ss.map tI)]),some (lI cs),some (.own (es.map stT)),some (.own (Zs.map tI)),some (.own (wh.map λ r:Nat=>.int (r:Nat))),some (.int (i:Nat)),some (stT d'),some (.int n),some (.own ([TV.tup [stT d',tI S]]++ms.map λ e=>mdT e.1 e.2)),y9,y10,none] _ _;rw[el];refine⟨O,bY (λ m ρ=>∃y9,ρ=[some (.tup [.tup (ds.map stT),tI os,.lst (Ss.map tI)]),some (lI cs),some (.own ((es++(L.take m).map (·.1)).map stT)),some (.own ((Zs++(L.take m).map (·.2)).map tI)),some (.own (wh.map λ r:Nat=>.int (r:Nat))),some (.int (i:Nat)),some (stT d'),some (.int n),some (.lst (L.map λ e=>mdT e.1 e.2)),y9,y10,none]) ⟨_,by rw[List.take_zero,kw,kw,gE,gE];rfl⟩ (λ m u ρ hu h=>?_) (λ ρ h=>?_)⟩
  ·obtain⟨y9,rfl⟩:=h;obtain⟨e,rfl,eL⟩:=nX hu;have lt:(L.take m).length<=3:=by rw[be];lia
   have x1:(es++(L.take (m+1)).map (·.1)).map stT=(es++(L.take m).map (·.1)).map stT++[stT e.1]:=by rw[gh,eL];simp
   have x2:(Zs++(L.take (m+1)).map (·.2)).map tI=(Zs++(L.take m).map (·.2)).map tI++[tI e.2]:=by rw[gh,eL];simp
   exact⟨_,O,O,by rw[ah,aQ,ah];exact sz _ fu,_,O,O,by rw[ah,aQ,ah];exact sz _ fu,_,by rw[x1,x2];rfl⟩
  obtain⟨y9,rfl⟩:=h;rw[wT,dh];have el':(es++L.map (·.1)).length=Zs.length+ms.length+1:=by rw[aQ,ah];lia
  have old:∀j A,j<i->Ss[j]?=some A->(Zs++L.map (·.2))[gF wh j]?=some A:=λ j A hj e=>by
   have:=hw j A hj e;rw[cY (bc.mp this).1];exact this
  generalize es++L.map (·.1)=es' at G el';generalize Zs++L.map (·.2)=Zs' at G at0 at1 old;have v10:(((es'.map stT).length:Nat):Int)-1=((Zs.length+ms.length:Nat):Int):=by rw[ah];lia
  have v11:(((es'.map stT).length:Nat):Int)-(((L.map λ e=>mdT e.1 e.2).length:Nat):Int)=((Zs.length:Nat):Int):=by rw[ah,wT];lia
  refine⟨O,?_⟩;rw[v10];have ge1:Zs.length+ms.length<es'.length:=fu;have edl:=cN ge1;generalize es'.getD (Zs.length+ms.length) (.num 0)=dl at edl;refine jY (λ ρ=>∃r:Nat,Zs'[r]?=some S/\ρ=[some (.tup [.tup (ds.map stT),tI os,.lst (Ss.map tI)]),some (lI cs),some (.own (es'.map stT)),some (.own (Zs'.map tI)),some (.own (wh.map λ r:Nat=>.int (r:Nat))),some (.int (i:Nat)),some (stT d'),some (.int n),some (.lst (L.map λ e=>mdT e.1 e.2)),y9,some (.int (r:Nat)),none]) ⟨on,rm,sN (λ c=>⟨O,Zs.length,at0,by rw[<- v11];rfl⟩) (λ c=>⟨stT dl,aE edl,_,fU dl,rm,s2 (λ h=>⟨rm,sN (λ c=>⟨O,Zs.length,at0,by rw[<- v11];rfl⟩) (λ c=>⟨_,at1,O⟩)⟩) (λ h=>⟨_,at1,O⟩)⟩)⟩ (λ ρ' h=>?_);obtain⟨r,hr,rfl⟩:=h;refine⟨O,by rw[ah,wl];exact sz _ fu,es',Zs',wh++[r],_,_,_,_,_,_,G,fu,fu,by rw[aQ,wl];rfl,λ j A hj e=>?_,by rw[bD];rfl⟩;by_cases c:j<i
  ·rw[wK fu];exact old j A c e
  ·have:j=wh.length:=by lia
   subst this;rw[wM];rw[wl,eS] at e;cases e;exact hr
 obtain⟨es,Zs,wh,y5,y6,y7,y8,y9,y10,ge,li,l3,wl,hw,rfl⟩:=h;have ll:((List.range ((((ds.map stT).length:Nat):Int)).toNat).map λ i:Nat=>TV.int (i:Nat)).length=ds.length:=by rw[ah,bA,Int.toNat_natCast,ah]
 rw[ll] at li l3 wl hw;have zl:Zs.length=es.length:=ge.1.symm
 have hz:∀o∈os,gF wh o.toNat<es.length:=λ o h=>by
  have b:=ho o h;have eS:=aF (show o.toNat<Ss.length by rw[<- gl.1];lia);have:=(bc.mp (hw o.toNat _ fu eS)).1;lia
 refine⟨_,O,by rw[au];exact sz _ fu,fR (l:=os) (f:=TV.int) rfl (λ o=>.int (gF wh o.toNat:Nat)) (λ o h=>?_) ⟨O,O,g3L,O,?_⟩⟩
 ·obtain⟨j,rfl⟩:∃j:Nat,o=j:=⟨o.toNat,by have:=ho o h;lia⟩;have:=ho _ h;exact⟨_,lC (by rw[wl];lia),O,by rw[Int.toNat_natCast];rfl⟩
 have z:=q es Zs (os.map λ o=>((gF wh o.toNat:Nat):Int)) ⟨hmo,ge,fu,fu,by rw[ah];exact o0,by rw[ah];exact o8,λ o h=>by
  obtain⟨x,hx,rfl⟩:=aT.mp h;have:=hz x hx
  lia⟩
 unfold tI at z;rw[aV] at z;exact z
def Kx:ZX 58 80 ["form","sides","own","still"] 4 2 ym Jr:=by
 refine⟨by kernel_rfl,?_⟩;rintro ts Q ⟨d,S,Ss,rfl,ok,fS,q⟩;refine⟨O,?_⟩;have l5:5<=sizeLine:=bn on
 cases d with
 |flip a s=>
  obtain⟨ea,no⟩:=ok;obtain⟨k,rfl,hk⟩:=eW no;replace q:Q (miT (if (Ss.getD a []).getD (k:Int).toNat 0<2 then some a else none)):=q;rw[dG ea,Int.toNat_natCast] at q;refine⟨_,O,O,l5,O,fl5,_,O,tI S,aE ea,O,_,O,rm,_,O,rm,O,_,O,rm,_,O,_,bZ hk,s3 (λ c=>?_) (λ c=>?_)⟩
  ·rw[if_pos c] at q;exact⟨rfl,_,rfl,trivial,_,rfl,trivial,_,rfl,rfl,q⟩
  ·rw[if_neg c] at q;exact⟨_,rfl,trivial,_,rfl,trivial,_,rfl,trivial,rfl,q⟩
 |turn a os=>
  obtain⟨A,ea,tk,rfl⟩:=ok;have a6:=(fS _ (bg ea)).2.1;have ol:os.length=A.length:=by rw[tk.length_eq,dw]
  replace q:Q (miT (if os=upL os.length then some a else none)):=q;refine⟨_,O,O,l5,O,fl5,_,O,tI A,aE ea,O,_,O,rm,_,O,rm,_,O,_,O,os,O,fu,λ ss pm pw=>⟨dpL _,O,_,O,rm,_,O,rm,_,O,rm,_,O,rm,?_⟩⟩;have es:ss=upL A.length:=(vY (n:=A.length) pm pw).mpr tk;have eq:_L.eqT (TV.lst (os.map TV.int)) (TV.lst (ss.map TV.int))=decide (os=upL os.length):=by rw[ww,es,ol]
  by_cases c:os=upL os.length
  ·rw[if_pos c] at q;exact sT (eq.trans (bf c)) ⟨_,rfl,rfl,q⟩
  ·rw[if_neg c] at q;exact sF (eq.trans (aP c)) ⟨rfl,q⟩
 |cut a s f m g=>
  obtain⟨A,ea,no,nb,m5,rfl⟩:=ok;obtain⟨k,rfl,hk⟩:=eW no;replace q:Q (miT (if m=(Ss.getD a []).getD (k:Int).toNat 0 then some a else none)):=q;rw[dG ea,Int.toNat_natCast] at q;refine⟨_,O,O,l5,O,fl5,_,O,tI A,aE ea,O,_,O,rm,_,O,rm,O,_,O,rm,_,O,rm,_,O,_,bZ hk,_,O,rm,sN (λ c=>?_) (λ c=>?_)⟩
  ·rw[if_pos c.symm] at q;exact⟨rfl,_,rfl,trivial,_,rfl,trivial,_,rfl,rfl,q⟩
  ·rw[if_neg (λ z=>c z.symm)] at q;exact⟨_,rfl,trivial,_,rfl,trivial,rfl,q⟩
 |lay a ms=>
  obtain⟨A,ea,nb,e,rfl⟩:=ok;replace q:Q (miT (if S=Ss.getD a [] then some a else none)):=q;rw[dG ea] at q;have eq:_L.eqT (tI A) (tI S)=decide (A=S):=gx A S;refine⟨_,O,O,l5,O,fl5,_,O,tI A,aE ea,O,_,O,rm,_,O,rm,O,_,O,rm,_,O,rm,_,O,rm,_,O,dpT _,?_⟩;by_cases c:A=S
  ·rw[if_pos c.symm] at q;exact sT (eq.trans (bf c)) ⟨rfl,_,rfl,rfl,q⟩
  ·rw[if_neg (λ z=>c z.symm)] at q;exact sF (eq.trans (aP c)) ⟨_,rfl,trivial,rfl,q⟩
 |join a b s=>
  obtain⟨A,B,ea,eb,ll,no,ee,nb,rfl⟩:=ok;obtain⟨k,rfl,hk⟩:=eW no;replace q:Q (miT (if (Ss.getD a []).getD (k:Int).toNat 0=0 then some b else if (Ss.getD b []).getD (k:Int).toNat 0=0 then some a else none)):=q;rw[dG ea,dG eb,Int.toNat_natCast] at q;refine⟨_,O,O,l5,O,fl5,_,O,tI A,aE ea,O,_,O,rm,_,O,_,bZ hk,rm,sN (λ c=>?_) (λ c=>?_)⟩
  ·rw[if_pos c] at q;exact⟨_,rfl,rfl,q⟩
  ·rw[if_neg c] at q;refine⟨_,O,rm,O,_,O,rm,_,O,rm,_,O,rm,_,O,rm,_,O,tI B,aE eb,_,O,_,bZ fu,rm,sN (λ c=>?_) (λ c=>?_)⟩
   ·rw[if_pos c] at q;exact⟨rfl,_,rfl,rfl,q⟩
   ·rw[if_neg c] at q;exact⟨rfl,q⟩
 |_=>exact⟨_,rfl,rfl,l5,rfl,fl5,rfl,q⟩
def Ky:ZX 59 81 ["k","forms","stands","sides","form"] 5 4 yn Js:=by
 refine⟨by kernel_rfl,?_⟩;rintro ts Q ⟨d,S,Ss,fs,g,rfl,ok,fS,ha,l40,q⟩;refine⟨O,?_⟩;have ek:(fs++[d])[fs.length]?=some d:=by rw[cP (ar _),iS];rfl
 unfold StR at q;refine⟨stT d,aE ek,O,_,fU d,rm,?_⟩;by_cases c0:kdN d=0
 ·simp only[if_pos c0] at q;exact sT ((jZ d).trans (bf c0)) ⟨O,q _ rfl⟩
 simp only[if_neg c0] at q;refine sF ((jZ d).trans (aP c0)) (cl rfl ⟨d,S,Ss,O,ok,fS,?_⟩ rfl)
 cases hs:ij Ss d with
 |some k=>
  rw[hs] at q;refine cl rfl ⟨d,S,Ss,O,ok,fS,?_⟩ rfl;rw[hs];exact⟨O,q k rfl⟩
 |none=>
  rw[hs] at q
  have fin:(match iU fs d with|some k=>Q (.int (k:Nat))|none=>∀r,im fs g d r->Q (.int (r:Nat))):=by
   cases hu:iU fs d with
   |some k=>rw[hu] at q;exact q k rfl
   |none=>rw[hu] at q;exact q
  clear q
  have last:(∀r,im fs g d r->Q (.int (r:Nat)))->wS (dFT DL 59) GT (.ret (Cd.b1 .min (.compI ["j"] ["k","form","stands","forms"] [0,4,2,1] [0] .rng (V0.ad N1).a1 ((V0.eq V1).or (((V3.ix V0).eq V0).and ((V4.ix V0).eq V2))) V0))) [some (.int (fs.length:Nat)),some (.lst ((fs++[d]).map stT)),some (.lst ((List.range fs.length).map λ k=>.int (g k:Nat))),some (.lst (Ss.map tI)),some (stT d)] (λ _=>Q .non) Q:=by
   intro q;have gD:∀j,j<fs.length->(fs++[d])[j]?=some (fs.getD j (.num 0)):=λ j hj=>by rw[cY hj];exact cN hj
   let p:Nat->Bool:=λ j=>decide (j=fs.length) || (decide (g j=j)&&_L.eqT (stT (fs.getD j (.num 0))) (stT d))
   have l1:(((fs.length:Nat):Int)+1).toNat=fs.length+1:=fu;refine⟨⟨fu,fu⟩,by rw[ah,bA];exact aR fu,eZ (λ k:Nat=>.int (k:Nat)) (λ k:Nat=>.int (k:Nat)) p (List.range (fs.length+1)) (by rw[l1]) (λ j hj=>?_) ⟨((List.range (fs.length+1)).filter p).map λ k:Nat=>(k:Int),by rw[aV];rfl,?_,λ M hM lo=>⟨O,?_⟩⟩⟩
   ·have jl:j<fs.length+1:=cW.mp hj;refine⟨rm,sN (λ c=>?_) (λ c=>?_)⟩
    ·have pj:p j=true:=by show(decide (j=fs.length) || _)=true;rw[bf fu];rfl
     rw[pj];exact⟨O,λ _=>⟨O,O⟩⟩
    ·have jn:j<fs.length:=by have:j≠fs.length:=λ z=>c (by rw[z]);lia
     have pj:p j=(decide (g j=j)&&_L.eqT (stT (fs.getD j (.num 0))) (stT d)):=by show(decide (j=fs.length) || _)=_;rw[aP fu];rfl
     refine⟨_,rG jn,rm,sN (λ c1=>?_) (λ c1=>?_)⟩
     ·refine⟨stT (fs.getD j (.num 0)),aE (gD j jn),og _,?_⟩;rw[bf fu,Bool.true_and] at pj;rw[pj];exact⟨O,λ _=>⟨O,O⟩⟩
     ·rw[aP fu,lG] at pj;rw[pj];exact⟨O,λ z=>by cases z⟩
   ·have m:fs.length∈(List.range (fs.length+1)).filter p:=dH.mpr ⟨cW.mpr (fG _),by show(decide (fs.length=fs.length) || _)=true;rw[bf rfl];rfl⟩;rw[ah];exact oy m
   ·obtain⟨m,hm,rfl⟩:=aT.mp hM;obtain⟨m1,m2⟩:=dH.mp hm;have ml:=cW.mp m1;refine q m ⟨fu,λ j jm hh=>?_,λ mn=>?_⟩
    ·have jl:j<fs.length:=by lia
     have e1:=hh.2;rw[cN jl] at e1
     injection e1 with e1
     have pj:p j=true:=by show(decide (j=fs.length) || (decide (g j=j)&&_))=true;rw[bf hh.1,e1,_L.eqT_self (og d),Bool.and_true,Bool.or_true]
     have:=lo (j:Int) (aT.mpr ⟨j,dH.mpr ⟨cW.mpr fu,pj⟩,rfl⟩);lia
    ·have m2:(decide (m=fs.length) || (decide (g m=m)&&_L.eqT (stT (fs.getD m (.num 0))) (stT d)))=true:=m2;rw[aP fu,ni,bu] at m2;exact⟨ay m2.1,by rw[cN mn,wG m2.2]⟩
  cases d with
  |flip a s=>
   have al:=ha a (by simp[aB]);have ef:(fs++[Stp.flip a s])[a]?=some (fs.getD a (.num 0)):=by rw[cY al];exact cN al
   replace fin:(match (match fs.getD a (.num 0) with|.flip b s2=>if s2=s then some b else none|_=>none:Option Nat) with|some k=>Q (.int (k:Nat))|none=>∀r,im fs g (.flip a s) r->Q (.int (r:Nat))):=fin;generalize fs.getD a (.num 0)=d2 at ef fin
   cases d2 with
   |flip b s2=>
    replace fin:(match (if s2=s then some b else none:Option Nat) with|some k=>Q (.int (k:Nat))|none=>∀r,im fs g (.flip a s) r->Q (.int (r:Nat))):=fin;refine⟨_,O,rm,_,O,stT (.flip b s2),aE ef,_,O,rm,_,O,stT (.flip b s2),aE ef,_,O,_,O,rm,sN (λ c=>?_) (λ c=>?_)⟩
    ·rw[if_pos c] at fin;exact⟨_,rfl,stT (.flip b s2),aE ef,_,rfl,rfl,fin⟩
    ·rw[if_neg c] at fin;exact last fin
   |_=>exact⟨_,rfl,trivial,_,rfl,stT _,aE ef,_,rfl,trivial,last fin⟩
  |inp=>exact absurd rfl c0
  |_=>exact⟨_,rfl,trivial,last fin⟩
def Kz:ZX 60 82 ["steps","outs","sides","forms","stands","k","kept","row","where","made"] 10 3 yp Ju:=by
 refine⟨by kernel_rfl,?_⟩;rintro ts Q ⟨ds,Ss,os,mo,rfl,gd,q⟩;refine⟨O,?_⟩;obtain⟨hmo,gl,d0,d40,o0,o8,ho⟩:=id gd;have sz:∀n:Nat,n<=300->n<sizeLine:=λ n h=>aR fu;have ar3:∀d:Stp,(aB d).length<=3:=λ d=>by cases d<;>exact bN rfl
 have lm:(((ds.map stT).length:Nat):Int)=ds.length:=by rw[ah]
 refine⟨O,g0L,O,O,g0L,O,O,⟨fu,fu⟩,bY (λ i ρ=>∃fs gs y5,gB ds Ss i fs gs/\ρ=[some (.tup (ds.map stT)),some (tI os),some (.lst (Ss.map tI)),some (.own (fs.map stT)),some (.own (gs.map λ r:Nat=>.int (r:Nat))),y5,none,none,none,none]) ⟨[],[],_,⟨O,O⟩,O⟩ (λ i u ρ hu h=>?_) (λ ρ h=>?_)⟩
 ·obtain⟨fs,gs,y5,th,rfl⟩:=h;obtain⟨il,rfl⟩:=gu hu;have il:i<ds.length:=fu;have ed:=cN il;generalize ds.getD i (.num 0)=d at ed;have I:=kc gl th;obtain⟨S,eS,ok,ha⟩:=rO gl I ed
  have al:∀a∈aB d,(gs.map λ r:Nat=>TV.int (r:Nat))[a]?=some (.int (gF gs a:Nat)):=λ a h=>by
   have:=jW (gl.2.2 i d _ ed eS) a h;rw[be] at this;rw[iX I.gl,aX,gT fu];rfl
  refine⟨stT d,aE ed,clB rfl ⟨d,_,gF gs,O,al,nY _,O,by rw[ah,I.fl];exact sz _ fu,?_⟩⟩;refine clB rfl ⟨bE (gF gs) d,S,Ss,fs,gF gs,by rw[I.fl,<- iX I.gl,bD];rfl,ok,rC gl hmo,by rw[I.fl];exact ha,by rw[I.fl];lia,λ r hr=>⟨by simp[LF],O,by rw[ah,I.gl];exact sz _ fu,fs++[bE (gF gs) d],gs++[r],_,⟨fs,gs,d,r,th,ed,hr,O,O⟩,by rw[bD,bD];rfl⟩⟩
 obtain⟨fs,gs,y5,th,rfl⟩:=h;rw[ah,bA,lm,Int.toNat_natCast] at th;have I:=kc gl th;replace q:=q fs gs th;unfold thT at q;have gst:∀j,j<ds.length->gF gs j<fs.length:=λ j hj=>by have:=(I.st j hj).1;rw[I.fl];lia
 have eb:∀e∈esL ds os gs,0<=e/\e<(fs.length:Int):=λ e he=>by
  unfold esL at he
  rcases bO.mp he with z|z
  ·obtain⟨k,hk,rfl⟩:=aT.mp z;have:=cW.mp (dH.mp hk).1;rw[I.fl];lia
  ·obtain⟨o,hoo,rfl⟩:=aT.mp z;have:=ho o hoo;have:=gst o.toNat fu;lia
 have ae:∀(k:Nat) (e:Stp),fs[k]?=some e->∀a∈aB e,a<k:=λ k e h a m=>by obtain⟨_,_,_,z⟩:=I.fo k e h;exact z a m
 have ins8:((List.range ds.length).filter λ k=>decide (kdN (ds.getD k (.num 0))=0)).length<=40:=bB (fV _ _) (by rw[bA];exact d40);have emE:(((List.range ds.length).filter λ k=>decide (kdN (ds.getD k (.num 0))=0)).map λ k:Nat=>TV.int (k:Nat))++(os.map λ o=>TV.int (gF gs o.toNat:Nat))=(esL ds os gs).map TV.int:=by unfold esL;rw[bD,aV,aV];rfl
 generalize hK:cH fs (esL ds os gs)=K at q;have pw:K.Pairwise (· < ·):=hK ▸ wR fs _;have kl:∀k∈K,k<fs.length:=λ k h=>by rw[<- hK] at h;exact(mem_reach.mp h).1
 have K40:K.length<=40:=by rw[<- hK];unfold cH;exact bB (fV _ _) (by rw[bA,I.fl];exact d40)
 have ain:∀k∈K,∀a∈aB (fs.getD k (.num 0)),a∈K:=λ k h a m=>by rw[<- hK] at h ⊢;exact wQ ae h m
 have oin:∀o∈os,gF gs o.toNat∈K:=λ o h=>by rw[<- hK];exact wP eb (by unfold esL;exact bz _ (aT.mpr ⟨o,h,rfl⟩))
 refine⟨⟨fu,fu⟩,by rw[ah,bA,lm];exact sz _ fu,eZ (λ k:Nat=>.int (k:Nat)) (λ k:Nat=>.int (k:Nat)) (λ k=>decide (kdN (ds.getD k (.num 0))=0)) (List.range ds.length) (by rw[lm];rfl) (λ k h=>⟨stT _,aE (cN (cW.mp h)),_,fU _,rm,bK TV.bl (jZ _),λ _=>⟨O,O⟩⟩) ⟨by rw[au];exact sz _ fu,fR (l:=os) (f:=TV.int) rfl (λ o=>.int (gF gs o.toNat:Nat)) (λ o h=>?_) ⟨by rw[ah,ah];exact cj (sz _ fu),O,?_⟩⟩⟩
 ·obtain⟨j,rfl⟩:∃j:Nat,o=j:=⟨o.toNat,by have:=ho o h;lia⟩;have:=ho _ h;exact⟨_,lC (by rw[I.gl];lia),O,by rw[Int.toNat_natCast];rfl⟩
 rw[emE];obtain⟨r1,r2⟩:=wF d40;have es48:(esL ds os gs).length<=48:=by unfold esL;rw[aQ,ah,ah];lia
 refine⟨O,⟨on,on,by rw[lm];exact r1⟩,bY (λ i ρ=>∃(ks:LI) (y5:Option TV),(∀x∈ks,0<=x/\x<(ds.length:Int))/\(∀j:Nat,(j:Int)∈ks ↔ (bM fs ds.length i (bQ ds.length (esL ds os gs))).getD j false=true)/\ks.length<=48+3*i/\ρ=[some (.tup (ds.map stT)),some (tI os),some (.lst (Ss.map tI)),some (.own (fs.map stT)),some (.own (gs.map λ r:Nat=>.int (r:Nat))),y5,some (.own (ks.map .int)),none,none,none]) ⟨esL ds os gs,_,λ x hx=>by have:=eb x hx;rw[I.fl] at this;exact this,λ j=>(wN (λ x hx=>by have:=eb x hx;rw[I.fl] at this;exact this) j).symm,fu,O⟩ (λ i u ρ hu h=>?_) (λ ρ h=>?_)⟩
 ·obtain⟨ks,y5,kb,km,k4,rfl⟩:=h;rw[lm,r2] at hu;obtain⟨il,rfl⟩:=gu hu;have il:i<ds.length:=fu;obtain⟨k,ek⟩:∃k:Nat,(ds.length:Int)-1+(i:Int)*(-1)=k:=⟨ds.length-1-i,fu⟩;have kk:ds.length-1-i=k:=fu;rw[ek];have st:=oo (ds:=fs) (ka ds.length (esL ds os gs)) i;rw[kk] at st;refine⟨O,λ x hx=>?_,?_⟩
  ·obtain⟨y,hy,rfl⟩:=aT.mp hx;rfl
  refine s2 (λ h=>?_) (λ h=>?_)
  ·have hk:=(rX (k:Int) ks).mp h;have hk2:=(km k).mp hk;have ed:=cN (show k<fs.length by rw[I.fl];lia);have sa:=ae k _ ed;generalize fs.getD k (.num 0)=d at ed sa st;refine⟨stT d,aE ed,_,fU d,cl rfl ⟨d,O,by rw[ah];cases d<;>exact sz _ (bN rfl),Ih d (aE ed) ⟨by rw[ah,ah];exact cj (sz _ (by have:=ar3 d;lia)),O,ks++(aB d).map λ a:Nat=>(a:Int),_,λ x hx=>?_,λ j=>?_,by rw[aQ,ah];have:=ar3 d;lia,by rw[bD,aV];rfl⟩⟩ rfl⟩
   ·rcases bO.mp hx with z|z
    ·exact kb x z
    ·obtain⟨a,ha,rfl⟩:=aT.mp z;have:=sa a ha;lia
   ·rw[bO,km j,st j];constructor
    ·rintro(z|z)
     ·exact .inl z
     ·obtain⟨a,ha,e⟩:=aT.mp z;have e:a=j:=fu;subst e;have:=sa a ha;exact .inr ⟨hk2,ha,fu⟩
    ·rintro(z|z)
     ·exact .inl z
     ·exact .inr (aT.mpr ⟨j,z.2.1,O⟩)
  ·refine⟨ks,_,kb,λ j=>?_,fu,O⟩;rw[km j,st j];constructor
   ·exact .inl
   ·rintro(z|z)
    ·exact z
    ·rw[(rX (k:Int) ks).mpr ((km k).mpr z.1)] at h;cases h
 obtain⟨ks,y5,kb,km,k4,rfl⟩:=h;have ll:((List.range (Builtin.Range.rangeSize ((((ds.map stT).length:Nat):Int)-1) (-1) (-1)).toNat).map λ k:Nat=>TV.int ((((ds.map stT).length:Nat):Int)-1+(k:Int) * -1)).length=ds.length:=by rw[ah,bA,lm,r2];lia
 rw[ll] at km k4
 have mem:∀x:Int,x∈ks ↔ x∈K.map λ k:Nat=>(k:Int):=λ x=>by
  constructor
  ·intro h;obtain⟨j,rfl⟩:∃j:Nat,x=j:=⟨x.toNat,by have:=kb x h;lia⟩;refine aT.mpr ⟨j,?_,O⟩;rw[<- hK];refine mem_reach.mpr ⟨by have:=kb _ h;rw[I.fl];lia,?_⟩;rw[I.fl];exact(km j).mp h
  ·intro h;obtain⟨j,hj,rfl⟩:=aT.mp h;rw[<- hK] at hj;have:=(mem_reach.mp hj).2;rw[I.fl] at this;exact(km j).mpr this
 refine⟨ks,O,⟨fu,λ ms nd hm=>ph (rR ds.length ms nd λ x hx=>kb x ((hm x).mp hx)) fu⟩,λ ns' p1 p2=>?_⟩;have en:ns'=K.map λ k:Nat=>(k:Int):=wU p1 (mP.mpr (pw.imp λ h=>by lia)) λ x=>(p2 x).trans (mem x);subst en;rw[show((K.map λ k:Nat=>(k:Int)).map TV.int)=K.map λ k:Nat=>TV.int (k:Nat) from by rw[aV];rfl];refine⟨O,O,g1L,⟨fu,fu⟩,by rw[lm,Int.toNat_natCast];exact cj (sz _ (by show 1*ds.length<=300;lia)),O,?_⟩;rw[lm,Int.toNat_natCast,show List.map TV.fz [TV.non]=[TV.non] from rfl,Ii ds.length K];have wlen:∀i,(whL ds.length K i).length=ds.length:=λ i=>by unfold whL;rw[ah,bA]
 refine⟨O,⟨fu,by rw[ah];lia⟩,bY (λ i ρ=>∃y5,ρ=[some (.tup (ds.map stT)),some (tI os),some (.lst (Ss.map tI)),some (.own (fs.map stT)),some (.own (gs.map λ r:Nat=>.int (r:Nat))),y5,some (.own (ks.map .int)),some (.own (K.map λ k:Nat=>.int (k:Nat))),some (.own (whL ds.length K i)),none]) ⟨_,O⟩ (λ i u ρ hu h=>?_) (λ ρ h=>?_)⟩
 ·obtain⟨y5,rfl⟩:=h;obtain⟨il,rfl⟩:=gu hu;rw[ah,Int.toNat_natCast] at il;have ek:=aF il;have kin:=kl _ (iI il);generalize K[i]=k at ek kin;exact⟨O,_,aE ek,k,nL (by rw[wlen,<- I.fl];exact kin),_,by rw[<- Ij pw ek];rfl⟩
 obtain⟨y5,rfl⟩:=h;have l3:((List.range ((((K.map λ k:Nat=>TV.int (k:Nat)).length:Nat):Int)).toNat).map λ i:Nat=>TV.int (i:Nat)).length=K.length:=by rw[ah,bA,Int.toNat_natCast,ah]
 have whF:∀j,j<ds.length->(whL ds.length K K.length)[j]?=some (plT K j):=λ j hj=>by rw[rY hj,dh];rfl
 have pin:∀x,x∈K->plT K x=.int ((K.idxOf x:Nat):Int):=λ x hx=>by unfold plT;rw[if_pos hx]
 rw[l3];refine⟨by rw[ah];exact sz _ fu,dF (λ k:Nat=>.int (k:Nat)) (λ k=>stT (bE (λ a=>K.idxOf a) (fs.getD k (.num 0)))) K (λ k hk=>?_) ⟨O,by rw[au];exact sz _ fu,fR (l:=os) (f:=TV.int) rfl (λ o=>.int ((K.idxOf (gF gs o.toNat):Nat):Int)) (λ o h=>?_) ⟨O,g2L,by rw[ah];exact sz _ (by rw[I.gl];lia),fR (l:=List.range ds.length) (f:=λ j:Nat=>.int (gF gs j:Nat)) (iX I.gl) (λ j=>plT K (gF gs j)) (λ j h=>⟨_,bv (whF _ (by have:=gst j (cW.mp h);rw[I.fl] at this;exact this)),wX K _⟩) ⟨O,g2L,O,q⟩⟩⟩⟩
 ·have ek:=cN (kl k hk);have am:=ain k hk;have sa:=ae k _ ek;have kn:=kl k hk;rw[I.fl] at kn;generalize fs.getD k (.num 0)=d at ek am sa;exact⟨stT d,aE ek,clB rfl ⟨d,_,λ a=>K.idxOf a,O,λ a h=>by rw[whF a (by have:=sa a h;lia),pin a (am a h)],nY _,O,O⟩⟩
 ·have oi:=oin o h;obtain⟨j,rfl⟩:∃j:Nat,o=j:=⟨o.toNat,by have:=ho o h;lia⟩;have:=ho _ h;rw[Int.toNat_natCast] at oi ⊢;have gn:=gst j fu;rw[I.fl] at gn;exact⟨_,lC (by rw[I.gl];lia),_,bv (by rw[whF _ gn,pin _ oi]),O,O⟩
def KA:ZC 83 "_law_alike" ["found","due","k"] 3 2 yq Jw:=by
 refine⟨by kernel_rfl,?_⟩;refine⟨λ ts Q h=>?_,λ d ts Q h=>?_⟩
 ·obtain⟨t,_,h,_⟩:=h;exact h
 obtain⟨t,rfl,h,q⟩:=h;refine⟨O,?_⟩
 cases t with
 |non=>exact⟨rfl,rfl,rfl,q⟩
 |int i=>exact⟨rfl,trivial,rfl,by show Q (.bl (decide (i=i)));rw[bf rfl];exact q⟩
 |str x=>exact⟨rfl,trivial,rfl,by show Q (.bl (decide (x=x)));rw[bf rfl];exact q⟩
 |tup l=>
  obtain⟨l1,h⟩:=h;refine⟨rm,sF (neF rfl) ⟨O,⟨fu,fu⟩,bY (λ i ρ=>∃y,ρ=[some (.tup l),some (.tup l),y]) ⟨_,O⟩ (λ i u ρ hu h1=>?_) (λ ρ h1=>?_)⟩⟩
  ·obtain⟨y,rfl⟩:=h1;obtain⟨il,rfl⟩:=gu hu;have il:i<l.length:=fu;have ex:=bv (xs:=l) (j:=i) (aF il);have ax:=h _ (iI il);generalize l[i]=x at ex ax;obtain⟨f1,f2⟩:=HN ax;exact⟨x,ex,x,ex,cl rfl ⟨x,by show[x.fz,x.fz]=_;rw[f1],ax,_,O⟩ (by show(x.nb&&(x.nb&&true))=true;rw[f2];rfl)⟩
  ·obtain⟨y,rfl⟩:=h1;exact⟨O,q⟩
 |_=>exact h.elim
def KC:ZX 62 84 ["script","made"] 2 1 yr Jx:=by
 refine⟨by kernel_rfl,?_⟩;rintro ts Q ⟨ns,rfl,h63,q⟩;refine⟨O,?_⟩;have e12:ao (ns.map TV.int) none (some (12:Int))=(ns.take 12).map TV.int:=eJ ns 12;refine cl rfl ⟨ns.take 12,12,by show[TV.lst (ao (ns.map TV.int) none (some (12:Int))),TV.int 12]=_;rw[e12];rfl,by rw[be];lia,⟨on,on⟩,λ ds Ss os gd dc=>cl rfl ⟨ds,Ss,os,ns,12,O,gd,by rw[be] at dc;lia,λ ds Ss os gd=>⟨O,_,O,_,O,O,g2L,cl rfl ⟨ds,Ss,os,12,O,gd,λ fs gs th=>⟨_,O,_,O,_,O,cl rfl ⟨ds,Ss,os,12,O,gd,λ fs' gs' th'=>?_⟩ rfl⟩⟩ rfl⟩⟩ rfl⟩ rfl;obtain⟨rfl,rfl⟩:=wJ th th';exact cl rfl ⟨thT ds os fs gs,O,Ip gd th,O,q⟩ rfl
noncomputable def pT(p:Str×List (Str×Int)):TV:=.tup [.str p.1,.tup (p.2.map λ q=>.tup [.str q.1,.int q.2])]
theorem yv{K:FG}:∀ {fs:List (Str×Int)}{xs:List V},qX K fs xs->RpL K F H (fs.map λ q=>.tup [.str q.1,.int q.2]) xs
 |[],[],_=>rfl
 |[],_::_,h=>h.elim
 |_::_,[],h=>h.elim
 |f::fs,y::ys,⟨⟨a,e,k⟩,h2⟩=>⟨y,ys,rfl,⟨a,_,e,k.sq,_,_,rfl,rfl,_,_,rfl,rfl,rfl⟩,yv h2⟩
theorem yw{K:FG}:∀ {fs:List (Str×List (Str×Int))}{kvs:LA},qY K fs kvs->∀y t,dlk (fs.map pT) y=some t->∃a,kvs.lookup y=some a/\∀F H,Rp K F H t (.ref a)
 |[],_,_,y,t,e=>nomatch e
 |_::_,[],h,_,_,_=>h.elim
 |(g,gs)::fs,(p,pa)::ps,h,y,t,e=>by
  obtain⟨⟨e1,xs,k1,k2⟩,h2⟩:=h;cases (show p=g from e1);have e:(if decide (g=y)=true then some (TV.tup (gs.map λ q=>.tup [.str q.1,.int q.2])) else dlk (fs.map pT) y)=some t:=e;rw[gb];by_cases c:g=y
  ·subst c;rw[if_pos (bf rfl)] at e;cases e;rw[show(g == g)=true from kO g];exact⟨pa,O,λ F H=>⟨pa,xs,O,k1.sq,yv k2⟩⟩
  ·rw[if_neg (by rw[aP c];decide)] at e;rw[show(y == g)=false from oA.mpr λ z=>c z.symm];exact yw h2 y t e
def kts{K:FG}{sl:AV}(h:K.lookup a=some ⟨.type "tuple",none,.seq #[.str x t,.int i u] n,sl⟩):KTup K a [.str x,.int i]:=lh h (small (show(2:Nat)<=1000 by decide)) (.cons ⟨_,rfl⟩ (.cons ⟨_,rfl⟩ .nil))
def ktr1{K:FG}{sl:AV}(h:K.lookup a=some ⟨.type "tuple",none,.seq #[.ref a0] n,sl⟩):KTup K a [.ref a0]:=lh h (small (show(1:Nat)<=1000 by decide)) (.cons rfl (.nil))
def ktr2{K:FG}{sl:AV}(h:K.lookup a=some ⟨.type "tuple",none,.seq #[.ref a0,.ref a1] n,sl⟩):KTup K a [.ref a0,.ref a1]:=lh h (small (show(2:Nat)<=1000 by decide)) (.cons rfl (.cons rfl (.nil)))
def ktr3{K:FG}{sl:AV}(h:K.lookup a=some ⟨.type "tuple",none,.seq #[.ref a0,.ref a1,.ref a2] n,sl⟩):KTup K a [.ref a0,.ref a1,.ref a2]:=lh h (small (show(3:Nat)<=1000 by decide)) (.cons rfl (.cons rfl (.cons rfl (.nil))))
def ktr5{K:FG}{a a0 a1 a2 a3 a4:Addr}{sl:AV}(h:K.lookup a=some ⟨.type "tuple",none,.seq #[.ref a0,.ref a1,.ref a2,.ref a3,.ref a4] n,sl⟩):KTup K a [.ref a0,.ref a1,.ref a2,.ref a3,.ref a4]:=lh h (small (show(5:Nat)<=1000 by decide)) (.cons rfl (.cons rfl (.cons rfl (.cons rfl (.cons rfl (.nil))))))
theorem pt_mk{w:World}{K:FG}{t0 t1 t2 t3 t4 t5 t6 t7 t8 t9 t10 t11 t12 t13 t14:Tok}{a0 a1 a2 a3 a4 a5 a6 a7 a8 a9 a10 a11 a12 a13 a14:Addr}
  (gPT:W.nsIn K mainGlobals "PARTS"=some (some (.ref dPT))) (dPT0:(dPT == sysModules)=false)
  (lPT:K.lookup dPT=some { cls:=.type "dict",data:=.dict #[⟨PyData.keyHash w.params "in",.str "in" t0,.ref a0⟩,⟨PyData.keyHash w.params "num",.str "num" t1,.ref a1⟩,⟨PyData.keyHash w.params "count",.str "count" t2,.ref a2⟩,⟨PyData.keyHash w.params "each",.str "each" t3,.ref a3⟩,⟨PyData.keyHash w.params "pair",.str "pair" t4,.ref a4⟩,⟨PyData.keyHash w.params "pick",.str "pick" t5,.ref a5⟩,⟨PyData.keyHash w.params "turn",.str "turn" t6,.ref a6⟩,⟨PyData.keyHash w.params "flip",.str "flip" t7,.ref a7⟩,⟨PyData.keyHash w.params "cut",.str "cut" t8,.ref a8⟩,⟨PyData.keyHash w.params "spread",.str "spread" t9,.ref a9⟩,⟨PyData.keyHash w.params "lay",.str "lay" t10,.ref a10⟩,⟨PyData.keyHash w.params "join",.str "join" t11,.ref a11⟩,⟨PyData.keyHash w.params "fetch",.str "fetch" t12,.ref a12⟩,⟨PyData.keyHash w.params "fold",.str "fold" t13,.ref a13⟩,⟨PyData.keyHash w.params "run",.str "run" t14,.ref a14⟩] nPT })(l0:KTup K a0 [.ref a0_0])
  (l0_0:KTup K a0_0 [.str "sides",.int 1])(l1:KTup K a1 [.ref a1_0])
  (l1_0:KTup K a1_0 [.str "number",.int 1])(l2:KTup K a2 [.ref a2_0,.ref a2_1])
  (l2_0:KTup K a2_0 [.str "small",.int 2])
  (l2_1:KTup K a2_1 [.str "sides",.int 1])(l3:KTup K a3 [.ref a3_0,.ref a3_1])
  (l3_0:KTup K a3_0 [.str "word",.int 1])
  (l3_1:KTup K a3_1 [.str "step",.int 2])(l4:KTup K a4 [.ref a4_0,.ref a4_1,.ref a4_2])
  (l4_0:KTup K a4_0 [.str "word",.int 1])
  (l4_1:KTup K a4_1 [.str "step",.int 2])
  (l4_2:KTup K a4_2 [.str "step",.int 3])(l5:KTup K a5 [.ref a5_0,.ref a5_1,.ref a5_2])
  (l5_0:KTup K a5_0 [.str "step",.int 1])
  (l5_1:KTup K a5_1 [.str "step",.int 2])
  (l5_2:KTup K a5_2 [.str "step",.int 3])(l6:KTup K a6 [.ref a6_0,.ref a6_1])
  (l6_0:KTup K a6_0 [.str "step",.int 1])
  (l6_1:KTup K a6_1 [.str "sides",.int 2])(l7:KTup K a7 [.ref a7_0,.ref a7_1])
  (l7_0:KTup K a7_0 [.str "step",.int 1])
  (l7_1:KTup K a7_1 [.str "small",.int 2])(l8:KTup K a8 [.ref a8_0,.ref a8_1,.ref a8_2,.ref a8_3,.ref a8_4])
  (l8_0:KTup K a8_0 [.str "step",.int 1])
  (l8_1:KTup K a8_1 [.str "small",.int 2])
  (l8_2:KTup K a8_2 [.str "small",.int 3])
  (l8_3:KTup K a8_3 [.str "small",.int 4])
  (l8_4:KTup K a8_4 [.str "small",.int 5])(l9:KTup K a9 [.ref a9_0,.ref a9_1,.ref a9_2])
  (l9_0:KTup K a9_0 [.str "step",.int 1])
  (l9_1:KTup K a9_1 [.str "small",.int 2])
  (l9_2:KTup K a9_2 [.str "small",.int 3])(l10:KTup K a10 [.ref a10_0,.ref a10_1])
  (l10_0:KTup K a10_0 [.str "step",.int 1])
  (l10_1:KTup K a10_1 [.str "sides",.int 2])(l11:KTup K a11 [.ref a11_0,.ref a11_1,.ref a11_2])
  (l11_0:KTup K a11_0 [.str "step",.int 1])
  (l11_1:KTup K a11_1 [.str "step",.int 2])
  (l11_2:KTup K a11_2 [.str "small",.int 3])(l12:KTup K a12 [.ref a12_0,.ref a12_1])
  (l12_0:KTup K a12_0 [.str "step",.int 1])
  (l12_1:KTup K a12_1 [.str "step",.int 2])(l13:KTup K a13 [.ref a13_0,.ref a13_1,.ref a13_2])
  (l13_0:KTup K a13_0 [.str "word",.int 1])
  (l13_1:KTup K a13_1 [.str "step",.int 2])
  (l13_2:KTup K a13_2 [.str "small",.int 3])(l14:KTup K a14 [.ref a14_0,.ref a14_1,.ref a14_2])
  (l14_0:KTup K a14_0 [.str "word",.int 1])
  (l14_1:KTup K a14_1 [.str "step",.int 2])
  (l14_2:KTup K a14_2 [.str "small",.int 3]):∃d,W.nsIn K mainGlobals "PARTS"=some (some (.ref d))/\vP P w K d:=⟨_,gPT,⟨_,KTab.mk (l:=[("in",t0,a0),("num",t1,a1),("count",t2,a2),("each",t3,a3),("pair",t4,a4),("pick",t5,a5),("turn",t6,a6),("flip",t7,a7),("cut",t8,a8),("spread",t9,a9),("lay",t10,a10),("join",t11,a11),("fetch",t12,a12),("fold",t13,a13),("run",t14,a14)]) dPT0 lPT rfl (show(["in","num","count","each","pair","pick","turn","flip","cut","spread","lay","join","fetch","fold","run"]:List Str).Nodup by decide +kernel),⟨⟨rfl,_,l0,⟨⟨_,rfl,l0_0⟩,trivial⟩⟩,⟨⟨rfl,_,l1,⟨⟨_,rfl,l1_0⟩,trivial⟩⟩,⟨⟨rfl,_,l2,⟨⟨_,rfl,l2_0⟩,⟨⟨_,rfl,l2_1⟩,trivial⟩⟩⟩,⟨⟨rfl,_,l3,⟨⟨_,rfl,l3_0⟩,⟨⟨_,rfl,l3_1⟩,trivial⟩⟩⟩,⟨⟨rfl,_,l4,⟨⟨_,rfl,l4_0⟩,⟨⟨_,rfl,l4_1⟩,⟨⟨_,rfl,l4_2⟩,trivial⟩⟩⟩⟩,⟨⟨rfl,_,l5,⟨⟨_,rfl,l5_0⟩,⟨⟨_,rfl,l5_1⟩,⟨⟨_,rfl,l5_2⟩,trivial⟩⟩⟩⟩,⟨⟨rfl,_,l6,⟨⟨_,rfl,l6_0⟩,⟨⟨_,rfl,l6_1⟩,trivial⟩⟩⟩,⟨⟨rfl,_,l7,⟨⟨_,rfl,l7_0⟩,⟨⟨_,rfl,l7_1⟩,trivial⟩⟩⟩,⟨⟨rfl,_,l8,⟨⟨_,rfl,l8_0⟩,⟨⟨_,rfl,l8_1⟩,⟨⟨_,rfl,l8_2⟩,⟨⟨_,rfl,l8_3⟩,⟨⟨_,rfl,l8_4⟩,trivial⟩⟩⟩⟩⟩⟩,⟨⟨rfl,_,l9,⟨⟨_,rfl,l9_0⟩,⟨⟨_,rfl,l9_1⟩,⟨⟨_,rfl,l9_2⟩,trivial⟩⟩⟩⟩,⟨⟨rfl,_,l10,⟨⟨_,rfl,l10_0⟩,⟨⟨_,rfl,l10_1⟩,trivial⟩⟩⟩,⟨⟨rfl,_,l11,⟨⟨_,rfl,l11_0⟩,⟨⟨_,rfl,l11_1⟩,⟨⟨_,rfl,l11_2⟩,trivial⟩⟩⟩⟩,⟨⟨rfl,_,l12,⟨⟨_,rfl,l12_0⟩,⟨⟨_,rfl,l12_1⟩,trivial⟩⟩⟩,⟨⟨rfl,_,l13,⟨⟨_,rfl,l13_0⟩,⟨⟨_,rfl,l13_1⟩,⟨⟨_,rfl,l13_2⟩,trivial⟩⟩⟩⟩,⟨⟨rfl,_,l14,⟨⟨_,rfl,l14_0⟩,⟨⟨_,rfl,l14_1⟩,⟨⟨_,rfl,l14_2⟩,trivial⟩⟩⟩⟩,trivial⟩⟩⟩⟩⟩⟩⟩⟩⟩⟩⟩⟩⟩⟩⟩⟩⟩
noncomputable abbrev nB(K:FG)(x:Str):Prop:=W.nsIn K mainGlobals x=some none
structure Sv (P:Program)(w:World)(K:FG):Prop where
 g0:Gx K "wrapped" (top 11)
 g1:Gx K "sign_of" (top 12)
 g2:Gx K "quotient" (top 13)
 g3:Gx K "remainder" (top 14)
 g4:Gx K "once" (top 15)
 g5:Gx K "twice" (top 16)
 g6:Gx K "neutral" (top 17)
 g7:Gx K "arg_places" (top 22)
 g8:Gx K "args_of" (top 23)
 g9:Gx K "with_args" (top 24)
 g10:Gx K "reached_from" (top 25)
 g11:Gx K "amount" (top 29)
 g12:Gx K "breadth" (top 30)
 g13:Gx K "allowed" (top 31)
 g14:Gx K "changed_at" (top 32)
 g15:Gx K "added_at" (top 33)
 g16:Gx K "dropped_at" (top 34)
 g17:Gx K "ask_side" (top 36)
 g18:Gx K "turned_sides" (top 37)
 g19:Gx K "flipped_sides" (top 38)
 g20:Gx K "cut_sides" (top 39)
 g21:Gx K "spread_sides" (top 40)
 g22:Gx K "laid_sides" (top 41)
 g23:Gx K "joined_sides" (top 42)
 g24:Gx K "led_sides" (top 43)
 g25:Gx K "paired_sides" (top 44)
 g26:Gx K "picked_sides" (top 45)
 g27:Gx K "fetched_sides" (top 46)
 g28:Gx K "folded_sides" (top 47)
 g29:Gx K "counted_sides" (top 48)
 g30:Gx K "ask_word" (top 50)
 g31:Gx K "first_sides" (top 51)
 g32:Gx K "moved_sides" (top 52)
 g33:Gx K "step_sides" (top 53)
 g34:Gx K "step_told" (top 54)
 g35:Gx K "program_told" (top 55)
 g36:Gx K "checked" (top 56)
 g37:Gx K "still_for" (top 58)
 g38:Gx K "unflipped" (top 59)
 g39:Gx K "standing_for" (top 60)
 g40:Gx K "thinned" (top 61)
 g41:Gx K "_law_size" (top 63)
 g42:Gx K "_law_wide" (top 64)
 g43:Gx K "_law_number" (top 65)
 g44:Gx K "_law_recent" (top 66)
 g45:Gx K "_law_begun" (top 67)
 g46:Gx K "_law_led" (top 68)
 g47:Gx K "_law_lifted" (top 69)
 g48:Gx K "_law_laid" (top 70)
 g49:Gx K "_law_moved" (top 71)
 g50:Gx K "_law_both" (top 72)
 g51:Gx K "_law_met" (top 73)
 g52:Gx K "_law_step" (top 74)
 g53:Gx K "_law_program" (top 75)
 g54:Gx K "_law_spots" (top 76)
 g55:Gx K "_law_with" (top 77)
 g56:Gx K "_law_more" (top 78)
 g57:Gx K "_law_thick" (top 79)
 g58:Gx K "_law_still" (top 80)
 g59:Gx K "_law_stand" (top 81)
 g60:Gx K "_law_due" (top 82)
 g61:Gx K "_law_alike" (top 83)
 g62:Gx K "law" (top 84)
 blen:nB K "len"
 btuple:nB K "tuple"
 blist:nB K "list"
 bsum:nB K "sum"
 bmax:nB K "max"
 bmin:nB K "min"
 babs:nB K "abs"
 bint:nB K "int"
 bstr:nB K "str"
 bsorted:nB K "sorted"
 bany:nB K "any"
 ball:nB K "all"
 bisinstance:nB K "isinstance"
 bbool:nB K "bool"
 brange:nB K "range"
 bzip:nB K "zip"
 benumerate:nB K "enumerate"
 breversed:nB K "reversed"
 bset:nB K "set"
 bdict:nB K "dict"
 qLOW:∃t,W.nsIn K mainGlobals "LOW"=some (some (.int (-9223372036854775808) t))
 qHIGH:∃t,W.nsIn K mainGlobals "HIGH"=some (some (.int 9223372036854775807 t))
 qMOST_SIDES:∃t,W.nsIn K mainGlobals "MOST_SIDES"=some (some (.int 6 t))
 qMOST_BREADTH:∃t,W.nsIn K mainGlobals "MOST_BREADTH"=some (some (.int 512 t))
 qMOST_STEPS:∃t,W.nsIn K mainGlobals "MOST_STEPS"=some (some (.int 40 t))
 qMOST_OUTS:∃t,W.nsIn K mainGlobals "MOST_OUTS"=some (some (.int 8 t))
 qPT:∃d,W.nsIn K mainGlobals "PARTS"=some (some (.ref d))/\vP P w K d
def all_mk{l:W.OpenLaw}{K:FG}(X:K.In h)(G:h.Ns mainGlobals mg)(hfa:mg "law"=some (.ref fa))(S:Sv l.prog w K ):∃fd:FuncData,(∀(s:Shared) (v:Value),BindsTo s fd ⟨[v],[]⟩ [("script",v)])/\∀base:Heap,K.In base->base.Ns mainGlobals mg->FnOk l.prog w K mg base CX0 63 fa fd ["script"] (lg K (λ _=>True)):=by
 have hm:∀ {x:Str}{v:Option Value},W.nsIn K mainGlobals x=some v->mg x=v:=λ {x v} z=>by cases v with|none=>exact W.mg_none_of X G z|some u=>exact W.mg_of X G z
 obtain⟨f,fd,gL⟩:=S.g62;have e:=hfa.symm.trans (hm gL.a);cases e;obtain⟨_,_,kVL,dcL,pmL,anL,cdL,ctL,_,eL,_,_⟩:=gL.F.ex;refine⟨fd,λ s v=>by rw[eL];exact .of_eq rfl,λ base KB GB=>?_⟩;have M:MOk l.prog w K mg (λ _=>True) GT gs:=⟨⟨λ _ _ _ _ _=>trivial,λ _ _ _ _ _ _=>trivial⟩,λ g x t h1 h2 nb=>?_,λ g x t h1 h2=>?_,λ x hx=>?_⟩
 ·have C:CM l.prog w K mg base (λ _=>True) GT gs DL 0:=⟨Cals.z,M,hm⟩;replace C:=C.d S.g0 zw0;replace C:=C.d S.g1 zw1;replace C:=C.d S.g2 zw2;replace C:=C.d S.g3 zw3;replace C:=C.d S.g4 zw4;replace C:=C.d S.g5 zw5;replace C:=C.d S.g6 zw6;replace C:=C.d S.g7 zw7;replace C:=C.d S.g8 zw8;replace C:=C.d S.g9 zw9;replace C:=C.d S.g10 Jy;replace C:=C.d S.g11 Jz;replace C:=C.d S.g12 JA;replace C:=C.d S.g13 JB;replace C:=C.d S.g14 JC;replace C:=C.d S.g15 JD;replace C:=C.d S.g16 JE;replace C:=C.d S.g17 JF;replace C:=C.d S.g18 JG;replace C:=C.d S.g19 JH;replace C:=C.d S.g20 JI;replace C:=C.d S.g21 JJ;replace C:=C.d S.g22 JK;replace C:=C.d S.g23 JL;replace C:=C.d S.g24 JM;replace C:=C.d S.g25 JN;replace C:=C.d S.g26 JO;replace C:=C.d S.g27 JP;replace C:=C.d S.g28 JQ;replace C:=C.d S.g29 JR;replace C:=C.d S.g30 JT;replace C:=C.d S.g31 JU;replace C:=C.d S.g32 JV;replace C:=C.d S.g33 JW;replace C:=C.d S.g34 JX;replace C:=C.d S.g35 JY;replace C:=C.d S.g36 JZ;replace C:=C.d S.g37 Ka;replace C:=C.d S.g38 Kb;replace C:=C.d S.g39 Kc;replace C:=C.d S.g40 Kd;replace C:=C.d S.g41 Kf;replace C:=C.d S.g42 Kg;replace C:=C.d S.g43 Kh;replace C:=C.d S.g44 Ki;replace C:=C.d S.g45 Kj;replace C:=C.d S.g46 Kk;replace C:=C.d S.g47 Kl;replace C:=C.d S.g48 Km;replace C:=C.d S.g49 Ko;replace C:=C.d S.g50 Kp;replace C:=C.d S.g51 Kq;replace C:=C.d S.g52 Kr;replace C:=C.d S.g53 Ks;replace C:=C.d S.g54 Kt;replace C:=C.d S.g55 Ku;replace C:=C.d S.g56 Kv;replace C:=C.d S.g57 Kw;replace C:=C.d S.g58 Kx;replace C:=C.d S.g59 Ky;replace C:=C.d S.g60 Kz;replace C:=C.rc (d:=8) S.g61 KA;exact C.law gL KC
 ·match g,h1,h2 with
  |0,h1,h2=>cases h1;cases h2;obtain⟨t,q⟩:=S.qLOW;exact⟨.int (-9223372036854775808),_,hm q,⟨t,rfl⟩,λ F H=>rfl⟩
  |1,h1,h2=>cases h1;cases h2;obtain⟨t,q⟩:=S.qHIGH;exact⟨.int 9223372036854775807,_,hm q,⟨t,rfl⟩,λ F H=>rfl⟩
  |2,h1,h2=>cases h1;cases h2;obtain⟨t,q⟩:=S.qMOST_SIDES;exact⟨.int 6,_,hm q,⟨t,rfl⟩,λ F H=>rfl⟩
  |3,h1,h2=>cases h1;cases h2;obtain⟨t,q⟩:=S.qMOST_BREADTH;exact⟨.int 512,_,hm q,⟨t,rfl⟩,λ F H=>rfl⟩
  |4,h1,h2=>cases h1;cases h2;obtain⟨t,q⟩:=S.qMOST_STEPS;exact⟨.int 40,_,hm q,⟨t,rfl⟩,λ F H=>rfl⟩
  |5,h1,h2=>cases h1;cases h2;obtain⟨t,q⟩:=S.qMOST_OUTS;exact⟨.int 8,_,hm q,⟨t,rfl⟩,λ F H=>rfl⟩
  |6,h1,h2=>cases h1;cases h2;cases nb
  |n+7,h1,h2=>cases h1
 ·match g,h1,h2 with
  |0,h1,h2=>cases h2
  |1,h1,h2=>cases h2
  |2,h1,h2=>cases h2
  |3,h1,h2=>cases h2
  |4,h1,h2=>cases h2
  |5,h1,h2=>cases h2
  |6,h1,h2=>cases h1;cases h2;obtain⟨d,e,kvs,TK,PA⟩:=S.qPT;exact⟨d,kvs,hm e,TK,yw PA⟩
  |n+7,h1,h2=>cases h1
 ·simp only[BN,aG,aU,aY] at hx
  rcases hx with rfl|rfl|rfl|rfl|rfl|rfl|rfl|rfl|rfl|rfl|rfl|rfl|rfl|rfl|rfl|rfl|rfl|rfl|rfl|rfl
  ·exact hm S.blen
  ·exact hm S.btuple
  ·exact hm S.blist
  ·exact hm S.bsum
  ·exact hm S.bmax
  ·exact hm S.bmin
  ·exact hm S.babs
  ·exact hm S.bint
  ·exact hm S.bstr
  ·exact hm S.bsorted
  ·exact hm S.bany
  ·exact hm S.ball
  ·exact hm S.bisinstance
  ·exact hm S.bbool
  ·exact hm S.brange
  ·exact hm S.bzip
  ·exact hm S.benumerate
  ·exact hm S.breversed
  ·exact hm S.bset
  ·exact hm S.bdict
theorem walk{l:W.OpenLaw}{YP:World->Heap->Prop}{d:DefRec}{K:Params->FG}(hn:l.most=some 63)(hdf:d.params.defaults=[])
  (hY:∀(w:World) (h:Heap),YP w h->(K w.params).In h)
  (F:∀(w:World) (mg:SV) (fa:Addr) (h:Heap),(K w.params).In h->h.Ns mainGlobals mg->mg d.name=some (.ref fa) ->
   ∃fd:FuncData,(∀(s:Shared) (u:Value),BindsTo s fd ⟨[u],[]⟩ [("script",u)])/\∀base:Heap,(K w.params).In base->base.Ns mainGlobals mg->FnOk l.prog w (K w.params) mg base CX0 63 fa fd ["script"] (lg (K w.params) (λ _=>True))) :
  W.WalkO q loose XP YP l.row.toRowW d [] (λ f vs=>PySem.call f vs) :=
 _L.walk_of (n:=63) (k:=63) (x := "script") (CX:=λ _=>CX0) (sp:=λ w=>lg (K w.params) (λ _=>True)) hn on hdf ⟨rfl,on,on⟩ hY F (λ _ _ a ns hl hfew hS=>⟨a,ns,rfl,hS,hl,trivial,λ _=>rfl⟩) λ _ _ _ _ _ z=>z
end _M
end
end
open PySem PySem.W PyProof.Rows
set_option maxRecDepth 100000 in
set_option maxHeartbeats 0 in
theorem PySem.Challenge.cw_sideloom_k45_thinned_holds : PySem.Challenge.rw_sideloom_k45_thinned.Holds := by
 w_on;o_law;k_head;(case hw=>w_witness2)
 k_fill
 refine _M.walk (l:=PySem.Challenge.rw_sideloom_k45_thinned) rfl rfl (λ w h Y=>W.kIn_of Y) ?F
 case F=>
  intro w mg fa h KX G hmg
  refine' _M.all_mk KX G hmg ?S
  case S=>
   constructor
   iterate 63 (refine' _L.gl_ex ?ya ?yb ?yc ?yd;(case ya=>k_is);(case yb=>k_is);(case yc=>k_is);(case yd=>k_is))
   iterate 20 (unfold _M.nB;k_is)
   iterate 6 (refine' _L.gx_int ?ya;(case ya=>k_is))
   ·refine' _M.pt_mk ?gPT ?dPT0 ?lPT ?l0 ?l0_0 ?l1 ?l1_0 ?l2 ?l2_0 ?l2_1 ?l3 ?l3_0 ?l3_1 ?l4 ?l4_0 ?l4_1 ?l4_2 ?l5 ?l5_0 ?l5_1 ?l5_2 ?l6 ?l6_0 ?l6_1 ?l7 ?l7_0 ?l7_1 ?l8 ?l8_0 ?l8_1 ?l8_2 ?l8_3 ?l8_4 ?l9 ?l9_0 ?l9_1 ?l9_2 ?l10 ?l10_0 ?l10_1 ?l11 ?l11_0 ?l11_1 ?l11_2 ?l12 ?l12_0 ?l12_1 ?l13 ?l13_0 ?l13_1 ?l13_2 ?l14 ?l14_0 ?l14_1 ?l14_2
    (case gPT=>k_is)
    (case dPT0=>first|decide +kernel|rfl)
    (case lPT=>k_is)
    (case l0=>refine' _M.ktr1 ?ya;(case ya=>k_is))
    (case l1=>refine' _M.ktr1 ?ya;(case ya=>k_is))
    (case l2=>refine' _M.ktr2 ?ya;(case ya=>k_is))
    (case l3=>refine' _M.ktr2 ?ya;(case ya=>k_is))
    (case l4=>refine' _M.ktr3 ?ya;(case ya=>k_is))
    (case l5=>refine' _M.ktr3 ?ya;(case ya=>k_is))
    (case l6=>refine' _M.ktr2 ?ya;(case ya=>k_is))
    (case l7=>refine' _M.ktr2 ?ya;(case ya=>k_is))
    (case l8=>refine' _M.ktr5 ?ya;(case ya=>k_is))
    (case l9=>refine' _M.ktr3 ?ya;(case ya=>k_is))
    (case l10=>refine' _M.ktr2 ?ya;(case ya=>k_is))
    (case l11=>refine' _M.ktr3 ?ya;(case ya=>k_is))
    (case l12=>refine' _M.ktr2 ?ya;(case ya=>k_is))
    (case l13=>refine' _M.ktr3 ?ya;(case ya=>k_is))
    (case l14=>refine' _M.ktr3 ?ya;(case ya=>k_is))
    iterate 37 (refine' _M.kts ?ya;(case ya=>k_is))
