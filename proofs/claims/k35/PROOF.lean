import PyProof.Rows.All
import Wide.All
import OpenK.AllK
import Wide.FinOn
import Lean
import PyProof.EqAt
import PyProof.EqKinds
import PyProof.TupleCall
import PySem.Challenge.RW_sideloom_k35_step_by_step
set_option Elab.async false
set_option linter.all false
set_option autoImplicit true
set_option maxRecDepth 100000
abbrev VS:=PySem.Value->PySem.Shared->Prop
abbrev LL:=List (List Int)
abbrev LI:=List Int
abbrev LO:=List (PySem.Addr × PySem.Obj)
abbrev LA:=List (PySem.Str × PySem.Addr)
abbrev SV:=PySem.Str->Option PySem.Value
abbrev LV:=List PySem.Value
abbrev FG:=PySem.W.Frag
abbrev AV:=Array (Option PySem.Value)
abbrev OA:=Option PySem.Addr
def t0a:=@List.append_nil
def t0b:=@PySem.wpAny_bind
def t0c:=@List.length_map
def t0d:=@List.mem_cons_of_mem
def t0e:=@List.getElem?_eq_getElem
def t0f:=@PySem.Heap.get?_push_of_some
def t0g:=@List.getElem?_eq_some_iff
def t0h:=@List.length_cons
def t0i:=@List.mem_of_getElem?
def t0j:=@List.length_nil
def t0k:=@List.cons_append
def t0l:=@List.map_append
def t0m:=@List.nil_append
def t0n:=@Nat.le_refl
def t0o:=@List.length_append
def t0p:=@List.length_take
def t0q:=@List.getElem?_map
def t0r:=@PySem.Heap.get?_push_size
def t0s:=@PySem.wpAny_pure
def t0t:=@List.mem_cons_self
def t0u:=@List.getElem?_append_right
def t0v:=@List.mem_singleton
def t0w:=@List.getD_eq_getElem?_getD
def t0x:=@Nat.zero_le
def t0y:=@PySem.Heap.lt_size
def t0z:=@List.size_toArray
def t1a:=@List.mem_cons
def t1b:=@List.getElem?_append_left
def t1c:=@Int.toNat_natCast
def t1d:=@Nat.lt_of_lt_of_le
def t1e:=@Bool.false_ne_true
def t1f:=@PySem.mem_of_lookup
def t1g:=@List.mem_append_right
def t1h:=@List.take_length
def t1i:=@Option.some.inj
def t1j:=@List.take_add_one
def t1k:=@Nat.ne_of_lt
def t1l:=@List.not_mem_nil
def t1m:=@Int.fmod_nonneg_of_pos
def t1n:=@List.mem_append
def t1o:=@List.take_of_length_le
def t1p:=@Int.mul_le_mul_of_nonneg_left
def t1q:=@of_decide_eq_true
def t1r:=@PySem.wpAny_field
def t1s:=@Int.mul_le_mul_of_nonneg_right
def t1t:=@PyProof.Rows.callWith_type1
def t1u:=@PySem.PassesOwn.never
def t1v:=@PySem.Heap.get?_update_other
def t1w:=@PySem.wpAny_newObj_type
def t1x:=@List.length_range
def t1y:=@PySem.wpAny_callSpecial?_slot
def t1z:=@List.length_singleton
def t2a:=@List.getElem?_take_of_lt
def t2b:=@Nat.lt_succ_of_lt
def t2c:=@Int.fmod_lt_of_pos
def t2d:=@List.length_drop
def t2e:=@List.getElem?_eq_none
def t2f:=@Nat.sub_self
def t2g:=@PyProof.Rows.boot_tuple
def t2h:=@PySem.wpAny_seqItems
def t2i:=@PySem.wpAny_call_entry
def t2j:=@List.mem_map
def t2k:=@PySem.builtinLookup_eq_fast
def t2l:=@PySem.Heap.size_push
def t2m:=@Int.toNat_of_nonneg
def t2n:=@decide_eq_false
def t2o:=@and_assoc
def t2p:=@PySem.wpAny_setField_rec
def t2q:=@PySem.Heap.get?_update_self
def t2r:=@Int.fdiv_eq_ediv_of_nonneg
def t2s:=@Nat.lt_irrefl
def t2t:=@List.map_cons
def t2u:=@Nat.le_trans
def t2v:=@PySem.Around.under_plainId
def t2w:=@PySem.wpAny_pyIter_tuple
def t2x:=@Option.isSome_iff_exists
def t2y:=@List.length_set
def t2z:=@PySem.wpAny_mono
def t3a:=@List.append_assoc
def t3b:=@Option.map_eq_some_iff
def t3c:=@PySem.F.plain_max_loop
def t3d:=@List.getElem?_eraseIdx
def t3e:=@List.mem_or_eq_of_mem_set
def t3f:=@or_false
def t3g:=@List.getElem?_range
def t3h:=@Nat.le_of_lt
def t3i:=@PySem.wpAny_truthy_bool
def t3j:=@PySem.wpAny_holding
def t3k:=@Nat.lt_of_le_of_lt
def t3l:=@PySem.typeLookup_type
def t3m:=@List.getElem?_set_self
def t3n:=@PyProof.Rows.slot_tuple_getitem
def t3o:=@List.reverse_append
def t3p:=@congrArg
def t3q:=@PySem.plainId_quiet
def t3r:=@PySem.codeAny_builtin
def t3s:=@List.take_append_drop
def t3t:=@Int.le_trans
def t3u:=@Nat.succ_le_succ
def t3v:=@Nat.lt_succ_self
def t3w:=@List.getElem_mem
def t3x:=@List.take_append_of_le_length
def t3y:=@List.mem_append_left
def t3z:=@Ne.symm
def t4a:=@Array.length_toList
def t4b:=@List.nodup_cons
def t4c:=@PySem.wpAny_of_eq
def t4d:=@PySem.wpAny_specialOf
def t4e:=@PySem.F.slot_zip_next
def t4f:=@Int.fmod_eq_emod_of_nonneg
def t4g:=@PySem.F.slot_tuple_iterator_next
def t4h:=@PySem.wpAny_isInstance
def t4i:=@List.lookup_cons
def t4j:=@PySem.wpAny_Call_Name_kw
def t4k:=@PySem.wpAny_attempt
def t4l:=@PySem.Obj.data_mapFields
def t4m:=@List.getElem?_reverse
def t4n:=@decide_eq_true
def t4o:=@Array.getElem?_eq_getElem
def t4p:=@List.getElem?_set_ne
def t4q:=@List.mem_of_mem_take
def t4r:=@List.mem_of_mem_drop
def t4s:=@List.reverse_cons
def t4t:=@PySem.AutoSeq1.wpAny_loadPart'
def t4u:=@List.eraseIdx_eq_take_drop_succ
def t4v:=@PyProof.Rows.boot_isinstance
def t4w:=@Nat.ne_of_gt
def t4x:=@Nat.min_self
def t4y:=@PySem.wpAny_onRaise
def t4z:=@PySem.wpAny_letGo
def t5a:=@List.length_reverse
def t5b:=@List.length_eq_zero_iff
def t5c:=@PySem.isSubtype_type
def t5d:=@List.pairwise_cons
def t5e:=@of_decide_eq_false
def t5f:=@List.set_cons_zero
def t5g:=@List.set_cons_succ
def t5h:=@List.length_replicate
def t5i:=@List.map_map
def t5j:=@PySem.wpAny_updateSeq
def t5k:=@List.mem_iff_getElem?
def t5l:=@PySem.wpAny_standAt
def t5m:=@PySem.F.args_object_init_2
def t5n:=@List.length_eraseIdx
def t5o:=@PySem.W.kia_one
def t5p:=@PySem.wpAny_tryCatch
def t5q:=@Bool.and_eq_true
def t5r:=@List.all_eq_true
def t5s:=@Nat.zero_lt_succ
def t5t:=@PySem.Heap.SameBut.update
def t5u:=@Int.le_refl
def t5v:=@PySem.F.args_tuple_add_2
def t5w:=@PySem.wpAny_typeOf
def t5x:=@PySem.wpAny_rule
def t5y:=@Int.zero_add
def t5z:=@Int.mul_comm
def t6a:=@List.idxOf_lt_length_iff
def t6b:=@PySem.wpAny_passesOwn
def t6c:=@List.of_mem_zip
def t6d:=@List.getElem?_replicate
def t6e:=@PySem.F.entry_tuple_add
def t6f:=@PySem.F.plainAttrs_list
def t6g:=@List.forIn_cons
def t6h:=@List.range_succ
def t6i:=@Int.mul_assoc
def t6j:=@Int.emod_nonneg
def t6k:=@Int.emod_lt_of_pos
def t6l:=@Int.natCast_nonneg
def t6m:=@List.set_eq_take_append_cons_drop
def t6n:=@PySem.F.slot_tuple_add
def t6o:=@PySem.wpAny_Call_method_late
def t6p:=@PySem.Calls.callWith_builtin
def t6q:=@PySem.F.entry_max_loop
def t6r:=@List.length_pos_of_mem
def t6s:=@PySem.F.plain_list_iadd
def t6t:=@PySem.F.plain_tuple_new
def t6u:=@PySem.F.args_zip_next_1
def t6v:=@List.mem_range
def t6w:=@PySem.wpAny_setField
def t6x:=@List.forIn_nil
def t6y:=@PySem.boot_len
def t6z:=@Int.mul_nonneg
def t7a:=@PySem.Obj.isFreed_of_fields
def t7b:=@List.getElem?_toArray
def t7c:=@List.filterMap_append
def t7d:=@Int.ofNat_lt
def t7e:=@List.getElem?_zipWith
def t7f:=@PySem.W.cellsFrom_some
def t7g:=@PySem.F.entry_zip_next
def t7h:=@List.zipIdx_cons
def t7i:=@PySem.wpAny_pyIter_zip
def t7j:=@Int.ediv_le_self
def t7k:=@List.map_reverse
def t7l:=@PySem.Calls.evalArgs_plain
def t7m:=@PySem.codeAny_extend_loopS
def t7n:=@PySem.wpAny_updateSeq_pair
def t7o:=@List.all_cons
def t7p:=@PySem.F.args_tuple_iterator_next_1
def t7q:=@List.cons.inj
def t7r:=@List.filterMap_cons
def t7s:=@PySem.wpAny_execs_nil
def t7t:=@Bool.eq_iff_iff
def t7u:=@if_true
def t7v:=@LawfulBEq.eq_of_beq
def t7w:=@PySem.F.plain_extend_loop
def t7x:=@PySem.F.entry_tuple_iterator_next
def t7y:=@List.zipIdx_nil
def t7z:=@Nat.min_eq_left
def t8a:=@List.length_zipWith
def t8b:=@List.length_pos_iff
def t8c:=@PySem.Calls.Name_function_global
def t8d:=@Array.getElem?_eq_some_iff
def t8e:=@List.perm_append_singleton
def t8f:=@PySem.Calls.spliced_cons
def t8g:=@PySem.codeAny_mono
def t8h:=@Bool.false_eq_true
def t8i:=@PySem.isSubtype_stop
def t8j:=@PySem.wpAny_letOwnedTupleGo_zip
def t8k:=@PySem.wpAny_pyIter_list
def t8l:=@PySem.Calls.spliced_nil
def t8m:=@Option.some.injEq
def t8n:=@PySem.arm_evalThenUse_ListComp
def t8o:=@Nat.lt_succ_iff_lt_or_eq
def t8p:=@List.ext_getElem?
def t8q:=@List.length_filterMap_le
def t8r:=@List.mem_of_mem_eraseIdx
def t8s:=@not_false_eq_true
def t8t:=@Int.one_mul
def t8u:=@List.map_take
def t8v:=@List.map_drop
def t8w:=@PySem.noFill_tuple_add
def t8x:=@beq_self_eq_true
def t8y:=@PyProof.Rows.subscriptTail_builtinR
def t8z:=@List.range_succ_eq_map
def t9a:=@Nat.lt_of_succ_lt_succ
def t9b:=@List.drop_eq_nil_of_le
def t9c:=@PySem.wpAny_storeName_local
def t9d:=@PySem.name_of_addr
def t9e:=@PySem.codeAny_call_function
def t9f:=@PyProof.Rows.IsTup.new
def t9g:=@Array.getElem?_toList
def t9h:=@PySem.closureFor_none
def t9i:=@PySem.callType_new
def t9j:=@PySem.F.entry_proto_collect
def t9k:=@PySem.F.plain_proto_collect
def t9l:=@PySem.F.slot_enumerate_next
def t9m:=@PySem.exec_Assign_Name_used
def t9n:=@Int.ediv_nonneg
def t9o:=@True.intro
def t9p:=@PySem.call_meets
def t9q:=@PyProof.Rows.boot_max
def t9r:=@PyProof.Rows.boot_min
def t9s:=@PySem.wpAny_storeName_cell
def t9t:=@Array.mem_toList_iff
def t9u:=@PySem.Around.frames_deeper
def t9v:=@PySem.F.args_list_append_2
def t9w:=@List.getElem_toArray
def t9x:=@Array.toArray_toList
def t9y:=@Int.mul_ediv_self_le
def t9z:=@List.getElem?_of_mem
def s0a:=@PySem.Moved.drop_new
def s0b:=@List.drop_zero
def s0c:=@Int.mul_le_mul
def s0d:=@beq_eq_false_iff_ne
def s0e:=@Int.mul_one
def s0f:=@PySem.sizeLine_eq
def s0g:=@PyProof.Rows.entry_tuple_getitem
def s0h:=@List.replicate_succ
def s0i:=@PySem.F.entry_list_append
def s0j:=@PySem.F.entry_object_init
def s0k:=@PySem.SeqAt.RcNeAt.tuples
def s0l:=@List.map_congr_left
def s0m:=@List.getElem_of_mem
def s0n:=@List.length_take_le
def s0o:=@PySem.SeqAt.EqAt.int_str
def s0p:=@PySem.SeqAt.EqAt.str_int
def s0q:=@Array.append_assoc
def s0r:=@List.mem_filterMap
def s0s:=@PySem.seq_tuple_add
def s0t:=@if_false
def s0u:=@PyProof.Rows.args_tuple_getitem
def s0v:=@List.any_cons
def s0w:=@PyProof.Rows.len_tuple
def s0x:=@PySem.F.slot_list_append
def s0y:=@PyProof.Rows.boot_reversed
def s0z:=@PySem.F.typeCall_tuple_1
def s1b:=@PySem.SeqAt.RcNeAt.lists
def s1c:=@Nat.add_sub_cancel
def s1d:=@Int.sub_eq_add_neg
def s1e:=@List.getElem?_take
def s1f:=@List.getElem_idxOf
def s1g:=@PyProof.Rows.boot_list
def s1h:=@decide_eq_true_iff
def s1i:=@PySem.wpAny_load
def s1j:=@PyProof.Rows.boot_range
def s1k:=@PySem.concat_meets
def s1l:=@Int.ediv_one
def s1m:=@PySem.seqIndex_neg
def s1n:=@Nat.sub_zero
def s1o:=@Nat.lt_trans
def s1p:=@Nat.le_of_eq
def s1q:=@Sum.inr.inj
def s1r:=@PySem.seqIndex_of
def s1s:=@PySem.ItemsOf.nil
section
set_option compiler.extract_closed false
set_option hygiene false
local macro_rules
|`(tactic|kd_p)=>`(tactic|refine hid λ Gz gz=>?_)
|`(tactic|kt_k)=>`(tactic|refine F.ok sc (λ vs H Q E h=>?_) (λ cdv A outer s H vs Q E hr h=>?_))
|`(tactic|kcf_m)=>`(tactic|first | exact ⟨rfl,.inl rfl,.inl rfl⟩ | exact ⟨rfl,.inl rfl,.inr rfl⟩)
|`(tactic|kcj_m)=>`(tactic|first | exact λ _ _ h=>h | exact z2b rfl | exact z2a rfl rfl | exact z1z rfl rfl rfl)
set_option hygiene true
noncomputable section
namespace L2
open PySem PySem.Spec PyProof.Rows
abbrev Key:=Sum Int Str
def w0n:Key->Value->Bool
 | .inl k,v=>Value.isInt k v
 | .inr x,v=>Value.isStrOf x v
def v6f (w:World):Key->Int
 | .inl k=>hashInt k
 | .inr x=>hashStr w x
theorem z2i:∀ {k:Key}{v:Value},w0n k v=true->(∃i t,k=Sum.inl i/\v=Value.int i t)\/(∃x t,k=Sum.inr x/\v=Value.str x t)
 | .inl i,v,h=>by
  obtain ⟨t,e⟩:=Value.isInt_shape (k:=i) (v:=v) h;exact .inl ⟨i,t,rfl,e⟩
 | .inr x,v,h=>by
  obtain ⟨t,e⟩:=Value.isStrOf_shape (x:=x) (v:=v) h;exact .inr ⟨x,t,rfl,e⟩
theorem y1i (x:Str) (t:Tok):w0n (.inr x) (.str x t)=true:=by simp [w0n,Value.isStrOf]
theorem w9w (a b:Int):decide ((Sum.inl a:Key)=Sum.inl b)=(a == b):=by
 by_cases e:a=b
 ·subst e;simp
 ·have h:¬(Sum.inl a:Key)=Sum.inl b:=λ q=>e (Sum.inl.inj q);rw [t2n h];exact (s0d.mpr e).symm
theorem w9t (a b:Str):decide ((Sum.inr a:Key)=Sum.inr b)=decide (a=b):=by
 by_cases e:a=b
 ·subst e;simp
 ·have h:¬(Sum.inr a:Key)=Sum.inr b:=λ q=>e (s1q q);rw [t2n h,t2n e]
theorem w9v (a:Int) (b:Str):decide ((Sum.inl a:Key)=Sum.inr b)=false:=t2n (λ q=>nomatch q)
theorem w9u (a:Str) (b:Int):decide ((Sum.inr a:Key)=Sum.inl b)=false:=t2n (λ q=>nomatch q)
noncomputable def y7y (prog:Program) (w:World):PySem.KeyKind prog w Key where
 is:=w0n
 hash:=v6f w
 inj:=λ v a b ha hb=>by
  rcases z2i ha with ⟨i,t,rfl,rfl⟩ | ⟨x,t,rfl,rfl⟩
  ·rcases z2i hb with ⟨j,u,rfl,e⟩ | ⟨y,u,rfl,e⟩
   ·injection e with e1 _;rw [e1]
   ·exact nomatch e
  ·rcases z2i hb with ⟨j,u,rfl,e⟩ | ⟨y,u,rfl,e⟩
   ·exact nomatch e
   ·injection e with e1 _;rw [e1]
 byValue:=λ k v h=>by
  rcases z2i h with ⟨i,t,rfl,rfl⟩ | ⟨x,t,rfl,rfl⟩<;>rfl
 pyHash:=λ hv h=>by
  rcases z2i hv with ⟨i,t,rfl,rfl⟩ | ⟨x,t,rfl,rfl⟩
  ·exact wpAny_pyHash_int h
  ·exact wpAny_pyHash_str h
 eqBool:=λ hu hv h=>by
  rcases z2i hu with ⟨i,t,rfl,rfl⟩ | ⟨x,t,rfl,rfl⟩
  ·rcases z2i hv with ⟨j,u,rfl,rfl⟩ | ⟨y,u,rfl,rfl⟩
   ·rw [w9w] at h;exact wpAny_eqBool_int h
   ·rw [w9v] at h;exact s0o i t y u _ _ _ _ h
  ·rcases z2i hv with ⟨j,u,rfl,rfl⟩ | ⟨y,u,rfl,rfl⟩
   ·rw [w9u] at h;exact s0p x t j u _ _ _ _ h
   ·rw [w9t] at h;exact wpAny_eqBool_str h
 «strs»:=λ k x t v h=>by
  rcases z2i h with ⟨i,u,rfl,e⟩ | ⟨y,u,rfl,e⟩
  ·exact nomatch e
  ·injection e with e1 _
   subst e1;cases v<;>rfl
inductive V where
 | non | bl (b:Bool) | int (i:Int) | str (x:Str) | byt (b:Array UInt8) | flt (b:UInt64) | ref (a:Addr) | ty (n:String)
 deriving DecidableEq
noncomputable def RelV:V->Value->Prop
 | .non,u=>u=Value.none
 | .bl b,u=>u=Value.bool b
 | .int i,u=>∃t,u=Value.int i t
 | .str x,u=>∃t,u=Value.str x t
 | .byt b,u=>∃t,u=Value.bytes b t
 | .flt b,u=>∃t,u=Value.float b t
 | .ref a,u=>u=Value.ref a
 | .ty n,u=>u=Value.type n
abbrev Vals:List V->LV->Prop:=Paired RelV
theorem Vals.length (r:Vals xs us):xs.length=us.length:=Paired.length r
theorem Vals.get:∀ {xs:List V}{us:LV}{i:Nat}{x:V},Vals xs us->xs[i]?=some x->∃u,us[i]?=some u/\RelV x u
 | _,_,_,_,.nil,e=>by simp at e
 | _,_,0,_,.cons r _,e=>by simp at e;subst e;exact ⟨_,rfl,r⟩
 | _,_,i+1,x,.cons _ t,e=>by
  obtain ⟨u,h1,h2⟩:=Vals.get (i:=i) (x:=x) t (by simpa using e);exact ⟨u,by simpa using h1,h2⟩
theorem Vals.set (r:RelV x u):∀ {xs:List V}{us:LV}(i:Nat),Vals xs us->Vals (xs.set i x) (us.set i u)
 | _,_,_,.nil=>.nil
 | _,_,0,.cons _ t=>.cons r t
 | _,_,i+1,.cons q t=>.cons q (Vals.set r i t)
theorem Vals.append:∀ {xs ys:List V}{us ws:LV},Vals xs us->Vals ys ws->Vals (xs++ys) (us++ws)
 | _,_,_,_,.nil,s=>s
 | _,_,_,_,.cons r t,s=>.cons r (Vals.append t s)
theorem Vals.take:∀ {xs:List V}{us:LV}(n:Nat),Vals xs us->Vals (xs.take n) (us.take n)
 | _,_,0,_=>.nil
 | _,_,_+1,.nil=>.nil
 | _,_,n+1,.cons r t=>.cons r (Vals.take n t)
theorem Vals.drop:∀ {xs:List V}{us:LV}(n:Nat),Vals xs us->Vals (xs.drop n) (us.drop n)
 | _,_,0,r=>r
 | _,_,_+1,.nil=>.nil
 | _,_,n+1,.cons _ t=>Vals.drop n t
def v3u:Option V->Option Value->Prop
 | some v,some u=>RelV v u
 | none,none=>True
 | _,_=>False
def KV {κ:Type}:List (κ × V)->List (κ × Value)->Prop:=Paired λ (p:κ × V) (q:κ × Value)=>p.1=q.1/\RelV p.2 q.2
def kV:Key->V
 | .inl i=>.int i
 | .inr x=>.str x
inductive HO where
 | lst (xs:List V)
 | tup (xs:List V)
 | dK (kvs:List (Key × V)) | dT (kvs:List (List Key × V))
 | set (S:Int->Bool) (n:Nat)
 | ins (C dx:Addr) (fs:List (Str × V))
 | own (x:Addr)
 | xd (fs:List (Str × V))
 | met (f x:Addr)
 | rng (lo hi:Int)
 | frz (o:Obj) (u:HO)
 | tbl (ps:Array Value)
 | ext (φ:Heap->Prop)
abbrev Hp:=Addr->Option HO
def upd (H:Hp) (a:Addr) (o:HO):Hp:=λ b=>if b=a then some o else H b
theorem z0d:upd H a o a=some o:=by unfold upd;rw [if_pos rfl]
theorem z0u {a b:Addr}(h:b≠a):upd H a o b=H b:=by unfold upd;rw [if_neg h]
theorem z3j {H:Hp}(h:H a=some o) (h':H b=none):a≠b:=by
 intro e;subst e;rw [h] at h';cases h'
section
variable (P:Program) (w:World)
noncomputable def ObjOk (H:Hp) (h:Heap) (a:Addr):HO->Prop
 | .lst xs=>xs.length≤sizeLine/\∃(its:LV) (n:Nat),Vals xs its/\h.get? a=some { cls:=.type "list",data:=.seq its.toArray n }
 | .tup xs=>xs.length≤sizeLine/\∃its:LV,Vals xs its/\IsTup h a its.toArray
 | .dK kvs=>kvs.length≤sizeLine/\(a == sysModules)=false/\∃vs,KV kvs vs/\h.DictOf (y7y P w) a vs
 | .dT kvs=>kvs.length≤sizeLine/\(a == sysModules)=false/\∃xs:List (List Key × Addr × Value),
   Paired (λ (p:List Key × V) (q:List Key × Addr × Value)=>p.1=q.1/\H q.2.1=some (.tup (p.1.map kV))/\RelV p.2 q.2.2) kvs xs /\
   ∃o es ep,h.get? a=some o/\o.ExactDict/\o.data=.dict es ep/\es.toList=xs.map (entryOfKey (tupleKind (y7y P w)))/\(xs.map (·.1)).Nodup
 | .set S n=>h.SetOf (intKind P w) a S n
 | .ins C dx fs=>H dx=some (.own a)/\fs.length≤1000/\dx≠a/\h.get? a=some (W.instObj C dx) /\
   ∃mA,h.Ns1 dx mA/\(∀f,v3u (fs.lookup f) (mA f))/\PySem.Within mA (fs.map (·.1))
 | .own _=>∃o,h.get? a=some o
 | .xd fs=>∃mA,h.Ns1 a mA/\∀f,v3u (fs.lookup f) (mA f)
 | .rng lo hi=>∃t u v,h.get? a=some { cls:=.type "range",data:=.fields #[.int lo t,.int hi u,.int 1 v] }
 | .frz o u=>h.get? a=some o/\ObjOk H h a u
 | .tbl ps=>h.get? a=some { cls:=.none,data:=.fields ps }
 | .met f x=>h.get? a=some (W.methodObj (.ref f) (.ref x))
 | .ext φ=>φ h/\(∃o,h.get? a=some o)/\∀h1 h2:Heap,φ h1->(∀o,h1.get? a=some o->h2.get? a=some o)->φ h2
def HOk (H:Hp) (h:Heap):Prop:=∀a o,H a=some o->ObjOk P w H h a o
end
section
variable {P:Program}{w:World}{H H':Hp}{h h':Heap}{a:Addr}{o:HO}
theorem ObjOk.lt (x:ObjOk P w H h a o):a < h.objs.size:=by
 cases o with
 | lst xs=>obtain ⟨_,_,_,_,e⟩:=x;exact t0y e
 | tup xs=>obtain ⟨_,_,_,p⟩:=x;exact p.lt
 | dK kvs=>obtain ⟨_,_,_,_,o,_,_,e,_⟩:=x;exact t0y e
 | dT kvs=>obtain ⟨_,_,_,_,o,_,_,e,_⟩:=x;exact t0y e
 | set S n=>obtain ⟨o,_,_,_,e,_⟩:=x;exact t0y e
 | ins C dx fs=>obtain ⟨_,_,_,e,_⟩:=x;exact t0y e
 | own y=>obtain ⟨_,e⟩:=x;exact t0y e
 | xd fs=>obtain ⟨_,⟨_,_,_,e,_⟩,_⟩:=x;exact t0y e
 | rng lo hi=>obtain ⟨_,_,_,e⟩:=x;exact t0y e
 | frz ob u=>obtain ⟨e,_⟩:=x;exact t0y e
 | tbl ps=>exact t0y (show h.get? a=some _ from x)
 | met f y=>exact t0y (show h.get? a=some _ from x)
 | ext φ=>obtain ⟨_,⟨_,e⟩,_⟩:=x;exact t0y e
theorem Paired.mapP {α β:Type}{F G:α->β->Prop}:∀ {l₁:List α}{l₂:List β},Paired F l₁ l₂->(∀a b,F a b->G a b)->Paired G l₁ l₂
 | _,_,.nil,_=>.nil
 | _,_,.cons r t,f=>.cons (f _ _ r) (Paired.mapP t f)
theorem ObjOk.stay (x:ObjOk P w H h a o) (k:∀b u,(b=a\/H b=some (.own a))->h.get? b=some u->h'.get? b=some u)
  (ho:∀b,H b=some (.own a)->H' b=some (.own a)) (ht:∀b xs,H b=some (.tup xs)->H' b=some (.tup xs)):ObjOk P w H' h' a o:=by
 induction o with
 | lst xs=>obtain ⟨z,its,n,r,e⟩:=x;exact ⟨z,its,n,r,k _ _ (.inl rfl) e⟩
 | tup xs=>obtain ⟨z,its,r,ob,e,c⟩:=x;exact ⟨z,its,r,ob,k _ _ (.inl rfl) e,c⟩
 | dK kvs=>obtain ⟨z,y,vs,r,ob,es,ep,e,c⟩:=x;exact ⟨z,y,vs,r,ob,es,ep,k _ _ (.inl rfl) e,c⟩
 | dT kvs =>
  obtain ⟨z,y,xs,r,ob,es,ep,e,c⟩:=x;exact ⟨z,y,xs,Paired.mapP r λ p q z=>⟨z.1,ht _ _ z.2.1,z.2.2⟩,ob,es,ep,k _ _ (.inl rfl) e,c⟩
 | set S n=>obtain ⟨ob,es,ep,t,e,c⟩:=x;exact ⟨ob,es,ep,t,k _ _ (.inl rfl) e,c⟩
 | ins C dx fs =>
  obtain ⟨d,z,ne,e,mA,⟨od,es,ep,e2,c⟩,r⟩:=x;exact ⟨ho _ d,z,ne,k _ _ (.inl rfl) e,mA,⟨od,es,ep,k _ _ (.inr d) e2,c⟩,r⟩
 | own y=>obtain ⟨ob,e⟩:=x;exact ⟨ob,k _ _ (.inl rfl) e⟩
 | xd fs=>obtain ⟨mA,⟨od,es,ep,e,c⟩,r⟩:=x;exact ⟨mA,⟨od,es,ep,k _ _ (.inl rfl) e,c⟩,r⟩
 | rng lo hi=>obtain ⟨t,u,v,e⟩:=x;exact ⟨t,u,v,k _ _ (.inl rfl) e⟩
 | frz ob u ih=>obtain ⟨e,q⟩:=x;exact ⟨k _ _ (.inl rfl) e,ih q⟩
 | tbl ps =>
  have e:h.get? a=some { cls:=.none,data:=.fields ps }:=x;show h'.get? a=some { cls:=.none,data:=.fields ps };exact k a _ (.inl rfl) e
 | met f y =>
  have e:h.get? a=some (W.methodObj (.ref f) (.ref y)):=x;show h'.get? a=some (W.methodObj (.ref f) (.ref y));exact k a _ (.inl rfl) e
 | ext φ=>obtain ⟨p,⟨o,e⟩,st⟩:=x;exact ⟨st _ _ p λ o q=>k _ _ (.inl rfl) q,⟨o,k _ _ (.inl rfl) e⟩,st⟩
theorem HOk.lt (x:HOk P w H h) (e:H a=some o):a < h.objs.size:=(x a o e).lt
theorem HOk.fresh (x:HOk P w H h) (e:h.objs.size≤a):H a=none:=by
 cases q:H a with
 | none=>rfl
 | some u=>exact absurd (t1d (x.lt q) e) (t2s _)
theorem HOk.kept (x:HOk P w H h) (k:∀b u,h.get? b=some u->h'.get? b=some u):HOk P w H h':=λ a o e =>
 (x a o e).stay (λ b u _ q=>k b u q) (λ _ q=>q) λ _ _ q=>q
theorem HOk.laid (x:HOk P w H h) (k:∀b u,h.get? b=some u->h'.get? b=some u) (hp:h.objs.size≤a) (new:ObjOk P w (upd H a o) h' a o):HOk P w (upd H a o) h':=λ b u e=>by
 have hn:=x.fresh hp;by_cases hb:b=a
 ·subst hb;rw [z0d] at e;cases e;exact new
 ·rw [z0u hb] at e;exact (x b u e).stay (λ c v _ q=>k c v q) (λ c q=>by rw [z0u (z3j q hn)];exact q) λ c xs q=>by rw [z0u (z3j q hn)];exact q
end
def Rd (H:Hp) (a:Addr) (u:HO):Prop:=H a=some u\/∃o,H a=some (.frz o u)
theorem Rd.ok (r:Rd H a u) (x:HOk P w H h):ObjOk P w H h a u:=by
 rcases r with r | ⟨o,r⟩
 ·exact x a u r
 ·obtain ⟨_,q⟩:=x a _ r;exact q
noncomputable def Mut:Option HO->Prop
 | some (.lst _)=>True
 | some (.dK _)=>True
 | some (.dT _)=>True
 | some (.set _ _)=>True
 | some (.ins _ _ _)=>True
 | some (.ext _)=>True
 | _=>False
section
variable {P:Program}{w:World}{H:Hp}{h h':Heap}{x e:Addr}{o':HO}
theorem HOk.write (ok:HOk P w H h) (mu:Mut (H x)) (he:e=x\/H e=some (.own x)) (k:∀b u,b≠e->h.get? b=some u->h'.get? b=some u) (heo:∃u,h'.get? e=some u)
  (new:ObjOk P w (upd H x o') h' x o'):HOk P w (upd H x o') h':=λ b u q=>by
 have nown:∀c y,H c=some (.own y)->c≠x:=λ c y r z=>by subst z;rw [r] at mu;exact mu
 have ntup:∀c xs,H c=some (.tup xs)->c≠x:=λ c xs r z=>by subst z;rw [r] at mu;exact mu
 by_cases hb:b=x
 ·subst hb;rw [z0d] at q;cases q;exact new
 ·rw [z0u hb] at q;by_cases hbe:b=e
  ·have q':H b=some (.own x):=by
    rcases he with z | z
    ·exact absurd (hbe.trans z) hb
    ·rw [hbe];exact z
   rw [q] at q';cases q';obtain ⟨v,hv⟩:=heo;exact ⟨v,by rw [hbe];exact hv⟩
  ·refine (ok b u q).stay (λ c v hc r=>k c v ?_ r) (λ c r=>by rw [z0u (nown c b r)];exact r) λ c xs r=>by rw [z0u (ntup c xs r)];exact r
   rcases hc with rfl | hc
   ·exact hbe
   ·rintro rfl
    rcases he with z | z
    ·exact nown c b hc z
    ·rw [hc] at z;cases z;exact hb rfl
end
structure Un (fs ex:List Addr) (H H':Hp) (h h':Heap):Prop where
 keep:∀b o,h.get? b=some o->H b=none->b ∉ fs->b ∉ ex->h'.get? b=some o
 slot:∀b o,h.get? b=some o->H b=none->b∈fs->b ∉ ex->∃sl,h'.get? b=some { o with slots:=sl }
 free:∀b o,h.get? b=some o->H b=none->b ∉ ex->H' b=none
 there:∀b o,h.get? b=some o->b ∉ ex->∃o',h'.get? b=some o'
 tups:∀b xs,H b=some (.tup xs)->H' b=some (.tup xs)
 frzs:∀b o u,H b=some (.frz o u)->H' b=some (.frz o u)
 tbls:∀b ps,H b=some (.tbl ps)->∃more,H' b=some (.tbl (ps++more))
section
variable {fs fs' ex ex':List Addr}{H H1 H2:Hp}{h h1 h2 h':Heap}{a x e:Addr}{o:HO}
theorem Un.any (u:Un fs ex H H1 h h1) {b:Addr}(q:h.get? b=some ob) (n:H b=none) (hx:b ∉ ex):∃sl,h1.get? b=some { ob with slots:=sl }:=by
 by_cases hb:b∈fs
 ·exact u.slot b ob q n hb hx
 ·exact ⟨ob.slots,u.keep b ob q n hb hx⟩
theorem Un.trans (a:Un fs ex H H1 h h1) (b:Un fs ex H1 H2 h1 h2):Un fs ex H H2 h h2 where
 keep:=λ c ob q n hc hx=>b.keep c ob (a.keep c ob q n hc hx) (a.free c ob q n hx) hc hx
 slot:=λ c ob q n hc hx=>by
  obtain ⟨sl,e1⟩:=a.slot c ob q n hc hx;obtain ⟨sl',e2⟩:=b.slot c _ e1 (a.free c ob q n hx) hc hx;exact ⟨sl',e2⟩
 free:=λ c ob q n hx=>by
  obtain ⟨o',e1⟩:=a.there c ob q hx;exact b.free c o' e1 (a.free c ob q n hx) hx
 there:=λ c ob q hx=>by
  obtain ⟨o',e1⟩:=a.there c ob q hx;exact b.there c o' e1 hx
 tups:=λ c xs q=>b.tups c xs (a.tups c xs q)
 frzs:=λ c ob xs q=>b.frzs c ob xs (a.frzs c ob xs q)
 tbls:=λ c ps q=>by
  obtain ⟨m1,e1⟩:=a.tbls c ps q;obtain ⟨m2,e2⟩:=b.tbls c _ e1;exact ⟨m1++m2,by rw [e2,s0q]⟩
theorem Un.kept (k:∀b u,h.get? b=some u->h'.get? b=some u):Un fs ex H H h h' :=
 ⟨λ b ob q _ _ _=>k b ob q,λ b ob q _ _ _=>⟨ob.slots,k b ob q⟩,λ _ _ _ n _=>n,λ b ob q _=>⟨ob,k b ob q⟩,λ _ _ q=>q,λ _ _ _ q=>q,λ _ ps q=>⟨#[],by rw [q];simp⟩⟩
theorem Un.refl:Un fs ex H H h h:=Un.kept λ _ _ q=>q
theorem Un.laid (k:∀b u,h.get? b=some u->h'.get? b=some u) (hp:h.objs.size≤a) (hn:H a=none):Un fs ex H (upd H a o) h h' where
 keep:=λ b u q _ _ _=>k b u q
 slot:=λ b u q _ _ _=>⟨u.slots,k b u q⟩
 free:=λ b u q n _=>by rw [z0u (t1k (t1d (t0y q) hp))];exact n
 there:=λ b u q _=>⟨u,k b u q⟩
 tups:=λ b xs q=>by rw [z0u (z3j q hn)];exact q
 frzs:=λ b u xs q=>by rw [z0u (z3j q hn)];exact q
 tbls:=λ b ps q=>⟨#[],by rw [z0u (z3j q hn),q];simp⟩
theorem Un.write (mu:Mut (H x)) (he:e=x\/H e=some (.own x)) (k:∀b u,b≠e->h.get? b=some u->h'.get? b=some u) (heo:∃u,h'.get? e=some u):Un fs ex H (upd H x o) h h':=by
 have hx:∀b,H b=none->b≠x:=λ b n z=>by subst z;rw [n] at mu;exact mu
 have hb:∀b,H b=none->b≠e:=λ b n z=>by
  subst z
  rcases he with r | r
  ·exact hx b n r
  ·rw [n] at r;cases r
 have hm:∀b u,H b=some u->¬Mut (some u)->b≠x:=λ b u q nm z=>by subst z;rw [q] at mu;exact nm mu
 refine ⟨λ b u q n _ _=>k b u (hb b n) q,λ b u q n _ _=>⟨u.slots,k b u (hb b n) q⟩,λ b u q n _=>by rw [z0u (hx b n)];exact n,λ b u q _=>?_,
  λ b xs q=>by rw [z0u (hm b _ q λ z=>z)];exact q,λ b u xs q=>by rw [z0u (hm b _ q λ z=>z)];exact q,λ b ps q=>⟨#[],by rw [z0u (hm b _ q λ z=>z),q];simp⟩⟩
 by_cases hbe:b=e
 ·subst hbe;exact heo
 ·exact ⟨u,k b u hbe q⟩
end
def trk (h:Heap) (H:Hp):List Addr:=(List.range h.objs.size).filter λ a=>(H a).isSome
def x6t (h:Heap) (H:Hp):Heap:=W.hideAll h (trk h H)
theorem x6s (h:Heap) (H:Hp):(x6t h H).objs.size=h.objs.size:=W.hideAll_size _ _
theorem w0t {h:Heap}{H:Hp}{b:Addr}(e:h.get? b=some o) (n:H b=none):(x6t h H).get? b=some o :=
 W.hideAll_get _ e λ hm=>by
  have q:(H b).isSome=true:=(List.mem_filter.mp hm).2;rw [n] at q;simp at q
theorem x5s {b:Addr}(e:(x6t h H).get? b=some o):h.get? b=some o/\H b=none:=by
 have e':h.get? b=some o:=W.of_hideAll (trk h H) e;refine ⟨e',?_⟩
 cases q:H b with
 | none=>rfl
 | some x =>
  have hm:b∈trk h H:=List.mem_filter.mpr ⟨t6v.mpr (t0y e'),by simp [q]⟩;have z:(x6t h H).get? b=none:=W.hideAll_none (trk h H) hm;rw [z] at e;cases e
noncomputable def w5y (g h:Heap) (L:Addr):LO:=(List.range h.objs.size).filterMap λ a=>if a=L\/(g.get? a).isSome=true then none else (h.get? a).map λ o=>(a,o)
def rest (g h:Heap) (L d:Addr):LO:=(w5y g h L).filter λ p=>decide (p.1≠d)
structure Mod (K:FG) (mg:SV) (base:Heap):Prop where
 kin:K.In base
 glob:base.Ns mainGlobals mg
 blt:∃mb,base.Ns builtinsNs mb/\∀x:Str,x ≠ "__name__" -> mb x=bootBuiltins x
 nolimit:base.NoLimit
structure Cx where
 prog:Program
 w:World
 K:FG
 mg:SV
 base:Heap
 A:Around
 N:List Str
 s₀:Shared
 H₀:Hp
 env:Env
 outer:List Env
 stack:List Env
 ex:List Addr
 fn:Str->Bool
 calm:Bool
 pn:LO
 xe:VS
def frs (l:List Env):List Addr:=l.filterMap (·.frame)
abbrev Cx.fs (X:Cx):List Addr:=frs X.outer
noncomputable def Vis (sc:Scope) (x:Str):Prop:=sc.names.lookup x=some .local\/sc.names.lookup x=some .cell\/sc.names.lookup x=some .free
def Loc (sc:Scope) (x:Str):Prop:=sc.names.lookup x=some .local\/sc.names.lookup x=some .cell
noncomputable def v7j (env:Env) (h:Heap) (m:SV) (x:Str) (u:Value):Prop :=
 (env.kindOf x=some .local/\m x=some u)\/((env.kindOf x=some .cell\/env.kindOf x=some .free)/\∃c,env.cells.lookup x=some c/\h.IsCell c (some u))
structure Cx.Ok (X:Cx):Prop where
 mod:Mod X.K X.mg X.base
 kind:X.env.scope.kind=.function
 glob:X.env.globals=mainGlobals
 blt:X.env.builtins=builtinsNs
 above:X.s₀.heap.objs.size≤X.env.locals
 inj:∀x y c,X.env.cells.lookup x=some c->X.env.cells.lookup y=some c->x=y
 has:∀x,(X.env.kindOf x=some .cell\/X.env.kindOf x=some .free)->∃c,X.env.cells.lookup x=some c
 cab:∀x c,X.fn x=true->X.env.cells.lookup x=some c->X.s₀.heap.objs.size≤c
 hd:X.calm=true->X.A.handled=none
 frames:X.A.frames=some X.stack
 stk:X.stack=X.outer\/(X.stack=X.env::X.outer/\X.env.frame=some X.env.locals)
 exf:∀b∈X.ex,b≠X.env.locals/\∀x c,X.env.cells.lookup x=some c->c≠b
 bs:∀b o,X.base.get? b=some o->X.s₀.heap.get? b=some o/\X.H₀ b=none
 bsz:X.base.objs.size≤X.s₀.heap.objs.size
 noex:∀b o,X.base.get? b=some o->b ∉ X.ex
 exfs:∀b∈X.ex,b ∉ X.fs
 funs:X.s₀.heap.FunFrames X.base X.outer
 frf:∀b∈X.fs,X.H₀ b=none
structure Inv (X:Cx) (pins:LO) (σ:List (Option V)) (H:Hp) (s:Shared):Prop where
 ok:X.Ok
 os:s.os=X.s₀.os
 bare:AllBare s.gens
 base:Un X.fs X.ex X.H₀ H X.s₀.heap s.heap
 loc:∃m,s.heap.Ns X.env.locals m/\∀(i:Nat) (x:Str) (v:V),X.N[i]?=some x->σ[i]?=some (some v)->Vis X.env.scope x->∃u,RelV v u/\v7j X.env s.heap m x u
 cell:∀x c,X.env.cells.lookup x=some c->∃v,s.heap.IsCell c v
 free:H X.env.locals=none
 freeC:∀x c,X.env.cells.lookup x=some c->H c=none
 pin:∀p∈X.pn++pins,s.heap.get? p.1=some p.2/\H p.1=none/\p.1≠X.env.locals/\p.1 ∉ X.fs/\∀v,p.2.data≠.cell v
 hok:HOk X.prog X.w H s.heap
 len:σ.length=X.N.length
section
variable {X:Cx}{pins:LO}{σ:List (Option V)}{H H':Hp}{s:Shared}{h':Heap}
theorem Cx.Ok.nofr (ok:X.Ok) {b:Addr}(e:X.base.get? b=some o):b ∉ X.fs:=λ hb=>by
 have:=(ok.funs.mem hb).1;rw [e] at this;cases this
theorem Inv.bs (I:Inv X pins σ H s):∀b o,X.base.get? b=some o->s.heap.get? b=some o/\H b=none:=λ b o e =>
 ⟨I.base.keep b o (I.ok.bs b o e).1 (I.ok.bs b o e).2 (I.ok.nofr e) (I.ok.noex b o e),I.base.free b o (I.ok.bs b o e).1 (I.ok.bs b o e).2 (I.ok.noex b o e)⟩
theorem Inv.bk (I:Inv X pins σ H s):∀b o,X.base.get? b=some o->s.heap.get? b=some o:=λ b o e=>(I.bs b o e).1
theorem Inv.mod (I:Inv X pins σ H s):Mod X.K X.mg X.base:=I.ok.mod
theorem Inv.kIn (I:Inv X pins σ H s):X.K.In s.heap:=I.ok.mod.kin.keeps I.bk
theorem Inv.lt (I:Inv X pins σ H s):X.env.locals < s.heap.objs.size:=let ⟨_,hn,_⟩:=I.loc;hn.lt
theorem Inv.sz (I:Inv X pins σ H s):X.s₀.heap.objs.size≤s.heap.objs.size:=t2u I.ok.above (t3h I.lt)
theorem Inv.nofs (I:Inv X pins σ H s) {a:Addr}(h:s.heap.objs.size≤a):a ∉ X.fs:=λ hb=>by
 obtain ⟨_,o,ho,_⟩:=I.ok.funs.mem hb;exact absurd (t1d (t0y ho) (t2u I.sz h)) (t2s _)
theorem Inv.cne (I:Inv X pins σ H s):∀x c,X.env.cells.lookup x=some c->c≠X.env.locals:=λ x c e z=>by
 obtain ⟨v,o,ho,hd⟩:=I.cell x c e;obtain ⟨m,⟨o',es,ep,ho',hd',_⟩,_⟩:=I.loc;rw [z,ho'] at ho;cases ho;rw [hd'] at hd;cases hd
theorem Inv.funs (I:Inv X pins σ H s):s.heap.FunFrames X.base X.outer:=by
 have all:∀(l:List Env),(∀b∈frs l,b∈X.fs)->X.s₀.heap.FunFrames X.base l->s.heap.FunFrames X.base l:=by
  intro l
  induction l with
  | nil=>intro _ _;trivial
  | cons env r ih =>
   intro hs hl;obtain ⟨hk,⟨L,o,hf,hn,ho,hd⟩,hr⟩:=hl;have hL:L∈X.fs:=hs L (by unfold frs;rw [t7r,hf];exact t0t);obtain ⟨sl,e⟩:=I.base.slot L o ho (I.ok.frf L hL) hL λ z=>I.ok.exfs L z hL;exact ⟨hk,⟨L,_,hf,hn,e,hd⟩,ih (λ b hb=>hs b (by unfold frs;rw [t7r,hf];exact t0d _ hb)) hr⟩
 exact all X.outer (λ _ hb=>hb) I.ok.funs
theorem Inv.stack (I:Inv X pins σ H s):s.heap.FunFrames X.base X.stack:=by
 rcases I.ok.stk with e | ⟨e,hf⟩
 ·rw [e];exact I.funs
 ·rw [e];obtain ⟨m,hn,_⟩:=I.loc;refine .cons (by rw [I.ok.kind];decide) hf hn ?_ I.funs;exact Heap.get?_none_of_le (t2u I.ok.bsz I.ok.above)
theorem Inv.stkSub (I:Inv X pins σ H s):∀b∈frs X.stack,b∈X.env.locals::X.fs:=λ b hb=>by
 rcases I.ok.stk with e | ⟨e,hf⟩
 ·rw [e] at hb;exact t0d _ hb
 ·rw [e] at hb;unfold frs at hb;rw [t7r,hf] at hb;exact hb
theorem Inv.stkFree (I:Inv X pins σ H s):∀b∈frs X.stack,H b=none:=λ b hb=>by
 rcases t1a.mp (I.stkSub b hb) with e | hb
 ·rw [e];exact I.free
 ·obtain ⟨_,o,ho,_⟩:=I.ok.funs.mem hb;exact I.base.free b o ho (I.ok.frf b hb) λ z=>I.ok.exfs b z hb
theorem Inv.step {t':Nat}{d':Drawn}{ch:List Addr}(I:Inv X pins σ H s)
  (hch:∀b∈ch,(b∈X.ex\/X.s₀.heap.objs.size≤b)/\b≠X.env.locals/\(∀x c,X.env.cells.lookup x=some c->c≠b)/\∀p∈X.pn++pins,p.1≠b)
  (keep:∀b o,b≠X.env.locals->b ∉ X.fs->b ∉ ch->s.heap.get? b=some o->H b=none->h'.get? b=some o)
  (slot:∀b o,b≠X.env.locals->b∈X.fs->b ∉ ch->s.heap.get? b=some o->H b=none->∃sl,h'.get? b=some { o with slots:=sl }) (free:∀b o,b ∉ ch->s.heap.get? b=some o->H b=none->H' b=none)
  (there:∀b o,b ∉ ch->s.heap.get? b=some o->∃o',h'.get? b=some o')
  (tups:∀b xs,H b=some (.tup xs)->H' b=some (.tup xs)) (frzs:∀b o u,H b=some (.frz o u)->H' b=some (.frz o u)) (tbls:∀b ps,H b=some (.tbl ps)->∃more,H' b=some (.tbl (ps++more)))
  (ns:∀m,s.heap.Ns X.env.locals m->h'.Ns X.env.locals m) (hok:HOk X.prog X.w H' h') (hg:AllBare g') :
  Inv X pins σ H' { s with heap:=h',gens:=g',drawn:=d',toks:=t' }:=by
 have neL:∀b o,X.s₀.heap.get? b=some o->b≠X.env.locals:=λ b o e=>t1k (t1d (t0y e) I.ok.above)
 have neC:∀b o,X.s₀.heap.get? b=some o->b ∉ X.ex->b ∉ ch:=λ b o e hx hb=>by
  rcases (hch b hb).1 with z | z
  ·exact hx z
  ·exact absurd (t1d (t0y e) z) (t2s _)
 have cellK:∀x c,X.env.cells.lookup x=some c->∀v,s.heap.IsCell c v->h'.IsCell c v:=λ x c e v ⟨o,ho,hd⟩=>by
  have nch:c ∉ ch:=λ z=>(hch c z).2.2.1 x c e rfl;by_cases hc:c∈X.fs
  ·obtain ⟨sl,q⟩:=slot c o (I.cne x c e) hc nch ho (I.freeC x c e);exact ⟨_,q,hd⟩
  ·exact ⟨o,keep c o (I.cne x c e) hc nch ho (I.freeC x c e),hd⟩
 refine ⟨I.ok,I.os,hg,⟨λ b o e n hb hx=>?_,λ b o e n hb hx=>?_,λ b o e n hx=>?_,λ b o e hx=>?_,λ b xs e=>tups b xs (I.base.tups b xs e),λ b o xs e=>frzs b o xs (I.base.frzs b o xs e),λ b ps e=>?_⟩,?_,λ x c e=>?_,?_,λ x c e=>?_,λ p hp=>?_,hok,I.len⟩
 ·exact keep b o (neL b o e) hb (neC b o e hx) (I.base.keep b o e n hb hx) (I.base.free b o e n hx)
 ·obtain ⟨sl,e1⟩:=I.base.slot b o e n hb hx;obtain ⟨sl',e2⟩:=slot b _ (neL b o e) hb (neC b o e hx) e1 (I.base.free b o e n hx);exact ⟨sl',e2⟩
 ·obtain ⟨o',e1⟩:=I.base.there b o e hx;exact free b o' (neC b o e hx) e1 (I.base.free b o e n hx)
 ·obtain ⟨o',e1⟩:=I.base.there b o e hx;exact there b o' (neC b o e hx) e1
 ·obtain ⟨m1,e1⟩:=I.base.tbls b ps e;obtain ⟨m2,e2⟩:=tbls b _ e1;exact ⟨m1++m2,by rw [e2,s0q]⟩
 ·obtain ⟨m,hn,hl⟩:=I.loc;refine ⟨m,ns m hn,λ i x v e1 e2 e3=>?_⟩;obtain ⟨u,r,l⟩:=hl i x v e1 e2 e3;refine ⟨u,r,?_⟩
  rcases l with l | ⟨k,c,e,z⟩
  ·exact .inl l
  ·exact .inr ⟨k,c,e,cellK x c e _ z⟩
 ·obtain ⟨v,z⟩:=I.cell x c e;exact ⟨v,cellK x c e v z⟩
 ·obtain ⟨m,⟨o,_,_,ho,_⟩,_⟩:=I.loc;exact free _ o (λ z=>(hch _ z).2.1 rfl) ho I.free
 ·obtain ⟨v,o,ho,hd⟩:=I.cell x c e;exact free c o (λ z=>(hch c z).2.2.1 x c e rfl) ho (I.freeC x c e)
 ·obtain ⟨e,n,ne,nf,d⟩:=I.pin p hp;have nch:p.1 ∉ ch:=λ z=>(hch p.1 z).2.2.2 p hp rfl;exact ⟨keep p.1 p.2 ne nf nch e n,free p.1 p.2 nch e n,ne,nf,d⟩
theorem Inv.un {t':Nat}(I:Inv X pins σ H s) (u:Un X.fs [] H H' s.heap h') (hok:HOk X.prog X.w H' h'):Inv X pins σ H' { s with heap:=h',toks:=t' }:=by
 obtain ⟨m,⟨o,es,ep,ho,r⟩,_⟩:=id I.loc;obtain ⟨sl,hL⟩:=u.any ho I.free (by simp)
 exact I.step (g':=s.gens) (d':=s.drawn) (ch:=[]) (λ _ z=>nomatch z) (λ b o _ hb _ e n=>u.keep b o e n hb (by simp)) (λ b o _ hb _ e n=>u.slot b o e n hb (by simp)) (λ b o _ e n=>u.free b o e n (by simp)) (λ b o _ e=>u.there b o e (by simp)) u.tups u.frzs u.tbls (λ m' hm=>by
  obtain ⟨o',es',ep',ho',r'⟩:=hm;rw [ho] at ho';cases ho'
  exact ⟨_,es',ep',hL,r'⟩) hok I.bare
theorem Inv.call {t':Nat}{d':Drawn}(I:Inv X pins σ H s) (u:Un (frs X.stack) ch H H' s.heap h') (hok:HOk X.prog X.w H' h') (hg:AllBare g')
  (hch:∀b∈ch,(b∈X.ex\/X.s₀.heap.objs.size≤b)/\b≠X.env.locals/\(∀x c,X.env.cells.lookup x=some c->c≠b)/\∀p∈X.pn++pins,p.1≠b) :
  Inv X pins σ H' { s with heap:=h',gens:=g',drawn:=d',toks:=t' }:=by
 obtain ⟨m,⟨o,es,ep,ho,r⟩,_⟩:=id I.loc;obtain ⟨sl,hL⟩:=u.any ho I.free λ z=>(hch _ z).2.1 rfl
 exact I.step (ch:=ch) hch (λ b o hL hb hc e n=>u.keep b o e n (λ z=>(t1a.mp (I.stkSub b z)).elim hL hb) hc) (λ b o _ _ hc e n=>u.any e n hc) (λ b o hc e n=>u.free b o e n hc) (λ b o hc e=>u.there b o e hc) u.tups u.frzs u.tbls (λ m' hm=>by
  obtain ⟨o',es',ep',ho',r'⟩:=hm;rw [ho] at ho';cases ho'
  exact ⟨_,es',ep',hL,r'⟩) hok hg
theorem Inv.turned {t':Nat}{it:Addr}(I:Inv X pins σ H s) (k:∀b o,b≠it->s.heap.get? b=some o->h'.get? b=some o) (hn:H it=none) (hL:it≠X.env.locals)
  (h1:it∈X.ex\/X.s₀.heap.objs.size≤it) (h2:∀x c,X.env.cells.lookup x=some c->c≠it) (h3:∀p∈X.pn++pins,p.1≠it):Inv X pins σ H { s with heap:=h',toks:=t' }:=by
 have nit:∀b u,H b=some u->b≠it:=λ b u e z=>by rw [z,hn] at e;cases e
 refine I.step (g':=s.gens) (d':=s.drawn) (ch:=[it]) (λ b hb=>?_) (λ b o _ _ hc e _=>k b o (λ z=>hc (by simp [z])) e) (λ b o _ _ hc e _=>⟨o.slots,k b o (λ z=>hc (by simp [z])) e⟩) (λ _ _ _ _ n=>n)
  (λ b o hc e=>⟨o,k b o (λ z=>hc (by simp [z])) e⟩) (λ _ _ e=>e) (λ _ _ _ e=>e) (λ b ps e=>⟨#[],by rw [e];simp⟩) (λ m hm=>?_) (λ b u e=>?_) I.bare
 ·have e:b=it:=by simpa using hb
  subst e;exact ⟨h1,hL,h2,h3⟩
 ·obtain ⟨o,es,ep,ho,r⟩:=hm;exact ⟨o,es,ep,k _ o (t3z hL) ho,r⟩
 ·refine (I.hok b u e).stay (λ c v hc q=>k c v ?_ q) (λ _ q=>q) λ _ _ q=>q
  rcases hc with z | z
  ·rw [z];exact nit b u e
  ·exact nit c _ z
theorem Inv.tok (I:Inv X pins σ H s) (t:Nat):Inv X pins σ H { s with toks:=t }:=I.un (h':=s.heap) (t':=t) Un.refl I.hok
theorem Inv.kept {t':Nat}(I:Inv X pins σ H s) (k:∀b u,s.heap.get? b=some u->h'.get? b=some u):Inv X pins σ H { s with heap:=h',toks:=t' }:=I.un (Un.kept k) (I.hok.kept k)
theorem Inv.laid {a:Addr}{t':Nat}(I:Inv X pins σ H s) (k:∀b u,s.heap.get? b=some u->h'.get? b=some u) (hp:s.heap.objs.size≤a) (new:ObjOk X.prog X.w (upd H a o) h' a o) :
  Inv X pins σ (upd H a o) { s with heap:=h',toks:=t' }:=I.un (Un.laid k hp (I.hok.fresh hp)) (I.hok.laid k hp new)
theorem Inv.write {x e:Addr}{t':Nat}(I:Inv X pins σ H s) (mu:Mut (H x)) (he:e=x\/H e=some (.own x)) (k:∀b u,b≠e->s.heap.get? b=some u->h'.get? b=some u) (heo:∃u,h'.get? e=some u)
  (new:ObjOk X.prog X.w (upd H x o) h' x o):Inv X pins σ (upd H x o) { s with heap:=h',toks:=t' }:=I.un (Un.write mu he k heo) (I.hok.write mu he k heo new)
theorem Inv.pins_of {pins':LO}(I:Inv X pins σ H s) (h:∀p∈pins',s.heap.get? p.1=some p.2/\H p.1=none/\p.1≠X.env.locals/\p.1 ∉ X.fs/\∀v,p.2.data≠.cell v):Inv X pins' σ H s :=
 ⟨I.ok,I.os,I.bare,I.base,I.loc,I.cell,I.free,I.freeC,λ p hp=>(t1n.mp hp).elim (λ z=>I.pin p (t3y _ z)) (h p),I.hok,I.len⟩
theorem x0b {N:List Str}(hN:N.Nodup) {i j:Nat}(a:N[i]?=some x) (b:N[j]?=some x):i=j:=by
 obtain ⟨h1,e1⟩:=t0g.mp a;obtain ⟨h2,e2⟩:=t0g.mp b;exact (List.getElem_inj hN).mp (e1.trans e2.symm)
theorem y0p {i:Nat}{Q:Unit->Shared->Prop}(I:Inv X pins σ H s) (hN:X.N.Nodup) (hi:X.N[i]?=some x) (hx:Loc X.env.scope x) (r:RelV v u)
  (h:∀s',Inv X pins (σ.set i (some v)) H s'->(∃a,Heap.SameBut a s.heap s'.heap/\(a=X.env.locals\/X.env.cells.lookup x=some a))->Q () s') (hf:X.fn x=true\/X.env.scope.names.lookup x=some .local:=by first | exact .inl rfl | exact .inr rfl | assumption):wpAny M A (storeName X.env x u) Q E s:=by
 obtain ⟨m,hn,hl⟩:=id I.loc;have hcls:(X.env.scope.kind == .class || (X.env.scope.kind == .module && X.env.locals != X.env.globals))=false:=by rw [I.ok.kind];rfl
 have hiσ:i < σ.length:=by rw [I.len];exact (t0g.mp hi).1
 have cne:=I.cne
 have tracked:∀ {a:Addr}{h':Heap},(∃o,s.heap.get? a=some o/\H a=none)->Heap.SameBut a s.heap h'->HOk X.prog X.w H h':=λ {a h'} ha hs b ob e=>by
  obtain ⟨_,_,hfree⟩:=ha;refine (I.hok b ob e).stay (λ c w' hc q=>(hs.2 c ?_).trans q) (λ _ q=>q) λ _ _ q=>q;rintro rfl
  rcases hc with rfl | hc
  ·rw [hfree] at e;cases e
  ·rw [hfree] at hc;cases hc
 rcases hx with hk | hk
 ·refine t9c hk hn (λ h' hn' hs=>?_) hcls;obtain ⟨oL,_,_,hoL,_⟩:=id hn;refine h _ ⟨I.ok,I.os,I.bare,⟨λ b o e n hb hx=>?_,λ b o e n hb hx=>?_,I.base.free,λ b o e hx=>?_,I.base.tups,I.base.frzs,I.base.tbls⟩,⟨_,hn',λ j y v' e1 e2 e3=>?_⟩,λ y c e=>?_,I.free,I.freeC,λ p hp=>?_,tracked ⟨oL,hoL,I.free⟩ hs,by simpa using I.len⟩ ⟨_,hs,.inl rfl⟩
  ·exact (hs.2 b (t1k (t1d (t0y e) I.ok.above))).trans (I.base.keep b o e n hb hx)
  ·obtain ⟨sl,e1⟩:=I.base.slot b o e n hb hx;exact ⟨sl,(hs.2 b (t1k (t1d (t0y e) I.ok.above))).trans e1⟩
  ·obtain ⟨o',e1⟩:=I.base.there b o e hx;exact ⟨o',(hs.2 b (t1k (t1d (t0y e) I.ok.above))).trans e1⟩
  ·by_cases hj:j=i
   ·subst hj;rw [hi] at e1;cases e1;rw [t3m hiσ] at e2;cases e2;exact ⟨u,r,.inl ⟨hk,by simp⟩⟩
   ·rw [t4p (t3z hj)] at e2;obtain ⟨u',r',q⟩:=hl j y v' e1 e2 e3;refine ⟨u',r',?_⟩
    rcases q with ⟨k,e⟩ | ⟨k,c,e,z⟩
    ·refine .inl ⟨k,?_⟩;have:y≠x:=λ e=>hj (x0b hN e1 (e ▸ hi));simp [this,e]
    ·exact .inr ⟨k,c,e,z.sameBut hs (cne y c e)⟩
  ·obtain ⟨w',z⟩:=I.cell y c e;exact ⟨w',z.sameBut hs (cne y c e)⟩
  ·obtain ⟨e,n,ne,nf,d⟩:=I.pin p hp;exact ⟨(hs.2 p.1 ne).trans e,n,ne,nf,d⟩
 ·have hfn:X.fn x=true:=by
   rcases hf with z | z
   ·exact z
   ·rw [z] at hk;cases hk
  obtain ⟨c,hc⟩:=I.ok.has x (.inl hk);obtain ⟨w',z⟩:=I.cell x c hc;refine t9s I.ok.kind hk hc z (λ h' hc' hs=>?_);obtain ⟨oc,hoc,hocd⟩:=id z;refine h { s with heap:=h' } ⟨I.ok,I.os,I.bare,⟨λ b o e n hb hx=>?_,λ b o e n hb hx=>?_,I.base.free,λ b o e hx=>?_,I.base.tups,I.base.frzs,I.base.tbls⟩,⟨m,hn.sameBut hs (t3z (cne x c hc)),λ j y v' e1 e2 e3=>?_⟩,λ y c' e=>?_,I.free,I.freeC,λ p hp=>?_,tracked ⟨oc,hoc,I.freeC x c hc⟩ hs,by simpa using I.len⟩ ⟨c,hs,.inr hc⟩
  ·exact (hs.2 b (t1k (t1d (t0y e) (I.ok.cab x c hfn hc)))).trans (I.base.keep b o e n hb hx)
  ·obtain ⟨sl,e1⟩:=I.base.slot b o e n hb hx;exact ⟨sl,(hs.2 b (t1k (t1d (t0y e) (I.ok.cab x c hfn hc)))).trans e1⟩
  ·obtain ⟨o',e1⟩:=I.base.there b o e hx;exact ⟨o',(hs.2 b (t1k (t1d (t0y e) (I.ok.cab x c hfn hc)))).trans e1⟩
  ·by_cases hj:j=i
   ·subst hj;rw [hi] at e1;cases e1;rw [t3m hiσ] at e2;cases e2;exact ⟨u,r,.inr ⟨.inl hk,c,hc,hc'⟩⟩
   ·rw [t4p (t3z hj)] at e2;obtain ⟨u',r',q⟩:=hl j y v' e1 e2 e3;refine ⟨u',r',?_⟩
    rcases q with q | ⟨k,c',e,z'⟩
    ·exact .inl q
    ·refine .inr ⟨k,c',e,z'.sameBut hs ?_⟩;rintro rfl;exact hj (x0b hN e1 (I.ok.inj _ _ _ e hc ▸ hi))
  ·by_cases hcc:c'=c
   ·subst hcc;exact ⟨_,hc'⟩
   ·obtain ⟨w2,z2⟩:=I.cell y c' e;exact ⟨w2,z2.sameBut hs hcc⟩
  ·obtain ⟨e,n,ne,nf,d⟩:=I.pin p hp;refine ⟨(hs.2 p.1 ?_).trans e,n,ne,nf,d⟩;intro q;rw [q,hoc] at e;have q':oc=p.2:=t1i e;exact d w' (by rw [← q'];exact hocd)
theorem y3m {i:Nat}{Q:Unit->Shared->Prop}(I:Inv X pins σ H s) (hN:X.N.Nodup) (hi:X.N[i]?=some x) (hx:Loc X.env.scope x) (r:RelV v u)
  (h:∀s',Inv X pins (σ.set i (some v)) H s'->Q () s') (hf:X.fn x=true\/X.env.scope.names.lookup x=some .local:=by first | exact .inl rfl | exact .inr rfl | assumption):wpAny M A (storeName X.env x u) Q E s :=
 y0p I hN hi hx r (λ s' I' _=>h s' I') hf
theorem Inv.call' {s':Shared}(I:Inv X pins σ H s) (ho:s'.os=s.os) (u:Un (frs X.stack) ch H H' s.heap s'.heap) (hok:HOk X.prog X.w H' s'.heap) (hg:AllBare s'.gens)
  (hch:∀b∈ch,(b∈X.ex\/X.s₀.heap.objs.size≤b)/\b≠X.env.locals/\(∀x c,X.env.cells.lookup x=some c->c≠b)/\∀p∈X.pn++pins,p.1≠b):Inv X pins σ H' s':=by
 obtain ⟨h',g',d',t',o'⟩:=s';have e:o'=s.os:=ho;subst e;exact I.call (g':=g') (t':=t') (d':=d') u hok hg hch
end
abbrev XK:=Value->OA->Hp->Prop
abbrev St:=List (Option V)
abbrev VK:=V->Hp->Prop
abbrev TE:=St->Hp->VK->Prop
abbrev TT:=St->Hp->(Bool->Hp->Prop)->Prop
abbrev TA:=St->Hp->(List V->Hp->Prop)->Prop
structure Ends where
 nx:St->Hp->Prop
 rt:VK
 bk:St->Hp->Prop:=λ _ _=>False
 ct:St->Hp->Prop:=λ _ _=>False
abbrev TS:=Ends->St->Hp->Prop
def EP (X:Cx) (pins:LO) (σ:St) (Q:VK) (u:Value) (s':Shared):Prop:=∃v H',Inv X pins σ H' s'/\RelV v u/\Q v H'
def TP (X:Cx) (pins:LO) (σ:St) (Q:Bool->Hp->Prop) (b:Bool) (s':Shared):Prop:=∃H',Inv X pins σ H' s'/\Q b H'
noncomputable def AP (X:Cx) (pins:LO) (σ:St) (Q:List V->Hp->Prop) (us:LV) (s':Shared):Prop:=∃vs H',Inv X pins σ H' s'/\Vals vs us/\Q vs H'
noncomputable def SP (X:Cx) (pins:LO) (D:Ends) (f:Flow) (s':Shared):Prop :=
 match f with
 | .next=>∃σ' H',Inv X pins σ' H' s'/\D.nx σ' H'
 | .brk=>∃σ' H',Inv X pins σ' H' s'/\D.bk σ' H'
 | .cont=>∃σ' H',Inv X pins σ' H' s'/\D.ct σ' H'
 | .ret u=>∃v σ' H',Inv X pins σ' H' s'/\RelV v u/\D.rt v H'
noncomputable def PE (X:Cx) (e:Expr) (t:TE):Prop :=
 ∀(pins:LO) (s:Shared) (σ:St) (H:Hp) (Q:VK),Inv X pins σ H s->t σ H Q->wpAny (model X.prog X.w) X.A (eval e X.env) (EP X pins σ Q) X.xe s
noncomputable def PT (X:Cx) (e:Expr) (t:TT):Prop :=
 ∀(pins:LO) (s:Shared) (σ:St) (H:Hp) (Q:Bool->Hp->Prop),Inv X pins σ H s->t σ H Q->wpAny (model X.prog X.w) X.A (isTrue e X.env (eval e X.env)) (TP X pins σ Q) X.xe s
noncomputable def PW (X:Cx) (e:Expr) (t:TT):Prop :=
 ∀(whole:Sem Value) (pins:LO) (s:Shared) (σ:St) (H:Hp) (Q:Bool->Hp->Prop),Inv X pins σ H s->t σ H Q->wpAny (model X.prog X.w) X.A (isTrue e X.env whole) (TP X pins σ Q) X.xe s
theorem PW.pt (h:PW X e t):PT X e t:=h _
noncomputable def PA (X:Cx) (es:List Expr) (t:TA):Prop :=
 ∀(pos:Pos) (pins:LO) (s:Shared) (σ:St) (H:Hp) (Q:List V->Hp->Prop),Inv X pins σ H s->t σ H Q->wpAny (model X.prog X.w) X.A (spliced (backTo pos (starEach es X.env))) (AP X pins σ Q) X.xe s
noncomputable def PS (X:Cx) (st:Stmt) (t:TS):Prop :=
 ∀(pins:LO) (s:Shared) (σ:St) (H:Hp) (D:Ends),Inv X pins σ H s->t D σ H->wpAny (model X.prog X.w) X.A (exec st X.env) (SP X pins D) X.xe s
noncomputable def PSs (X:Cx) (st:List Stmt) (t:TS):Prop :=
 ∀(pins:LO) (s:Shared) (σ:St) (H:Hp) (D:Ends),Inv X pins σ H s->t D σ H->wpAny (model X.prog X.w) X.A (execs st X.env) (SP X pins D) X.xe s
theorem thn {α:Type}{t:Sem α}{Q Q':α->Shared->Prop}(h:wpAny M A t Q E s) (hQ:∀a s,Q a s->Q' a s):wpAny M A t Q' E s:=t2z h hQ λ _ _ x=>x
section
variable {X:Cx}
def isB (x:V) (P:Bool->Prop):Prop:=match x with | .bl k=>P k | _=>False
def isI (x:V) (P:Int->Prop):Prop:=match x with | .int k=>P k | _=>False
def v0i (x y:V) (P:Int->Int->Prop):Prop:=match x,y with | .int i,.int j=>P i j | _,_=>False
def w6h (x y:V) (P:Addr->Int->Prop):Prop:=match x,y with | .ref i,.int j=>P i j | _,_=>False
theorem z7l (h:isB x P):∃k,x=.bl k/\P k:=by cases x<;>first | exact ⟨_,rfl,h⟩ | exact h.elim
theorem y8c (h:isI x P):∃k,x=.int k/\P k:=by cases x<;>first | exact ⟨_,rfl,h⟩ | exact h.elim
theorem y0e (h:v0i x y P):∃i j,x=.int i/\y=.int j/\P i j:=by cases x<;>cases y<;>first | exact ⟨_,_,rfl,rfl,h⟩ | exact h.elim
theorem y0d (h:w6h x y P):∃i j,x=.ref i/\y=.int j/\P i j:=by cases x<;>cases y<;>first | exact ⟨_,_,rfl,rfl,h⟩ | exact h.elim
theorem v0h:isB x P=∃k,x=.bl k/\P k:=propext ⟨z7l,by rintro ⟨k,rfl,h⟩;exact h⟩
theorem v0f:isI x P=∃k,x=.int k/\P k:=propext ⟨y8c,by rintro ⟨k,rfl,h⟩;exact h⟩
theorem w5f:v0i x y P=∃i j,x=.int i/\y=.int j/\P i j:=propext ⟨y0e,by rintro ⟨i,j,rfl,rfl,h⟩;exact h⟩
theorem w5d:w6h x y P=∃i j,x=.ref i/\y=.int j/\P i j:=propext ⟨y0d,by rintro ⟨i,j,rfl,rfl,h⟩;exact h⟩
def x8u (i:Nat):TE:=λ σ H Q=>match σ[i]? with | some (some v)=>Q v H | _=>False
theorem x8t (h:x8u i σ H Q):∃v,σ[i]?=some (some v)/\Q v H:=by
 unfold x8u at h;split at h
 ·rename_i v e;exact ⟨v,e,h⟩
 ·exact h.elim
def tC (v:V):TE:=λ _ H Q=>Q v H
theorem w3a {i:Nat}(hN:X.N[i]?=some x) (hv:Vis X.env.scope x) (hd:(x == ("__debug__" : Str))=false:=by decide) (hcd:(x == ("__classdict__" : Str))=false:=by decide):PE X (.Name x pos) (x8u i):=by
 intro pins s σ H Q I h;obtain ⟨v,e,h⟩:=x8t h;obtain ⟨m,hn,hl⟩:=I.loc;obtain ⟨u,r,l⟩:=hl i x v hN e hv;have fin:EP X pins σ Q u s:=⟨v,H,I,r,h⟩
 rcases l with ⟨hk,hm⟩ | ⟨hk,c,hc,hcell⟩
 ·exact wpAny_Name (wpAny_loadName_local I.ok.kind hk hn hm fin) hd
 ·rcases hk with hk | hk
  ·exact wpAny_Name (wpAny_loadName_cell I.ok.kind hk hc hcell fin) hd
  ·exact wpAny_Name (wpAny_loadName_free I.ok.kind hk hc hcell fin hcd) hd
theorem z0c {i j pos}:PE X (.Constant (.int i) j pos) (tC (.int i)):=λ _ _ _ H _ I h=>wpAny_Constant_int ⟨.int i,H,I.tok _,⟨_,rfl⟩,h⟩
theorem z8v {b j pos}:PE X (.Constant (.bool b) j pos) (tC (.bl b)):=λ _ _ _ H _ I h=>Constant_bool ⟨.bl b,H,I,rfl,h⟩
theorem y2y {j pos}:PE X (.Constant .none j pos) (tC .non):=λ _ _ _ H _ I h=>Constant_none ⟨.non,H,I,rfl,h⟩
theorem z0p {x j pos}:PE X (.Constant (.str x) j pos) (tC (.str x)):=λ _ _ _ H _ I h=>Calls.Constant_str ⟨.str x,H,I.tok _,⟨_,rfl⟩,h⟩
def Gl (X:Cx) (x:Str):Prop:=X.env.kindOf x=some .globalImplicit
theorem y4k {Q:VS}(I:Inv X pins σ H s) (hg:Gl X x) (hm:X.mg x=some u) (h:Q u s)
  (hd:(x == ("__debug__" : Str))=false:=by decide):wpAny (model X.prog X.w) X.A (eval (.Name x pos) X.env) Q E s :=
 t8c I.ok.kind hg (Calls.loadGlobal_global (by rw [I.ok.glob];exact I.mod.glob.keeps I.bk) hm h) hd
theorem z5d {Q:VS}(I:Inv X pins σ H s) (hg:Gl X x) (hm:X.mg x=none) (hv:bootBuiltins x=some u) (h:Q u s)
  (hn:x ≠ "__name__" := by decide) (hd:(x == ("__debug__" : Str))=false:=by decide):wpAny (model X.prog X.w) X.A (eval (.Name x pos) X.env) Q E s:=by
 obtain ⟨mb,h1,h2⟩:=I.mod.blt;exact t8c I.ok.kind hg (Calls.loadGlobal_builtin (by rw [I.ok.glob];exact I.mod.glob.keeps I.bk) hm (by rw [I.ok.blt];exact h1.keeps I.bk) ((h2 x hn).trans hv) h) hd
theorem z6p (hg:Gl X x) (hm:X.mg x=some u) (r:RelV v u) (hd:(x == ("__debug__" : Str))=false:=by decide):PE X (.Name x pos) (tC v) :=
 λ _ _ _ H _ I h=>y4k I hg hm ⟨v,H,I,r,h⟩ hd
theorem z7k (hg:Gl X x) (hm:X.mg x=none) (hv:bootBuiltins x=some u) (r:RelV v u) (hn:x ≠ "__name__" := by decide) (hd:(x == ("__debug__" : Str))=false:=by decide):PE X (.Name x pos) (tC v) :=
 λ _ _ _ H _ I h=>z5d I hg hm hv ⟨v,H,I,r,h⟩ hn hd
variable {a b:Expr}{ta tb:TE}{pos:Pos}
def tB (t:TE):TT:=λ σ H Q=>t σ H λ x H1=>isB x λ c=>Q c H1
theorem z4l (h:PE X e t) (he:∀whole,isTrue e X.env whole=(do let v ← whole;standAt e.pos;holding [v] (truthy v)):=by intro _;rfl):PT X e (tB t):=by
 intro pins s σ H Q I hw;refine isTrue_plain (thn (h pins s σ H _ I hw) λ v s1 ⟨x,H1,I1,r1,q1⟩=>?_) (he _);obtain ⟨d,rfl,q⟩:=z7l q1;cases r1;exact t3i ⟨H1,I1,q⟩
variable {tA tB':TT}{rest:List Expr}
def v4m (t u:TT):TT:=λ σ H Q=>t σ H λ c H1=>if c=true then u σ H1 Q else Q false H1
def tOr (t u:TT):TT:=λ σ H Q=>t σ H λ c H1=>if c=true then Q true H1 else u σ H1 Q
def v4f (t:TT):TT:=λ σ H Q=>t σ H λ c H1=>Q (!c) H1
theorem z7h (ha:PT X a tA):PW X (.BoolOp .And [a] pos) tA:=by
 intro wh pins s σ H Q I h;refine isTrue_and (thn (ha pins s σ H Q I h) λ c s1 e=>?_)
 cases c with
 | true=>exact isTrue_and_nil e
 | false=>exact e
theorem z3m (ha:PT X a tA):PW X (.BoolOp .Or [a] pos) tA:=by
 intro wh pins s σ H Q I h;refine isTrue_or (thn (ha pins s σ H Q I h) λ c s1 e=>?_)
 cases c with
 | false=>exact isTrue_or_nil e
 | true=>exact e
theorem y1d (ha:PT X a tA) (hb:PW X (.BoolOp .And (b::rest) pos) tB'):PW X (.BoolOp .And (a::b::rest) pos) (v4m tA tB'):=by
 intro wh pins s σ H Q I h;refine isTrue_and (thn (ha pins s σ H _ I h) λ c s1 ⟨H1,I1,q1⟩=>?_)
 cases c with
 | true=>exact hb wh pins s1 σ H1 Q I1 q1
 | false=>exact ⟨H1,I1,q1⟩
theorem z5a (ha:PT X a tA) (hb:PW X (.BoolOp .Or (b::rest) pos) tB'):PW X (.BoolOp .Or (a::b::rest) pos) (tOr tA tB'):=by
 intro wh pins s σ H Q I h;refine isTrue_or (thn (ha pins s σ H _ I h) λ c s1 ⟨H1,I1,q1⟩=>?_)
 cases c with
 | true=>exact ⟨H1,I1,q1⟩
 | false=>exact hb wh pins s1 σ H1 Q I1 q1
theorem z6f (ha:PT X a tA):PT X (.UnaryOp .Not a pos) (v4f tA):=by
 intro pins s σ H Q I h;exact isTrue_not (ha pins s σ H (λ c H1=>Q (!c) H1) I h)
def w7e (ta tb:TE):TE:=λ σ H Q=>ta σ H λ x H1=>isB x λ c=>if c=true then tb σ H1 Q else Q (.bl false) H1
def v4e (ta tb:TE):TE:=λ σ H Q=>ta σ H λ x H1=>isB x λ c=>if c=true then Q (.bl true) H1 else tb σ H1 Q
def w6z (ta:TE):TE:=λ σ H Q=>ta σ H λ x H1=>∃c,x=.bl c/\Q (.bl (!c)) H1
theorem x4p {op}(h:PE X a t):PE X (.BoolOp op [a] pos) t:=λ pins s σ H Q I hw=>BoolOp_one (h pins s σ H Q I hw)
theorem w8r (ha:PE X a ta) (hb:PE X (.BoolOp .And (b::rest) pos) tb):PE X (.BoolOp .And (a::b::rest) pos) (w7e ta tb):=by
 intro pins s σ H Q I h;refine BoolOp_and (thn (ha pins s σ H _ I h) λ v s1 ⟨x,H1,I1,r1,q1⟩=>?_);obtain ⟨c,rfl,q1⟩:=z7l q1;cases r1;refine t3i ?_
 cases c with
 | true=>exact hb pins s1 σ H1 Q I1 q1
 | false=>exact ⟨.bl false,H1,I1,rfl,q1⟩
theorem w8n (ha:PE X a ta) (hb:PE X (.BoolOp .Or (b::rest) pos) tb):PE X (.BoolOp .Or (a::b::rest) pos) (v4e ta tb):=by
 intro pins s σ H Q I h;refine BoolOp_or (thn (ha pins s σ H _ I h) λ v s1 ⟨x,H1,I1,r1,q1⟩=>?_);obtain ⟨c,rfl,q1⟩:=z7l q1;cases r1;refine t3i ?_
 cases c with
 | false=>exact hb pins s1 σ H1 Q I1 q1
 | true=>exact ⟨.bl true,H1,I1,rfl,q1⟩
theorem w8o (ha:PE X a ta):PE X (.UnaryOp .Not a pos) (w6z ta):=by
 intro pins s σ H Q I h;refine UnaryOp_ (thn (ha pins s σ H _ I h) λ v s1 ⟨x,H1,I1,r1,q1⟩=>?_);obtain ⟨c,rfl,q1⟩:=q1;cases r1;exact not_of (t3i ⟨.bl (!c),H1,I1,rfl,q1⟩)
def tIf (t:TT) (ta tb:TE):TE:=λ σ H Q=>t σ H λ c H1=>if c=true then ta σ H1 Q else tb σ H1 Q
theorem z4p (hc:PT X c tA) (ha:PE X a ta) (hb:PE X b tb):PE X (.IfExp c a b pos) (tIf tA ta tb):=by
 intro pins s σ H Q I h;refine wpAny_IfExp (thn (hc pins s σ H _ I h) λ d s1 ⟨H1,I1,q1⟩=>?_)
 cases d with
 | true=>exact ha pins s1 σ H1 Q I1 q1
 | false=>exact hb pins s1 σ H1 Q I1 q1
end
noncomputable def SqL (K:FG) (H:Hp) (a:Addr) (xs:List V):Prop :=
 Rd H a (.lst xs) \/
  ∃(o:Obj) (its:Array Value) (n:Nat),K.lookup a=some o/\o.cls=.type "list" /\ o.dict=none/\o.data=.seq its n/\its.size≤sizeLine/\Vals xs its.toList
noncomputable def SqT (K:FG) (H:Hp) (a:Addr) (xs:List V):Prop :=
 Rd H a (.tup xs) \/
  ∃(o:Obj) (its:Array Value) (n:Nat),K.lookup a=some o/\o.cls=.type "tuple" /\ o.data=.seq its n/\its.size≤sizeLine/\Vals xs its.toList
noncomputable def v7f:Value->Option V
 | .none=>some .non
 | .bool b=>some (.bl b)
 | .int i _=>some (.int i)
 | .str x _=>some (.str x)
 | .bytes b _=>some (.byt b)
 | .float b _=>some (.flt b)
 | .ref a=>some (.ref a)
 | .type n=>some (.ty n)
 | _=>none
theorem RelV.abs (r:RelV x u):v7f u=some x:=by
 cases x with
 | non=>cases r;rfl
 | bl _=>cases r;rfl
 | int _=>obtain ⟨t,rfl⟩:=r;rfl
 | str _=>obtain ⟨t,rfl⟩:=r;rfl
 | byt _=>obtain ⟨t,rfl⟩:=r;rfl
 | flt _=>obtain ⟨t,rfl⟩:=r;rfl
 | ref _=>cases r;rfl
 | ty _=>cases r;rfl
theorem RelV.inj (r:RelV x u) (q:RelV y u):x=y:=t1i (r.abs.symm.trans q.abs)
theorem Vals.inj:∀ {xs ys:List V}{us:LV},Vals xs us->Vals ys us->xs=ys
 | _,_,_,.nil,.nil=>rfl
 | _,_,_,.cons r t,.cons r' t'=>by rw [r.inj r',Vals.inj t t']
section
variable {X:Cx}{pins:LO}{σ:St}{H:Hp}{s:Shared}{a:Addr}{xs ys:List V}
theorem SqL.of {K:FG}(h:H a=some (.lst xs)):SqL K H a xs:=.inl (.inl h)
theorem SqT.of {K:FG}(h:H a=some (.tup xs)):SqT K H a xs:=.inl (.inl h)
theorem Inv.list (I:Inv X pins σ H s) (h:SqL X.K H a xs):∃its:LV,Vals xs its/\PlainL s.heap a its.toArray/\xs.length≤sizeLine:=by
 rcases h with h | ⟨o,its,n,hk,hc,hd,hs,hz,r⟩
 ·obtain ⟨z,its,n,r,e⟩:=h.ok I.hok;exact ⟨its,r,⟨_,n,e,rfl,rfl,rfl⟩,z⟩
 ·refine ⟨its.toList,r,⟨o,n,I.kIn a o hk,hc,hd,by simpa using hs⟩,?_⟩;have e:=r.length;simp only [t4a] at e;lia
theorem Inv.tuple (I:Inv X pins σ H s) (h:SqT X.K H a xs):∃its:LV,Vals xs its/\IsTup s.heap a its.toArray/\xs.length≤sizeLine:=by
 rcases h with h | ⟨o,its,n,hk,hc,hs,hz,r⟩
 ·obtain ⟨z,its,r,p⟩:=h.ok I.hok;exact ⟨its,r,p,z⟩
 ·refine ⟨its.toList,r,⟨o,I.kIn a o hk,hc,n,by simpa using hs⟩,?_⟩;have e:=r.length;simp only [t4a] at e;lia
theorem Inv.list_inj (I:Inv X pins σ H s) (h:SqL X.K H a xs) (h':SqL X.K H a ys):xs=ys:=by
 obtain ⟨its,r,⟨o,n,e,_,_,d⟩,_⟩:=I.list h;obtain ⟨its',r',⟨o',n',e',_,_,d'⟩,_⟩:=I.list h';rw [e] at e';cases e';rw [d] at d'
 injection d' with d1 _
 have:its=its':=by simpa using t3p Array.toList d1
 subst this;exact r.inj r'
theorem Inv.tuple_inj (I:Inv X pins σ H s) (h:SqT X.K H a xs) (h':SqT X.K H a ys):xs=ys:=by
 obtain ⟨its,r,⟨o,e,_,n,d⟩,_⟩:=I.tuple h;obtain ⟨its',r',⟨o',e',_,n',d'⟩,_⟩:=I.tuple h';rw [e] at e';cases e';rw [d] at d'
 injection d' with d1 _
 have:its=its':=by simpa using t3p Array.toList d1
 subst this;exact r.inj r'
end
abbrev Cx.wish (X:Cx) (E:VS):Cx:={ X with xe:=E }
abbrev Cx.nox (X:Cx):Cx:=X.wish λ _ _=>False
theorem Cx.Ok.wish {X:Cx}(ok:X.Ok) (E:VS):(X.wish E).Ok :=
 ⟨ok.mod,ok.kind,ok.glob,ok.blt,ok.above,ok.inj,ok.has,ok.cab,ok.hd,ok.frames,ok.stk,ok.exf,ok.bs,ok.bsz,ok.noex,ok.exfs,ok.funs,ok.frf⟩
theorem Cx.Ok.unwish {X:Cx}(ok:(X.wish E).Ok):X.Ok :=
 ⟨ok.mod,ok.kind,ok.glob,ok.blt,ok.above,ok.inj,ok.has,ok.cab,ok.hd,ok.frames,ok.stk,ok.exf,ok.bs,ok.bsz,ok.noex,ok.exfs,ok.funs,ok.frf⟩
section
variable {X:Cx}{pins:LO}{σ:St}{H:Hp}{s:Shared}{E:VS}
theorem Inv.wish (I:Inv X pins σ H s) (E:VS):Inv (X.wish E) pins σ H s:=⟨I.ok.wish E,I.os,I.bare,I.base,I.loc,I.cell,I.free,I.freeC,I.pin,I.hok,I.len⟩
theorem Inv.unwish (I:Inv (X.wish E) pins σ H s):Inv X pins σ H s:=⟨I.ok.unwish,I.os,I.bare,I.base,I.loc,I.cell,I.free,I.freeC,I.pin,I.hok,I.len⟩
theorem SP.unwish (h:SP (X.wish E) pins D f s'):SP X pins D f s':=by
 cases f with
 | next=>obtain ⟨σ',H',I,q⟩:=h;exact ⟨σ',H',I.unwish,q⟩
 | brk=>obtain ⟨σ',H',I,q⟩:=h;exact ⟨σ',H',I.unwish,q⟩
 | cont=>obtain ⟨σ',H',I,q⟩:=h;exact ⟨σ',H',I.unwish,q⟩
 | ret u=>obtain ⟨v,σ',H',I,r,q⟩:=h;exact ⟨v,σ',H',I.unwish,r,q⟩
theorem PSs.nox {st:List Stmt}(h:PSs X.nox st t):PSs X st t:=λ pins s σ H D I hw =>
 t2z (h pins s σ H D (I.wish _) hw) (λ _ _ q=>q.unwish) λ _ _ z=>False.elim z
end
section
variable {X:Cx}{st:Stmt}{rest:List Stmt}{t u:TS}{e:Expr}{te:TE}{pos:Pos}
def w3s:TS:=λ D σ H=>D.nx σ H
def y6t (t u:TS):TS:=λ D σ H=>t { D with nx:=u D } σ H
theorem z5x:PSs X [] w3s:=λ _ _ σ H _ I h=>t7s ⟨σ,H,I,h⟩
theorem z0o (h1:PS X st t) (h2:PSs X rest u):PSs X (st::rest) (y6t t u):=by
 intro pins s σ H D I h;refine wpAny_execs_cons (thn (h1 pins s σ H { D with nx:=u D } I h) λ f s1 q=>?_)
 cases f with
 | next =>
  obtain ⟨σ',H',I',q⟩:=q;exact h2 pins s1 σ' H' D I' q
 | ret v=>exact q
 | brk=>exact q
 | cont=>exact q
theorem z0q (h1:PS X st t):PSs X [st] t:=by
 intro pins s σ H D I h;refine wpAny_execs_cons (thn (h1 pins s σ H D I h) λ f s1 q=>?_)
 cases f with
 | next=>exact t7s q
 | ret v=>exact q
 | brk=>exact q
 | cont=>exact q
theorem Inv.quiet (I:Inv X pins σ H s):interactive X.env=false:=by simp [interactive,I.ok.kind]
def w7c (te:TE):TS:=λ D σ H=>te σ H λ _ H1=>D.nx σ H1
theorem z1l (he:PE X e te) (hs:swapsWith e none pos.line X.env=pure false:=by rfl):PS X (.Expr e pos) (w7c te):=by
 intro pins s σ H D I h;exact wpAny_Expr_any (thn (he pins s σ H _ I h) λ v s1 ⟨x,H1,I1,r1,q1⟩=>⟨σ,H1,I1,q1⟩) I.quiet hs
def v1y (te:TE):TS:=λ D σ H=>te σ H D.rt
theorem w8l (he:PE X e te):PS X (.Return (some e) pos) (v1y te):=by
 intro pins s σ H D I h;exact wpAny_Return_some (thn (he pins s σ H _ I h) λ v s1 ⟨x,H1,I1,r1,q1⟩=>⟨x,σ,H1,I1,r1,q1⟩)
def z9t (c:TT) (t u:TS):TS:=λ D σ H=>c σ H λ b H1=>if b=true then t D σ H1 else u D σ H1
theorem z9q (hc:PT X c tc) (ha:PSs X a t) (hb:PSs X b u):PS X (.If c a b pos) (z9t tc t u):=by
 intro pins s σ H D I h;refine wpAny_If (thn (hc pins s σ H _ I h) λ d s1 ⟨H1,I1,q1⟩=>?_)
 cases d with
 | true=>exact ha pins s1 σ H1 D I1 q1
 | false=>exact hb pins s1 σ H1 D I1 q1
def w2a:TS:=λ _ _ _=>False
theorem z1n:PS X st w2a:=λ _ _ _ _ _ _ h=>h.elim
end
abbrev TG:=V->St->Hp->(St->Hp->Prop)->Prop
abbrev TGs:=List V->St->Hp->(St->Hp->Prop)->Prop
noncomputable def PG (X:Cx) (target:Expr) (t:TG):Prop :=
 ∀(pins:LO) (s:Shared) (σ:St) (H:Hp) (v:V) (u:Value) (Q:St->Hp->Prop),Inv X pins σ H s->RelV v u->t v σ H Q ->
  wpAny (model X.prog X.w) X.A (assign target X.env u) (λ _ s'=>∃σ' H',Inv X pins σ' H' s'/\Q σ' H') X.xe s
noncomputable def PGs (X:Cx) (ts:List Expr) (t:TGs):Prop :=
 ∀(pins:LO) (s:Shared) (σ:St) (H:Hp) (vs:List V) (us:LV) (Q:St->Hp->Prop),Inv X pins σ H s->Vals vs us->t vs σ H Q ->
  wpAny (model X.prog X.w) X.A (assignInOrder ((assignEach ts X.env).map (·.2)) us) (λ _ s'=>∃σ' H',Inv X pins σ' H' s'/\Q σ' H') X.xe s
abbrev v3t:=V->V->V->Hp->(Hp->Prop)->Prop
noncomputable def v5h (X:Cx) (t:v3t):Prop :=
 ∀(pins:LO) (s:Shared) (σ:St) (H:Hp) (o i v:V) (ov iv u:Value) (Q:Hp->Prop),Inv X pins σ H s->RelV o ov->RelV i iv->RelV v u->t o i v H Q ->
  wpAny (model X.prog X.w) X.A (setItem ov iv u) (λ _ s'=>∃H',Inv X pins σ H' s'/\Q H') X.xe s
section
variable {X:Cx}{pos:Pos}
def z6w (i:Nat):TG:=λ v σ H Q=>Q (σ.set i (some v)) H
theorem y7h {i:Nat}(hN:X.N.Nodup) (hi:X.N[i]?=some x) (hx:Loc X.env.scope x) (hf:X.fn x=true\/X.env.scope.names.lookup x=some .local:=by first | exact .inl rfl | exact .inr rfl | assumption):PG X (.Name x pos) (z6w i):=by
 intro pins s σ H v u Q I r h;exact wpAny_assign_Name (y3m I hN hi hx r (λ s' I'=>⟨_,H,I',h⟩) hf)
def v5a:TGs:=λ vs σ H Q=>vs=[]/\Q σ H
def v0o (t:TG) (u:TGs):TGs:=λ vs σ H Q=>∃v r,vs=v::r/\t v σ H λ σ' H'=>u r σ' H' Q
theorem z6o:PGs X [] v5a:=by
 intro pins s σ H vs us Q I r h;obtain ⟨e,h⟩:=h;subst e;cases r;exact assignInOrder_nil ⟨σ,H,I,h⟩
theorem z1x (h1:PG X e t) (h2:PGs X es u)
  (hs:(assignEach (e::es) X.env).map (·.2)=assign e X.env::(assignEach es X.env).map (·.2):=by rfl):PGs X (e::es) (v0o t u):=by
 intro pins s σ H vs us Q I r h;obtain ⟨v,vr,e1,h⟩:=h;subst e1
 cases r with
 | cons r rr =>
  rw [hs];refine assignInOrder_cons (thn (h1 pins s σ H _ _ _ I r h) λ _ s1 ⟨σ1,H1,I1,q1⟩=>?_);exact h2 pins s1 σ1 H1 _ _ Q I1 rr q1
def v0n (K:FG) (n:Nat) (t:TGs):TG:=λ v σ H Q=>∃a xs,v=.ref a/\SqT K H a xs/\xs.length=n/\t xs σ H Q
theorem z9l {n:Nat}(hc:X.calm=true) (h:PGs X es t)
  (hn:(assignEach es X.env).length=n:=by rfl) (hst:(assignEach es X.env).findIdx? (·.1)=none:=by rfl):PG X (.Tuple es k pos) (v0n X.K n t):=by
 intro pins s σ H v u Q I r hw;obtain ⟨a,xs,e1,hq,hl,hw⟩:=hw;subst e1;cases r;obtain ⟨its,rv,ht,hz⟩:=I.tuple hq;refine assign_Tuple_tuple (I.ok.hd hc) ht (by simp [hn,← hl,rv.length]) hst λ h' hx=>?_;have I1:Inv X pins σ H { s with heap:=h' }:=I.kept (t':=s.toks) λ b o e=>hx b o (t1k (t0y e)) e;exact h pins _ σ H xs _ Q I1 (by simpa using rv) hw
def v4z (to ti:TE) (t:v3t):TG:=λ v σ H Q=>to σ H λ o H1=>ti σ H1 λ i H2=>t o i v H2 λ H3=>Q σ H3
theorem w8m (ho:PE X o to) (hi:PE X i ti) (hs:v5h X t)
  (ha:∀v,assign (.Subscript o i pos) X.env v=(do
   let ov ← holding [v] (eval o X.env)
   let iv ← holding [v,ov] (eval i X.env)
   standAt pos
   holding [v,ov,iv] (setItem ov iv v)
   release [v,ov,iv] []):=by intro _;rfl):PG X (.Subscript o i pos) (v4z to ti t):=by
 intro pins s σ H v u Q I r h;rw [ha];refine t0b (t3j (thn (ho pins s σ H _ I h) λ ov s1 ⟨x,H1,I1,r1,q1⟩=>?_));refine t0b (t3j (thn (hi pins s1 σ H1 _ I1 q1) λ iv s2 ⟨y,H2,I2,r2,q2⟩=>?_));refine t0b (t5l (t0b (t3j (thn (hs pins s2 σ H2 x y v ov iv u _ I2 r1 r2 r q2) λ _ s3 ⟨H3,I3,q3⟩=>?_))));exact wpAny_release ⟨σ,H3,I3,q3⟩
def w2f (te:TE) (g:TG):TS:=λ D σ H=>te σ H λ x H1=>g x σ H1 D.nx
theorem w2x (he:PE X e te) (hg:PG X tg g) (hs:swapsWithSole [tg] e pos.line X.env=pure false:=by rfl) (hw:swappedStores [tg] e X.env=pure none:=by rfl)
  (h1:(assignEach [tg] X.env).map (·.2)=[assign tg X.env]:=by rfl):PS X (.Assign [tg] e pos) (w2f te g):=by
 intro pins s σ H D I h;refine wpAny_Assign_stores (thn (he pins s σ H _ I h) λ v s1 ⟨x,H1,I1,r1,q1⟩=>?_) hs hw;rw [h1];exact thn (hg pins s1 σ H1 x v _ I1 r1 q1) λ _ s2 q=>q
theorem w2w {i:Nat}(hN:X.N.Nodup) (hi:X.N[i]?=some x) (hx:Loc X.env.scope x) (he:PE X e te) (hs:swapsWith e (some (.Name x pos')) pos.line X.env=pure false:=by rfl) (hf:X.fn x=true\/X.env.scope.names.lookup x=some .local:=by first | exact .inl rfl | exact .inr rfl | assumption) :
  PS X (.Assign [.Name x pos'] e pos) (w2f te (z6w i)):=by
 intro pins s σ H D I h;refine wpAny_Assign_Name (thn (he pins s σ H _ I h) λ v s1 ⟨y,H1,I1,r1,q1⟩=>?_) hs;exact y3m I1 hN hi hx r1 (λ s2 I2=>⟨_,H1,I2,q1⟩) hf
end
section
variable {X:Cx}{pos:Pos}
end
structure It where
 go:Nat->Hp->Prop
 yld:Nat->Hp->V->Hp->Prop
 stop:Nat->Hp->Prop
noncomputable def w3i (X:Cx) (pins:LO) (H:Hp) (b:Addr):Prop :=
 H b=none/\b≠X.env.locals/\b ∉ X.fs/\(b∈X.ex\/X.s₀.heap.objs.size≤b)/\(∀x c,X.env.cells.lookup x=some c->c≠b)/\∀p∈X.pn++pins,p.1≠b
theorem Inv.fpOk {H H':Hp}{b:Addr}(I:Inv X pins σ H s) (hb:s.heap.objs.size≤b) (hn:H' b=none):w3i X pins H' b:=by
 refine ⟨hn,t4w (t1d I.lt hb),I.nofs hb,.inr (t2u I.sz hb),λ x c e z=>?_,λ p hp z=>?_⟩
 ·obtain ⟨v,q⟩:=I.cell x c e;exact absurd (t1d q.lt (by rw [z];exact hb)) (t2s _)
 ·exact absurd (t1d (t0y (I.pin p hp).1) (by rw [z];exact hb)) (t2s _)
structure Turn (P:Program) (w:World) (K:FG) (tg:Expr) (J:It) (fp:List Addr) (it:Addr) (tn:Nat->Heap->Prop):Prop where
 mem:it∈fp
 obj:∀i h,tn i h->∀b∈fp,∃o,h.get? b=some o/\∀v,o.data≠.cell v
 keep:∀i h h',tn i h->(∀b∈fp,∀o,h.get? b=some o->h'.get? b=some o)->tn i h'
 item:∀(X:Cx),X.prog=P->X.w=w->X.K=K->X.calm=true->∀(i:Nat) (pins:LO) (s:Shared) (σ:St) (H:Hp) (E:VS),Inv X pins σ H s->(∀b∈fp,w3i X pins H b)->tn i s.heap->J.go i H ->
  wpAny (model P w) X.A (pyNext (.ref it)) (λ r s1=>∃u,r=some u /\
   wpAny (model P w) X.A (letOwnedTupleGo tg (.ref it) u) (λ _ s2=>∃x H',Inv X pins σ H' s2/\RelV x u/\J.yld i H x H'/\tn (i+1) s2.heap/\∀b∈fp,H' b=none) E s1) E s
 done:∀(X:Cx),X.prog=P->X.w=w->X.K=K->X.calm=true->∀(i:Nat) (pins:LO) (s:Shared) (σ:St) (H:Hp) (E:VS),Inv X pins σ H s->(∀b∈fp,w3i X pins H b)->tn i s.heap->J.stop i H ->
  wpAny (model P w) X.A (pyNext (.ref it)) (λ r s1=>r=none/\Inv X pins σ H s1) E s
 self:∀(A:Around) (i:Nat) (s:Shared) (Q:VS) (E:VS),tn i s.heap->Q (.ref it) s->wpAny (model P w) A (pyIter (.ref it)) Q E s
abbrev TI:=St->Hp->(It->Hp->Prop)->Prop
noncomputable def PIE (X:Cx) (pins:LO) (σ:St) (tg:Expr) (R:It->Hp->Prop) (itv:Value) (s2:Shared):Prop :=
 ∃(it:Addr) (fp:List Addr) (tn:Nat->Heap->Prop) (J:It) (H':Hp),itv=.ref it/\Inv X pins σ H' s2/\Turn X.prog X.w X.K tg J fp it tn/\tn 0 s2.heap/\(∀b∈fp,w3i X pins H' b)/\R J H'
noncomputable def PI (X:Cx) (tg iter:Expr) (wi:TI):Prop :=
 ∀(pins:LO) (s:Shared) (σ:St) (H:Hp) (R:It->Hp->Prop),Inv X pins σ H s->wi σ H R ->
  wpAny (model X.prog X.w) X.A (eval iter X.env) (λ v s1=>wpAny (model X.prog X.w) X.A (pyIter v) (PIE X pins σ tg R) X.xe s1) X.xe s
theorem w0x {s:Shared}{it:Addr}{Q:Unit->Shared->Prop}(ho:s.heap.get? it=some o) (hc:o.cls=.type n) (hd:o.data=.fields vs)
    (hn:["enumerate","zip","dict_itemiterator","dict_reverseitemiterator","odict_iterator","itertools.zip_longest","itertools.pairwise"].contains n=false) (hQ:Q () s):wpAny M A (letOwnedTupleGo tg (.ref it) u) Q E s:=by
  unfold letOwnedTupleGo
  cases tg<;>first
    | exact t0s hQ
    | (cases u<;>first
        | exact t0s hQ
        | (refine t0b (s1i ho ?_)
           rw [hc,hd];show wpAny M A (if (["enumerate","zip","dict_itemiterator","dict_reverseitemiterator","odict_iterator","itertools.zip_longest","itertools.pairwise"].contains n && vs[0]? == some (rawInt _))=true then _ else _) Q E s;rw [if_neg (by intro h;rw [hn,Bool.false_and] at h;cases h)]
           exact t0s hQ))
noncomputable def Itl (K:FG) (a:Addr):It :=
 ⟨λ i H=>∃xs x,SqL K H a xs/\xs[i]?=some x,λ i H x H'=>H'=H/\∀xs,SqL K H a xs->xs[i]?=some x,λ i H=>∃xs,SqL K H a xs/\xs.length≤i⟩
noncomputable def Itt (K:FG) (a:Addr):It :=
 ⟨λ i H=>∃xs x,SqT K H a xs/\xs[i]?=some x,λ i H x H'=>H'=H/\∀xs,SqT K H a xs->xs[i]?=some x,λ i H=>∃xs,SqT K H a xs/\xs.length≤i⟩
def Itr (lo:Int) (n:Nat):It:=⟨λ i _=>i < n,λ i H x H'=>H'=H/\x=.int (lo+i),λ i _=>n≤i⟩
theorem y4v {K:FG}(a it:Addr):Turn P w K tg (Itl K a) [it] it (λ i h=>h.IsListIter it a i) where
 mem:=by simp
 obj:=λ i h st b hb=>by
  have e:b=it:=by simpa using hb
  subst e;obtain ⟨o,e,c,d⟩:=st;exact ⟨o,e,λ v z=>by rw [d] at z;cases z⟩
 keep:=λ i h h' st k=>st.at λ o e=>k it (by simp) o e
 item:=by
  intro X hP hw hK hc i pins s σ H E I hf st hg;subst hP hw hK;obtain ⟨xs,x,hq,hx⟩:=hg;obtain ⟨its,rv,p,hz⟩:=I.list hq;obtain ⟨u,hu,ru⟩:=rv.get hx;obtain ⟨f0,f1,f2,f3,f4,f5⟩:=hf it (by simp);refine wpAny_pyNext_list_item st p.isList (x:=u) (by simpa using hu) λ h' st' sb=>?_;have I1:Inv X pins σ H { s with heap:=h' }:=I.turned (t':=s.toks) (λ b o hb e=>(sb.2 b hb).trans e) f0 f1 f3 f4 f5;obtain ⟨o,e,c,d⟩:=id st';exact ⟨u,rfl,w0x (s:={ s with heap:=h' }) e c d (by decide) ⟨x,H,I1,ru,⟨rfl,λ ys hy=>by rw [I.list_inj hy hq];exact hx⟩,st',λ b hb=>(hf b hb).1⟩⟩
 done:=by
  intro X hP hw hK hc i pins s σ H E I hf st hg;subst hP hw hK;obtain ⟨xs,hq,hx⟩:=hg;obtain ⟨its,rv,p,hz⟩:=I.list hq;obtain ⟨f0,f1,f2,f3,f4,f5⟩:=hf it (by simp);have hl:=rv.length;exact wpAny_pyNext_list_end (I.ok.hd hc) st p.isList (by simp;lia) λ h' eb=>⟨rfl,I.turned (t':=s.toks) (λ b o hb e=>eb b o hb e) f0 f1 f3 f4 f5⟩
 self:=λ _ _ _ _ _ st h=>wpAny_pyIter_listiter st h
theorem y2d {K:FG}(a it:Addr):Turn P w K tg (Itt K a) [it] it (λ i h=>h.IsTupleIter it a i) where
 mem:=by simp
 obj:=λ i h st b hb=>by
  have e:b=it:=by simpa using hb
  subst e;obtain ⟨o,e,c,d⟩:=st;exact ⟨o,e,λ v z=>by rw [d] at z;cases z⟩
 keep:=λ i h h' st k=>st.at λ o e=>k it (by simp) o e
 item:=by
  intro X hP hw hK hc i pins s σ H E I hf st hg;subst hP hw hK;obtain ⟨xs,x,hq,hx⟩:=hg;obtain ⟨its,rv,p,hz⟩:=I.tuple hq;obtain ⟨u,hu,ru⟩:=rv.get hx;obtain ⟨f0,f1,f2,f3,f4,f5⟩:=hf it (by simp);refine wpAny_pyNext_tuple_item st (show s.heap.IsTuple a its.toArray from p) (x:=u) (by simpa using hu) λ h' st' sb=>?_;have I1:Inv X pins σ H { s with heap:=h' }:=I.turned (t':=s.toks) (λ b o hb e=>(sb.2 b hb).trans e) f0 f1 f3 f4 f5;obtain ⟨o,e,c,d⟩:=id st';exact ⟨u,rfl,w0x (s:={ s with heap:=h' }) e c d (by decide) ⟨x,H,I1,ru,⟨rfl,λ ys hy=>by rw [I.tuple_inj hy hq];exact hx⟩,st',λ b hb=>(hf b hb).1⟩⟩
 done:=by
  intro X hP hw hK hc i pins s σ H E I hf st hg;subst hP hw hK;obtain ⟨xs,hq,hx⟩:=hg;obtain ⟨its,rv,p,hz⟩:=I.tuple hq;obtain ⟨f0,f1,f2,f3,f4,f5⟩:=hf it (by simp);have hl:=rv.length;exact wpAny_pyNext_tuple_end (I.ok.hd hc) st (show s.heap.IsTuple a its.toArray from p) (by simp;lia) λ h' eb=>⟨rfl,I.turned (t':=s.toks) (λ b o hb e=>eb b o hb e) f0 f1 f3 f4 f5⟩
 self:=λ _ _ _ _ _ st h=>wpAny_pyIter_tupleiter st h
theorem x0x {K:PySem.W.Frag}(it:Addr) (lo:Int) (n:Nat):Turn P w K tg (Itr lo n) [it] it (λ i h=>IsRangeIter h it (lo+(i:Nat) * 1) ((n:Int) - (i:Nat)) 1) where
 mem:=by simp
 obj:=λ i h st b hb=>by
  have e:b=it:=by simpa using hb
  subst e
  exact ⟨_,st,λ v z=>by
   have z':Data.fields _=Data.cell v:=z
   cases z'⟩
 keep:=λ i h h' st k=>k it (by simp) _ st
 item:=by
  intro X hP hw hK hc i pins s σ H E I hf st hg;subst hP hw hK;obtain ⟨f0,f1,f2,f3,f4,f5⟩:=hf it (by simp);have W:=Walks.range (prog:=X.prog) (w:=X.w) (I.ok.hd hc) it lo 1 n;refine W.item i s _ _ hg st λ v h' tk hv st' kk=>?_;obtain ⟨t,rfl⟩:=hv;have I1:Inv X pins σ H { s with heap:=h',toks:=tk }:=I.turned (λ b o hb e=>kk b o (by simpa using hb) e) f0 f1 f3 f4 f5;refine ⟨_,rfl,w0x (s:={ s with heap:=h',toks:=tk }) (n := "range_iterator") st' rfl rfl (by decide) ⟨.int (lo+i),H,I1,⟨t,?_⟩,⟨rfl,rfl⟩,st',λ b hb=>(hf b hb).1⟩⟩;rw [s0e]
 done:=by
  intro X hP hw hK hc i pins s σ H E I hf st hg;subst hP hw hK;obtain ⟨f0,f1,f2,f3,f4,f5⟩:=hf it (by simp);exact wpAny_pyNext_range_end (I.ok.hd hc) st (by have:n≤i:=hg;lia) λ h' eb=>⟨rfl,I.turned (t':=s.toks) (λ b o hb e=>eb b o hb e) f0 f1 f3 f4 f5⟩
 self:=λ _ _ _ _ _ st h=>wpAny_pyIter_rangeiter st h
section
variable {X:Cx}{tg:Expr}
def x6r (K:FG) (tl:TE):TI:=λ σ H R=>tl σ H λ x H1=>∃a,x=.ref a/\(∃xs,SqL K H1 a xs)/\R (Itl K a) H1
def v1m (K:FG) (tl:TE):TI:=λ σ H R=>tl σ H λ x H1=>∃a,x=.ref a/\(∃xs,SqT K H1 a xs)/\R (Itt K a) H1
theorem z4h (hl:PE X l tl):PI X tg l (x6r X.K tl):=by
 intro pins s σ H R I h;refine thn (hl pins s σ H _ I h) λ v s1 ⟨x,H1,I1,r1,q1⟩=>?_;obtain ⟨a,e,⟨xs,hq⟩,q⟩:=q1;subst e;cases r1;obtain ⟨its,rv,p,hz⟩:=I1.list hq;refine t8k p.isList ?_;refine ⟨s1.heap.objs.size,[s1.heap.objs.size],_,_,H1,rfl,I1.kept (t':=s1.toks) λ b o e=>t0f _ e,y4v a _,⟨_,t0r _ rfl,rfl,rfl⟩,λ b hb=>?_,q⟩;have e:b=s1.heap.objs.size:=by simpa using hb
 subst e;exact I1.fpOk (t0n _) (I1.hok.fresh (t0n _))
theorem z4m (hl:PE X l tl):PI X tg l (v1m X.K tl):=by
 intro pins s σ H R I h;refine thn (hl pins s σ H _ I h) λ v s1 ⟨x,H1,I1,r1,q1⟩=>?_;obtain ⟨a,e,⟨xs,hq⟩,q⟩:=q1;subst e;cases r1;obtain ⟨its,rv,p,hz⟩:=I1.tuple hq;refine t2w (show s1.heap.IsTuple a its.toArray from p) ?_;refine ⟨s1.heap.objs.size,[s1.heap.objs.size],_,_,H1,rfl,I1.kept (t':=s1.toks) λ b o e=>t0f _ e,y2d a _,⟨_,t0r _ rfl,rfl,rfl⟩,λ b hb=>?_,q⟩;have e:b=s1.heap.objs.size:=by simpa using hb
 subst e;exact I1.fpOk (t0n _) (I1.hok.fresh (t0n _))
theorem x9m {R:It->Hp->Prop}{lo hi:Int}{tk:Nat}(I:Inv X pins σ H s) (h1:-(2 ^ 62)≤lo) (h2:lo < 2 ^ 62) (h3:-(2 ^ 62)≤hi) (h4:hi < 2 ^ 62)
  (q:R (Itr lo (hi - lo).toNat) H):wpAny (model X.prog X.w) X.A (pyIter (.ref s.heap.objs.size)) (PIE X pins σ tg R) E { s with heap:=s.heap.push { cls:=.type "range",data:=.fields #[.int lo t,.int hi u,.int 1 v] },toks:=tk }:=by
 refine wpAny_pyIter_range (IsRange.new ..) (small_one h1 h2 h3 h4) ?_;have I1:Inv X pins σ H { s with heap:=s.heap.push { cls:=.type "range",data:=.fields #[.int lo t,.int hi u,.int 1 v] },toks:=tk }:=I.kept λ b o e=>t0f _ e
 refine ⟨(s.heap.push { cls:=.type "range",data:=.fields #[.int lo t,.int hi u,.int 1 v] }).objs.size,[(s.heap.push { cls:=.type "range",data:=.fields #[.int lo t,.int hi u,.int 1 v] }).objs.size],_,_,H,rfl,
  I1.kept (t':=tk) λ b o e=>t0f _ e,x0x _ lo (hi - lo).toNat,?_,λ b hb=>?_,q⟩
 ·have e1:lo+((0:Nat):Int) * 1=lo:=by simp
  have e2:(((hi - lo).toNat:Nat):Int) - ((0:Nat):Int)=Builtin.Range.rangeSize lo hi 1:=by rw [rangeSize_one];split<;>lia
  show IsRangeIter _ _ (lo+((0:Nat):Int) * 1) ((((hi - lo).toNat:Nat):Int) - ((0:Nat):Int)) 1;rw [e1,e2];exact t0r _ rfl
 ·have e:b=(s.heap.push { cls:=.type "range",data:=.fields #[.int lo t,.int hi u,.int 1 v] }).objs.size:=by simpa using hb
  subst e;exact I1.fpOk (t0n _) (I1.hok.fresh (t0n _))
def w0r (ta:TA):TI:=λ σ H R=>ta σ H λ vs H1=>∃j:Int,vs=[.int j]/\-(2 ^ 62)≤j/\j < 2 ^ 62/\R (Itr 0 j.toNat) H1
theorem z2j {a:Expr}{p pos:Pos}(hg:Gl X "range") (hm:X.mg "range"=none) (ha:PA X [a] ta) (hs:starEach [a] X.env=[(false,eval a X.env)]:=by rfl):PI X tg (.Call (.Name "range" p) [a] [] pos) (w0r ta):=by
 intro pins s σ H R I h;refine Call_ (z5d I hg hm s1j (t1t (thn (ha pos pins s σ H _ I h) λ us s1 ⟨vs,H1,I1,r1,q1⟩=>?_) hs rfl));obtain ⟨j,e,q1,q2,q⟩:=q1;subst e
 cases r1 with
 | cons r rr =>
  cases rr;obtain ⟨t,rfl⟩:=r;exact call_range_1 (x9m I1 (by lia) (by lia) q1 q2 (by simpa using q))
noncomputable def w2b (wi:TI) (g:TG) (tb:TS):TS:=λ D σ H=>wi σ H λ J H1=>∃W:Nat->Nat->St->Hp->Prop,(∃m,W 0 m σ H1)/\∀i m σ H,W i m σ H ->
 (J.stop i H/\D.nx σ H)\/(J.go i H/\∃N:St->Hp->Prop,(∀σ' H',N σ' H'->∃m',m' < m/\W (i+1) m' σ' H')/\∀x H',J.yld i H x H'->g x σ H' λ σ2 H2=>tb { D with nx:=N,ct:=N,bk:=D.nx } σ2 H2)
def y9v (fp:List Addr) (h:Heap):LO:=fp.filterMap λ b=>(h.get? b).map λ o=>(b,o)
theorem z4t {fp:List Addr}{h:Heap}{b:Addr}(hb:b∈fp) (e:h.get? b=some o):(b,o)∈y9v fp h:=s0r.mpr ⟨b,hb,by rw [e];rfl⟩
theorem x5r {fp:List Addr}{h:Heap}{p:Addr × Obj}(hp:p∈y9v fp h):p.1∈fp/\h.get? p.1=some p.2:=by
 obtain ⟨b,hb,e⟩:=s0r.mp hp
 cases q:h.get? b with
 | none=>rw [q] at e;cases e
 | some o =>
  rw [q] at e;have e':(b,o)=p:=t1i e;subst e';exact ⟨hb,q⟩
theorem Inv.pinned {fp:List Addr}(I:Inv X pins σ H s) (hf:∀b∈fp,w3i X pins H b) (ho:∀b∈fp,∃o,s.heap.get? b=some o/\∀v,o.data≠.cell v):Inv X (pins++y9v fp s.heap) σ H s :=
 I.pins_of λ p hp=>(t1n.mp hp).elim (λ z=>I.pin p (t1g _ z)) λ z=>by
  obtain ⟨hb,e⟩:=x5r z;obtain ⟨f0,f1,f2,_⟩:=hf p.1 hb;obtain ⟨o,e',d⟩:=ho p.1 hb;rw [e] at e';cases e';exact ⟨e,f0,f1,f2,d⟩
theorem Inv.unpinned {pins pl:LO}(I:Inv X (pins++pl) σ H s):Inv X pins σ H s:=I.pins_of λ p hp=>I.pin p (t1g _ (t3y _ hp))
theorem z3g {iter:Expr}(hp:PassesOwn (model X.prog X.w) X.A X.env X.xe) (hc:X.calm=true) (hi:PI X tg iter wi) (hg:PG X tg g) (hb:PSs X body tb)
  (hs:∀x,foldedSetIterable iter X.env x=pure x:=by intro _;rfl):PS X (.For tg iter body [] pos) (w2b wi g tb):=by
 intro pins s σ H D I h;refine wpAny_For (thn (hi pins s σ H _ I h) λ v s1 h1=>thn h1 λ itv s2 h2=>?_) hs;obtain ⟨it,fp,tn,J,H2,e,I2,T,st2,f2,W,⟨m0,w0⟩,turn⟩:=h2;subst e;have stat:∀ {H':Hp},(∀b∈fp,H' b=none)->∀b∈fp,w3i X pins H' b:=λ hn b hb=>⟨hn b hb,(f2 b hb).2⟩;refine codeAny_forLoop_any (λ n s'=>∃i σ' H',Inv X pins σ' H' s'/\tn i s'.heap/\(∀b∈fp,H' b=none)/\W i n σ' H') ?_ m0 ⟨0,σ,H2,I2,st2,λ b hb=>(f2 b hb).1,w0⟩;rintro n s3 ⟨i,σ3,H3,I3,st3,fr3,w3⟩
 rcases turn i n σ3 H3 w3 with ⟨stop,qn⟩ | ⟨go,N,hN,step⟩
 ·refine t6b hp (thn (T.done X rfl rfl rfl hc i pins s3 σ3 H3 X.xe I3 (stat fr3) st3 stop) λ r s4 ⟨hr,I4⟩=>?_);subst hr;exact t7s ⟨σ3,H3,I4,qn⟩
 ·refine t6b hp (thn (T.item X rfl rfl rfl hc i pins s3 σ3 H3 X.xe I3 (stat fr3) st3 go) λ r s4 ⟨u,hr,h4⟩=>?_);subst hr;refine t6b hp (thn h4 λ _ s5 ⟨x,H5,I5,r5,y5,st5,fr5⟩=>?_);have I5':=I5.pinned (stat fr5) (T.obj _ _ st5);refine t6b hp (thn (hg _ s5 σ3 H5 x u _ I5' r5 (step x H5 y5)) λ _ s6 ⟨σ6,H6,I6,q6⟩=>?_);refine t6b hp (thn (hb _ s6 σ6 H6 _ I6 q6) λ f s7 q7=>?_)
  have again:∀ {σ7:St}{H7:Hp},Inv X (pins++y9v fp s5.heap) σ7 H7 s7->N σ7 H7->∃m,m < n/\∃i σ' H',Inv X pins σ' H' s7/\tn i s7.heap/\(∀b∈fp,H' b=none)/\W i m σ' H':=λ {σ7 H7} I7 n7=>by
   obtain ⟨m',hm,w7⟩:=hN σ7 H7 n7;refine ⟨m',hm,i+1,σ7,H7,I7.unpinned,T.keep _ _ _ st5 λ b hb o e=>(I7.pin (b,o) (t1g _ (t1g _ (z4t hb e)))).1,λ b hb=>?_,w7⟩;obtain ⟨o,e,d⟩:=T.obj _ _ st5 b hb;exact (I7.pin (b,o) (t1g _ (t1g _ (z4t hb e)))).2.1
  cases f with
  | next=>obtain ⟨σ7,H7,I7,n7⟩:=q7;exact again I7 n7
  | cont=>obtain ⟨σ7,H7,I7,n7⟩:=q7;exact again I7 n7
  | brk=>obtain ⟨σ7,H7,I7,q7⟩:=q7;exact ⟨σ7,H7,I7.unpinned,q7⟩
  | ret v=>obtain ⟨x7,σ7,H7,I7,r7,q7⟩:=q7;exact ⟨x7,σ7,H7,I7.unpinned,r7,q7⟩
end
theorem w0z {K:PySem.W.Frag}{xs:List V}{g:TG}{tb:TS}{D:Ends}(Pv:Nat->St->Hp->Prop) (h0:Pv 0 σ H) (hl:∀i σ H,i≤xs.length->Pv i σ H->SqL K H a xs)
  (hs:∀i x σ H,xs[i]?=some x->Pv i σ H->g x σ H λ σ2 H2=>tb { D with nx:=Pv (i+1),ct:=Pv (i+1),bk:=D.nx } σ2 H2) (hd:∀σ H,Pv xs.length σ H->D.nx σ H) :
  ∃W:Nat->Nat->St->Hp->Prop,(∃m,W 0 m σ H)/\∀i m σ H,W i m σ H ->
   ((Itl K a).stop i H/\D.nx σ H)\/((Itl K a).go i H/\∃N:St->Hp->Prop,(∀σ' H',N σ' H'->∃m',m' < m/\W (i+1) m' σ' H')/\∀x H',(Itl K a).yld i H x H'->g x σ H' λ σ2 H2=>tb { D with nx:=N,ct:=N,bk:=D.nx } σ2 H2):=by
 refine ⟨λ i m σ H=>m=xs.length - i/\i≤xs.length/\Pv i σ H,⟨xs.length,by simp,t0x _,h0⟩,?_⟩;rintro i m σ H ⟨rfl,hi,p⟩;have q:=hl i σ H hi p;by_cases hlt:i < xs.length
 ·refine .inr ⟨⟨xs,xs[i],q,by simp [hlt]⟩,Pv (i+1),λ σ' H' p'=>⟨xs.length - (i+1),by lia,rfl,hlt,p'⟩,λ x H' y=>?_⟩;obtain ⟨e,y⟩:=y;subst e;exact hs i x σ _ (y xs q) p
 ·have e:i=xs.length:=by lia
  subst e;exact .inl ⟨⟨xs,q,t0n _⟩,hd σ H p⟩
theorem w5g {K:PySem.W.Frag}{xs:List V}{g:TG}{tb:TS}{D:Ends}(Pv:Nat->St->Hp->Prop) (h0:Pv 0 σ H) (hl:∀i σ H,i≤xs.length->Pv i σ H->SqT K H a xs)
  (hs:∀i x σ H,xs[i]?=some x->Pv i σ H->g x σ H λ σ2 H2=>tb { D with nx:=Pv (i+1),ct:=Pv (i+1),bk:=D.nx } σ2 H2) (hd:∀σ H,Pv xs.length σ H->D.nx σ H) :
  ∃W:Nat->Nat->St->Hp->Prop,(∃m,W 0 m σ H)/\∀i m σ H,W i m σ H ->
   ((Itt K a).stop i H/\D.nx σ H)\/((Itt K a).go i H/\∃N:St->Hp->Prop,(∀σ' H',N σ' H'->∃m',m' < m/\W (i+1) m' σ' H')/\∀x H',(Itt K a).yld i H x H'->g x σ H' λ σ2 H2=>tb { D with nx:=N,ct:=N,bk:=D.nx } σ2 H2):=by
 refine ⟨λ i m σ H=>m=xs.length - i/\i≤xs.length/\Pv i σ H,⟨xs.length,by simp,t0x _,h0⟩,?_⟩;rintro i m σ H ⟨rfl,hi,p⟩;have q:=hl i σ H hi p;by_cases hlt:i < xs.length
 ·refine .inr ⟨⟨xs,xs[i],q,by simp [hlt]⟩,Pv (i+1),λ σ' H' p'=>⟨xs.length - (i+1),by lia,rfl,hlt,p'⟩,λ x H' y=>?_⟩;obtain ⟨e,y⟩:=y;subst e;exact hs i x σ _ (y xs q) p
 ·have e:i=xs.length:=by lia
  subst e;exact .inl ⟨⟨xs,q,t0n _⟩,hd σ H p⟩
theorem x6x {lo:Int}{n:Nat}{g:TG}{tb:TS}{D:Ends}(Pv:Nat->St->Hp->Prop) (h0:Pv 0 σ H)
  (hs:∀i σ H,i < n->Pv i σ H->g (.int (lo+i)) σ H λ σ2 H2=>tb { D with nx:=Pv (i+1),ct:=Pv (i+1),bk:=D.nx } σ2 H2) (hd:∀σ H,Pv n σ H->D.nx σ H) :
  ∃W:Nat->Nat->St->Hp->Prop,(∃m,W 0 m σ H)/\∀i m σ H,W i m σ H ->
   ((Itr lo n).stop i H/\D.nx σ H)\/((Itr lo n).go i H/\∃N:St->Hp->Prop,(∀σ' H',N σ' H'->∃m',m' < m/\W (i+1) m' σ' H')/\∀x H',(Itr lo n).yld i H x H'->g x σ H' λ σ2 H2=>tb { D with nx:=N,ct:=N,bk:=D.nx } σ2 H2):=by
 refine ⟨λ i m σ H=>m=n - i/\i≤n/\Pv i σ H,⟨n,by simp,t0x _,h0⟩,?_⟩;rintro i m σ H ⟨rfl,hi,p⟩;by_cases hlt:i < n
 ·refine .inr ⟨hlt,Pv (i+1),λ σ' H' p'=>⟨n - (i+1),by lia,rfl,hlt,p'⟩,λ x H' y=>?_⟩;obtain ⟨e,y⟩:=y;subst e y;exact hs i σ _ hlt p
 ·have e:i=n:=by lia
  subst e;exact .inl ⟨t0n _,hd σ H p⟩
abbrev R2:=V->V->Hp->VK->Prop
noncomputable def OpR (X:Cx) (f:Value->Value->Sem Value) (r:R2):Prop :=
 ∀(pins:LO) (s:Shared) (σ:St) (H:Hp) (x y:V) (v u:Value) (Q:VK),Inv X pins σ H s->RelV x v->RelV y u->r x y H Q ->
  wpAny (model X.prog X.w) X.A (f v u) (EP X pins σ Q) X.xe s
noncomputable def UnR (X:Cx) (f:Value->Sem Value) (r:V->Hp->VK->Prop):Prop :=
 ∀(pins:LO) (s:Shared) (σ:St) (H:Hp) (x:V) (v:Value) (Q:VK),Inv X pins σ H s->RelV x v->r x H Q ->
  wpAny (model X.prog X.w) X.A (f v) (EP X pins σ Q) X.xe s
noncomputable def z4s (X:Cx) (f:Value) (r:List V->Hp->VK->Prop):Prop :=
 ∀(pins:LO) (s:Shared) (σ:St) (H:Hp) (xs:List V) (us:LV) (Q:VK),Inv X pins σ H s->Vals xs us->r xs H Q ->
  wpAny (model X.prog X.w) X.A (call f us) (EP X pins σ Q) X.xe s
def tOp (r:R2) (ta tb:TE):TE:=λ σ H Q=>ta σ H λ x H1=>tb σ H1 λ y H2=>r x y H2 Q
def tUn (r:V->Hp->VK->Prop) (ta:TE):TE:=λ σ H Q=>ta σ H λ x H1=>r x H1 Q
def rI (C:Int->Int->Prop) (g:Int->Int->V):R2:=λ x y H Q=>v0i x y λ i j=>C i j/\Q (g i j) H
def rI0 (g:Int->Int->V):R2:=λ x y H Q=>v0i x y λ i j=>Q (g i j) H
def rU (g:Int->V):V->Hp->VK->Prop:=λ x H Q=>isI x λ i=>Q (g i) H
section
variable {X:Cx}{a b c:Expr}{ta tb tc:TE}{pos:Pos}
theorem v3n (ha:PE X a ta) (hb:PE X b tb){R:V->V->Hp->Prop}(I:Inv X pins σ H s)
  (h:ta σ H λ x H1=>tb σ H1 λ y H2=>R x y H2){f:Value->Value->Sem Value}
  (hf:∀v u s2 x y H2,Inv X pins σ H2 s2->RelV x v->RelV y u->R x y H2->wpAny (model X.prog X.w) X.A (f v u) Q X.xe s2) :
  wpAny (model X.prog X.w) X.A (eval a X.env) (λ v s₁=>wpAny (model X.prog X.w) X.A (eval b X.env) (λ u s₂=>wpAny (model X.prog X.w) X.A (f v u) Q X.xe s₂) X.xe s₁) X.xe s:=by
 refine thn (ha pins s σ H _ I h) λ v s1 ⟨x,H1,I1,r1,q1⟩=>?_;refine thn (hb pins s1 σ H1 _ I1 q1) λ u s2 ⟨y,H2,I2,r2,q2⟩=>?_;exact hf v u s2 x y H2 I2 r1 r2 q2
theorem z0m (ho:OpR X (binaryOp op) r) (ha:PE X a ta) (hb:PE X b tb):PE X (.BinOp a op b pos) (tOp r ta tb):=by
 intro pins s σ H Q I h;exact wpAny_BinOp (v3n ha hb I h λ v u s2 x y H2 I2 rx ry q=>ho pins s2 σ H2 x y v u Q I2 rx ry q)
theorem x1f (ho:UnR X (unaryOp op) r) (ha:PE X a ta):PE X (.UnaryOp op a pos) (tUn r ta):=by
 intro pins s σ H Q I h;exact UnaryOp_ (thn (ha pins s σ H _ I h) λ v s1 ⟨x,H1,I1,r1,q1⟩=>ho pins s1 σ H1 x v Q I1 r1 q1)
theorem opI {f:Value->Value->Sem Value}{C:Int->Int->Prop}{g:Int->Int->Int}
  (rule:∀(i j:Int) (t u:Tok) (s:Shared) (Q:VS) (E:VS),C i j->Q (.int (g i j) s.toks) { s with toks:=s.toks+1 }->wpAny (model X.prog X.w) X.A (f (.int i t) (.int j u)) Q E s) :
  OpR X f (rI C λ i j=>.int (g i j)):=by
 intro pins s σ H x y v u Q I rx ry h;obtain ⟨i,j,rfl,rfl,hc,q⟩:=y0e h;obtain ⟨t,rfl⟩:=rx;obtain ⟨t',rfl⟩:=ry;exact rule i j t t' s _ _ hc ⟨.int (g i j),H,I.tok _,⟨_,rfl⟩,q⟩
theorem w8x {f:Value->Value->Sem Value}{g:Int->Int->Int}
  (rule:∀(i j:Int) (t u:Tok) (s:Shared) (Q:VS) (E:VS),Q (.int (g i j) s.toks) { s with toks:=s.toks+1 }->wpAny (model X.prog X.w) X.A (f (.int i t) (.int j u)) Q E s) :
  OpR X f (rI0 λ i j=>.int (g i j)):=by
 intro pins s σ H x y v u Q I rx ry h;obtain ⟨i,j,rfl,rfl,q⟩:=y0e h;obtain ⟨t,rfl⟩:=rx;obtain ⟨t',rfl⟩:=ry;exact rule i j t t' s _ _ ⟨.int (g i j),H,I.tok _,⟨_,rfl⟩,q⟩
theorem v1j {f:Value->Value->Sem Value}{g:Int->Int->Bool}
  (rule:∀(i j:Int) (t u:Tok) (s:Shared) (Q:VS) (E:VS),Q (.bool (g i j)) s->wpAny (model X.prog X.w) X.A (f (.int i t) (.int j u)) Q E s) :
  OpR X f (rI0 λ i j=>.bl (g i j)):=by
 intro pins s σ H x y v u Q I rx ry h;obtain ⟨i,j,rfl,rfl,q⟩:=y0e h;obtain ⟨t,rfl⟩:=rx;obtain ⟨t',rfl⟩:=ry;exact rule i j t t' s _ _ ⟨.bl (g i j),H,I,rfl,q⟩
def v5s (i j:Int):Prop:=0 < j/\j < 1073741824
def v5r (i j:Int):Prop:=0≤j/\j≤1000000/\i.natAbs < 2 ^ 64
def CMul (i j:Int):Prop:=(-(2 ^ 64) < i/\i < 2 ^ 64)\/(-(2 ^ 64) < j/\j < 2 ^ 64)
theorem CMul.ok (h:CMul i j):IntMulOk i j:=by
 rcases h with ⟨h1,h2⟩ | ⟨h1,h2⟩
 ·exact .of_left (intBits_le_64 h1 h2)
 ·exact .of_right (intBits_le_64 h1 h2)
theorem z2g:OpR X (binaryOp .Add) (rI0 λ i j=>.int (i+j)):=w8x λ _ _ _ _ _ _ _ q=>add_int q
theorem z4e:OpR X (binaryOp .Sub) (rI0 λ i j=>.int (i - j)):=w8x λ _ _ _ _ _ _ _ q=>sub_int q
theorem z5b:OpR X (binaryOp .Mult) (rI CMul λ i j=>.int (i * j)):=opI λ _ _ _ _ _ _ _ hc q=>mul_int q hc.ok
theorem z3o:OpR X (binaryOp .FloorDiv) (rI v5s λ i j=>.int (i / j)):=opI λ i j _ _ _ _ _ hc q=>by
 have h1:(0:Int) < j:=hc.1;have h2:j < 1073741824:=hc.2;exact floordiv_int (by lia) (by rw [t2r i (by lia)];exact q) (.inl (PyProof.noPylong_small (by lia)))
theorem z2d:OpR X (binaryOp .Mod) (rI (λ _ j=>0 < j) λ i j=>.int (i % j)):=opI λ i j _ _ _ _ _ hc q=>by
 have h1:(0:Int) < j:=hc;exact mod_int' (by lia) (by rw [t4f i (by lia)];exact q)
theorem z2l:OpR X (binaryOp .Mod) (rI (λ _ j=>j≠0) λ i j=>.int (i.fmod j)):=opI λ _ _ _ _ _ _ _ hc q=>mod_int' hc q
theorem z8f:OpR X (binaryOp .Pow) (rI v5r λ i j=>.int (i ^ j.toNat)):=opI λ _ _ _ _ _ _ _ hc q=>pow_int_small hc.1 hc.2.1 hc.2.2 q
theorem w8w:OpR X (binaryOp .BitAnd) (rI0 λ i j=>.int (Builtin.bitAnd i j)):=w8x λ _ _ _ _ _ _ _ q=>and_int q
theorem v2h:OpR X (binaryOp .BitOr) (rI0 λ i j=>.int (Builtin.bitOr i j)):=w8x λ _ _ _ _ _ _ _ q=>or_int q
theorem w8u:OpR X (binaryOp .BitXor) (rI0 λ i j=>.int (Builtin.bitXor i j)):=w8x λ _ _ _ _ _ _ _ q=>xor_int q
theorem unI {f:Value->Sem Value}{g:Int->Int}
  (rule:∀(i:Int) (t:Tok) (s:Shared) (Q:VS) (E:VS),Q (.int (g i) s.toks) { s with toks:=s.toks+1 }->wpAny (model X.prog X.w) X.A (f (.int i t)) Q E s) :
  UnR X f (rU λ i=>.int (g i)):=by
 intro pins s σ H x v Q I rx h;obtain ⟨i,rfl,q⟩:=y8c h;obtain ⟨t,rfl⟩:=rx;exact rule i t s _ _ ⟨.int (g i),H,I.tok _,⟨_,rfl⟩,q⟩
theorem y2c:UnR X (unaryOp .USub) (rU λ i=>.int (-i)):=unI λ _ _ _ _ _ q=>neg_int q
end
noncomputable def x3u:V->V->Bool
 | .non,.non=>true | .non,.int _=>true | .int _,.non=>true | .non,.bl _=>true | .bl _,.non=>true | .non,.str _=>true | .str _,.non=>true
 | .int _,.int _=>true | .bl _,.bl _=>true | .str _,.str _=>true | .byt _,.byt _=>true
 | .int _,.str _=>true | .str _,.int _=>true | .bl _,.str _=>true | .str _,.bl _=>true
 | _,_=>false
noncomputable def rEq:R2:=λ x y H Q=>match x,y with
 | .int i,.int j=>Q (.bl (decide (i=j))) H
 | .str i,.str j=>Q (.bl (decide (i=j))) H
 | x,y=>x3u x y=true/\Q (.bl (decide (x=y))) H
theorem rEq_ex:rEq x y H Q=(x3u x y=true/\Q (.bl (decide (x=y))) H):=by
 unfold rEq;split
 ·rename_i i j;rw [show decide (V.int i=V.int j)=decide (i=j) by simp];simp [x3u]
 ·rename_i i j;rw [show decide (V.str i=V.str j)=decide (i=j) by simp];simp [x3u]
 ·rfl
theorem w4a (h:rEq x y H Q):x3u x y=true/\Q (.bl (decide (x=y))) H:=rEq_ex.mp h
noncomputable def rNe:R2:=λ x y H Q=>match x,y with
 | .int i,.int j=>Q (.bl (!decide (i=j))) H
 | .str i,.str j=>Q (.bl (!decide (i=j))) H
 | x,y=>x3u x y=true/\Q (.bl (!decide (x=y))) H
theorem rNe_ex:rNe x y H Q=(x3u x y=true/\Q (.bl (!decide (x=y))) H):=by
 unfold rNe;split
 ·rename_i i j;rw [show decide (V.int i=V.int j)=decide (i=j) by simp];simp [x3u]
 ·rename_i i j;rw [show decide (V.str i=V.str j)=decide (i=j) by simp];simp [x3u]
 ·rfl
theorem w3z (h:rNe x y H Q):x3u x y=true/\Q (.bl (!decide (x=y))) H:=rNe_ex.mp h
theorem x7k:decide (V.int i=V.int j)=(i == j):=by
 rw [t7t];simp
theorem w3g:decide (V.bl i=V.bl j)=(i == j):=by
 rw [t7t];simp
theorem x7j:decide (V.str i=V.str j)=(i == j):=by
 rw [t7t];simp
theorem x7l:decide (V.byt i=V.byt j)=(i.toList == j.toList):=by
 rw [t7t];cases i;cases j;simp
section
variable {X:Cx}{a b c:Expr}{ta tb tc:TE}{pos:Pos}
theorem z1w {Q:VK}{k k':Bool}(I:Inv X pins σ H s) (q:Q (.bl k) H) (e:k=k'):EP X pins σ Q (.bool k') s:=by
 subst e;exact ⟨.bl k,H,I,rfl,q⟩
theorem z0z:OpR X (compareOp .Eq) rEq:=by
 intro pins s σ H x y v u Q I rx ry h;obtain ⟨hs,q⟩:=w4a h
 cases x with
 | non =>
  cases rx
  cases y with
  | non=>cases ry;exact PySem.EqNone.eq_none_none (z1w I q (by simp))
  | bl j=>cases ry;exact PySem.EqNone.eq_none_bool (z1w I q (by simp))
  | int j=>obtain ⟨t',rfl⟩:=ry;exact PySem.EqNone.eq_none_int (z1w I q (by simp))
  | str j=>obtain ⟨t',rfl⟩:=ry;exact PySem.EqNone.eq_none_str (z1w I q (by simp))
  | _=>exact absurd (show false=true from hs) t1e
 | bl i =>
  cases rx
  cases y with
  | non=>cases ry;exact PySem.EqNone.eq_bool_none (z1w I q (by simp))
  | bl j=>cases ry;exact eq_bool (z1w I q w3g)
  | str j=>obtain ⟨t',rfl⟩:=ry;exact PySem.EqMixed.eq_bool_str (z1w I q (by simp))
  | _=>exact absurd (show false=true from hs) t1e
 | int i =>
  obtain ⟨t,rfl⟩:=rx
  cases y with
  | non=>cases ry;exact PySem.EqNone.eq_int_none (z1w I q (by simp))
  | int j=>obtain ⟨t',rfl⟩:=ry;exact eq_int (z1w I q x7k)
  | str j=>obtain ⟨t',rfl⟩:=ry;exact PySem.EqMixed.eq_int_str (z1w I q (by simp))
  | _=>exact absurd (show false=true from hs) t1e
 | str i =>
  obtain ⟨t,rfl⟩:=rx
  cases y with
  | non=>cases ry;exact PySem.EqNone.eq_str_none (z1w I q (by simp))
  | bl j=>cases ry;exact PySem.EqMixed.eq_str_bool (z1w I q (by simp))
  | int j=>obtain ⟨t',rfl⟩:=ry;exact PySem.EqMixed.eq_str_int (z1w I q (by simp))
  | str j=>obtain ⟨t',rfl⟩:=ry;exact eq_str (z1w I q x7j)
  | _=>exact absurd (show false=true from hs) t1e
 | byt i =>
  obtain ⟨t,rfl⟩:=rx
  cases y with
  | byt j=>obtain ⟨t',rfl⟩:=ry;exact W.eq_bytes (z1w I q x7l)
  | _=>exact absurd (show false=true from hs) t1e
 | _=>cases y<;>exact absurd (show false=true from hs) t1e
theorem z8g:OpR X (compareOp .NotEq) rNe:=by
 intro pins s σ H x y v u Q I rx ry h;obtain ⟨hs,q⟩:=w3z h
 cases x with
 | non =>
  cases rx
  cases y with
  | non=>cases ry;exact PySem.EqNone.ne_none_none (z1w I q (by simp))
  | bl j=>cases ry;exact PySem.EqNone.ne_none_bool (z1w I q (by simp))
  | int j=>obtain ⟨t',rfl⟩:=ry;exact PySem.EqNone.ne_none_int (z1w I q (by simp))
  | str j=>obtain ⟨t',rfl⟩:=ry;exact PySem.EqNone.ne_none_str (z1w I q (by simp))
  | _=>exact absurd (show false=true from hs) t1e
 | bl i =>
  cases rx
  cases y with
  | non=>cases ry;exact PySem.EqNone.ne_bool_none (z1w I q (by simp))
  | bl j=>cases ry;exact ne_bool (z1w I q (t3p not w3g))
  | str j=>obtain ⟨t',rfl⟩:=ry;exact PySem.EqMixed.ne_bool_str (z1w I q (by simp))
  | _=>exact absurd (show false=true from hs) t1e
 | int i =>
  obtain ⟨t,rfl⟩:=rx
  cases y with
  | non=>cases ry;exact PySem.EqNone.ne_int_none (z1w I q (by simp))
  | int j=>obtain ⟨t',rfl⟩:=ry;exact ne_int (z1w I q (t3p not x7k))
  | str j=>obtain ⟨t',rfl⟩:=ry;exact PySem.EqMixed.ne_int_str (z1w I q (by simp))
  | _=>exact absurd (show false=true from hs) t1e
 | str i =>
  obtain ⟨t,rfl⟩:=rx
  cases y with
  | non=>cases ry;exact PySem.EqNone.ne_str_none (z1w I q (by simp))
  | bl j=>cases ry;exact PySem.EqMixed.ne_str_bool (z1w I q (by simp))
  | int j=>obtain ⟨t',rfl⟩:=ry;exact PySem.EqMixed.ne_str_int (z1w I q (by simp))
  | str j=>obtain ⟨t',rfl⟩:=ry;exact ne_str (z1w I q (t3p not x7j))
  | _=>exact absurd (show false=true from hs) t1e
 | byt i =>
  obtain ⟨t,rfl⟩:=rx
  cases y with
  | byt j=>obtain ⟨t',rfl⟩:=ry;exact W.ne_bytes (z1w I q (t3p not x7l))
  | _=>exact absurd (show false=true from hs) t1e
 | _=>cases y<;>exact absurd (show false=true from hs) t1e
theorem z6a:OpR X (compareOp .Lt) (rI0 λ i j=>.bl (decide (i < j))):=v1j λ _ _ _ _ _ _ _ q=>lt_int q
theorem x9w:OpR X (compareOp .LtE) (rI0 λ i j=>.bl (decide (i≤j))):=v1j λ _ _ _ _ _ _ _ q=>le_int q
theorem z8w:OpR X (compareOp .Gt) (rI0 λ i j=>.bl (decide (j < i))):=v1j λ _ _ _ _ _ _ _ q=>gt_int q
theorem y7i:OpR X (compareOp .GtE) (rI0 λ i j=>.bl (decide (j≤i))):=v1j λ _ _ _ _ _ _ _ q=>ge_int q
theorem x4u:OpR X (compareOp .IsNot) (λ x y H Q=>y=.non/\Q (.bl (!decide (x=.non))) H):=by
 intro pins s σ H x y v u Q I rx ry h;obtain ⟨rfl,q⟩:=h;cases ry;refine isnot_none_gen (z1w I q ?_)
 cases x<;>first
  | (cases rx;rfl)
  | (obtain ⟨t,rfl⟩:=rx;rfl)
theorem z9m (b:Expr) {op:CmpOp}(h:op≠.In:=by decide) (h2:op≠.NotIn:=by decide):behindInMarks op b=false:=by
 have e1:(op == CmpOp.In)=false:=by cases op<;>first | rfl | exact absurd rfl h
 have e2:(op == CmpOp.NotIn)=false:=by cases op<;>first | rfl | exact absurd rfl h2
 cases b<;>simp [behindInMarks,e1,e2]
theorem z7j (ho:OpR X (compareOp op) r) (ha:PE X a ta) (hb:PE X b tb) (hm:behindInMarks op b=false):PE X (.Compare a [op] [b] pos) (tOp r ta tb):=by
 intro pins s σ H Q I h;exact wpAny_Compare1 (v3n ha hb I h λ v u s2 x y H2 I2 rx ry q=>ho pins s2 σ H2 x y v u Q I2 rx ry q) hm
def x8v (t:TE):TT:=λ σ H Q=>t σ H λ x H'=>isB x λ k=>Q k H'
theorem y7d (ho:OpR X (compareOp op) r) (ha:PE X a ta) (hb:PE X b tb) (hm:behindInMarks op b=false):PT X (.Compare a [op] [b] pos) (x8v (tOp r ta tb)):=by
 intro pins s σ H Q I h
 refine wpAny_isTrue_Compare1 (thn (ha pins s σ H _ I h) λ v s1 ⟨x,H1,I1,r1,q1⟩=>thn (hb pins s1 σ H1 _ I1 q1) λ u s2 ⟨y,H2,I2,r2,q2⟩ =>
  thn (ho pins s2 σ H2 x y v u _ I2 r1 r2 q2) λ c s3 ⟨z,H3,I3,r3,q3⟩=>?_) hm
 obtain ⟨k,e,q3⟩:=z7l q3;subst e;cases r3;exact t3i ⟨H3,I3,q3⟩
noncomputable def w2c (r r':R2) (ta tb tc:TE):TE:=λ σ H Q=>ta σ H λ x H1=>tb σ H1 λ y H2=>r x y H2 λ z H3=>∃k,z=.bl k /\
 (if k=true then tc σ H3 λ w' H4=>r' y w' H4 Q else Q (.bl false) H3)
theorem x9n (ho:OpR X (compareOp op) r) (ho':OpR X (compareOp op') r') (ha:PE X a ta) (hb:PE X b tb) (hc:PE X c tc)
  (hm:lastMarks [op,op'] [b,c]=false:=by with_unfolding_all rfl):PT X (.Compare a [op,op'] [b,c] pos) (x8v (w2c r r' ta tb tc)):=by
 intro pins s σ H Q I h
 refine isTrue_chain (thn (ha pins s σ H _ I h) λ v s1 ⟨x,H1,I1,r1,q1⟩=>test_link (thn (hb pins s1 σ H1 _ I1 q1) λ u s2 ⟨y,H2,I2,r2,q2⟩ =>
  thn (ho pins s2 σ H2 x y v u _ I2 r1 r2 q2) λ d s3 ⟨z,H3,I3,r3,k,e,q3⟩=>?_)) hm
 subst e;cases r3;refine t3i ?_
 cases k with
 | false =>
  obtain ⟨k',e',q'⟩:=z7l (show isB (V.bl false) (λ k=>Q k H3) from q3);cases e';exact ite_ff ⟨H3,I3,q'⟩
 | true =>
  refine ite_tt (test_last (thn (hc pins s3 σ H3 _ I3 q3) λ w' s4 ⟨z',H4,I4,r4,q4⟩=>thn (ho' pins s4 σ H4 y z' u w' _ I4 r2 r4 q4) λ d' s5 ⟨z2,H5,I5,r5,q5⟩=>?_));obtain ⟨k2,e2,q5⟩:=z7l q5;subst e2;cases r5;exact t3i ⟨H5,I5,q5⟩
theorem x0c:(sizeLine:Nat) < 2 ^ 63:=by rw [s0f];decide
theorem z6g {x:V}(r:Vals [x] us):∃u,us=[u]/\RelV x u:=by
 cases r with
 | cons r1 r2=>cases r2;exact ⟨_,rfl,r1⟩
theorem x0w {x y:V}(r:Vals [x,y] us):∃u w',us=[u,w']/\RelV x u/\RelV y w':=by
 cases r with
 | cons r1 r2 =>
  cases r2 with
  | cons r3 r4=>cases r4;exact ⟨_,_,rfl,r1,r3⟩
theorem w1q:z4s X (.builtin "abs") (λ xs H Q=>∃i,xs=[.int i]/\Q (.int (if i < 0 then -i else i)) H):=by
 intro pins s σ H xs us Q I r h;obtain ⟨i,rfl,q⟩:=h;obtain ⟨u,rfl,t,rfl⟩:=z6g r;exact call_abs_int λ u tk=>⟨.int (if i < 0 then -i else i),H,I.tok _,⟨_,rfl⟩,q⟩
theorem z6r (hc:X.calm=true):z4s X (.builtin "max") (λ xs H Q=>∃i j,xs=[.int i,.int j]/\Q (.int (if j > i then j else i)) H):=by
 intro pins s σ H xs us Q I r h;obtain ⟨i,j,rfl,q⟩:=h;obtain ⟨u,w',rfl,⟨t,rfl⟩,⟨t',rfl⟩⟩:=x0w r;refine max_two_ints (I.ok.hd hc) λ h' tk k=>⟨_,H,I.kept k,?_,q⟩;by_cases hj:j > i
 ·rw [if_pos hj,if_pos hj];exact ⟨_,rfl⟩
 ·rw [if_neg hj,if_neg hj];exact ⟨_,rfl⟩
theorem z4x (hc:X.calm=true):z4s X (.builtin "min") (λ xs H Q=>∃i j,xs=[.int i,.int j]/\Q (.int (if j < i then j else i)) H):=by
 intro pins s σ H xs us Q I r h;obtain ⟨i,j,rfl,q⟩:=h;obtain ⟨u,w',rfl,⟨t,rfl⟩,⟨t',rfl⟩⟩:=x0w r;refine min_two_ints (I.ok.hd hc) λ h' tk k=>⟨_,H,I.kept k,?_,q⟩;by_cases hj:j < i
 ·rw [if_pos hj,if_pos hj];exact ⟨_,rfl⟩
 ·rw [if_neg hj,if_neg hj];exact ⟨_,rfl⟩
theorem x8a:z4s X (.type "int") (λ xs H Q=>(∃i,xs=[.int i]/\Q (.int i) H)\/∃k,xs=[.bl k]/\Q (.int (if k then 1 else 0)) H):=by
 intro pins s σ H xs us Q I r h
 rcases h with ⟨i,rfl,q⟩ | ⟨k,rfl,q⟩
 ·obtain ⟨u,rfl,t,rfl⟩:=z6g r;exact call_int_int ⟨.int i,H,I,⟨_,rfl⟩,q⟩
 ·obtain ⟨u,rfl,r1⟩:=z6g r;cases r1;exact call_int_bool ⟨.int (if k then 1 else 0),H,I.tok _,⟨_,rfl⟩,q⟩
end
structure ObjM (h:Heap) (x dx C:Addr) (mA:SV):Prop where
 obj:h.get? x=some (W.instObj C dx)
 ns:h.Ns1 dx mA
 ne:dx≠x
theorem x6c {h:Heap}(n:h.Ns1 dx mA):∃od,h.get? dx=some od/\∀name,W.lookIn name od=some (mA name):=by
 obtain ⟨o,es,ep,ho,hd,hk,_,hm⟩:=n;refine ⟨o,ho,λ name=>?_⟩;have e:=hm name;unfold nsFind findBy at e;rw [← Array.find?_toList] at e;unfold W.lookIn;rw [hd];dsimp only;split
 ·rename_i y q;rw [q] at e;exact t3p some e
 ·rename_i q;rw [q] at e
  have a:es.toList.any (·.refKey)=false:=by
   rw [List.any_eq_false];intro y hy;obtain ⟨z,t,hkey⟩:=hk y (t9t.mp hy);simp [DictEntry.refKey,hkey]
  have a':¬es.toList.any (·.refKey)=true:=by rw [a];exact t1e
  rw [if_neg a'];exact t3p some e
theorem ObjM.look (I:ObjM h x dx C mA):∃od,W.InstAt h x (W.instObj C dx) C (some od)/\∀name,W.lookIn name od=some (mA name) :=
 let ⟨od,ho,hl⟩:=x6c I.ns
 ⟨od,⟨I.obj,rfl,rfl,ho⟩,hl⟩
section
variable {prog:Program}{w:World}{A:Around}{E:VS}{s:Shared}{K:FG}{x dx C f:Addr}{mA:SV}{name:Str}{v:Value}
end
section
variable {P:Program}{w:World}{H H':Hp}{h h':Heap}{a C dx:Addr}{fs fs':List (Str × V)}
theorem y8e (hok:HOk P w H h) (e:H a=some (.ins C dx fs)):∃mA,ObjM h a dx C mA/\(∀f,v3u (fs.lookup f) (mA f))/\PySem.Within mA (fs.map (·.1))/\fs.length≤1000/\H dx=some (.own a):=by
 obtain ⟨d,z,ne,ob,mA,n,r,q⟩:=(show ObjOk P w H h a (.ins C dx fs) from hok a _ e);exact ⟨mA,⟨ob,n,ne⟩,r,q,z,d⟩
end
structure Cls (K:FG) (C:Addr):Prop where
 pg:W.plainGet K C Str.empty=true
 hd:W.hasDictIn K C=true
 po:W.plainOver K C=true
 sa:W.findIn K (.ref C) "__setattr__"=some (some (.builtin "object.__setattr__"))
theorem Cls.get {K:FG}(c:Cls K C) (f:Str):W.plainGet K C f=true:=c.pg
structure Con (K:FG) (C:Addr) (f:Str) (v:V) (u:Value):Prop where
 at_:W.findIn K (.ref C) f=some (some u)
 rel:RelV v u
 get:W.specialIn K u "__get__"=some none
 cp:W.copiedNames.contains f=false
structure Meth (K:FG) (C:Addr) (m:Str) (f:Addr):Prop where
 at_:W.findIn K (.ref C) m=some (some (.ref f))
 fn:W.isFn K (.ref f)=true
 kp:W.keepIn K (.ref f)=true
section
variable {X:Cx}{pins:LO}{σ:St}{H:Hp}{s:Shared}{a C dx:Addr}{fs:List (Str × V)}{f:Str}{v:V}{A:Around}{E:VS}
end
section
variable {X:Cx}{o e value:Expr}{f:Str}{pos pos' tpos:Pos}{ta tv:TE}
end
section
variable {X:Cx}{pins:LO}{σ:St}{H:Hp}{s:Shared}{A:Around}{E:VS}{Q:VS}{c:Value}{b:Bool}
inductive TyOf (K:FG) (H:Hp):V->Value->Prop where
 | non:TyOf K H .non (.type "NoneType")
 | bl (x:Bool):TyOf K H (.bl x) (.type "bool")
 | int (i:Int):TyOf K H (.int i) (.type "int")
 | str (x:Str):TyOf K H (.str x) (.type "str")
 | flt (x:UInt64):TyOf K H (.flt x) (.type "float")
 | lst {a:Addr}{xs:List V}(e:H a=some (.lst xs)):TyOf K H (.ref a) (.type "list")
 | frz {a:Addr}{o:Obj}{xs:List V}(e:H a=some (.frz o (.lst xs))):TyOf K H (.ref a) (.type "list")
 | tup {a:Addr}{xs:List V}(e:H a=some (.tup xs)):TyOf K H (.ref a) (.type "tuple")
 | dK {a:Addr}{kvs:List (Key × V)}(e:H a=some (.dK kvs)):TyOf K H (.ref a) (.type "dict")
 | dT {a:Addr}{kvs:List (List Key × V)}(e:H a=some (.dT kvs)):TyOf K H (.ref a) (.type "dict")
 | ins {a C dx:Addr}{fs:List (Str × V)}(e:H a=some (.ins C dx fs)) (cl:Cls K C) (ha:W.findIn K (.ref C) "__class__"=some (some (.builtin "object.__class__")))
   (hn:W.specialIn K (.builtin "object.__class__") "__get__"=some (some (.builtin "getset_descriptor.__get__"))) (htk:W.takesIn K (.builtin "object.__class__")=some true)
   (hm:W.mroIn K C (.type "object")=some true):TyOf K H (.ref a) (.ref C)
theorem x6m (I:Inv X pins σ H s) (rx:RelV x u) (ty:TyOf X.K H x t) (e:W.kitOne X.K t c=some b) (h:∀tk,Q (.bool b) { s with toks:=tk }) :
  wpAny (model X.prog X.w) A (call (.builtin "isinstance") [u,c]) Q E s:=by
 cases ty with
 | non=>cases (show u=Value.none from rx);exact t5o W.kitx_none I.kIn t9o e (λ z=>nomatch z) h
 | bl y=>cases (show u=Value.bool y from rx);exact t5o W.kitx_bool I.kIn t9o e (λ z=>nomatch z) h
 | int i=>obtain ⟨t,q⟩:=(show ∃t,u=Value.int i t from rx);cases q;exact t5o W.kitx_int I.kIn t9o e (λ z=>nomatch z) h
 | str y=>obtain ⟨t,q⟩:=(show ∃t,u=Value.str y t from rx);cases q;exact t5o W.kitx_str I.kIn t9o e (λ z=>nomatch z) h
 | flt y=>obtain ⟨t,q⟩:=(show ∃t,u=Value.float y t from rx);cases q;exact t5o W.kitx_float I.kIn t9o e (λ z=>nomatch z) h
 | @lst a xs ea =>
  cases (show u=Value.ref a from rx);obtain ⟨_,_,n,_,h1⟩:=(show ObjOk X.prog X.w H s.heap a (.lst xs) from I.hok a _ ea);exact t5o W.kitx_list I.kIn ⟨_,h1,rfl⟩ e (λ z=>nomatch z) h
 | @frz a ob xs ea =>
  cases (show u=Value.ref a from rx);obtain ⟨_,_,_,n,_,h1⟩:=(show ObjOk X.prog X.w H s.heap a (.frz ob (.lst xs)) from I.hok a _ ea);exact t5o W.kitx_list I.kIn ⟨_,h1,rfl⟩ e (λ z=>nomatch z) h
 | @tup a xs ea =>
  cases (show u=Value.ref a from rx);obtain ⟨_,_,_,p⟩:=(show ObjOk X.prog X.w H s.heap a (.tup xs) from I.hok a _ ea);obtain ⟨o,h1,h2,_⟩:=p;exact t5o W.kitx_tuple I.kIn ⟨o,h1,h2⟩ e (λ z=>nomatch z) h
 | @dK a kvs ea =>
  cases (show u=Value.ref a from rx);obtain ⟨_,_,vs,_,p⟩:=(show ObjOk X.prog X.w H s.heap a (.dK kvs) from I.hok a _ ea);obtain ⟨o,es,ep,h1,h2,_⟩:=p;exact t5o W.kitx_dict I.kIn ⟨o,h1,h2.1⟩ e (λ z=>nomatch z) h
 | @dT a kvs ea =>
  cases (show u=Value.ref a from rx);obtain ⟨_,_,xs,_,o,es,ep,h1,h2,_⟩:=(show ObjOk X.prog X.w H s.heap a (.dT kvs) from I.hok a _ ea);exact t5o W.kitx_dict I.kIn ⟨o,h1,h2.1⟩ e (λ z=>nomatch z) h
 | @ins a C dx fs ea cl ha hn htk hm =>
  cases (show u=Value.ref a from rx);obtain ⟨mA,O,_⟩:=y8e I.hok ea;obtain ⟨od,J,_⟩:=O.look;exact t5o (W.kitx_own (cl.get _) cl.hd ha hn htk hm) I.kIn J e (λ z=>nomatch z) h
end
structure Room (k:Nat) (A:Around):Prop where
 hd:A.handled=none
 dp:A.depth+3 * k+5 < recursionLimit
 un:A.units+16 * k+200 < cLine
theorem Room.mono {j k:Nat}(r:Room k A) (h:j≤k):Room j A:=⟨r.hd,by have:=r.dp;lia,by have:=r.un;lia⟩
theorem Room.deeper {k:Nat}(r:Room (k+1) A) (env:Env):Room k (A.deeper env) :=
 ⟨r.hd,by have:=r.dp;show A.depth+1+3 * k+5 < _;lia,by have:=r.un;show A.units+3+16 * k+200 < _;lia⟩
theorem Room.depth (r:Room k A):A.depth < recursionLimit:=by have:=r.dp;lia
theorem Room.units0 (r:Room k A):A.units < cLine:=by have:=r.un;lia
def w7a:TA:=λ _ H Q=>Q [] H
def y7a (ta:TE) (tr:TA):TA:=λ σ H Q=>ta σ H λ x H1=>tr σ H1 λ xs H2=>Q (x::xs) H2
section
variable {X:Cx}{e:Expr}{es:List Expr}{te:TE}{t:TA}{pos:Pos}
theorem z1j:PA X [] w7a:=λ _ _ _ _ H Q I h=>t8l ⟨[],H,I,.nil,h⟩
theorem z0i (ha:PE X e te) (hr:PA X es t) (hs:starEach (e::es) X.env=(false,eval e X.env)::starEach es X.env:=by rfl):PA X (e::es) (y7a te t):=by
 intro pos pins s σ H Q I h;rw [hs];show wpAny _ _ (spliced ((false,eval e X.env)::backTo pos (starEach es X.env))) _ _ s;refine t8f (thn (ha pins s σ H _ I h) λ u s1 ⟨x,H1,I1,r1,q1⟩=>?_);exact thn (hr pos pins s1 σ H1 _ I1 q1) λ us s2 ⟨xs,H2,I2,r2,q2⟩=>⟨x::xs,H2,I2,.cons r1 r2,q2⟩
def v4d (t:TA):TE:=λ σ H Q=>t σ H λ xs H1=>xs.length≤sizeLine/\∀p,H1 p=none->Q (.ref p) (upd H1 p (.tup xs))
def v4g (t:TA):TE:=λ σ H Q=>t σ H λ xs H1=>xs.length≤sizeLine/\∀p,H1 p=none->Q (.ref p) (upd H1 p (.lst xs))
theorem z0r {x1} (h:PA X es t):PE X (.Tuple es x1 pos) (v4d t):=by
 intro pins s σ H Q I hq;refine wpAny_Tuple_spliced (thn (h pos pins s σ H _ I hq) λ us s1 ⟨xs,H1,I1,r,z,q⟩=>⟨by rw [← r.length];exact z,?_⟩);have hf:H1 s1.heap.objs.size=none:=I1.hok.fresh (t0n _);refine ⟨.ref s1.heap.objs.size,upd H1 s1.heap.objs.size (.tup xs),I1.laid (t':=s1.toks) (λ b u e=>t0f _ e) (t0n _) ?_,rfl,q _ hf⟩;exact ⟨z,us,r,⟨_,t0r _ rfl,rfl,_,rfl⟩⟩
theorem z3i (h:PA X es t):PE X (.List es pos) (v4g t):=by
 intro pins s σ H Q I hq;refine wpAny_List_spliced (thn (h pos pins s σ H _ I hq) λ us s1 ⟨xs,H1,I1,r,z,q⟩=>⟨by rw [← r.length];exact z,?_⟩);have hf:H1 s1.heap.objs.size=none:=I1.hok.fresh (t0n _);refine ⟨.ref s1.heap.objs.size,upd H1 s1.heap.objs.size (.lst xs),I1.laid (t':=s1.toks) (λ b u e=>t0f _ e) (t0n _) ?_,rfl,q _ hf⟩;exact ⟨z,us,0,r,t0r _ rfl⟩
end
abbrev Sp:=List V->Hp->VK->XK->Prop
abbrev CXT:=List Env->Hp->Shared->XK->VS
structure Env0 (P:Program) (w:World) (K:FG) (mg:SV) (base:Heap) (A:Around) (outer:List Env) (s:Shared) (H:Hp):Prop where
 frames:A.frames=some outer
 mod:Mod K mg base
 bs:∀b o,base.get? b=some o->s.heap.get? b=some o/\H b=none
 bsz:base.objs.size≤s.heap.objs.size
 funs:s.heap.FunFrames base outer
 frf:∀b∈frs outer,H b=none
 hok:HOk P w H s.heap
 bare:AllBare s.gens
noncomputable def CE (outer:List Env) (P:Program) (w:World) (H:Hp) (s:Shared) (Q:VK) (u:Value) (s':Shared):Prop :=
 ∃v H',s'.os=s.os/\AllBare s'.gens/\Un (frs outer) [] H H' s.heap s'.heap/\HOk P w H' s'.heap/\RelV v u/\Q v H'
noncomputable def CR (CX:CXT) (outer:List Env) (P:Program) (w:World) (H:Hp) (s:Shared) (Q:VK) (E:XK) (r:Result) (s':Shared):Prop :=
 match r with
 | .ok (.ret u)=>CE outer P w H s Q u s'
 | .ok _=>False
 | .error e=>CX outer H s E e s'
structure FnOk (P:Program) (w:World) (K:FG) (mg:SV) (base:Heap) (CX:CXT) (k:Nat) (f:Addr) (fd:FuncData) (ps:List Str) (sp:Sp):Prop where
 len:∀vs H Q E,sp vs H Q E->vs.length=ps.length
 run:∀(A:Around) (outer:List Env) (s:Shared) (H:Hp) (args:Args) (us:LV) (vs:List V) (Q:VK) (E:XK),Room k A->Env0 P w K mg base A outer s H->BindsTo s fd args (ps.zip us)->Vals vs us->sp vs H Q E ->
  codeAny (model P w) A (.call (.ref f) args) (CR CX outer P w H s Q E) s
theorem FnOk.mono {K:FG}{j k:Nat}(F:FnOk P w K mg base CX j f fd ps sp) (h:j≤k) :
  FnOk P w K mg base CX k f fd ps sp:=⟨F.len,λ A outer s H args us vs Q E hr=>F.run A outer s H args us vs Q E (hr.mono h)⟩
section
variable {X:Cx}{pins:LO}{σ:St}{H:Hp}{s s':Shared}
theorem Inv.env0 (I:Inv X pins σ H s):Env0 X.prog X.w X.K X.mg X.base X.A X.stack s H :=
 ⟨I.ok.frames,I.ok.mod,I.bs,t2u I.ok.bsz I.sz,I.stack,I.stkFree,I.hok,I.bare⟩
theorem Inv.after (I:Inv X pins σ H s) (h:CE X.stack X.prog X.w H s Q u s'):EP X pins σ Q u s':=by
 obtain ⟨v,H',os,bare,un,hok,r,q⟩:=h;obtain ⟨hh,g,d,t,os'⟩:=s';obtain rfl:os'=s.os:=os;exact ⟨v,H',I.call (h':=hh) (g':=g) (d':=d) (t':=t) (ch:=[]) un hok bare (λ b z=>absurd z (by simp)),r,q⟩
end
def x2t (sp:Sp) (dvs:List V) (E:XK) (t:TA):TE:=λ σ H Q=>t σ H λ vs H1=>sp (vs++dvs) H1 Q E
noncomputable def Binds (K:FG) (fd:FuncData) (ps:List Str) (ds:LV):Prop :=
 ∀(s:Shared) (us:LV),K.In s.heap->(us++ds).length=ps.length->BindsTo s fd ⟨us,[]⟩ (ps.zip (us++ds))
theorem Binds.all {K:FG}{ps:List Str}(h:∀us:LV,us.length=ps.length->bindArgs fd ⟨us,[]⟩=pure (ps.zip us)):Binds K fd ps []:=λ s us _ hl=>by
 rw [t0a] at hl ⊢;exact .of_eq (h us hl)
noncomputable def y6s (CX:CXT) (X:Cx) (E:XK):Prop:=∀(pins:LO) (σ:St) (H:Hp) (s:Shared) (e:Value) (s':Shared),Inv X pins σ H s->CX X.stack H s E e s'->X.xe e s'
section
variable {X:Cx}{CX:CXT}{k:Nat}{f C:Addr}{fd:FuncData}{ps:List Str}{sp:Sp}{dvs:List V}{ds:LV}{E:XK}{x m:Str}{p pos apos:Pos}{e o:Expr}{es:List Expr}{ta:TE}{t:TA}
theorem w7v (F:FnOk X.prog X.w X.K X.mg X.base CX k f fd ps sp) (hr:Room k X.A) (hb:Binds X.K fd ps ds) (hd:Vals dvs ds) (hx:y6s CX X E)
  (I:Inv X pins σ H s) (r:Vals vs us) (h:sp (vs++dvs) H Q E):wpAny (model X.prog X.w) X.A (call (.ref f) us) (EP X pins σ Q) X.xe s:=by
 have r2:Vals (vs++dvs) (us++ds):=r.append hd;have hl:(us++ds).length=ps.length:=by rw [← r2.length];exact F.len _ _ _ _ h
 refine wpAny_call (t8g (F.run X.A X.stack s H ⟨us,[]⟩ (us++ds) (vs++dvs) Q E hr I.env0 (hb s us I.kIn hl) r2 h) λ r s' hq=>?_)
 cases r with
 | error e=>exact hx pins σ H s e s' I hq
 | ok fl =>
  cases fl with
  | ret u=>exact I.after hq
  | next=>exact False.elim hq
  | brk=>exact False.elim hq
  | cont=>exact False.elim hq
theorem w4h (F:FnOk X.prog X.w X.K X.mg X.base CX k f fd ps sp) (hr:Room k X.A) (hg:Gl X x) (hm:X.mg x=some (.ref f)) (hk:W.keepIn X.K (.ref f)=true) (hb:Binds X.K fd ps ds) (hd:Vals dvs ds) (hx:y6s CX X E)
  (ha:PA X (e::es) t) (hdb:(x == ("__debug__" : Str))=false:=by decide) (he:starEach (e::es) X.env=(false,eval e X.env)::starEach es X.env:=by rfl) (hpl:(backTo pos (starEach es X.env)).any (·.1)=false:=by rfl) :
  PE X (.Call (.Name x p) (e::es) [] pos) (x2t sp dvs E t):=by
 intro pins s σ H Q I h;refine t4j (y4k I hg hm ?_ hdb);refine W.callWith_K (h₀:=X.base) I.ok.mod.kin hk (thn (ha pos pins s σ H _ I h) λ us s1 ⟨vs,H1,I1,r,q⟩=>⟨I1.kIn,?_⟩) he hpl;exact w7v F hr hb hd hx I1 r q
structure Mk (K:FG) (C f:Addr):Prop where
 makes:W.makesIn K C=true
 init:W.findIn K (.ref C) "__init__"=some (some (.ref f))
 fn:W.isFn K (.ref f)=true
 kp:W.keepIn K (.ref C)=true
end
section
variable {X:Cx}{CX:CXT}{k:Nat}{f C:Addr}{fd:FuncData}{ps ks:List Str}{sp:Sp}{E:XK}{x m:Str}{p pos apos kpos:Pos}{e o:Expr}{es:List Expr}{kws:List Keyword}{te ta:TE}{t tk:TA}{nm:Option Str}
structure KBinds (K:FG) (fd:FuncData) (ps ks:List Str) (g:LV->LV->LV) (gV:List V->List V->List V):Prop where
 to:∀(s:Shared) (us ws:LV),K.In s.heap->(g us ws).length=ps.length->BindsTo s fd ⟨us,ks.zip ws⟩ (ps.zip (g us ws))
 rel:∀ {vs:List V}{us:LV}{zs:List V}{ws:LV},Vals vs us->Vals zs ws->Vals (gV vs zs) (g us ws)
variable {g:LV->LV->LV}{gV:List V->List V->List V}
end
structure FnScope (N P:List Str) (sc:Scope):Prop where
 kind:sc.kind=.function
 co:sc.isCoroutine=false
 gen:sc.isGenerator=false
 nd:N.Nodup
 pre:N.take P.length=P
 par:∀x∈P,sc.names.lookup x=some .local\/sc.names.lookup x=some .cell
 nofree:∀y∈sc.names,y.2≠.free
theorem y6q {kindOf:Str->Option NameKind}{x:Str}:∀ {binds:List (Str × Value)}{m:SV},(∀v,(x,v) ∉ binds)->bindL kindOf binds m x=m x
 | [],_,_=>rfl
 | (n,v)::r,m,h=>by
  unfold bindL;rw [y6q λ w hw=>h w (t0d _ hw)];split
  ·have:x≠n:=by rintro rfl;exact h v t0t
   simp [this]
  ·rfl
theorem y6r {kindOf:Str->Option NameKind}{x:Str}:∀ {binds:List (Str × Value)}{m:SV},(∀v,(x,v) ∉ binds)->bindC kindOf binds m x=m x
 | [],_,_=>rfl
 | (n,v)::r,m,h=>by
  unfold bindC;rw [y6r λ w hw=>h w (t0d _ hw)];split
  ·rfl
  ·have:x≠n:=by rintro rfl;exact h v t0t
   simp [this]
theorem y1m {kindOf:Str->Option NameKind}:∀ {P:List Str}{vs:LV}{i:Nat}{m:SV},P.Nodup->P[i]?=some x->vs[i]?=some v->kindOf x=some .local ->
  bindL kindOf (P.zip vs) m x=some v
 | [],_,_,_,_,h,_,_=>by simp at h
 | _::_,[],_,_,_,_,h,_=>by simp at h
 | p::P,w::vs,0,m,nd,h1,h2,hk=>by
  simp at h1 h2;subst h1;subst h2;show bindL kindOf ((p,w)::P.zip vs) m p=_;unfold bindL;rw [y6q λ v hv=>(t4b.mp nd).1 (t6c hv).1,if_pos hk];simp
 | p::P,w::vs,i+1,m,nd,h1,h2,hk=>by
  show bindL kindOf ((p,w)::P.zip vs) m x=_;unfold bindL;exact y1m (i:=i) (t4b.mp nd).2 (by simpa using h1) (by simpa using h2) hk
theorem y1n {kindOf:Str->Option NameKind}:∀ {P:List Str}{vs:LV}{i:Nat}{m:SV},P.Nodup->P[i]?=some x->vs[i]?=some v->kindOf x≠some .local ->
  bindC kindOf (P.zip vs) m x=some v
 | [],_,_,_,_,h,_,_=>by simp at h
 | _::_,[],_,_,_,_,h,_=>by simp at h
 | p::P,w::vs,0,m,nd,h1,h2,hk=>by
  simp at h1 h2;subst h1;subst h2;show bindC kindOf ((p,w)::P.zip vs) m p=_;unfold bindC;rw [y6r λ v hv=>(t4b.mp nd).1 (t6c hv).1,if_neg hk];simp
 | p::P,w::vs,i+1,m,nd,h1,h2,hk=>by
  show bindC kindOf ((p,w)::P.zip vs) m x=_;unfold bindC;exact y1n (i:=i) (t4b.mp nd).2 (by simpa using h1) (by simpa using h2) hk
def start (N:List Str) (vs:List V):St:=vs.map some++List.replicate (N.length - vs.length) none
noncomputable def y6i (CX:CXT) (P:Program) (w:World) (K:FG) (mg:SV) (base:Heap) (N:List Str) (qual:Str) (scope:Scope) (f:Addr) (cd:Value) (A:Around) (outer:List Env) (s:Shared) (H:Hp) (E:XK):Cx where
 prog:=P
 w:=w
 K:=K
 mg:=mg
 base:=base
 A:=A.deeper (envOfC qual scope s.heap.objs.size f cd)
 N:=N
 s₀:=s
 H₀:=H
 env:=envOfC qual scope s.heap.objs.size f cd
 outer:=outer
 stack:=envOfC qual scope s.heap.objs.size f cd::outer
 ex:=[]
 calm:=true
 fn:=λ _=>true
 pn:=[]
 xe:=λ e s'=>wpAny (model P w) (A.deeper (envOfC qual scope s.heap.objs.size f cd)) (leaving (envOfC qual scope s.heap.objs.size f cd) e) (λ _ s''=>CX outer H s E e s'') (λ e' s''=>CX outer H s E e' s'') s'
theorem z8j {sc:Scope}(h:sc.names.lookup x=some .cell):∃c,(cellsFrom n sc.names []).lookup x=some c:=by
 have q:=t7f sc.names n [] (.inl h);exact t2x.mp q
theorem x6n {K:FG}{A:Around}{vs:List V}
  (S:FnScope N ps scope) (hd:A.handled=none) (e0:Env0 P w K mg base A outer s H) (hl:vs.length=ps.length) (r:Vals vs us)
  (x:InCallC s s.heap.objs.size (bindL (envOfC qual scope s.heap.objs.size f cd).kindOf (ps.zip us) λ _=>none) (cellsFrom (s.heap.objs.size+1) scope.names []) (bindC (envOfC qual scope s.heap.objs.size f cd).kindOf (ps.zip us) λ _=>none) s1) :
  Inv (y6i CX P w K mg base N qual scope f cd A outer s H E) [] (start N vs) H s1:=by
 have hpl:ps.length≤N.length:=by have:=t3p List.length S.pre;rw [t0p] at this;lia
 obtain ⟨h1,tk,rfl,hk⟩:=x.done;have noA:∀b:Addr,b ∉ (y6i CX P w K mg base N qual scope f cd A outer s H E).ex:=λ b z=>absurd (show b∈([]:List Addr) from z) (by simp)
 refine ⟨⟨e0.mod,S.kind,rfl,rfl,t0n _,λ y z c h1 h2=>?_,λ y hy=>?_,λ y c _ h=>?_,λ _=>hd,t9u e0.frames,.inr ⟨rfl,rfl⟩,λ b z=>absurd z (noA b),e0.bs,e0.bsz,λ b _ _=>noA b,λ b z=>absurd z (noA b),e0.funs,e0.frf⟩,
  rfl,e0.bare,Un.kept hk,⟨_,x.toInCall.ns,λ i y v h1 h2 h3=>?_⟩,λ y c h=>⟨_,x.cell y c h⟩,e0.hok.fresh (t0n _),λ y c h=>?_,λ p hp=>absurd (show p∈([]:LO) from hp) (by simp),e0.hok.kept hk,?_⟩
 ·exact t9d x.apart (t1f h1) (t1f h2)
 ·have hy:scope.names.lookup y=some .cell\/scope.names.lookup y=some .free:=hy
  rcases hy with hy | hy
  ·exact z8j hy
  ·exact absurd rfl (S.nofree _ (t1f hy))
 ·exact t3h (x.above y c (t1f h))
 ·have hi:i < vs.length:=by
   unfold start at h2;by_cases hi:i < vs.length
   ·exact hi
   ·rw [t0u (by simpa using hi)] at h2;rw [t6d] at h2;split at h2<;>cases h2
  have ha:vs[i]?=some v:=by
   unfold start at h2;rw [t1b (by simpa using hi),t0q] at h2
   cases e:vs[i]? with
   | none=>rw [e] at h2;cases h2
   | some a=>rw [e] at h2;cases h2;rfl
  obtain ⟨u,hu,rv⟩:=r.get ha
  have hp:ps[i]?=some y:=by
   rw [← S.pre,t2a (by lia)];exact h1
  have ndP:ps.Nodup:=by rw [← S.pre];exact S.nd.sublist (List.take_sublist _ _)
  refine ⟨u,rv,?_⟩
  rcases S.par y (t0i hp) with k | k
  ·exact .inl ⟨k,y1m ndP hp hu k⟩
  ·obtain ⟨c,e⟩:=z8j (n:=s.heap.objs.size+1) k;refine .inr ⟨.inl k,c,e,?_⟩;have q:=x.cell y c e;rw [y1n ndP hp hu (by show scope.names.lookup y≠_;rw [k];decide)] at q;exact q
 ·exact e0.hok.fresh (t3h (x.above y c (t1f h)))
 ·unfold start;show _=N.length;rw [t0o,t0c,t5h];lia
theorem v0q {K:FG}{dV kV doc pm cdv ct oc:Value}{an od:OA}
  {osl:AV}{sp:Sp}(lk:K.lookup f=some ⟨oc,od,.func (W.fnOf name qual params body scope dV kV doc pm an cdv ct),osl⟩) (hcd:W.codeIn K cdv qual=true) (S:FnScope N ps scope)
  (len:∀vs H Q E,sp vs H Q E->vs.length=ps.length)
  (hbody:∀(A:Around) (outer:List Env) (s:Shared) (H:Hp) (vs:List V) (Q:VK) (E:XK),Room k (A.deeper (envOfC qual scope s.heap.objs.size f cdv))->sp vs H Q E ->
   ∃t,PSs (y6i CX P w K mg base N qual scope f cdv A outer s H E) body t/\t { nx:=λ _ H'=>Q .non H',rt:=Q } (start N vs) H) :
  FnOk P w K mg base CX (k+1) f (W.fnOf name qual params body scope dV kV doc pm an cdv ct) ps sp:=by
 refine ⟨len,λ A outer s H args us vs Q E hr e0 hb r hsp=>?_⟩;have hl:=len _ _ _ _ hsp;have KX:K.In s.heap:=e0.mod.kin.keeps λ b o e=>(e0.bs b o e).1;have lim:s.heap.NoLimit:=e0.mod.nolimit.keeps λ b o e=>(e0.bs b o e).1
 have hkind:∀y∈ps.zip us,scope.names.lookup y.1=some .local\/(scope.names.lookup y.1=some .cell/\((cellsFrom (s.heap.objs.size+1) scope.names []).lookup y.1).isSome=true):=λ ⟨n,v⟩ hy=>by
  rcases S.par n (t6c hy).1 with q | q
  ·exact .inl q
  ·exact .inr ⟨q,t7f _ _ _ (.inl q)⟩
 refine t9e hr.depth (KX _ _ lk) rfl S.co S.gen rfl (W.codeRec_of KX hcd) (hb _ _ _ _ ?_);refine wpAny_newFunctionEnv_cells S.kind hkind λ env he s1 x=>?_;subst he;refine ⟨lim.keeps x.toInCall.keep,codeAny_func ?_⟩;obtain ⟨t,ht,hq⟩:=hbody A outer s H vs Q E (hr.deeper _) hsp;have I:Inv (y6i CX P w K mg base N qual scope f cdv A outer s H E) [] (start N vs) H s1:=x6n S hr.hd e0 hl r x;refine t2z (ht [] s1 (start N vs) H _ I hq) (λ fl s' hs=>?_) λ e s' hs=>hs
 have fin:∀ {σ':St}{H':Hp}{v:V}{u:Value},Inv (y6i CX P w K mg base N qual scope f cdv A outer s H E) [] σ' H' s'->RelV v u->Q v H'->CE outer P w H s Q u s' :=
  λ {σ' H' v u} J rv q=>⟨v,H',J.os,J.bare,J.base,J.hok,rv,q⟩
 cases fl with
 | ret u =>
  obtain ⟨v,σ',H',J,rv,q⟩:=hs;exact fin J rv q
 | next =>
  obtain ⟨σ',H',J,q⟩:=hs;exact fin (v:=V.non) (u:=Value.none) J rfl q
 | brk =>
  obtain ⟨_,_,_,q⟩:=hs;exact False.elim q
 | cont =>
  obtain ⟨_,_,_,q⟩:=hs;exact False.elim q
section
variable {X:Cx}{x:Str}{p pos:Pos}{e:Expr}{es:List Expr}{t:TA}{id T:String}{r:List V->Hp->VK->Prop}
def tCB (r:List V->Hp->VK->Prop) (t:TA):TE:=λ σ H Q=>t σ H λ vs H1=>r vs H1 Q
theorem y9y (hc:z4s X (.builtin id) r) (hg:Gl X x) (hm:X.mg x=none) (hv:bootBuiltins x=some (.builtin id)) (ha:PA X (e::es) t) (hn:x ≠ "__name__" := by decide) (hdb:(x == ("__debug__" : Str))=false:=by decide)
  (he:starEach (e::es) X.env=(false,eval e X.env)::starEach es X.env:=by rfl) (hpl:(backTo pos (starEach es X.env)).any (·.1)=false:=by rfl):PE X (.Call (.Name x p) (e::es) [] pos) (tCB r t):=by
 intro pins s σ H Q I h;refine t4j (z5d I hg hm hv ?_ hn hdb);exact PyProof.Rows.callWith_builtin1 (thn (ha pos pins s σ H _ I h) λ us s1 ⟨vs,H1,I1,r1,q1⟩=>hc pins s1 σ H1 vs us Q I1 r1 q1) he hpl
theorem y5t (hc:z4s X (.type T) r) (hg:Gl X x) (hm:X.mg x=none) (hv:bootBuiltins x=some (.type T)) (ha:PA X (e::es) t) (hn:x ≠ "__name__" := by decide) (hdb:(x == ("__debug__" : Str))=false:=by decide)
  (he:starEach (e::es) X.env=(false,eval e X.env)::starEach es X.env:=by rfl) (hpl:(backTo pos (starEach es X.env)).any (·.1)=false:=by rfl):PE X (.Call (.Name x p) (e::es) [] pos) (tCB r t):=by
 intro pins s σ H Q I h;refine t4j (z5d I hg hm hv ?_ hn hdb);exact t1t (thn (ha pos pins s σ H _ I h) λ us s1 ⟨vs,H1,I1,r1,q1⟩=>hc pins s1 σ H1 vs us Q I1 r1 q1) he hpl
end
end L2
namespace HT
open PySem PyProof.Rows
section
open PySem.SeqAt
open PySem.AutoSeq1 (wpAny_loadPart')
open PySem.MeetsSeq PySem.MeetsSeq2 PySem.MeetsSeq3
end
section
variable {prog:Program}{w:World}{A:Around}{E:VS}{s:Shared}
theorem cat_tup {vs ws:LV}{Q:VS}(ht:IsTup s.heap t vs.toArray) (hb:IsTup s.heap b ws.toArray) (hv:vs≠[])
  (h1:ws=[]->Q (.ref t) s) (h2:ws≠[]->Q (.ref s.heap.objs.size) { s with heap:=s.heap.push { cls:=.type "tuple",data:=.seq (vs++ws).toArray } })
  (hsz:vs.length+ws.length≤sizeLine):wpAny (model prog w) A (binaryOp .Add (.ref t) (.ref b)) Q E s:=by
 obtain ⟨⟨cls,dd,data,sl⟩,ho,hc,n,hd⟩:=id ht;obtain ⟨⟨cls2,dd2,data2,sl2⟩,ho2,hc2,n2,hd2⟩:=id hb;simp only at hc hd hc2 hd2;subst hc hd hc2 hd2;have e:vs.toArray++ws.toArray=(vs++ws).toArray:=by simp
 by_cases hw:ws=[]
 ·exact s1k ⟨_,ho,rfl⟩ ⟨_,ho2,rfl⟩ t8w s0s t6n t6e (t5v _ _)
   (tuple_addW1 t b vs.toArray ws.toArray n n2 dd dd2 sl sl2 (by simpa using hv) (by simp [hw])) ⟨ho,ho2,h1 hw⟩
 ·refine s1k ⟨_,ho,rfl⟩ ⟨_,ho2,rfl⟩ t8w s0s t6n t6e (t5v _ _)
   (tuple_addW2 t b vs.toArray ws.toArray n n2 dd dd2 sl sl2 (by simpa using hv) (by simpa using hw) (by rw [t0z,t0z];exact hsz)) ⟨ho,ho2,?_⟩
  rw [e];exact h2 hw
def sIx (n d:Nat):Option Int->Nat
 | none=>d
 | some v=>if v < 0 then (v+(n:Int)).toNat else min v.toNat n
theorem w7t (n d:Nat) (hd:d≤n) (o:Option Int):sIx n d o≤n:=by
 cases o with
 | none=>exact hd
 | some v =>
  show (if v < 0 then (v+(n:Int)).toNat else min v.toNat n)≤n;by_cases hv:v < 0
  ·rw [if_pos hv];lia
  ·rw [if_neg hv];exact Nat.min_le_right _ _
theorem x7u (v:Int) (n d:Nat):(if v < 0 then max (v+(n:Int)) 0 else min v (n:Int))=((sIx n d (some v):Nat):Int):=by
 show (if v < 0 then max (v+(n:Int)) 0 else min v (n:Int))=(((if v < 0 then (v+(n:Int)).toNat else min v.toNat n):Nat):Int);by_cases hv:v < 0
 ·simp only [if_pos hv];lia
 ·simp only [if_neg hv];lia
theorem x1x (lo hi:Option Int) (n:Nat):Builtin.Slice.sliceAdjust lo hi 1 (n:Int)=(((sIx n 0 lo:Nat):Int),((sIx n n hi:Nat):Int)):=by
 have h1:¬((1:Int) < 0):=by lia
 unfold Builtin.Slice.sliceAdjust;simp only [h1,s0t];refine Prod.ext ?_ ?_
 ·cases lo with
  | none=>rfl
  | some v=>exact x7u v n 0
 ·cases hi with
  | none=>rfl
  | some v=>exact x7u v n n
theorem x1e (i j:Nat):Builtin.Slice.slicePlaces (i:Int) (j:Int) 1=j - i:=by
 unfold Builtin.Slice.slicePlaces;have h1:(1:Int) > 0:=by lia
 simp only [h1,t7u,s1l];split<;>lia
theorem y2m {Q:Option Int->Shared->Prop}(p:IsPart v o) (h:Q o s):wpAny (model prog w) A (Builtin.Slice.slicePartIndex v) Q E s:=by
 cases p with
 | none=>exact slicePart_none h
 | int i t=>exact slicePart_int h
theorem z6e {lo hi:Option Int}{Q:Int × Int × Nat->Shared->Prop}(hs:s.heap.IsSliceOf sl vl vu .none) (pl:IsPart vl lo) (pu:IsPart vu hi)
  (h:Q (((sIx n 0 lo:Nat):Int),1,sIx n n hi - sIx n 0 lo) s):wpAny (model prog w) A (Builtin.Slice.sliceApplied (.ref sl) (pure (n:Int))) Q E s:=by
 obtain ⟨os,hos,hcs,hds⟩:=id hs;unfold Builtin.Slice.sliceApplied Builtin.Slice.sliceFields;refine t0b (t0b (t1r hos hds (x:=vl) rfl (t0b (t1r hos hds (x:=vu) rfl (t0b (t1r hos hds (x:=.none) rfl (t0s ?_)))))));refine t0b (slicePart_none ?_);show wpAny _ _ (if ((1:Int) == 0)=true then _ else _) _ _ s;rw [if_neg (by decide)];refine t0b (y2m pl (t0b (y2m pu (t0b (t0s ?_)))));show wpAny _ _ (match Builtin.Slice.sliceAdjust lo hi 1 (n:Int) with | (lo,hi)=>pure (lo,(1:Int),Builtin.Slice.slicePlaces lo hi 1)) _ _ s;rw [x1x lo hi n];show wpAny _ _ (pure (((sIx n 0 lo:Nat):Int),(1:Int),Builtin.Slice.slicePlaces ((sIx n 0 lo:Nat):Int) ((sIx n n hi:Nat):Int) 1)) _ _ s;rw [x1e];exact t0s h
theorem x9q (xs:Array Value) (i k:Nat):((List.range k).filterMap λ (m:Nat)=>xs[((i:Int)+(m:Int) * 1).toNat]?).toArray=((xs.toList.drop i).take k).toArray:=by
 have e:(λ (m:Nat)=>xs[((i:Int)+(m:Int) * 1).toNat]?)=λ m=>xs[i+m]?:=by
  funext m;have:((i:Int)+(m:Int) * 1).toNat=i+m:=by lia
  rw [this]
 rw [e];have:=pick_run xs i k;rw [List.filterMap_map] at this;have e2:((λ x=>xs[x]?) ∘ λ x=>i+x)=λ m=>xs[i+m]?:=rfl;rw [e2] at this;rw [this]
theorem getItem_tuple_cut {lo hi:Option Int}{Q:VS}(ht:IsTup s.heap t items) (hs:s.heap.IsSliceOf sl vl vu .none) (pl:IsPart vl lo) (pu:IsPart vu hi)
  (hw:¬(sIx items.size 0 lo=0/\sIx items.size items.size hi=items.size))
  (h:Q (.ref s.heap.objs.size) { s with heap:=s.heap.push { cls:=.type "tuple",data:=.seq ((items.toList.drop (sIx items.size 0 lo)).take (sIx items.size items.size hi - sIx items.size 0 lo)).toArray } })
  (hsz:items.size≤sizeLine):wpAny (model prog w) A (getItem (.ref t) (.ref sl)) Q E s:=by
 have htake:sizeOk (.seq ((items.toList.drop (sIx items.size 0 lo)).take (sIx items.size items.size hi - sIx items.size 0 lo)).toArray):=by
  show ((items.toList.drop (sIx items.size 0 lo)).take (sIx items.size items.size hi - sIx items.size 0 lo)).toArray.size≤sizeLine;rw [t0z,t0p,t2d,t4a];lia
 have hj:sIx items.size items.size hi≤items.size:=w7t _ _ (t0n _) hi;obtain ⟨os,hos,hcs,hds⟩:=id hs;have hTs:s.TypeIs (.ref sl) "slice" := ⟨os,hos,hcs⟩;unfold getItem;try with_reducible refine t3j ?_
 first | refine t0b (t0s ?_) | skip
 refine t0b (wpAny_sequenceKey ht.typeIs (by decide) ?_)
 refine t0b (t1y (name:=Str.ofString "__getitem__") ht.typeIs t3n
  (t2i t3n ht.typeIs s0g ?_ (s0u _ _)))
 show wpAny _ _ (Builtin.Tuple.tupleItemsOf (.ref t) >>= _) _ _ s;refine t0b (tupleItemsOf_ ht ?_);refine t0b (t5w hTs ?_);rw [if_pos (by decide)];refine t0b (z6e hs pl pu ?_)
 have hno:¬((((sIx items.size 0 lo:Nat):Int) == 0 && (1:Int) == 1 && (sIx items.size items.size hi - sIx items.size 0 lo) == items.size)=true):=by
  intro q;rw [t5q,t5q] at q;have q1:((sIx items.size 0 lo:Nat):Int)=0:=t7v q.1.1;have q2:sIx items.size items.size hi - sIx items.size 0 lo=items.size:=t7v q.2;exact hw ⟨by lia,by lia⟩
 show wpAny _ _ (if (((sIx items.size 0 lo:Nat):Int) == 0 && (1:Int) == 1 && (sIx items.size items.size hi - sIx items.size 0 lo) == items.size)=true then _ else _) _ _ s;rw [if_neg hno,x9q]
 first
  | exact t0b (m:=Builtin.Tuple.tupleExact _) (t1w (t0s ⟨_,rfl,t0s h⟩) htake)
  | exact t0b (m:=Builtin.Tuple.tupleExact _) (t1w (t0b (t0s (t0s ⟨_,rfl,t0s h⟩))) htake)
  | exact t0b (t0b (m:=Builtin.Tuple.tupleExact _) (t1w (t0s (t0s ⟨_,rfl,t0s h⟩)) htake))
  | exact t0b (t0b (m:=Builtin.Tuple.tupleExact _) (t1w (t0s ⟨_,rfl,t0s h⟩) htake))
end
end HT
namespace L2
open PySem PySem.Spec PyProof.Rows
abbrev TO:=St->Hp->(Option Int->Hp->Prop)->Prop
noncomputable def PO (X:Cx) (e:Option Expr) (t:TO):Prop :=
 ∀(pins:LO) (s:Shared) (σ:St) (H:Hp) (Q:Option Int->Hp->Prop),Inv X pins σ H s->t σ H Q ->
  wpAny (model X.prog X.w) X.A (evalPart e X.env) (λ u s'=>∃o H',Inv X pins σ H' s'/\IsPart u o/\Q o H') X.xe s
def x2q:TO:=λ _ H Q=>Q none H
def w6y (t:TE):TO:=λ σ H Q=>t σ H λ x H1=>isI x λ i=>Q (some i) H1
theorem z6v {ns:LI}:∀ {us:LV},Vals (ns.map V.int) us->IntsAre us ns:=by
 induction ns with
 | nil=>intro us r;rw [List.map_nil] at r;cases r;exact .nil
 | cons n ns ih =>
  intro us r;rw [t2t] at r
  cases r with
  | cons r1 r2 =>
   obtain ⟨t,e⟩:=r1;subst e;exact .cons n t (ih r2)
section
variable {X:Cx}{e:Expr}{te:TE}{lo hi:Option Expr}{tl th:TO}{pos p2:Pos}
theorem z1r:PO X none x2q:=by
 intro pins s σ H Q I h;rw [evalPart_none];exact t0s ⟨none,H,I,.none,h⟩
theorem z1p (h:PE X e te):PO X (some e) (w6y te):=by
 intro pins s σ H Q I hw;rw [evalPart_some];refine thn (h pins s σ H _ I hw) λ u s1 ⟨x,H1,I1,r1,q1⟩=>?_;obtain ⟨i,rfl,q⟩:=y8c q1;obtain ⟨t,rfl⟩:=r1;exact ⟨some i,H1,I1,.int i t,q⟩
noncomputable def SlR (X:Cx) (r:V->Option Int->Option Int->Hp->VK->Prop):Prop :=
 ∀(pins:LO) (s:Shared) (σ:St) (H:Hp) (x:V) (v vl vu:Value) (lo hi:Option Int) (sl:Addr) (Q:VK),Inv X pins σ H s->RelV x v->s.heap.IsSliceOf sl vl vu .none->IsPart vl lo->IsPart vu hi->r x lo hi H Q ->
  ∃T id,typeLookup (.type T) "__getitem__"=pure (some (.builtin id))/\s.TypeIs v T/\wpAny (model X.prog X.w) X.A (getItem v (.ref sl)) (EP X pins σ Q) X.xe s
noncomputable def tSl (r:V->Option Int->Option Int->Hp->VK->Prop) (te:TE) (tl th:TO):TE:=λ σ H Q=>te σ H λ x H1=>tl σ H1 λ l H2=>th σ H2 λ u H3=>r x l u H3 Q
theorem z1h (hr:SlR X r) (he:PE X e te) (hl:PO X lo tl) (hu:PO X hi th):PE X (.Subscript e (.Slice lo hi none p2) pos) (tSl r te tl th):=by
 intro pins s σ H Q I h;refine Subscript_ (thn (he pins s σ H _ I h) λ v s1 ⟨x,H1,I1,r1,q1⟩=>?_);refine wpAny_Slice (thn (hl pins s1 σ H1 _ I1 q1) λ vl s2 ⟨l,H2,I2,pl,q2⟩=>thn (hu pins s2 σ H2 _ I2 q2) λ vu s3 ⟨u,H3,I3,pu,q3⟩=>?_);rw [evalPart_none];refine t0s ?_;have I4:Inv X pins σ H3 { s3 with heap:=s3.heap.push { cls:=.type "slice",data:=.fields #[vl,vu,.none] } }:=I3.kept (t':=s3.toks) λ b ob q=>t0f _ q;obtain ⟨T,id,hT,ht,hg⟩:=hr pins { s3 with heap:=s3.heap.push { cls:=.type "slice",data:=.fields #[vl,vu,.none] } } σ H3 x v vl vu l u s3.heap.objs.size Q I4 r1 (Heap.IsSliceOf.new ..) pl pu q3;show wpAny (model X.prog X.w) X.A (subscriptTail e (.Slice lo hi none p2) v (.ref s3.heap.objs.size)) (EP X pins σ Q) X.xe { s3 with heap:=s3.heap.push { cls:=.type "slice",data:=.fields #[vl,vu,.none] } };exact tail_any (ops:=[.ref s3.heap.objs.size,v]) ht hT hg (by with_unfolding_all rfl)
noncomputable def y1p (xs:List V) (lo hi:Option Int):List V:=(xs.drop (HT.sIx xs.length 0 lo)).take (HT.sIx xs.length xs.length hi - HT.sIx xs.length 0 lo)
theorem y1l (xs:List V) (lo hi:Option Int):(y1p xs lo hi).length≤xs.length:=by
 unfold y1p;rw [t0p,t2d];lia
noncomputable def v5x (K:FG):V->Option Int->Option Int->Hp->VK->Prop:=λ x lo hi H Q=>∃a xs,x=.ref a/\SqT K H a xs /\
 ¬(HT.sIx xs.length 0 lo=0/\HT.sIx xs.length xs.length hi=xs.length)/\∀p,H p=none->Q (.ref p) (upd H p (.tup (y1p xs lo hi)))
theorem w7n:SlR X (v5x X.K):=by
 intro pins s σ H x v vl vu lo hi sl Q I rx hs pl pu h;obtain ⟨a,xs,rfl,hx,hw,q⟩:=h;cases rx;obtain ⟨its,r,ht,hz⟩:=I.tuple hx;have hlen:its.toArray.size=xs.length:=by rw [t0z];exact r.length.symm
 refine ⟨"tuple",_,PyProof.Rows.slot_tuple_getitem.lookup,ht.typeIs,?_⟩;refine HT.getItem_tuple_cut ht hs pl pu (by rw [hlen];exact hw) ?_ (by rw [hlen];exact hz);rw [hlen];refine ⟨.ref s.heap.objs.size,_,I.laid (t':=s.toks) (o:=.tup (y1p xs lo hi)) (λ b ob q=>t0f _ q) (t0n _) ?_,rfl,q _ (I.hok.fresh (t0n _))⟩;exact ⟨t2u (y1l xs lo hi) hz,_,(r.drop (HT.sIx xs.length 0 lo)).take (HT.sIx xs.length xs.length hi - HT.sIx xs.length 0 lo),t9f _ _⟩
noncomputable def v2g (K:FG):R2:=λ x y H Q=>∃a b xs ys,x=.ref a/\y=.ref b/\SqT K H a xs/\SqT K H b ys/\xs≠[]/\xs.length+ys.length≤sizeLine /\
 (ys=[]->Q (.ref a) H)/\(ys≠[]->∀p,H p=none->Q (.ref p) (upd H p (.tup (xs++ys))))
theorem Vals.nil_iff (r:Vals xs us):us=[] ↔ xs=[]:=by
 cases r with
 | nil=>simp
 | cons _ _=>simp
theorem w4l:OpR X (binaryOp .Add) (v2g X.K):=by
 intro pins s σ H x y v u Q I rx ry h;obtain ⟨a,b,xs,ys,rfl,rfl,ha,hb,hx,hz,q1,q2⟩:=h;cases rx;cases ry;obtain ⟨its,r1,p1,_⟩:=I.tuple ha;obtain ⟨its2,r2,p2,_⟩:=I.tuple hb;refine HT.cat_tup p1 p2 (λ z=>hx (r1.nil_iff.mp z)) (λ z=>⟨.ref a,H,I,rfl,q1 (r2.nil_iff.mp z)⟩) (λ z=>?_) (by rw [← r1.length,← r2.length];exact hz);refine ⟨.ref s.heap.objs.size,_,I.laid (t':=s.toks) (o:=.tup (xs++ys)) (λ b ob q=>t0f _ q) (t0n _) ?_,rfl,q2 (λ w=>z (r2.nil_iff.mpr w)) _ (I.hok.fresh (t0n _))⟩;exact ⟨by rw [t0o];exact hz,_,r1.append r2,t9f _ _⟩
end
noncomputable def ixN (n:Nat) (i:Int):Option Nat:=if 0≤i then (if i < n then some i.toNat else none) else if -(n:Int)≤i then some (i+n).toNat else none
def atI {α:Type}(xs:List α) (i:Int):Option α:=(ixN xs.length i).bind λ j=>xs[j]?
theorem x6l (h:ixN n i=some j):seqIndex? i n=some j/\j < n/\-(n:Int)≤i/\i < n:=by
 unfold ixN at h;by_cases h0:0≤i
 ·rw [if_pos h0] at h;by_cases h1:i < n
  ·rw [if_pos h1] at h;have e:i.toNat=j:=t1i h;exact ⟨by rw [s1r h0 h1,e],by lia,by lia,h1⟩
  ·rw [if_neg h1] at h;cases h
 ·rw [if_neg h0] at h;by_cases h1:-(n:Int)≤i
  ·rw [if_pos h1] at h;have e:(i+n).toNat=j:=t1i h;exact ⟨by rw [s1m (by lia) h1,e],by lia,h1,by lia⟩
  ·rw [if_neg h1] at h;cases h
theorem x8d {α:Type}{xs:List α}{v:α}(h:atI xs i=some v):∃j,seqIndex? i xs.length=some j/\xs[j]?=some v/\j < xs.length/\-(xs.length:Int)≤i/\i < xs.length:=by
 unfold atI at h
 cases e:ixN xs.length i with
 | none=>rw [e] at h;cases h
 | some j =>
  rw [e] at h;obtain ⟨h1,h2,h3,h4⟩:=x6l e;exact ⟨j,h1,h,h2,h3,h4⟩
theorem z0f {α:Type}{xs:List α}{j:Nat}{v:α}(h:xs[j]?=some v):atI xs (j:Int)=some v:=by
 have hj:j < xs.length:=(t0g.mp h).1
 have e:ixN xs.length (j:Int)=some j:=by
  unfold ixN;rw [if_pos (by lia),if_pos (by lia)];simp
 unfold atI;rw [e];exact h
def x8j (b:Expr):Prop:=∀o i,subscripted b false o i=operate [o,i] (getItem o i)
noncomputable def IxR (X:Cx) (r:R2):Prop :=
 ∀(value slice:Expr) (pins:LO) (s:Shared) (σ:St) (H:Hp) (x y:V) (v u:Value) (Q:VK),Inv X pins σ H s->RelV x v->RelV y u->r x y H Q ->
  subscripted slice false v u=operate [v,u] (getItem v u)->wpAny (model X.prog X.w) X.A (subscriptTail value slice v u) (EP X pins σ Q) X.xe s
noncomputable def MtR (X:Cx) (id:String) (r:V->List V->Hp->VK->Prop):Prop :=
 ∀(pins:LO) (s:Shared) (σ:St) (H:Hp) (x:V) (xs:List V) (v:Value) (us:LV) (Q:VK),Inv X pins σ H s->RelV x v->Vals xs us->r x xs H Q ->
  wpAny (model X.prog X.w) X.A (call (.builtin id) (v::us)) (EP X pins σ Q) X.xe s
section
variable {X:Cx}{a b:Expr}{ta tb:TE}{pos:Pos}
theorem x1h (hr:IxR X r) (ha:PE X a ta) (hb:PE X b tb) (hs:x8j b):PE X (.Subscript a b pos) (tOp r ta tb):=by
 intro pins s σ H Q I h;exact Subscript_ (v3n ha hb I h λ v u s2 x y H2 I2 rx ry q=>hr a b pins s2 σ H2 x y v u Q I2 rx ry q (hs _ _))
def v4v (K:FG):R2:=λ x y H Q=>∃p xs i v,x=.ref p/\y=.int i/\SqL K H p xs/\atI xs i=some v/\Q v H
def v4t (K:FG):R2:=λ x y H Q=>∃p xs i v,x=.ref p/\y=.int i/\SqT K H p xs/\atI xs i=some v/\Q v H
theorem y4l:IxR X (v4v X.K):=by
 intro value slice pins s σ H x y v u Q I rx ry h hs;obtain ⟨p,xs,i,z,rfl,rfl,hq,he,q⟩:=h;cases rx;obtain ⟨t,rfl⟩:=ry;obtain ⟨its,r,pl,hz⟩:=I.list hq;obtain ⟨j,h1,h2,h3,h4,h5⟩:=x8d he;obtain ⟨w,ew,rw'⟩:=r.get h2;have hl:=r.length;have hn:=x0c;have fin:EP X pins σ Q w s:=⟨z,H,I,rw',q⟩;by_cases h0:0≤i
 ·have hj:i.toNat=j:=by
   rw [s1r h0 h5] at h1;exact t1i h1
  exact item_listR pl.isList h0 (by lia) (by rw [hj];simpa using ew) fin hs
 ·have hj:(i+(its.toArray.size:Int)).toNat=j:=by
   rw [s1m (by lia) h4] at h1;rw [t0z,← hl];exact t1i h1
  exact t8y (x:=w) pl.isList.typeIs slot_list_getitem.lookup
   (wpAny_getItem_list_neg (Q:=λ r s'=>r=w/\EP X pins σ Q r s') pl.isList (by lia) (by rw [t0z]<;>lia) (by lia) (by rw [hj];simpa using ew) ⟨rfl,fin⟩) hs
theorem w9x:IxR X (v4t X.K):=by
 intro value slice pins s σ H x y v u Q I rx ry h hs;obtain ⟨p,xs,i,z,rfl,rfl,hq,he,q⟩:=h;cases rx;obtain ⟨t,rfl⟩:=ry;obtain ⟨its,r,pl,hz⟩:=I.tuple hq;obtain ⟨j,h1,h2,h3,h4,h5⟩:=x8d he;obtain ⟨w,ew,rw'⟩:=r.get h2;have hl:=r.length;have hn:=x0c;have fin:EP X pins σ Q w s:=⟨z,H,I,rw',q⟩
 exact t8y (x:=w) pl.typeIs slot_tuple_getitem.lookup
  (getItem_tuple (j:=j) (Q:=λ r s'=>r=w/\EP X pins σ Q r s') pl (by lia) (by lia) (by rw [t0z,← hl];exact h1) (by simpa using ew) ⟨rfl,fin⟩) hs
theorem x1r (its:LV) (n j:Nat) (u:Value):Obj.mapSeq (·.setIfInBounds j u) { cls:=.type "list",data:=.seq its.toArray n }={ cls:=.type "list",data:=.seq (its.set j u).toArray n }:=by
 simp [Obj.mapSeq]
theorem Inv.lst (I:Inv X pins σ H s) (h:H p=some (.lst xs)) :
  ∃(its:LV) (n:Nat),Vals xs its/\s.heap.get? p=some { cls:=.type "list",data:=.seq its.toArray n }/\xs.length≤sizeLine:=by
 obtain ⟨z,its,n,r,e⟩:=I.hok p _ h;exact ⟨its,n,r,e,z⟩
theorem Inv.lstUpd {its its':LV}{f:Obj->Obj}(I:Inv X pins σ H s) (h:H p=some (.lst xs))
  (ho:s.heap.get? p=some { cls:=.type "list",data:=.seq its.toArray n }) (hf:f { cls:=.type "list",data:=.seq its.toArray n }={ cls:=.type "list",data:=.seq its'.toArray n' }) (r:Vals ys its') (hz:ys.length≤sizeLine) (t:Nat) :
  Inv X pins σ (upd H p (.lst ys)) { s with heap:=s.heap.update p f,toks:=t }:=by
 have e:(s.heap.update p f).get? p=some { cls:=.type "list",data:=.seq its'.toArray n' }:=by
  rw [t2q f ho (by rw [hf]<;>rfl),hf]
 refine I.write (x:=p) (e:=p) (by rw [h];trivial) (.inl rfl) (λ b u hb q=>(t1v _ _ (t3z hb)).trans q) ⟨_,e⟩ ?_;exact ⟨hz,its',n',r,e⟩
noncomputable def w7y:V->V->V->Hp->(Hp->Prop)->Prop:=λ o i v H Q=>∃p xs k j,o=.ref p/\i=.int k/\H p=some (.lst xs)/\ixN xs.length k=some j/\Q (upd H p (.lst (xs.set j v)))
theorem x9g:v5h X w7y:=by
 intro pins s σ H o i v ov iv u Q I ro ri rv h;obtain ⟨p,xs,k,j,rfl,rfl,hp,hj,q⟩:=h;cases ro;obtain ⟨t,rfl⟩:=ri;obtain ⟨its,n,r,ho,hz⟩:=I.lst hp;obtain ⟨h1,h2,h3,h4⟩:=x6l hj;have hl:=r.length;have hn:=x0c
 have I':Inv X pins σ (upd H p (.lst (xs.set j v))) { s with heap:=s.heap.update p (Obj.mapSeq (·.setIfInBounds j u)) } :=
  I.lstUpd hp ho (x1r its n j u) (r.set rv j) (by rw [t2y];exact hz) s.toks
 by_cases h0:0≤k
 ·have hk:k.toNat=j:=by
   rw [s1r h0 h4] at h1;exact t1i h1
  exact W.ki_setAt ho h0 (by lia) (by rw [t0z,← hl];exact h4) (by rw [hk];exact ⟨_,I',q⟩)
 ·have hk:(k+(its.toArray.size:Int)).toNat=j:=by
   rw [s1m (by lia) h3] at h1;rw [t0z,← hl];exact t1i h1
  exact W.ki_setBack ho (by lia) (by rw [t0z,← hl];exact h3) (by lia) (by rw [hk];exact ⟨_,I',q⟩)
theorem y5i (lo hi:Option Int) (n:Nat):(sliceBounds lo hi none n).1=((HT.sIx n 0 lo:Nat):Int)/\(sliceBounds lo hi none n).2.1=((HT.sIx n n hi:Nat):Int)/\(sliceBounds lo hi none n).2.2=1:=by
 refine ⟨?_,?_,rfl⟩
 ·cases lo with
  | none=>simp [sliceBounds,HT.sIx]
  | some i =>
   simp only [sliceBounds,HT.sIx,Option.getD_none,show (1:Int) > 0 by decide,t7u];by_cases h:i < 0
   ·simp only [h,t7u]<;>lia
   ·simp only [h,s0t]<;>lia
 ·cases hi with
  | none=>simp [sliceBounds,HT.sIx]
  | some i =>
   simp only [sliceBounds,HT.sIx,Option.getD_none,show (1:Int) > 0 by decide,t7u];by_cases h:i < 0
   ·simp only [h,t7u]<;>lia
   ·simp only [h,s0t]<;>lia
theorem y3s (its:LV) (lo hi:Option Int):slicePick its.toArray lo hi none=((its.drop (HT.sIx its.length 0 lo)).take (HT.sIx its.length its.length hi - HT.sIx its.length 0 lo)).toArray:=by
 obtain ⟨h1,h2,h3⟩:=y5i lo hi its.toArray.size;unfold slicePick;rw [h1,h2,h3];simp only [sliceRange_one,pick_run,t0z]<;>rfl
noncomputable def v4q (K:FG):V->Option Int->Option Int->Hp->VK->Prop:=λ x lo hi H Q=>∃a xs,x=.ref a/\SqL K H a xs/\∀p,H p=none->Q (.ref p) (upd H p (.lst (y1p xs lo hi)))
theorem w3v:SlR X (v4q X.K):=by
 intro pins s σ H x v vl vu lo hi sl Q I rx hs pl pu h;obtain ⟨a,xs,rfl,hx,q⟩:=h;cases rx;obtain ⟨its,r,ht,hz⟩:=I.list hx;have hlen:=r.length;refine ⟨"list",_,slot_list_getitem.lookup,ht.isList.typeIs,?_⟩;refine wpAny_getItem_list_slice ht.isList hs pl pu .none (by simp) ?_ (by rw [t0z]<;>lia);rw [y3s,← hlen];refine ⟨.ref s.heap.objs.size,_,I.laid (t':=s.toks) (o:=.lst (y1p xs lo hi)) (λ b ob q=>t0f _ q) (t0n _) ?_,rfl,q _ (I.hok.fresh (t0n _))⟩;exact ⟨t2u (y1l xs lo hi) hz,_,0,(r.drop (HT.sIx xs.length 0 lo)).take (HT.sIx xs.length xs.length hi - HT.sIx xs.length 0 lo),t0r _ rfl⟩
def z3f:V->Bool
 | .non=>true
 | .bl _=>true
 | .int _=>true
 | .str _=>true
 | _=>false
noncomputable def eqV:V->V->Bool
 | .non,.non=>true
 | .bl a,.bl b=>a == b
 | .bl a,.int b=>(if a then 1 else 0) == b
 | .int a,.bl b=>a == (if b then 1 else 0)
 | .int a,.int b=>a == b
 | .str a,.str b=>a == b
 | _,_=>false
theorem x0o (ry:RelV y u) (rx:RelV x v) (fy:z3f y=true) (fx:z3f x=true):SeqAt.EqAt A s u v (eqV y x):=by
 cases y with
 | non =>
  cases ry
  cases x with
  | non=>cases rx;exact SeqAt.EqAt.same _
  | bl b=>cases rx;exact SeqAt.EqAt.none_bool b
  | int b=>obtain ⟨t,rfl⟩:=rx;exact SeqAt.EqAt.none_int b t
  | str b=>obtain ⟨t,rfl⟩:=rx;exact SeqAt.EqAt.none_str b t
  | _=>exact absurd (show false=true from fx) t1e
 | bl a =>
  cases ry
  cases x with
  | non=>cases rx;exact SeqAt.EqAt.bool_none a
  | bl b=>cases rx;exact SeqAt.EqAt.bool_bool a b
  | int b=>obtain ⟨t,rfl⟩:=rx;exact SeqAt.EqAt.bool_int a b t
  | str b=>obtain ⟨t,rfl⟩:=rx;exact SeqAt.EqAt.bool_str a b t
  | _=>exact absurd (show false=true from fx) t1e
 | int a =>
  obtain ⟨t',rfl⟩:=ry
  cases x with
  | non=>cases rx;exact SeqAt.EqAt.int_none a t'
  | bl b=>cases rx;exact SeqAt.EqAt.int_bool a t' b
  | int b=>obtain ⟨t,rfl⟩:=rx;exact SeqAt.EqAt.int_int a t' b t
  | str b=>obtain ⟨t,rfl⟩:=rx;exact s0o a t' b t
  | _=>exact absurd (show false=true from fx) t1e
 | str a =>
  obtain ⟨t',rfl⟩:=ry
  cases x with
  | non=>cases rx;exact SeqAt.EqAt.str_none a t'
  | bl b=>cases rx;exact SeqAt.EqAt.str_bool a t' b
  | int b=>obtain ⟨t,rfl⟩:=rx;exact s0p a t' b t
  | str b=>obtain ⟨t,rfl⟩:=rx;exact SeqAt.EqAt.str_str a t' b t
  | _=>exact absurd (show false=true from fx) t1e
 | _=>exact absurd (show false=true from fy) t1e
noncomputable def eqU (x:V) (u:Value):Bool:=match u with
 | .none=>eqV .non x
 | .bool b=>eqV (.bl b) x
 | .int i _=>eqV (.int i) x
 | .str z _=>eqV (.str z) x
 | _=>false
theorem x7d (r:RelV y u) (f:z3f y=true):eqU x u=eqV y x:=by
 cases y with
 | non=>cases r;rfl
 | bl b=>cases r;rfl
 | int i=>obtain ⟨t,rfl⟩:=r;rfl
 | str z=>obtain ⟨t,rfl⟩:=r;rfl
 | _=>exact absurd (show false=true from f) t1e
theorem y8o:∀ {xs:List V}{us:LV},Vals xs us->xs.all z3f=true->us.any (eqU x)=xs.any λ y=>eqV y x
 | _,_,.nil,_=>rfl
 | y::xs,u::us,.cons r t,f=>by
  rw [t7o,t5q] at f;rw [s0v,s0v,x7d r f.1,y8o t f.2]
theorem y0b (rx:RelV x v) (fx:z3f x=true):∀ {xs:List V}{us:LV},Vals xs us->xs.all z3f=true->∀u∈us,SeqAt.EqAt A s u v (eqU x u)
 | _,_,.nil,_=>λ u hu=>by cases hu
 | y::xs,u::us,.cons r t,f=>λ u' hu=>by
  rw [t7o,t5q] at f
  rcases t1a.mp hu with rfl | hu
  ·rw [x7d r f.1];exact x0o r rx f.1 fx
  ·exact y0b rx fx t f.2 u' hu
def inV (x:V) (xs:List V):Bool:=xs.any λ y=>eqV y x
noncomputable def rIn (K:FG) (neg:Bool):R2:=λ x y H Q=>∃p xs,y=.ref p/\(SqL K H p xs\/SqT K H p xs)/\z3f x=true/\xs.all z3f=true/\Q (.bl (if neg then !inV x xs else inV x xs)) H
theorem x4x:OpR X (compareOp .In) (rIn X.K false):=by
 intro pins s σ H x y v u Q I rx ry h;obtain ⟨p,xs,rfl,hq,fx,fs,q⟩:=h;cases ry
 rcases hq with hq | hq
 ·obtain ⟨its,r,pl,hz⟩:=I.list hq;refine SeqAt.in_listAt (eqU x) pl.isList (λ w hw=>y0b rx fx r fs w (by simpa using hw)) ⟨.bl _,H,I,rfl,?_⟩;rw [show its.toArray.any (eqU x)=its.any (eqU x) by simp,y8o r fs];exact q
 ·obtain ⟨its,r,pl,hz⟩:=I.tuple hq;refine SeqAt.in_tupleAt (eqU x) pl (λ w hw=>y0b rx fx r fs w (by simpa using hw)) ⟨.bl _,H,I,rfl,?_⟩;rw [show its.toArray.any (eqU x)=its.any (eqU x) by simp,y8o r fs];exact q
theorem z9o:z4s X (.builtin "len") (λ xs H Q=>∃p ys,xs=[.ref p]/\(SqL X.K H p ys\/SqT X.K H p ys)/\Q (.int ys.length) H):=by
 intro pins s σ H xs us Q I r h;obtain ⟨p,ys,rfl,hq,q⟩:=h;obtain ⟨u,rfl,rx⟩:=z6g r;cases rx;have hn:=x0c
 rcases hq with hq | hq
 ·obtain ⟨its,r',pl,hz⟩:=I.list hq;have hlen:=r'.length;exact Calls.call_len_list pl.isList (by simp only [t0z]<;>lia) ⟨.int ys.length,H,I.tok _,⟨s.toks+1,by rw [t0z,hlen]⟩,q⟩
 ·obtain ⟨its,r',pl,hz⟩:=I.tuple hq;have hlen:=r'.length;exact s0w pl (by simp only [t0z]<;>lia) ⟨.int ys.length,H,I.tok _,⟨s.toks+1,by rw [t0z,hlen]⟩,q⟩
theorem y6n:z4s X (.type "list") (λ xs H Q=>∃p ys,xs=[.ref p]/\(SqL X.K H p ys\/SqT X.K H p ys)/\∀l,H l=none->Q (.ref l) (upd H l (.lst ys))):=by
 intro pins s σ H xs us Q I r h;obtain ⟨p,ys,rfl,hq,q⟩:=h;obtain ⟨u,rfl,rx⟩:=z6g r;cases rx
 have fin:∀(its:LV),Vals ys its->ys.length≤sizeLine->∀(h':Heap) (c':Nat),(∀b o',s.heap.get? b=some o'->h'.get? b=some o') ->
   h'.get? s.heap.objs.size=some { cls:=.type "list",dict:=none,data:=.seq its.toArray c',slots:=#[] }->EP X pins σ Q (.ref s.heap.objs.size) { s with heap:=h' }:=λ its r' hz h' c' kp e =>
  ⟨.ref s.heap.objs.size,_,I.laid (t':=s.toks) kp (t0n _) (show ObjOk X.prog X.w _ h' _ (.lst ys) from ⟨hz,its,c',r',e⟩),rfl,q _ (I.hok.fresh (t0n _))⟩
 rcases hq with hq | hq
 ·obtain ⟨its,r',pl,hz⟩:=I.list hq;have hlen:=r'.length;obtain ⟨o,ho,hc,n,hd⟩:=pl.isList;exact call_list_seq p (.inl rfl) ho hc hd (λ h' c' kp e=>fin its r' hz h' c' kp e) (by simp only [t0z]<;>lia)
 ·obtain ⟨its,r',pl,hz⟩:=I.tuple hq;have hlen:=r'.length;obtain ⟨o,ho,hc,n,hd⟩:=pl;exact call_list_seq p (.inr rfl) ho hc hd (λ h' c' kp e=>fin its r' hz h' c' kp e) (by simp only [t0z]<;>lia)
theorem z1a:z4s X (.type "tuple") (λ xs H Q=>∃p ys,xs=[.ref p]/\((SqL X.K H p ys/\∀l,H l=none->Q (.ref l) (upd H l (.tup ys)))\/(SqT X.K H p ys/\Q (.ref p) H))):=by
 intro pins s σ H xs us Q I r h;obtain ⟨p,ys,rfl,h⟩:=h;obtain ⟨u,rfl,rx⟩:=z6g r;cases rx
 rcases h with ⟨hq,q⟩ | ⟨hq,q⟩
 ·obtain ⟨its,r',pl,hz⟩:=I.list hq;have hlen:=r'.length;refine call_tuple_list pl.isList (λ h' kp=>?_) (by simp only [t0z]<;>lia);have I1:Inv X pins σ H { s with heap:=h' }:=I.kept (t':=s.toks) kp
  have I2:Inv X pins σ (upd H h'.objs.size (.tup ys)) { s with heap:=h'.push { cls:=.type "tuple",data:=.seq its.toArray } } :=
   I1.laid (t':=s.toks) (λ b o e=>t0f _ e) (t0n _) (show ObjOk X.prog X.w _ _ _ (.tup ys) from ⟨hz,its,r',t9f _ _⟩)
  exact ⟨.ref h'.objs.size,_,I2,rfl,q _ (I1.hok.fresh (t0n _))⟩
 ·obtain ⟨its,r',pl,hz⟩:=I.tuple hq;exact call_tuple_same pl ⟨.ref p,H,I,rfl,q⟩
noncomputable def tyV (K:FG) (T:String) (x:V) (H:Hp):Prop:=match x with
 | .str _=>T="str"
 | .int _=>T="int"
 | .ref p=>(T="list" /\ ∃xs,SqL K H p xs)\/(T="tuple" /\ ∃o,K.lookup p=some o/\o.cls=.type "tuple" /\ o.dict=none) \/
   (T="dict" /\ ((∃kvs,H p=some (.dK kvs))\/∃kvs,H p=some (.dT kvs)))\/(T="set" /\ ∃S n,H p=some (.set S n))
 | _=>False
theorem w1w (I:Inv X pins σ H s) (r:RelV x v) (ty:tyV X.K T x H) :
  s.TypeIs v T/\∀a,v=.ref a->∃ob,s.heap.get? a=some ob/\ob.dict=none:=by
 cases x with
 | str z =>
  obtain ⟨t,rfl⟩:=r;cases (show T="str" from ty);exact ⟨typeIs_str s z t,λ _ e=>nomatch e⟩
 | int i =>
  obtain ⟨t,rfl⟩:=r;cases (show T="int" from ty);exact ⟨typeIs_int s i t,λ _ e=>nomatch e⟩
 | ref p =>
  cases r
  rcases ty with ⟨rfl,xs,hq⟩ | ⟨rfl,o,hk,hc,hd⟩ | ⟨rfl,hk⟩ | ⟨rfl,S,n,hk⟩
  ·obtain ⟨its,_,pl,_⟩:=I.list hq;refine ⟨pl.isList.typeIs,λ a e=>?_⟩;cases e;obtain ⟨o,n,e,c,hd,_⟩:=pl;exact ⟨o,e,hd⟩
  ·refine ⟨⟨o,I.kIn p o hk,hc⟩,λ a e=>?_⟩;cases e;exact ⟨o,I.kIn _ o hk,hd⟩
  ·have z:∃o,s.heap.get? p=some o/\o.ExactDict:=by
    rcases hk with ⟨kvs,hk⟩ | ⟨kvs,hk⟩
    ·obtain ⟨_,_,_,_,o,_,_,e,ex,_⟩:=I.hok p _ hk;exact ⟨o,e,ex⟩
    ·obtain ⟨_,_,_,_,o,_,_,e,ex,_⟩:=I.hok p _ hk;exact ⟨o,e,ex⟩
   obtain ⟨o,e,ex⟩:=z;refine ⟨⟨o,e,ex.1⟩,λ a e2=>?_⟩;cases e2;exact ⟨o,e,ex.2.1⟩
  ·obtain ⟨o,_,_,_,e,ex,_⟩:=I.hok p _ hk;refine ⟨⟨o,e,ex.1⟩,λ a e2=>?_⟩;cases e2;exact ⟨o,e,ex.2.1⟩
 | _=>exact False.elim ty
noncomputable def tBM (K:FG) (T:String) (r:V->List V->Hp->VK->Prop) (to:TE) (t:TA):TE:=λ σ H Q=>to σ H λ x H1=>tyV K T x H1/\t σ H1 λ xs H2=>r x xs H2 Q
variable {o e:Expr}{es:List Expr}{to:TE}{t:TA}{name:Str}{apos cpos:Pos}{T id:String}{r:V->List V->Hp->VK->Prop}
theorem w8q (pa:PlainAttrs T) (slot:Slot T name id) (hty:typeOf (.builtin id)=pure (.type "method_descriptor")) (hm:MtR X id r) (ho:PE X o to) (ha:PA X (e::es) t)
  (hbase:attributeBase o name X.env (eval o X.env)=eval o X.env:=by rfl)
  (hfew:((backTo cpos (starEach (e::es) X.env)).all (λ x=>!x.1) && (backToKw cpos (keywordEach [] X.env)).all (λ x=>x.1.isSome)
   && decide ((e::es).length+([]:List Keyword).length+(if ([]:List Keyword).isEmpty then 0 else 1) < 30))=true:=by rfl)
  (hline:(apos.endLine == cpos.line)=true:=by rfl) (hs:starEach (e::es) X.env=(false,eval e X.env)::starEach es X.env:=by rfl) (hplain:(backTo cpos (starEach es X.env)).any (·.1)=false:=by rfl) :
  PE X (.Call (.Attribute o name apos) (e::es) [] cpos) (tBM X.K T r to t):=by
 intro pins s σ H Q I h;refine t6o hbase hfew hline rfl (thn (ho pins s σ H _ I h) λ v s1 ⟨x,H1,I1,r1,ty,q1⟩=>?_);obtain ⟨h1,h2⟩:=w1w I1 r1 ty;refine ⟨T,id,pa,slot,hty,h1,h2,?_⟩;have hA:=ha cpos pins s1 σ H1 _ I1 q1;rw [hs] at hA ⊢;refine t6p (by show (false || (backTo cpos (starEach es X.env)).any (·.1))=false;rw [hplain]<;>rfl) (t7l ?_);exact thn hA λ us s2 ⟨vs,H2,I2,r2,q2⟩=>hm pins s2 σ H2 x vs v us Q I2 r1 r2 q2
end
noncomputable def MtM (X:Cx) (id:String) (r:V->List V->Hp->VK->Prop):Prop :=
 ∀(pins:LO) (s:Shared) (σ:St) (H:Hp) (x:V) (xs:List V) (v:Value) (us:LV) (Q:VK),Inv X pins σ H s->RelV x v->Vals xs us->r x xs H Q ->
  wpAny (model X.prog X.w) X.A (call (.builtin id) (v::us)) (EP X pins σ Q) X.xe s
theorem Vals.one:∀ {x:V}{us:LV},Vals [x] us->∃u,us=[u]/\RelV x u
 | _,_,.cons r .nil=>⟨_,rfl,r⟩
theorem Vals.zero:∀ {us:LV},Vals [] us->us=[]
 | _,.nil=>rfl
theorem Vals.eraseIdx:∀ {xs:List V}{us:LV}(i:Nat),Vals xs us->Vals (xs.eraseIdx i) (us.eraseIdx i)
 | _,_,_,.nil=>.nil
 | _,_,0,.cons _ t=>t
 | _,_,i+1,.cons r t=>.cons r (Vals.eraseIdx i t)
theorem Vals.reverse (h:Vals xs us):Vals xs.reverse us.reverse:=by
 induction h with
 | nil=>exact .nil
 | cons r t ih=>rw [t4s,t4s];exact Vals.append ih (.cons r .nil)
theorem Vals.rep (h:Vals xs us):∀k:Nat,Vals (List.replicate k xs).flatten (List.replicate k us).flatten
 | 0=>.nil
 | k+1=>by
  rw [s0h,s0h,List.flatten_cons,List.flatten_cons];exact Vals.append h (Vals.rep h k)
theorem y6b {α:Type}:∀(l:List α) (i:Nat),(l.eraseIdx i).length≤l.length
 | [],_=>t0n _
 | _::_,0=>Nat.le_succ _
 | _::r,i+1=>t3u (y6b r i)
section
variable {X:Cx}{pins:LO}{σ:St}{H:Hp}{s:Shared}{l b:Addr}{xs ys zs:List V}
theorem Inv.lset {its its':LV}{f:Array Value->Array Value}{t':Nat}(I:Inv X pins σ H s) (hH:H l=some (.lst xs))
  (e:s.heap.get? l=some { cls:=.type "list",data:=.seq its.toArray n }) (hf:f its.toArray=its'.toArray) (hv:Vals ys its') (hz:ys.length≤sizeLine) :
  Inv X pins σ (upd H l (.lst ys)) { s with heap:=s.heap.update l (Obj.mapSeq f),toks:=t' }:=by
 have q:=PySem.IsL.update e f;rw [hf] at q;refine I.write (x:=l) (e:=l) (by rw [hH];exact trivial) (.inl rfl) (λ b' u hb hu=>(t1v s.heap (Obj.mapSeq f) (t3z hb)).trans hu) ⟨_,q⟩ ?_;exact ⟨hz,its',_,hv,q⟩
theorem Inv.lstM (I:Inv X pins σ H s) (hH:H l=some (.lst xs)):xs.length≤sizeLine/\∃(its:LV) (n:Nat),Vals xs its/\xs.length=its.length/\s.heap.get? l=some { cls:=.type "list",data:=.seq its.toArray n }:=by
 obtain ⟨z,its,n,r,e⟩:=I.hok l _ hH;exact ⟨z,its,n,r,r.length,e⟩
end
section
variable {X:Cx}
noncomputable def w4b:V->List V->Hp->VK->Prop:=λ x vs H Q=>∃l xs y,x=.ref l/\vs=[y]/\H l=some (.lst xs)/\xs.length < sizeLine/\Q .non (upd H l (.lst (xs++[y])))
theorem x5y:MtM X "list.append" w4b:=by
 intro pins s σ H x vs v us Q I rx rv h;obtain ⟨l,xs,y,rfl,rfl,hH,hz,q⟩:=h;cases rx;obtain ⟨u,rfl,ru⟩:=rv.one;obtain ⟨z,its,n,r,hl,e⟩:=I.lstM hH;refine t9p s0x ⟨_,e,rfl⟩ s0i (t9v _ _) (PySem.list_append l its.toArray n u (by rw [t0z];lia)) ⟨e,?_⟩;refine ⟨.non,_,I.lset (its':=its++[u]) hH e (by simp) (r.append (.cons ru .nil)) ?_,rfl,q⟩;rw [t0o,t1z];lia
noncomputable def x4g:V->List V->Hp->VK->Prop:=λ x vs H Q=>∃l xs i k y,x=.ref l/\vs=[.int i]/\H l=some (.lst xs)/\-(2 ^ 63)≤i/\i < 2 ^ 63/\seqIndex? i xs.length=some k/\xs[k]?=some y/\Q y (upd H l (.lst (xs.eraseIdx k)))
theorem w0g:MtM X "list.pop" x4g:=by
 intro pins s σ H x vs v us Q I rx rv h;obtain ⟨l,xs,i,k,y,rfl,rfl,hH,h1,h2,hk,hy,q⟩:=h;cases rx;obtain ⟨u,rfl,ru⟩:=rv.one;obtain ⟨t,rfl⟩:=ru;obtain ⟨z,its,n,r,hl,e⟩:=I.lstM hH;obtain ⟨w,hw,rw'⟩:=r.get hy
 refine t9p F.slot_list_pop ⟨_,e,rfl⟩ F.entry_list_pop (F.args_list_pop_2 _ _)
  (MeetsSeq.list_pop_at l its.toArray n i t k w (fitsIndex_both h1 h2) (by rw [t0z,← hl];exact hk) (by rw [← t9g];exact hw) (by rw [t0z];lia)) ⟨e,?_⟩
 refine ⟨y,_,I.lset (its':=its.eraseIdx k) hH e ?_ (r.eraseIdx k) ?_,rw',q⟩
 ·show its.toArray.eraseIdxIfInBounds k=(its.eraseIdx k).toArray;rw [List.eraseIdxIfInBounds_toArray]
 ·have:=y6b xs k;lia
end
section
variable {prog:Program}{w:World}{A:Around}{E:VS}{s:Shared}
end
section
variable {X:Cx}
end
end L2
namespace Att
open PySem PySem.W PySem.Calls PyProof.Rows
theorem y1j:∀(ns:LI) (vs:LV),WellAll P h vs (ns.map WData.int)->IntsAre vs ns:=by
 intro ns
 induction ns with
 | nil =>
  intro vs w;rw [List.map_nil] at w;cases w;exact .nil
 | cons n ns ih =>
  intro vs w;rw [t2t] at w
  cases w with
  | cons a b =>
   cases a;exact .cons _ _ (ih _ b)
theorem x3s {l:OpenLaw}(hn:l.most=some n)
  (hpre:l.row.toRowW.claim.pre args=true) (hwl:WellAll P h vals args) :
  ∃a vs ns,vals=[Value.ref a]/\args=[WData.list (ns.map WData.int)]/\h.get? a=some { cls:=.type "list",data:=.seq vs.toArray }/\IntsAre vs ns/\ns.length≤n:=by
 have hsh:WShape.hasAll [] args [.list .int]=true:=(pre_splitW hpre).1;have hc:l.pre.holds [] { args:=args }=true:=(pre_splitW hpre).2;obtain ⟨d,r,rfl,h1,h2⟩:=hasAllW_cons hsh;obtain rfl:=hasAllW_nil h2;obtain ⟨xs,rfl,h3⟩:=hasW_list h1;obtain ⟨ns,rfl⟩:=items_int h3
 have hlen:ns.length≤n:=by
  unfold OpenLaw.pre at hc
  have h4:(WTm.not (.lt (.lit (.int (n:Int))) (.len (.arg 0)))).holds [] { args:=[.list (ns.map .int)] }=true:=by
   have h4:=(holds_andW hc).1;rw [hn] at h4;exact h4
  have h5:=condW_of h4 (w_not (w_lt w_lit (w_len_list (w_arg rfl))));rw [t0c] at h5;refine Nat.le_of_not_lt λ q=>?_;have q':(n:Int) < ((ns.length:Nat):Int):=by lia
  first
   | (rw [t4n q'] at h5;exact absurd h5 (by decide))
   | (simp at h5;lia)
 cases hwl with
 | cons w1 w2 =>
  cases w2
  cases w1 with
  | list ho hall=>exact ⟨_,_,ns,rfl,rfl,ho,y1j ns _ hall,hlen⟩
theorem x4m (l:OpenLaw) (args:List WData):l.row.toRowW.claim.post args (.bool true) args=true :=
 postW_of (r:=l.row.toRowW) (X:=(true == true))
  (show WShape.has [] (.bool true) .bool=true by first | rfl | decide | simp [WShape.has,WShape.arms,WShape.armsAll])
  (show (WTm.eq .res (.lit (.bool true))).value [] { args:=args,res:=some (.bool true),after:=args }=some (.bool (true == true)) from w_eq_bool (w_res rfl) w_lit) rfl
theorem attach_call {l:OpenLaw}{YP:World->Heap->Prop}{d:DefRec}
  (hn:l.most=some n) (hdf:d.params.defaults=[])
  (call:∀(w:World) (s₀ s₁:Shared) (mg mb:SV) (fa:Addr) (o:Obj) (pm cd doc:Value) (a:Addr) (vs:LV) (ns:LI),
   Ground q loose [] XP w s₀ mg mb s₁.heap->YP w s₁.heap ->
   s₁.heap.get? fa=some o->o.data=.func (docDef d.name d.params d.body d.scope pm cd doc)->s₁.heap.CodeRec cd d.name->mg d.name=some (.ref fa) ->
   s₁.heap.get? a=some { cls:=.type "list",data:=.seq vs.toArray }->IntsAre vs ns->ns.length≤n->s₁.gens=#[] ->
   codeAny (model l.prog w) callerA (.call (.ref fa) ⟨[.ref a],[]⟩) (λ r s'=>r=.ok (.ret (.bool true))/\OldK s₁.heap s'.heap/\s'.os=s₁.os/\AllBare s'.gens) s₁) :
  WalkO q loose XP YP l.row.toRowW d [] (λ f vs=>PySem.call f vs):=by
 intro w s₀ s₁ mg mb G Y fa o pm cd doc dV kV ho hd hcd hD hmg hg args vals as hpre hlay hrd hwl hlo;obtain rfl:dV=.none:=Dflts.none hD hdf;obtain rfl:kV=.none:=Dflts.noKw hD;obtain ⟨a,vs,ns,rfl,rfl,hobj,hints,hlen⟩:=x3s hn hpre hwl;refine enter_call (t8g (call w s₀ s₁ mg mb fa o pm cd doc a vs ns G Y ho (fd_plain hd) hcd hmg hobj hints hlen hg) λ r s' hq=>?_);obtain ⟨rfl,h2,h3,h4⟩:=hq;exact ⟨.inl ⟨.bool true,.bool true,[],rfl,λ _=>rfl,.bool true,x4m l _,λ _=>⟨List.Pairwise.nil,λ _ hm=>(nomatch hm)⟩⟩,h2,h3,h4⟩
section
variable {prog:Program}{w:World}{A:Around}{E:VS}{s:Shared}{K:Frag}
end
end Att
namespace L2
open PySem PySem.Spec PyProof.Rows
theorem y0n:∀ {vs:LV}{ns:LI},IntsAre vs ns->Vals (ns.map V.int) vs
 | _,_,.nil=>.nil
 | _,_,.cons n t h=>.cons ⟨t,rfl⟩ (y0n h)
noncomputable def z2f (s:Stmt):Arguments:=match s with
 | .FunctionDef _ a _ _ _ _ _ _ _ _=>a
 | _=>{ posonlyargs:=[],args:=[],vararg:=none,kwonlyargs:=[],kw_defaults:=[],kwarg:=none,defaults:=[] }
def z1v (s:Stmt):List Stmt:=match s with
 | .FunctionDef _ _ b _ _ _ _ _ _ _=>b
 | _=>[]
noncomputable def z0h (s:Stmt):Scope:=match s with
 | .FunctionDef _ _ _ _ _ _ sc _ _ _=>sc
 | _=>{ kind:=.function,names:=[],isGenerator:=false,isCoroutine:=false }
abbrev CX0:CXT:=λ _ _ _ _ _ _=>False
abbrev E0:XK:=λ _ _ _=>False
theorem z0l:y6s CX0 X E0:=λ _ _ _ _ _ _ _ h=>h.elim
structure Fun (K:FG) (x qual:Str) (st:Stmt) (f:Addr) (fd:FuncData):Prop where
 ex:∃(oc:Value) (od:OA) (kV doc pm:Value) (an:OA) (cdv ct:Value) (osl:AV),
  fd=W.fnOf x qual (z2f st) (z1v st) (z0h st) .none kV doc pm an cdv ct/\K.lookup f=some ⟨oc,od,.func fd,osl⟩/\W.codeIn K cdv qual=true
 kp:W.keepIn K (.ref f)=true
section
variable {P:Program}{w:World}{K:FG}{mg:SV}{base:Heap}
theorem Fun.ok {st:Stmt}{sp:Sp}(F:Fun K x qual st f fd) (S:FnScope N ps (z0h st)) (len:∀vs H Q E,sp vs H Q E->vs.length=ps.length)
  (hbody:∀(cdv:Value) (A:Around) (outer:List Env) (s:Shared) (H:Hp) (vs:List V) (Q:VK) (E:XK),Room k (A.deeper (envOfC qual (z0h st) s.heap.objs.size f cdv))->sp vs H Q E ->
   ∃t,PSs (y6i CX0 P w K mg base N qual (z0h st) f cdv A outer s H E).nox (z1v st) t/\t { nx:=λ _ H'=>Q .non H',rt:=Q } (start N vs) H):FnOk P w K mg base CX0 (k+1) f fd ps sp:=by
 obtain ⟨oc,od,kV,doc,pm,an,cdv,ct,osl,rfl,lk,hcd⟩:=F.ex;refine v0q lk hcd S len λ A outer s H vs Q E hr hsp=>?_;obtain ⟨t,h,q⟩:=hbody cdv A outer s H vs Q E hr hsp;exact ⟨t,h.nox,q⟩
theorem Fun.binds {st:Stmt}{ps:List Str}(F:Fun K x qual st f fd)
  (h:∀(kV doc pm:Value) (an:OA) (cdv ct:Value) (us:LV),us.length=ps.length->bindArgs (W.fnOf x qual (z2f st) (z1v st) (z0h st) .none kV doc pm an cdv ct) ⟨us,[]⟩=pure (ps.zip us)):Binds K fd ps []:=by
 obtain ⟨oc,od,kV,doc,pm,an,cdv,ct,osl,rfl,lk,hcd⟩:=F.ex;exact .all (h kV doc pm an cdv ct)
theorem w3f {st:Stmt}{oc:Value}{od an:OA}{osl:AV}{kV doc pm cdv ct:Value}(l:K.lookup f=some ⟨oc,od,.func (W.fnOf x qual (z2f st) (z1v st) (z0h st) .none kV doc pm an cdv ct),osl⟩)
  (c:W.codeIn K cdv qual=true) (k:W.keepIn K (.ref f)=true):Fun K x qual st f (W.fnOf x qual (z2f st) (z1v st) (z0h st) .none kV doc pm an cdv ct):=⟨⟨oc,od,kV,doc,pm,an,cdv,ct,osl,rfl,l,c⟩,k⟩
end
theorem z0n {n:Nat}(h:n≤1000):n < sizeLine:=t3k h (by decide)
section
variable {X:Cx}
theorem pv (i:Nat)(hN:X.N[i]?=some x:=by rfl) (hv:Vis X.env.scope x:=by first | exact Or.inl rfl | exact Or.inr (Or.inl rfl) | exact Or.inr (Or.inr rfl)) (hd:(x == ("__debug__" : Str))=false:=by decide)
  (hcd:(x == ("__classdict__" : Str))=false:=by decide):PE X (.Name x pos) (x8u i):=w3a hN hv hd hcd
end
def Same (H H':Hp):Prop:=∀b o,H b=some o->H' b=some o
theorem Same.refl (H:Hp):Same H H:=λ _ _ h=>h
theorem Same.trans (a:Same H H1) (b:Same H1 H2):Same H H2:=λ c o h=>b c o (a c o h)
theorem Same.free (e:Same H H')(h:H' l=Option.none):H l=Option.none:=by
 cases q:H l with
 | none=>rfl
 | some o =>
  rw [e l o q] at h;cases h
theorem Same.seq {K:FG}(e:Same H H') (h:SqL K H a xs):SqL K H' a xs:=by
 rcases h with (h | ⟨o,h⟩) | h
 ·exact .inl (.inl (e _ _ h))
 ·exact .inl (.inr ⟨o,e _ _ h⟩)
 ·exact .inr h
end L2
set_option maxHeartbeats 4000000
namespace L2
open PySem PySem.Spec PyProof.Rows
section
variable {prog:Program}{w:World}{A:Around}{R:Result->Shared->Prop}{s:Shared}
theorem y6k {elt target iter:Expr}{it acc:Value}(I:Nat->Shared->Prop)
  (turn:∀n s,I n s->wpAny (model prog w) A (pyNext it) (λ r s₁=>match r with
   | none=>R (.ok .next) s₁
   | some v=>wpAny (model prog w) A (letOwnedTupleGo target it v) (λ _ s₀=>wpAny (model prog w) A (assign target env v) (λ _ s₂=>wpAny (model prog w) A (eval elt env) (λ x s₃ =>
     wpAny (model prog w) A (call (.builtin "list.append") [acc,x]) (λ _ s₄=>∃m,m < n/\I m s₄) (λ _ _=>False) s₃)
     (λ _ _=>False) s₂) (λ _ _=>False) s₀) (λ _ _=>False) s₁) (λ _ _=>False) s)
  (n:Nat) (h:I n s) :
  codeAny (model prog w) A (.compLoop (.ListComp elt [⟨target,iter,[],0⟩] scope pos) 0 it acc env) R s:=by
 refine codeAny_loop rfl I (λ n s hI=>?_) n h;show wpAny _ _ ((compTurn (.ListComp elt [⟨target,iter,[],0⟩] scope pos) 0 it acc env).onRaise (λ x=>do noteFrame x env;theTreesLotGoes x)) _ _ s;refine wpAny_noted ?_;rw [compTurn_list1];refine t0b (t5l (t0b (t2z (turn n s hI) (λ r s₁ h₁=>?_) λ _ _ h'=>h'.elim)))
 cases r with
 | none=>exact t0s h₁
 | some v =>
  refine t0b (t2z h₁ (λ _ s₀ h₀=>?_) λ _ _ h'=>h'.elim)
  exact t0b (t2z h₀ (λ _ s₂ h₂=>t0b (t0b (t2z h₂ (λ x s₃ h₃=>t0b (t2z h₃
   (λ _ s₄ h₄=>t0s (t0s ⟨rfl,h₄⟩)) λ _ _ h'=>h'.elim)) λ _ _ h'=>h'.elim))) λ _ _ h'=>h'.elim)
end
noncomputable def z2c (X:Cx) (N:List Str) (scope:Scope) (cl:LA) (C:Addr) (ex:List Addr) (s:Shared) (H:Hp):Cx where
 prog:=X.prog
 w:=X.w
 K:=X.K
 mg:=X.mg
 base:=X.base
 A:=X.A
 N:=N
 s₀:=s
 H₀:=H
 env:=compEnvC scope cl C X.env
 outer:=X.stack
 stack:=X.stack
 ex:=ex
 fn:=λ _=>false
 calm:=X.calm
 pn:=X.pn
 xe:=λ _ _=>False
def z1s (k:Nat) (js:List Nat) (σ:St):St:=List.replicate k none++js.map λ j=>(σ[j]?).join
noncomputable def z8m (wi:TI) (k:Nat) (js:List Nat) (g:TG) (te:TE):TE:=λ σ H Q=>wi σ H λ J H1 =>
 ∃W:Nat->Nat->List V->St->Hp->Prop,(∃m,W 0 m [] (z1s k js σ) H1)/\∀i m ys σ' H',W i m ys σ' H' ->
  (J.stop i H'/\∀p,H' p=none->Q (.ref p) (upd H' p (.lst ys))) \/
  (J.go i H'/\ys.length < sizeLine/\∃N:List V->St->Hp->Prop,(∀zs σ2 H2,N zs σ2 H2->∃m',m' < m/\W (i+1) m' zs σ2 H2) /\
   ∀x H2,J.yld i H' x H2->g x σ' H2 λ σ3 H3=>te σ3 H3 λ v H4=>N (ys++[v]) σ3 H4)
structure Cap (X:Cx) (scope:Scope) (cl:LA) (x:Str) (j:Nat):Prop where
 at_:X.N[j]?=some x
 out:X.env.scope.names.lookup x=some .cell\/X.env.scope.names.lookup x=some .free
 inn:(relabel scope X.env).names.lookup x=some .cell\/(relabel scope X.env).names.lookup x=some .free
theorem x6k {σ:St}{j:Nat}(h:(σ[j]?).join=some v):σ[j]?=some (some v):=by
 cases e:σ[j]? with
 | none=>rw [e] at h;cases h
 | some o =>
  rw [e] at h
  cases o with
  | none=>cases h
  | some u=>cases h;rfl
noncomputable def z5k (wi:TI) (k:Nat) (js:List Nat) (g:TG) (tc:TT) (te:TE):TE:=λ σ H Q=>wi σ H λ J H1 =>
 ∃W:Nat->Nat->List V->St->Hp->Prop,(∃m,W 0 m [] (z1s k js σ) H1)/\∀i m ys σ' H',W i m ys σ' H' ->
  (J.stop i H'/\∀p,H' p=none->Q (.ref p) (upd H' p (.lst ys))) \/
  (J.go i H'/\ys.length < sizeLine/\∃N:List V->St->Hp->Prop,(∀zs σ2 H2,N zs σ2 H2->∃m',m' < m/\W (i+1) m' zs σ2 H2) /\
   ∀x H2,J.yld i H' x H2->g x σ' H2 λ σ3 H3=>tc σ3 H3 λ b H4=>if b=true then te σ3 H4 λ v H5=>N (ys++[v]) σ3 H5 else N ys σ3 H4)
abbrev v1b:=Program->World->Around->Env->(Bool->Shared->Prop)->Shared->Prop
noncomputable def w6a (ifs:List Expr) (T:v1b):Prop:=(∀ {prog:Program}{w:World}{A:Around}{R:Result->Shared->Prop}{s:Shared}{elt target iter:Expr}{scope:Scope}{pos:Pos}{it acc:Value}{env:Env}(I:Nat->Shared->Prop),
  (∀n s,I n s->wpAny (model prog w) A (pyNext it) (λ r s₁=>match r with
   | none=>R (.ok .next) s₁
   | some v=>wpAny (model prog w) A (letOwnedTupleGo target it v) (λ _ s₀=>wpAny (model prog w) A (assign target env v) (λ _ s₂=>T prog w A env (λ b s₃ =>
     if b=true then wpAny (model prog w) A (eval elt env) (λ x s₄ =>
      wpAny (model prog w) A (call (.builtin "list.append") [acc,x]) (λ _ s₅=>∃m,m < n/\I m s₅) (λ _ _=>False) s₄) (λ _ _=>False) s₃
     else ∃m,m < n/\I m s₃) s₂) (λ _ _=>False) s₀) (λ _ _=>False) s₁) (λ _ _=>False) s)->∀n,I n s ->
  codeAny (model prog w) A (.compLoop (.ListComp elt [⟨target,iter,ifs,0⟩] scope pos) 0 it acc env) R s) /\
 ∀ {p w A e k k' s},T p w A e k s->(∀b s,k b s->k' b s)->T p w A e k' s
def v4c:v1b:=λ _ _ _ _ k s=>k true s
theorem v2r:w6a [] v4c:=⟨λ I t n h=>y6k I t n h,λ h m=>m _ _ h⟩
noncomputable def PM (X:Cx) (T:v1b) (tc:TT):Prop:=∀(pins:LO) (s:Shared) (σ:St) (H:Hp) (K:Bool->Hp->Prop),Inv X pins σ H s->tc σ H K->T X.prog X.w X.A X.env (λ b s'=>∃H',Inv X pins σ H' s'/\K b H') s
theorem y3f {X:Cx}{elt tg iter:Expr}{own fv:List Str}{js:List Nat}
    (hc:X.calm=true) (hi:PI X tg iter wi) (hclos:closureFor scope X.env=pure cl) (hcell:∀y∈scope.names,y.2≠.cell) (hkind:scope.kind=.function)
    (hnames:∀y∈scope.names,y.2=.local->scope.names.lookup y.1=some .local)
    (hcl:∀x c,cl.lookup x=some c->X.env.cells.lookup x=some c)
    (hhas:∀x,((relabel scope X.env).names.lookup x=some .cell\/(relabel scope X.env).names.lookup x=some .free)->∃c,cl.lookup x=some c)
    (hlen:js.length=fv.length) (hcap:∀(i:Nat) x j,fv[i]?=some x->js[i]?=some j->Cap X scope cl x j)
    (hg:∀(C:Addr) (ex:List Addr) (s:Shared) (H:Hp),PG (z2c X (own++fv) scope cl C ex s H) tg g)
    (he:∀(C:Addr) (ex:List Addr) (s:Shared) (H:Hp),PE (z2c X (own++fv) scope cl C ex s H) elt te)
    (ht:∀(C:Addr) (ex:List Addr) (s:Shared) (H:Hp),PM (z2c X (own++fv) scope cl C ex s H) T0 tc) (lp:w6a ifs T0)
    (hs:∀x,foldedSetIterable iter X.env x=pure x)(I:Inv X pins σ H s) (h:z5k wi own.length js g tc te σ H Q)
    (fin:∀(a C:Addr) (s5:Shared) (H5:Hp) (fl:Flow),Inv X pins σ H5 s5->H5 C=none->C≠X.env.locals->X.s₀.heap.objs.size≤C->(∀x c,X.env.cells.lookup x=some c->c≠C)->(∀p∈X.pn++pins,p.1≠C)->(∃m,s5.heap.Ns C m)->Q (.ref a) H5->compPost (model X.prog X.w) X.A X.xe use QQ (.ref a) C (.ok fl) s5) :
    wpAny (model X.prog X.w) X.A (comprehension (.ListComp elt [⟨tg,iter,ifs,0⟩] scope pos) scope X.env fpos (newList []) false (firstIter [⟨tg,iter,ifs,0⟩] X.env) use) QQ X.xe s:=by
  refine wpAny_comprehension_free (use:=use) rfl hs hclos hkind hnames (thn (hi pins s σ H _ I h) λ v s1 h1=>thn h1 λ itv s2 h2=>?_);obtain ⟨it,fp,tn,J,H2,e,I2,T,st2,f2,W,⟨m0,w0⟩,turn⟩:=h2;subst e;refine t1w (wpAny_newFunctionEnv hcell (by intro y hy;simp at hy) (λ h₁ hns₁ hsb₁=>?_) hkind);dsimp only at hns₁ hsb₁ ⊢;generalize hHp:s2.heap.push { cls:=.type "list",dict:=none,data:=.seq ([]:LV).toArray }=hL at hns₁ hsb₁ ⊢;have hC:hL.objs.size=s2.heap.objs.size+1:=by rw [← hHp,t2l]
  have hDC:s2.heap.objs.size≠hL.objs.size:=by rw [hC];exact t1k (t3v _)
  have ltC:∀b,b < s2.heap.objs.size->b≠hL.objs.size:=λ b hb=>by rw [hC];exact t1k (t2b hb)
  have old:∀b o,s2.heap.get? b=some o->h₁.get? b=some o:=λ b o e=>hsb₁.extBut b o (ltC b (t0y e)) (t0f _ (hHp ▸ t0f _ e));have hacc:h₁.get? s2.heap.objs.size=some { cls:=.type "list",data:=.seq ([]:LV).toArray 0 }:=hsb₁.extBut _ _ hDC (t0f _ (hHp ▸ t0r _ rfl));have hfresh:∀a,s2.heap.objs.size≤a->H2 a=none:=λ a ha=>I2.hok.fresh ha
  have fpL:∀b∈fp,b < s2.heap.objs.size:=λ b hb=>by
    obtain ⟨o,e,_⟩:=T.obj _ _ st2 b hb;exact t0y e
  have cellL:∀x c,cl.lookup x=some c->c < s2.heap.objs.size:=λ x c e=>by
    obtain ⟨v,q⟩:=I2.cell x c (hcl x c e);exact q.lt
  have pinL:∀p∈X.pn++pins,p.1 < s2.heap.objs.size:=λ p hp=>t0y (I2.pin p hp).1;generalize hX:z2c X (own++fv) scope cl hL.objs.size fp s2 H2=Y
  have ok:Y.Ok:=by
    subst hX
    refine ⟨I2.ok.mod,hkind,I2.ok.glob,I2.ok.blt,by show s2.heap.objs.size≤hL.objs.size;lia,λ x y c h1 h2=>I2.ok.inj x y c (hcl x c h1) (hcl y c h2),λ x hx=>hhas x hx,
      λ x c hf=>absurd hf (by show ¬(false=true);decide),I2.ok.hd,I2.ok.frames,.inl rfl,λ b hb=>⟨ltC b (fpL b hb),λ x c e=>(f2 b hb).2.2.2.2.1 x c (hcl x c e)⟩,I2.bs,t2u I2.ok.bsz I2.sz,λ b o e hb=>?_,λ b hb hz=>?_,I2.stack,I2.stkFree⟩
    · rcases (f2 b hb).2.2.2.1 with z | z
      · exact I2.ok.noex b o e z
      · exact absurd (t1d (t0y e) (t2u I2.ok.bsz z)) (t2s _)
    · rcases t1a.mp (I2.stkSub b hz) with z | z
      · exact (f2 b hb).2.1 z
      · exact (f2 b hb).2.2.1 z
  have hYl:Y.env.locals=hL.objs.size:=by subst hX;rfl
  have hYs:Y.s₀=s2:=by subst hX;rfl
  have hYH:Y.H₀=H2:=by subst hX;rfl
  have hYx:Y.ex=fp:=by subst hX;rfl
  have hYf:Y.fs=frs X.stack:=by subst hX;rfl
  have hYc:Y.env.cells=cl:=by subst hX;rfl
  have hYp:Y.pn=X.pn:=by subst hX;rfl
  have pinOk:∀p∈X.pn++pins,s2.heap.get? p.1=some p.2/\H2 p.1=none/\p.1≠hL.objs.size/\p.1 ∉ frs X.stack/\∀v,p.2.data≠.cell v:=λ p hp=>by
    obtain ⟨e,n,ne,nf,d⟩:=I2.pin p hp;refine ⟨e,n,ltC _ (t0y e),λ z=>?_,d⟩
    rcases t1a.mp (I2.stkSub _ z) with q | q
    · exact ne q
    · exact nf q
  have stkL:∀b∈frs X.stack,b < s2.heap.objs.size:=λ b hb=>by
    obtain ⟨_,o,ho,_⟩:=I2.stack.mem hb;exact t0y ho
  have I3:Inv Y (pins++[(s2.heap.objs.size,{ cls:=.type "list",data:=.seq ([]:LV).toArray 0 })]) (z1s own.length js σ) H2 { s2 with heap:=h₁,toks:=s2.toks+([]:List (Str × Value)).length }:=by
    refine ⟨ok,by subst hX;rfl,I2.bare,by rw [hYH,hYs];exact Un.kept old,⟨_,by rw [hYl];exact hns₁,λ i x v e1 e2 e3=>?_⟩,λ x c e=>?_,by rw [hYl];exact hfresh _ (by lia),λ x c e=>?_,λ p hp=>?_,by subst hX;exact I2.hok.kept old,?_⟩
    · subst hX;have e1:(own++fv)[i]?=some x:=e1;unfold z1s at e2;by_cases hi:i < own.length
      · rw [t1b (by simpa using hi),t6d] at e2;split at e2<;>cases e2
      · rw [t0u (by simpa using hi),t5h,t0q] at e2;rw [t0u (by lia)] at e1
        cases ej:js[i - own.length]? with
        | none=>rw [ej] at e2;cases e2
        | some j =>
          rw [ej] at e2;have cp:=hcap _ x j e1 ej;have e2':σ[j]?=some (some v):=x6k (t1i e2);obtain ⟨m,hn,hl⟩:=I2.loc;obtain ⟨u,r,l⟩:=hl j x v cp.at_ e2' (cp.out.elim (λ z=>.inr (.inl z)) λ z=>.inr (.inr z));refine ⟨u,r,.inr ⟨cp.inn,?_⟩⟩;obtain ⟨c,ec⟩:=hhas x cp.inn
          rcases l with ⟨k,_⟩ | ⟨_,c',ec',z⟩
          · have k:X.env.scope.names.lookup x=some .local:=k
            rcases cp.out with q | q<;>rw [q] at k<;>cases k
          · rw [hcl x c ec] at ec';cases ec';obtain ⟨o,ho,hd⟩:=z;exact ⟨c,ec,o,old _ _ ho,hd⟩
    · rw [hYc] at e;obtain ⟨v,o,ho,hd⟩:=I2.cell x c (hcl x c e);exact ⟨v,o,old _ _ ho,hd⟩
    · rw [hYc] at e;exact I2.freeC x c (hcl x c e)
    · rw [hYp] at hp;rw [hYl,hYf]
      rcases t1n.mp hp with z | z
      · obtain ⟨a,b,c,d,f⟩:=pinOk p (t3y _ z);exact ⟨old _ _ a,b,c,d,f⟩
      · rcases t1n.mp z with z | z
        · obtain ⟨a,b,c,d,f⟩:=pinOk p (t1g _ z);exact ⟨old _ _ a,b,c,d,f⟩
        · have e:p=_:=t0v.mp z;subst e;exact ⟨hacc,hfresh _ (t0n _),hDC,λ z=>absurd (stkL _ z) (t2s _),λ v z=>by cases z⟩
    · subst hX;unfold z1s;show _=(own++fv).length;simp [hlen]
  have hYprog:Y.prog=X.prog:=by subst hX;rfl
  have hYw:Y.w=X.w:=by subst hX;rfl
  have hYK:Y.K=X.K:=by subst hX;rfl
  have hYA:Y.A=X.A:=by subst hX;rfl
  have hYcalm:Y.calm=true:=by subst hX;exact hc
  have hYxe:Y.xe=λ _ _=>False:=by subst hX;rfl
  have hYenv:Y.env=compEnvC scope cl hL.objs.size X.env:=by subst hX;rfl
  have hg':=hg hL.objs.size fp s2 H2;have he':=he hL.objs.size fp s2 H2;have ht':=ht hL.objs.size fp s2 H2;rw [hX] at hg' he' ht'
  have fpOk:∀ {H':Hp}{pn:LO},(∀b∈fp,H' b=none)->(∀p∈pn,p.1=s2.heap.objs.size\/p∈pins)->∀b∈fp,w3i Y pn H' b:=λ hn hp b hb=>by
    refine ⟨hn b hb,by rw [hYl];exact ltC b (fpL b hb),?_,.inl (by rw [hYx];exact hb),λ x c e=>?_,λ p hq=>?_⟩
    · rw [hYf];intro hz
      rcases t1a.mp (I2.stkSub b hz) with z | z
      · exact (f2 b hb).2.1 z
      · exact (f2 b hb).2.2.1 z
    · rw [hYc] at e;exact (f2 b hb).2.2.2.2.1 x c (hcl x c e)
    · rw [hYp] at hq
      rcases t1n.mp hq with z | z
      · exact (f2 b hb).2.2.2.2.2 p (t3y _ z)
      · rcases hp p z with q | q
        · rw [q];exact t3z (t1k (fpL b hb))
        · exact (f2 b hb).2.2.2.2.2 p (t1g _ q)
  have loop:∀s₃:Shared,s₃={ s2 with heap:=h₁,toks:=s2.toks+([]:List (Str × Value)).length } ->
      codeAny (model X.prog X.w) X.A (.compLoop (.ListComp elt [⟨tg,iter,ifs,0⟩] scope pos) 0 (.ref it) (.ref s2.heap.objs.size) (compEnvC scope cl hL.objs.size X.env))
        (compPost (model X.prog X.w) X.A X.xe use QQ (.ref s2.heap.objs.size) hL.objs.size) s₃:=by
    rintro s₃ rfl
    refine lp.1 (λ n s'=>∃i ys its k σ' H',Inv Y (pins++[(s2.heap.objs.size,{ cls:=.type "list",data:=.seq (its:LV).toArray k })]) σ' H' s'/\tn i s'.heap/\(∀b∈fp,H' b=none)/\Vals ys its/\ys.length≤sizeLine/\W i n ys σ' H') ?_ m0
      ⟨0,[],[],0,_,H2,I3,T.keep _ _ _ st2 λ b _ o e=>old b o e,λ b hb=>(f2 b hb).1,.nil,t0x _,w0⟩
    rintro n s4 ⟨i,ys,its,k,σ4,H4,I4,st4,fr4,rv,hz,w4⟩
    have pinD:∀p∈(pins++[(s2.heap.objs.size,({ cls:=.type "list",data:=.seq (its:LV).toArray k }:Obj))]),p.1=s2.heap.objs.size\/p∈pins:=λ p hp=>by
      rcases t1n.mp hp with z | z
      · exact .inr z
      · rw [t0v.mp z];exact .inl rfl
    have F4:=fpOk (pn:=pins++[(s2.heap.objs.size,{ cls:=.type "list",data:=.seq (its:LV).toArray k })]) fr4 pinD
    rcases turn i n ys σ4 H4 w4 with ⟨stop,qn⟩ | ⟨go,hlt,N,hN,step⟩
    · have d:=T.done Y hYprog hYw hYK hYcalm i _ s4 σ4 H4 (λ _ _=>False) I4 F4 st4 stop;rw [hYA] at d;refine thn d λ r s5 ⟨hr,I5⟩=>?_;subst hr;obtain ⟨m,hn,_⟩:=id I5.loc;rw [hYl] at hn;have hD:=I5.pin (s2.heap.objs.size,{ cls:=.type "list",data:=.seq (its:LV).toArray k }) (t1g _ (t1g _ (t0v.mpr rfl)));have hDn:H4 s2.heap.objs.size=none:=hD.2.1;have kp:∀b o,b≠hL.objs.size->s5.heap.get? b=some o->s5.heap.get? b=some o:=λ b o _ e=>e;have B:=I5.base;rw [hYH,hYs,hYx,hYf] at B;have s2C:∀b o,s2.heap.get? b=some o->b≠hL.objs.size:=λ b o e=>ltC b (t0y e);have trk:∀b u,H4 b=some u->b≠s2.heap.objs.size:=λ b u e z=>by rw [z,hDn] at e;cases e
      have trC:∀b u,H4 b=some u->b≠hL.objs.size:=λ b u e z=>by
        have:=I5.free;rw [hYl,← z,e] at this;cases this
      have hH2:∀b u,H2 b=some u->b≠s2.heap.objs.size:=λ b u e z=>by rw [z,hfresh _ (t0n _)] at e;cases e
      have IX:Inv X pins σ (upd H4 s2.heap.objs.size (.lst ys)) s5:=by
       refine I2.call' (ch:=fp) (by show s5.os=s2.os;rw [I5.os,hYs]) ⟨λ b o e n hb hx=>kp b o (s2C b o e) (B.keep b o e n hb hx),λ b o e n hb hx=>?_,λ b o e n hx=>?_,λ b o e hx=>?_,λ b xs e=>?_,λ b o u e=>?_,λ b ps e=>?_⟩ ?_ I5.bare (λ b hb=>⟨(f2 b hb).2.2.2.1,(f2 b hb).2.1,(f2 b hb).2.2.2.2.1,(f2 b hb).2.2.2.2.2⟩)
       · obtain ⟨sl,q⟩:=B.slot b o e n hb hx;exact ⟨sl,kp b _ (s2C b o e) q⟩
       · rw [z0u (t1k (t0y e))];exact B.free b o e n hx
       · obtain ⟨o',q⟩:=B.there b o e hx;exact ⟨o',kp b o' (s2C b o e) q⟩
       · rw [z0u (hH2 b _ e)];exact B.tups b xs e
       · rw [z0u (hH2 b _ e)];exact B.frzs b o u e
       · obtain ⟨more,q⟩:=B.tbls b ps e;exact ⟨more,by rw [z0u (hH2 b _ e)];exact q⟩
       · intro b u e;by_cases hb:b=s2.heap.objs.size
         · subst hb;rw [z0d] at e;cases e;exact ⟨hz,its,k,rv,kp _ _ hDC hD.1⟩
         · rw [z0u hb] at e;have okb:=I5.hok b u e;rw [hYprog,hYw] at okb;refine okb.stay (λ c v hc q=>kp c v ?_ q) (λ c q=>by rw [z0u (trk c _ q)];exact q) λ c xs q=>by rw [z0u (trk c _ q)];exact q
           rcases hc with z | z
           · rw [z];exact trC b u e
           · exact trC c _ z
      have zC:upd H4 s2.heap.objs.size (.lst ys) hL.objs.size=none:=by
        rw [z0u (t3z hDC)];have:=I5.free
        rwa [hYl] at this
      exact fin s2.heap.objs.size hL.objs.size s5 _ _ IX zC (t3z (ltC _ I2.lt)) (by have:=I2.sz;lia) (λ x c e=>ltC c (by obtain ⟨v,q⟩:=I2.cell x c e;exact q.lt)) (λ p hp=>ltC _ (pinL p hp)) ⟨m,hn⟩ (qn _ hDn)
    · have d:=T.item Y hYprog hYw hYK hYcalm i _ s4 σ4 H4 (λ _ _=>False) I4 F4 st4 go;rw [hYA] at d;refine thn d λ r s5 ⟨u,hr,h5⟩=>?_;subst hr;refine thn h5 λ _ s6 ⟨x,H6,I6,r6,y6,st6,fr6⟩=>?_;have I6':=I6.pinned (fpOk (pn:=pins++[(s2.heap.objs.size,{ cls:=.type "list",data:=.seq (its:LV).toArray k })]) fr6 pinD) (T.obj _ _ st6);have d7:=hg' _ s6 σ4 H6 x u _ I6' r6 (step x H6 y6);rw [hYprog,hYw,hYA,hYxe,hYenv] at d7;refine thn d7 λ _ s7 ⟨σ7,H7,I7,q7⟩=>?_;have dt:=ht' _ s7 σ7 H7 _ I7 q7;rw [hYprog,hYw,hYA,hYenv] at dt;refine lp.2 dt λ bb s7 ⟨H7,I7,q7⟩=>?_
      cases bb with
      | false =>
        obtain ⟨m',hm,w8⟩:=hN _ _ _ q7;have tn8:tn (i+1) s7.heap:=T.keep _ _ _ st6 λ b hb o e=>(I7.pin (b,o) (t1g _ (t1g _ (z4t hb e)))).1
        have fr8:∀b∈fp,H7 b=none:=λ b hb=>by
          obtain ⟨o,e,d⟩:=T.obj _ _ st6 b hb;exact (I7.pin (b,o) (t1g _ (t1g _ (z4t hb e)))).2.1
        exact ⟨m',hm,i+1,ys,its,k,σ7,H7,I7.unpinned,tn8,fr8,rv,hz,w8⟩
      | true =>
        have q7:te σ7 H7 _:=q7;show wpAny _ _ (eval elt _) _ _ s7;have d8:=he' _ s7 σ7 H7 _ I7 q7;rw [hYprog,hYw,hYA,hYxe,hYenv] at d8;refine thn d8 λ u8 s8 ⟨v8,H8,I8,r8,n8⟩=>?_;obtain ⟨m',hm,w8⟩:=hN _ _ _ n8;have pD:=I8.pin (s2.heap.objs.size,{ cls:=.type "list",data:=.seq (its:LV).toArray k }) (t1g _ (t3y _ (t1g _ (t0v.mpr rfl))));have tn8:tn (i+1) s8.heap:=T.keep _ _ _ st6 λ b hb o e=>(I8.pin (b,o) (t1g _ (t1g _ (z4t hb e)))).1
        have fr8:∀b∈fp,H8 b=none:=λ b hb=>by
          obtain ⟨o,e,d⟩:=T.obj _ _ st6 b hb;exact (I8.pin (b,o) (t1g _ (t1g _ (z4t hb e)))).2.1
        have J8:Inv Y pins σ7 H8 s8:=I8.unpinned.unpinned;have eD:s8.heap.get? s2.heap.objs.size=some { cls:=.type "list",data:=.seq its.toArray k }:=pD.1;refine t9p s0x ⟨_,eD,rfl⟩ s0i (t9v _ _) (PySem.list_append _ its.toArray k u8 (by rw [t0z,← rv.length];lia)) ⟨eD,?_⟩;have other:∀b o,b≠s2.heap.objs.size->s8.heap.get? b=some o->(s8.heap.update s2.heap.objs.size (Obj.mapSeq λ xs=>xs.push u8)).get? b=some o:=λ b o nb e=>(t1v s8.heap _ (t3z nb)).trans e
        have J9:=J8.turned (t':=s8.toks) (it:=s2.heap.objs.size) (h':=s8.heap.update s2.heap.objs.size (Obj.mapSeq λ xs=>xs.push u8)) other pD.2.1 (by rw [hYl];exact hDC) (.inr (by rw [hYs];exact t0n _))
          (λ x c e=>by rw [hYc] at e;exact t1k (cellL x c e)) (λ p hp=>by rw [hYp] at hp;exact t1k (pinL p hp))
        have ep:(its.toArray.push u8)=(its++[u8]).toArray:=by simp
        obtain ⟨kk,upD⟩:∃kk,(s8.heap.update s2.heap.objs.size (Obj.mapSeq λ xs=>xs.push u8)).get? s2.heap.objs.size=some { cls:=.type "list",data:=.seq (its++[u8]).toArray kk }:=by
          have z:=PySem.IsL.update eD (λ xs=>xs.push u8);rw [ep] at z;exact ⟨_,z⟩
        refine ⟨m',hm,i+1,ys++[v8],its++[u8],kk,σ7,H8,J9.pins_of λ p hp=>?_,T.keep _ _ _ tn8 λ b hb o e=>other b o (t1k (fpL b hb)) e,fr8,rv.append (.cons r8 .nil),?_,w8⟩
        · rcases t1n.mp hp with z | z
          · exact J9.pin p (t1g _ z)
          · rw [t0v.mp z];exact ⟨upD,pD.2.1,by rw [hYl];exact hDC,by rw [hYf];exact λ z=>absurd (stkL _ z) (t2s _),λ v z=>by cases z⟩
        · rw [t0o,t1z];lia
  exact codeAny_compStart_list (loop _ rfl) (T.self _ 0 _ _ _ (T.keep _ _ _ st2 λ b _ o e=>old b o e) (loop _ rfl))
theorem w1o:z5k wi k js g (λ σ H K=>K true H) te=z8m wi k js g te:=by
 unfold z5k z8m;simp only [t7u]
theorem pm0:PM X v4c (λ σ H K=>K true H):=λ _ _ _ H _ I k=>⟨H,I,k⟩
theorem y6j {X:Cx}{elt tg iter:Expr}{own fv:List Str}{js:List Nat}
  (hc:X.calm=true) (hi:PI X tg iter wi) (hclos:closureFor scope X.env=pure cl) (hcell:∀y∈scope.names,y.2≠.cell) (hkind:scope.kind=.function)
  (hnames:∀y∈scope.names,y.2=.local->scope.names.lookup y.1=some .local)
  (hcl:∀x c,cl.lookup x=some c->X.env.cells.lookup x=some c)
  (hhas:∀x,((relabel scope X.env).names.lookup x=some .cell\/(relabel scope X.env).names.lookup x=some .free)->∃c,cl.lookup x=some c)
  (hlen:js.length=fv.length) (hcap:∀(i:Nat) x j,fv[i]?=some x->js[i]?=some j->Cap X scope cl x j)
  (hg:∀(C:Addr) (ex:List Addr) (s:Shared) (H:Hp),PG (z2c X (own++fv) scope cl C ex s H) tg g)
  (he:∀(C:Addr) (ex:List Addr) (s:Shared) (H:Hp),PE (z2c X (own++fv) scope cl C ex s H) elt te)
  (hs:∀x,foldedSetIterable iter X.env x=pure x)(I:Inv X pins σ H s) (h:z8m wi own.length js g te σ H Q)
  (fin:∀(a C:Addr) (s5:Shared) (H5:Hp) (fl:Flow),Inv X pins σ H5 s5->H5 C=none->C≠X.env.locals->X.s₀.heap.objs.size≤C->(∀x c,X.env.cells.lookup x=some c->c≠C)->(∀p∈X.pn++pins,p.1≠C)->(∃m,s5.heap.Ns C m)->Q (.ref a) H5->compPost (model X.prog X.w) X.A X.xe use QQ (.ref a) C (.ok fl) s5) :
  wpAny (model X.prog X.w) X.A (comprehension (.ListComp elt [⟨tg,iter,[],0⟩] scope pos) scope X.env fpos (newList []) false (firstIter [⟨tg,iter,[],0⟩] X.env) use) QQ X.xe s :=
 y3f hc hi hclos hcell hkind hnames hcl hhas hlen hcap hg he (λ _ _ _ _=>pm0) v2r hs I (by rw [w1o];exact h) fin
theorem z3d {X:Cx}{elt tg iter:Expr}{own fv:List Str}{js:List Nat}
  (hc:X.calm=true) (hi:PI X tg iter wi) (hclos:closureFor scope X.env=pure cl) (hcell:∀y∈scope.names,y.2≠.cell) (hkind:scope.kind=.function)
  (hnames:∀y∈scope.names,y.2=.local->scope.names.lookup y.1=some .local)
  (hcl:∀x c,cl.lookup x=some c->X.env.cells.lookup x=some c)
  (hhas:∀x,((relabel scope X.env).names.lookup x=some .cell\/(relabel scope X.env).names.lookup x=some .free)->∃c,cl.lookup x=some c)
  (hlen:js.length=fv.length) (hcap:∀(i:Nat) x j,fv[i]?=some x->js[i]?=some j->Cap X scope cl x j)
  (hg:∀(C:Addr) (ex:List Addr) (s:Shared) (H:Hp),PG (z2c X (own++fv) scope cl C ex s H) tg g)
  (he:∀(C:Addr) (ex:List Addr) (s:Shared) (H:Hp),PE (z2c X (own++fv) scope cl C ex s H) elt te)
  (hs:∀x,foldedSetIterable iter X.env x=pure x:=by intro _;rfl) :
  PE X (.ListComp elt [⟨tg,iter,[],0⟩] scope pos) (z8m wi own.length js g te):=by
 intro pins s σ H Q I h;rw [eval_ListComp];refine y6j (use:=none) (QQ:=EP X pins σ Q) hc hi hclos hcell hkind hnames hcl hhas hlen hcap hg he hs I h λ a C s5 H5 fl I5 zC zL zS zc zp ⟨m,hn⟩ q=>⟨m,hn,λ h' sc=>?_⟩;exact ⟨.ref a,H5,I5.turned (t':=s5.toks) (it:=C) (λ d o nd e=>sc.extBut d o nd e) zC zL (.inr zS) zc zp,rfl,q⟩
theorem x7m {K:PySem.W.Frag}{xs:List V}{g:TG}{te:TE}{Q:VK}(Pv:Nat->List V->St->Hp->Prop) (h0:Pv 0 [] σ H) (hl:∀i ys σ H,i≤xs.length->Pv i ys σ H->SqL K H a xs)
  (hs:∀i x ys σ H,xs[i]?=some x->Pv i ys σ H->ys.length < sizeLine/\g x σ H λ σ3 H3=>te σ3 H3 λ v H4=>Pv (i+1) (ys++[v]) σ3 H4) (hd:∀ys σ H,Pv xs.length ys σ H->∀p,H p=none->Q (.ref p) (upd H p (.lst ys))) :
  ∃W:Nat->Nat->List V->St->Hp->Prop,(∃m,W 0 m [] σ H)/\∀i m ys σ' H',W i m ys σ' H' ->
   ((Itl K a).stop i H'/\∀p,H' p=none->Q (.ref p) (upd H' p (.lst ys))) \/
   ((Itl K a).go i H'/\ys.length < sizeLine/\∃N:List V->St->Hp->Prop,(∀zs σ2 H2,N zs σ2 H2->∃m',m' < m/\W (i+1) m' zs σ2 H2) /\
    ∀x H2,(Itl K a).yld i H' x H2->g x σ' H2 λ σ3 H3=>te σ3 H3 λ v H4=>N (ys++[v]) σ3 H4):=by
 refine ⟨λ i m ys σ H=>m=xs.length - i/\i≤xs.length/\Pv i ys σ H,⟨xs.length,by simp,t0x _,h0⟩,?_⟩;rintro i m ys σ H ⟨rfl,hi,p⟩;have q:=hl i ys σ H hi p;by_cases hlt:i < xs.length
 ·have e:xs[i]?=some xs[i]:=by simp [hlt]
  refine .inr ⟨⟨xs,xs[i],q,e⟩,(hs i _ ys σ H e p).1,Pv (i+1),λ zs σ' H' p'=>⟨xs.length - (i+1),by lia,rfl,hlt,p'⟩,λ x H' y=>?_⟩;obtain ⟨e,y⟩:=y;subst e;exact (hs i x ys σ _ (y xs q) p).2
 ·have e:i=xs.length:=by lia
  subst e;exact .inl ⟨⟨xs,q,t0n _⟩,hd ys σ H p⟩
theorem w1i {K:PySem.W.Frag}{xs:List V}{g:TG}{te:TE}{Q:VK}(Pv:Nat->List V->St->Hp->Prop) (h0:Pv 0 [] σ H) (hl:∀i ys σ H,i≤xs.length->Pv i ys σ H->SqT K H a xs)
  (hs:∀i x ys σ H,xs[i]?=some x->Pv i ys σ H->ys.length < sizeLine/\g x σ H λ σ3 H3=>te σ3 H3 λ v H4=>Pv (i+1) (ys++[v]) σ3 H4) (hd:∀ys σ H,Pv xs.length ys σ H->∀p,H p=none->Q (.ref p) (upd H p (.lst ys))) :
  ∃W:Nat->Nat->List V->St->Hp->Prop,(∃m,W 0 m [] σ H)/\∀i m ys σ' H',W i m ys σ' H' ->
   ((Itt K a).stop i H'/\∀p,H' p=none->Q (.ref p) (upd H' p (.lst ys))) \/
   ((Itt K a).go i H'/\ys.length < sizeLine/\∃N:List V->St->Hp->Prop,(∀zs σ2 H2,N zs σ2 H2->∃m',m' < m/\W (i+1) m' zs σ2 H2) /\
    ∀x H2,(Itt K a).yld i H' x H2->g x σ' H2 λ σ3 H3=>te σ3 H3 λ v H4=>N (ys++[v]) σ3 H4):=by
 refine ⟨λ i m ys σ H=>m=xs.length - i/\i≤xs.length/\Pv i ys σ H,⟨xs.length,by simp,t0x _,h0⟩,?_⟩;rintro i m ys σ H ⟨rfl,hi,p⟩;have q:=hl i ys σ H hi p;by_cases hlt:i < xs.length
 ·have e:xs[i]?=some xs[i]:=by simp [hlt]
  refine .inr ⟨⟨xs,xs[i],q,e⟩,(hs i _ ys σ H e p).1,Pv (i+1),λ zs σ' H' p'=>⟨xs.length - (i+1),by lia,rfl,hlt,p'⟩,λ x H' y=>?_⟩;obtain ⟨e,y⟩:=y;subst e;exact (hs i x ys σ _ (y xs q) p).2
 ·have e:i=xs.length:=by lia
  subst e;exact .inl ⟨⟨xs,q,t0n _⟩,hd ys σ H p⟩
theorem x1w {lo:Int}{n:Nat}{g:TG}{te:TE}{Q:VK}(Pv:Nat->List V->St->Hp->Prop) (h0:Pv 0 [] σ H)
  (hs:∀i ys σ H,i < n->Pv i ys σ H->ys.length < sizeLine/\g (.int (lo+i)) σ H λ σ3 H3=>te σ3 H3 λ v H4=>Pv (i+1) (ys++[v]) σ3 H4) (hd:∀ys σ H,Pv n ys σ H->∀p,H p=none->Q (.ref p) (upd H p (.lst ys))) :
  ∃W:Nat->Nat->List V->St->Hp->Prop,(∃m,W 0 m [] σ H)/\∀i m ys σ' H',W i m ys σ' H' ->
   ((Itr lo n).stop i H'/\∀p,H' p=none->Q (.ref p) (upd H' p (.lst ys))) \/
   ((Itr lo n).go i H'/\ys.length < sizeLine/\∃N:List V->St->Hp->Prop,(∀zs σ2 H2,N zs σ2 H2->∃m',m' < m/\W (i+1) m' zs σ2 H2) /\
    ∀x H2,(Itr lo n).yld i H' x H2->g x σ' H2 λ σ3 H3=>te σ3 H3 λ v H4=>N (ys++[v]) σ3 H4):=by
 refine ⟨λ i m ys σ H=>m=n - i/\i≤n/\Pv i ys σ H,⟨n,by simp,t0x _,h0⟩,?_⟩;rintro i m ys σ H ⟨rfl,hi,p⟩;by_cases hlt:i < n
 ·refine .inr ⟨hlt,(hs i ys σ H hlt p).1,Pv (i+1),λ zs σ' H' p'=>⟨n - (i+1),by lia,rfl,hlt,p'⟩,λ x H' y=>?_⟩;obtain ⟨e,y⟩:=y;subst e y;exact (hs i ys σ _ hlt p).2
 ·have e:i=n:=by lia
  subst e;exact .inl ⟨t0n _,hd ys σ H p⟩
noncomputable def CX1 (P:Program) (w:World):CXT:=λ outer H s E e s' =>
 ∃(a C:Addr) (a0:Value) (H':Hp) (B:Heap),e=.ref a/\s'.os=s.os/\AllBare s'.gens/\Heap.FlyingW B outer a (.ref C) a0 s'.heap /\
  (∀b o,s.heap.get? b=some o->H b=none->b ∉ frs outer->B.get? b=some o)/\(∀b o,s.heap.get? b=some o->b ∉ frs outer->∃o',B.get? b=some o') /\
  Un (frs outer) [] H H' s.heap s'.heap/\HOk P w H' B/\E (.ref C) none H'
section
variable {P:Program}{w:World}{K:FG}{mg:SV}{base:Heap}{N:List Str}{qual:Str}{scope:Scope}{f:Addr}{cd:Value}{A:Around}{outer:List Env}{s:Shared}{H:Hp}{E:XK}
end
section
variable {P:Program}{w:World}{K:FG}{mg:SV}{base:Heap}
end
def v7k (a C:Addr):HO:=.ext λ h=>∃o vs,h.get? a=some o/\o.cls=.ref C/\o.data=.fields vs
section
variable {X:Cx}{pins:LO}{σ:St}{H:Hp}{s:Shared}
theorem Inv.track (I:Inv X pins σ H s) (hn:H a=none) (new:ObjOk X.prog X.w (upd H a o) s.heap a o) (h1:a≠X.env.locals) (h2:∀x c,X.env.cells.lookup x=some c->c≠a) (h3:∀p∈X.pn++pins,p.1≠a)
  (h4:X.s₀.heap.get? a=none):Inv X pins σ (upd H a o) s:=by
 have ne:∀b u,H b=some u->b≠a:=λ b u e z=>by rw [z,hn] at e;cases e
 have n0:∀b u,X.s₀.heap.get? b=some u->b≠a:=λ b u e z=>by rw [z,h4] at e;cases e
 refine ⟨I.ok,I.os,I.bare,⟨I.base.keep,I.base.slot,λ b u e n hx=>?_,I.base.there,λ b xs e=>?_,λ b u v e=>?_,λ b ps e=>?_⟩,I.loc,I.cell,?_,λ x c e=>?_,λ p hp=>?_,λ b u e=>?_,I.len⟩
 ·rw [z0u (n0 b u e)];exact I.base.free b u e n hx
 ·have q:=I.base.tups b xs e;rw [z0u (ne b _ q)];exact q
 ·have q:=I.base.frzs b u v e;rw [z0u (ne b _ q)];exact q
 ·obtain ⟨more,q⟩:=I.base.tbls b ps e;exact ⟨more,by rw [z0u (ne b _ q)];exact q⟩
 ·rw [z0u (t3z h1)];exact I.free
 ·rw [z0u (h2 x c e)];exact I.freeC x c e
 ·obtain ⟨e,n,ne,nf,d⟩:=I.pin p hp;exact ⟨e,by rw [z0u (h3 p hp)];exact n,ne,nf,d⟩
 ·by_cases hb:b=a
  ·subst hb;rw [z0d] at e;cases e;exact new
  ·rw [z0u hb] at e;exact (I.hok b u e).stay (λ c v _ q=>q) (λ c q=>by rw [z0u (ne c _ q)];exact q) λ c xs q=>by rw [z0u (ne c _ q)];exact q
end
abbrev Cx.more (X:Cx) (xe:VS) (pn:LO):Cx:={ X with xe:=xe,pn:=pn }
noncomputable abbrev Cx.suite (X:Cx) (a:Addr) (pn:LO):Cx:={ X with A:=X.A.mark (some (.ref a)),calm:=false,xe:=λ _ _=>False,pn:=pn }
theorem Cx.Ok.more {X:Cx}(ok:X.Ok) (xe:VS) (pn:LO):(X.more xe pn).Ok :=
 ⟨ok.mod,ok.kind,ok.glob,ok.blt,ok.above,ok.inj,ok.has,ok.cab,ok.hd,ok.frames,ok.stk,ok.exf,ok.bs,ok.bsz,ok.noex,ok.exfs,ok.funs,ok.frf⟩
section
variable {X:Cx}{CX:CXT}{k:Nat}{f:Addr}{fd:FuncData}{ps:List Str}{sp:Sp}{dvs:List V}{ds:LV}{EE:St->XK}{x:Str}{p pos:Pos}{e:Expr}{es:List Expr}{t:TA}
def w2d (sp:Sp) (dvs:List V) (EE:St->XK) (t:TA):TE:=λ σ H Q=>t σ H λ vs H1=>sp (vs++dvs) H1 Q (EE σ)
end
noncomputable def w0w (D:Ends) (i:Nat):Ends:={ nx:=λ σ H=>D.nx (σ.set i none) H,rt:=D.rt,bk:=λ σ H=>D.bk (σ.set i none) H,ct:=λ σ H=>D.ct (σ.set i none) H }
structure Callee (P:Program) (w:World) (K:FG) (mg:SV) (base:Heap) (CX:CXT) (k:Nat) (x:Str) (ps:List Str) (sp:Sp):Prop where
 has:∃(f:Addr) (fd:FuncData),FnOk P w K mg base CX k f fd ps sp/\mg x=some (.ref f)/\W.keepIn K (.ref f)=true/\Binds K fd ps []
theorem Callee.mk' {K:FG}{mg:SV}{st:Stmt}(F:Fun K x qual st f fd) (m:mg x=some (.ref f)) (b:Binds K fd ps [])
  (ok:FnOk P w K mg base CX k f fd ps sp):Callee P w K mg base CX k x ps sp:=⟨⟨f,fd,ok,m,F.kp,b⟩⟩
theorem Callee.mono {K:FG}{j k:Nat}(c:Callee P w K mg base CX j x ps sp) (h:j≤k):Callee P w K mg base CX k x ps sp :=
 let ⟨f,fd,ok,m,kp,b⟩:=c.has;⟨⟨f,fd,ok.mono h,m,kp,b⟩⟩
section
variable {X:Cx}{CX:CXT}{k:Nat}{ps:List Str}{sp:Sp}{E:XK}{x:Str}{p pos:Pos}{e:Expr}{es:List Expr}{t:TA}
theorem z8d (c:Callee X.prog X.w X.K X.mg X.base CX k x ps sp) (hr:Room k X.A) (hg:Gl X x) (hx:y6s CX X E) (ha:PA X (e::es) t) (hdb:(x == ("__debug__" : Str))=false:=by decide)
  (he:starEach (e::es) X.env=(false,eval e X.env)::starEach es X.env:=by rfl) (hpl:(backTo pos (starEach es X.env)).any (·.1)=false:=by rfl):PE X (.Call (.Name x p) (e::es) [] pos) (x2t sp [] E t):=by
 obtain ⟨f,fd,ok,m,kp,b⟩:=c.has;exact w4h ok hr hg m kp b .nil hx ha hdb he hpl
theorem x0r:z4s X (.builtin "isinstance") (λ xs H Q=>∃x n t b,xs=[x,.ty n]/\TyOf X.K H x t/\W.kitOne X.K t (.type n)=some b/\Q (.bl b) H):=by
 intro pins s σ H xs us Q I r h;obtain ⟨x,n,t,b,rfl,ty,e,q⟩:=h;obtain ⟨u,w',rfl,rx,ry⟩:=x0w r;cases (show w'=Value.type n from ry);exact x6m I rx ty e λ tk=>⟨.bl b,H,I.tok tk,rfl,q⟩
end
theorem z6m {scope:Scope}(hfree:∀y∈scope.names,y.2≠.free):(relabel scope env).names=scope.names:=by
 show scope.names.map _=scope.names
 have all:∀l:List (Str × NameKind),(∀y∈l,y.2≠.free)->(l.map λ (x:Str × NameKind)=>match x with | (n,k)=>if (k == .free && env.scope.kind == .function && env.kindOf n == some .cell) then (n,.cell) else (n,k))=l:=by
  intro l
  induction l with
  | nil=>intro _;rfl
  | cons y r ih =>
   intro hy;obtain ⟨n,k⟩:=y;have hk:(k == NameKind.free)=false:=by simpa using hy (n,k) (t0t ..)
   rw [t2t,ih λ z hz=>hy z (t0d _ hz)];simp [hk]
 exact all _ hfree
theorem z5y {X:Cx}{elt tg iter:Expr}{scope:Scope}
  (hc:X.calm=true) (hi:PI X tg iter wi) (hcell:∀y∈scope.names,y.2≠.cell) (hfree:∀y∈scope.names,y.2≠.free) (hkind:scope.kind=.function)
  (hnames:∀y∈scope.names,y.2=.local->scope.names.lookup y.1=some .local)
  (hg:∀(C:Addr) (ex:List Addr) (s:Shared) (H:Hp),PG (z2c X own scope [] C ex s H) tg g)
  (he:∀(C:Addr) (ex:List Addr) (s:Shared) (H:Hp),PE (z2c X own scope [] C ex s H) elt te)
  (hs:∀x,foldedSetIterable iter X.env x=pure x:=by intro _;rfl) :
  PE X (.ListComp elt [⟨tg,iter,[],0⟩] scope pos) (z8m wi own.length [] g te):=by
 refine z3d (own:=own) (fv:=[]) (js:=[]) (cl:=[]) hc hi (t9h hfree) hcell hkind hnames (λ x c h=>by cases h) (λ x h=>?_) rfl (λ i x j h=>by simp at h) (by simpa using hg) (by simpa using he) hs;rw [z6m hfree] at h
 rcases h with h | h
 ·exact absurd rfl (hcell _ (t1f h))
 ·exact absurd rfl (hfree _ (t1f h))
def v1f (i j:Int):Prop:=j≠0/\-18446744073709551616 < j/\j < 18446744073709551616
theorem x6d {y:Int}(h0:-18446744073709551616 < y) (h1:y < 18446744073709551616):y.natAbs.log2 < 9000:=by
 by_cases z:y.natAbs=0
 ·rw [z];decide
 ·exact t1d ((Nat.log2_lt z).mpr (show y.natAbs < 2 ^ 64 by lia)) (by decide)
theorem z6b:OpR X (binaryOp .FloorDiv) (rI v1f λ i j=>.int (i.fdiv j)):=opI λ _ _ _ _ _ _ _ hc q=>floordiv_int hc.1 q (.inl (PyProof.noPylong_of_log2 (x6d hc.2.1 hc.2.2)))
section
variable {K:FG}
noncomputable def LoopL (K:PySem.W.Frag) (g:TG) (tb:TS) (D:Ends) (σ:St) (x:V) (H1:Hp):Prop:=∃a,x=.ref a/\(∃xs,SqL K H1 a xs)/\∃W:Nat->Nat->St->Hp->Prop,(∃m,W 0 m σ H1)/\∀i m σ H,W i m σ H ->
 ((Itl K a).stop i H/\D.nx σ H)\/((Itl K a).go i H/\∃N:St->Hp->Prop,(∀σ' H',N σ' H'->∃m',m' < m/\W (i+1) m' σ' H')/\∀x H',(Itl K a).yld i H x H'->g x σ H' λ σ2 H2=>tb { D with nx:=N,ct:=N,bk:=D.nx } σ2 H2)
noncomputable def LoopT (K:PySem.W.Frag) (g:TG) (tb:TS) (D:Ends) (σ:St) (x:V) (H1:Hp):Prop:=∃a,x=.ref a/\(∃xs,SqT K H1 a xs)/\∃W:Nat->Nat->St->Hp->Prop,(∃m,W 0 m σ H1)/\∀i m σ H,W i m σ H ->
 ((Itt K a).stop i H/\D.nx σ H)\/((Itt K a).go i H/\∃N:St->Hp->Prop,(∀σ' H',N σ' H'->∃m',m' < m/\W (i+1) m' σ' H')/\∀x H',(Itt K a).yld i H x H'->g x σ H' λ σ2 H2=>tb { D with nx:=N,ct:=N,bk:=D.nx } σ2 H2)
noncomputable def LoopR (lo:Int) (n:Nat) (g:TG) (tb:TS) (D:Ends) (σ:St) (H1:Hp):Prop:=∃W:Nat->Nat->St->Hp->Prop,(∃m,W 0 m σ H1)/\∀i m σ H,W i m σ H ->
 ((Itr lo n).stop i H/\D.nx σ H)\/((Itr lo n).go i H/\∃N:St->Hp->Prop,(∀σ' H',N σ' H'->∃m',m' < m/\W (i+1) m' σ' H')/\∀x H',(Itr lo n).yld i H x H'->g x σ H' λ σ2 H2=>tb { D with nx:=N,ct:=N,bk:=D.nx } σ2 H2)
theorem w5l:w2b (x6r K te) g tb D σ H=te σ H λ x H1=>LoopL K g tb D σ x H1:=rfl
theorem w5j:w2b (v1m K te) g tb D σ H=te σ H λ x H1=>LoopT K g tb D σ x H1:=rfl
theorem w1a:w2b (w0r ta) g tb D σ H=ta σ H λ vs H1=>∃j:Int,vs=[.int j]/\-(2 ^ 62)≤j/\j < 2 ^ 62/\LoopR 0 j.toNat g tb D σ H1:=rfl
theorem LoopL.mk {g:TG}{tb:TS}{D:Ends}(hS:SqL K H a xs) (Pv:Nat->St->Hp->Prop) (h0:Pv 0 σ H) (hl:∀i σ H,i≤xs.length->Pv i σ H->SqL K H a xs)
  (hs:∀i x σ H,xs[i]?=some x->Pv i σ H->g x σ H λ σ2 H2=>tb { D with nx:=Pv (i+1),ct:=Pv (i+1),bk:=D.nx } σ2 H2) (hd:∀σ H,Pv xs.length σ H->D.nx σ H):LoopL K g tb D σ (.ref a) H:=⟨a,rfl,⟨xs,hS⟩,w0z Pv h0 hl hs hd⟩
theorem LoopT.mk {g:TG}{tb:TS}{D:Ends}(hS:SqT K H a xs) (Pv:Nat->St->Hp->Prop) (h0:Pv 0 σ H) (hl:∀i σ H,i≤xs.length->Pv i σ H->SqT K H a xs)
  (hs:∀i x σ H,xs[i]?=some x->Pv i σ H->g x σ H λ σ2 H2=>tb { D with nx:=Pv (i+1),ct:=Pv (i+1),bk:=D.nx } σ2 H2) (hd:∀σ H,Pv xs.length σ H->D.nx σ H):LoopT K g tb D σ (.ref a) H:=⟨a,rfl,⟨xs,hS⟩,w5g Pv h0 hl hs hd⟩
theorem LoopR.mk {lo:Int}{n:Nat}{g:TG}{tb:TS}{D:Ends}(Pv:Nat->St->Hp->Prop) (h0:Pv 0 σ H)
  (hs:∀i σ H,i < n->Pv i σ H->g (.int (lo+i)) σ H λ σ2 H2=>tb { D with nx:=Pv (i+1),ct:=Pv (i+1),bk:=D.nx } σ2 H2) (hd:∀σ H,Pv n σ H->D.nx σ H):LoopR lo n g tb D σ H:=x6x Pv h0 hs hd
noncomputable def CompL (K:PySem.W.Frag) (k:Nat) (js:List Nat) (g:TG) (te:TE) (σ:St) (x:V) (H1:Hp) (Q:VK):Prop:=∃a,x=.ref a/\(∃xs,SqL K H1 a xs)/\∃W:Nat->Nat->List V->St->Hp->Prop,(∃m,W 0 m [] (z1s k js σ) H1)/\∀i m ys σ' H',W i m ys σ' H' ->
  ((Itl K a).stop i H'/\∀p,H' p=none->Q (.ref p) (upd H' p (.lst ys))) \/
  ((Itl K a).go i H'/\ys.length < sizeLine/\∃N:List V->St->Hp->Prop,(∀zs σ2 H2,N zs σ2 H2->∃m',m' < m/\W (i+1) m' zs σ2 H2)/\∀x H2,(Itl K a).yld i H' x H2->g x σ' H2 λ σ3 H3=>te σ3 H3 λ v H4=>N (ys++[v]) σ3 H4)
noncomputable def CompT (K:PySem.W.Frag) (k:Nat) (js:List Nat) (g:TG) (te:TE) (σ:St) (x:V) (H1:Hp) (Q:VK):Prop:=∃a,x=.ref a/\(∃xs,SqT K H1 a xs)/\∃W:Nat->Nat->List V->St->Hp->Prop,(∃m,W 0 m [] (z1s k js σ) H1)/\∀i m ys σ' H',W i m ys σ' H' ->
  ((Itt K a).stop i H'/\∀p,H' p=none->Q (.ref p) (upd H' p (.lst ys))) \/
  ((Itt K a).go i H'/\ys.length < sizeLine/\∃N:List V->St->Hp->Prop,(∀zs σ2 H2,N zs σ2 H2->∃m',m' < m/\W (i+1) m' zs σ2 H2)/\∀x H2,(Itt K a).yld i H' x H2->g x σ' H2 λ σ3 H3=>te σ3 H3 λ v H4=>N (ys++[v]) σ3 H4)
noncomputable def CompR (lo:Int) (n k:Nat) (js:List Nat) (g:TG) (te:TE) (σ:St) (H1:Hp) (Q:VK):Prop:=∃W:Nat->Nat->List V->St->Hp->Prop,(∃m,W 0 m [] (z1s k js σ) H1)/\∀i m ys σ' H',W i m ys σ' H' ->
  ((Itr lo n).stop i H'/\∀p,H' p=none->Q (.ref p) (upd H' p (.lst ys))) \/
  ((Itr lo n).go i H'/\ys.length < sizeLine/\∃N:List V->St->Hp->Prop,(∀zs σ2 H2,N zs σ2 H2->∃m',m' < m/\W (i+1) m' zs σ2 H2)/\∀x H2,(Itr lo n).yld i H' x H2->g x σ' H2 λ σ3 H3=>te σ3 H3 λ v H4=>N (ys++[v]) σ3 H4)
theorem w1m:z8m (x6r K ti) k js g te σ H Q=ti σ H λ x H1=>CompL K k js g te σ x H1 Q:=rfl
theorem w1k:z8m (v1m K ti) k js g te σ H Q=ti σ H λ x H1=>CompT K k js g te σ x H1 Q:=rfl
theorem x7r:z8m (w0r ta) k js g te σ H Q=ta σ H λ vs H1=>∃j:Int,vs=[.int j]/\-(2 ^ 62)≤j/\j < 2 ^ 62/\CompR 0 j.toNat k js g te σ H1 Q:=rfl
theorem CompL.mk {g:TG}{te:TE}{Q:VK}(hS:SqL K H a xs) (Pv:Nat->List V->St->Hp->Prop) (h0:Pv 0 [] (z1s k js σ) H) (hl:∀i ys σ H,i≤xs.length->Pv i ys σ H->SqL K H a xs)
  (hs:∀i x ys σ H,xs[i]?=some x->Pv i ys σ H->ys.length < sizeLine/\g x σ H λ σ3 H3=>te σ3 H3 λ v H4=>Pv (i+1) (ys++[v]) σ3 H4) (hd:∀ys σ H,Pv xs.length ys σ H->∀p,H p=none->Q (.ref p) (upd H p (.lst ys))) :
  CompL K k js g te σ (.ref a) H Q:=⟨a,rfl,⟨xs,hS⟩,x7m Pv h0 hl hs hd⟩
theorem CompT.mk {g:TG}{te:TE}{Q:VK}(hS:SqT K H a xs) (Pv:Nat->List V->St->Hp->Prop) (h0:Pv 0 [] (z1s k js σ) H) (hl:∀i ys σ H,i≤xs.length->Pv i ys σ H->SqT K H a xs)
  (hs:∀i x ys σ H,xs[i]?=some x->Pv i ys σ H->ys.length < sizeLine/\g x σ H λ σ3 H3=>te σ3 H3 λ v H4=>Pv (i+1) (ys++[v]) σ3 H4) (hd:∀ys σ H,Pv xs.length ys σ H->∀p,H p=none->Q (.ref p) (upd H p (.lst ys))) :
  CompT K k js g te σ (.ref a) H Q:=⟨a,rfl,⟨xs,hS⟩,w1i Pv h0 hl hs hd⟩
theorem CompR.mk {lo:Int}{n k:Nat}{g:TG}{te:TE}{Q:VK}(Pv:Nat->List V->St->Hp->Prop) (h0:Pv 0 [] (z1s k js σ) H)
  (hs:∀i ys σ H,i < n->Pv i ys σ H->ys.length < sizeLine/\g (.int (lo+i)) σ H λ σ3 H3=>te σ3 H3 λ v H4=>Pv (i+1) (ys++[v]) σ3 H4) (hd:∀ys σ H,Pv n ys σ H->∀p,H p=none->Q (.ref p) (upd H p (.lst ys))) :
  CompR lo n k js g te σ H Q:=x1w Pv h0 hs hd
end
theorem z0t {K:FG}:(y6i CX P w K mg base N qual scope f cd A outer s H E).K=K:=rfl
theorem w1e:(z2c X N scope cl C ex s H).K=X.K:=rfl
noncomputable def tyS:V->Option String
 | .int _=>some "int"
 | .bl _=>some "bool"
 | .str _=>some "str"
 | .non=>some "NoneType"
 | _=>none
def w6g (t n:String):Bool:=t == n || (t == "bool" && n == "int")
def w0p (x:V) (n:String):Bool:=match tyS x with
 | some t=>w6g t n
 | none=>false
theorem v0a:w0p (.int i) "int"=true:=by show w6g "int" "int"=true;decide +kernel
theorem v0b:w0p (.int i) "bool"=false:=by show w6g "int" "bool"=false;decide +kernel
theorem v0c:w0p (.bl b) "int"=true:=by show w6g "bool" "int"=true;decide +kernel
theorem v0d:w0p (.bl b) "bool"=true:=by show w6g "bool" "bool"=true;decide +kernel
theorem w9z:w0p (.int i) "tuple"=false:=by show w6g "int" "tuple"=false;decide +kernel
theorem x0e {K:FG}(e:(if (Value.type t == Value.type n)=true then some true else if W.kitMeta n=true then (fastBuiltinMro t).map (·.contains (.type n)) else none)=some b):W.kitOne K (.type t) (.type n)=some b:=by
 unfold W.kitOne;split at e
 ·rename_i h;rw [if_pos h];exact e
 ·rename_i h;rw [if_neg h];exact e
theorem x6j {K:FG}{t n:String}(hn:n∈["int","bool","tuple","list","str"]) (ht:tyS x=some t):W.kitOne K (.type t) (.type n)=some (w0p x n):=by
 simp only [t1a,List.mem_nil_iff,t3f] at hn
 cases x<;>simp only [tyS,reduceCtorEq,t8m] at ht<;>subst ht<;>rcases hn with rfl | rfl | rfl | rfl | rfl<;>refine x0e ?_<;>simp only [w0p,tyS]<;>decide +kernel
theorem y6o:z4s X (.builtin "isinstance") (λ xs H Q=>∃x n,xs=[x,.ty n]/\(n∈["int","bool","tuple","list","str"]/\(tyS x).isSome=true)/\Q (.bl (w0p x n)) H):=by
 intro pins s σ H xs us Q I r h;obtain ⟨x,n,rfl,⟨hn,hx⟩,q⟩:=h;obtain ⟨t,ht⟩:=t2x.mp hx;refine x0r pins s σ H _ us Q I r ⟨x,n,.type t,w0p x n,rfl,?_,x6j hn ht,q⟩;cases x<;>simp only [tyS,reduceCtorEq,t8m] at ht<;>subst ht
 ·exact .non
 ·exact .bl _
 ·exact .int _
 ·exact .str _
theorem na2:(Int.natAbs 2 < 18446744073709551616)=True:=eq_true (by decide)
theorem v5z:(Int.natAbs 10 < 18446744073709551616)=True:=eq_true (by decide)
theorem z0a {H:Hp}(h:H p=none) (o:HO):Same H (upd H p o):=λ b u q=>by rw [z0u (z3j q h)];exact q
theorem small {n:Nat}(h:n≤1000):n≤sizeLine:=t3h (z0n h)
theorem smd {n:Nat}(h:n≤1000:=by decide):n≤sizeLine:=small h
theorem Same.tup {K:FG}(e:Same H H') (h:SqT K H a xs):SqT K H' a xs:=by
 rcases h with (h | ⟨o,h⟩) | h
 ·exact .inl (.inl (e _ _ h))
 ·exact .inl (.inr ⟨o,e _ _ h⟩)
 ·exact .inr h
theorem w7g {σ:St}(h:σ.length=1):∃z,σ=[z]:=by
 match σ,h with
 | [z],_=>exact ⟨z,rfl⟩
theorem v0l {α β:Type}{f:α->β}{l:List α}{i:Nat}{y:β}(h:(l.map f)[i]?=some y):∃x,l[i]?=some x/\y=f x:=by
 rw [t0q] at h;obtain ⟨x,h1,h2⟩:=t3b.mp h;exact ⟨x,h1,h2.symm⟩
theorem x1b {α:Type}{l:List α}{i:Nat}{x:α}(h:l[i]?=some x):l.take (i+1)=l.take i++[x]:=by
 rw [List.take_succ,h];rfl
theorem CompL.vals {K:FG}{te:TE}{Q:VK}{fn:V->V}(hS:SqL K H a xs) (hz:xs.length≤1000)
  (hs:∀x∈xs,∀H1,Same H H1->∀Q':VK,(∀H2,Same H1 H2->Q' (fn x) H2)->te [some x] H1 Q')
  (hd:∀H1,Same H H1->∀p,H1 p=none->Q (.ref p) (upd H1 p (.lst (xs.map fn)))):CompL K 1 [] (z6w 0) te σ (.ref a) H Q:=by
 refine CompL.mk hS (λ i ys σ' H'=>Same H H'/\ys=(xs.take i).map fn/\σ'.length=1) ⟨Same.refl _,rfl,rfl⟩ (λ i ys σ' H' _ h=>h.1.seq hS) (λ i x ys σ' H' e h=>?_) (λ ys σ' H' h p hp=>?_)
 ·obtain ⟨h1,rfl,h3⟩:=h;obtain ⟨z,rfl⟩:=w7g h3;refine ⟨?_,?_⟩
  ·rw [t0c,t0p];exact t3k (Nat.min_le_right _ _) (z0n hz)
  ·refine hs x (t0i e) H' h1 _ λ H2 h2=>⟨h1.trans h2,?_,rfl⟩;rw [x1b e,t0l];rfl
 ·obtain ⟨h1,rfl,h3⟩:=h;rw [t1h];exact hd H' h1 p hp
theorem CompL.ints {K:FG}{ns:LI}{te:TE}{Q:VK}{fn:Int->Int}(hS:SqL K H a (ns.map V.int)) (hz:ns.length≤1000)
  (hs:∀n∈ns,∀H1,Same H H1->∀Q':VK,(∀H2,Same H1 H2->Q' (.int (fn n)) H2)->te [some (.int n)] H1 Q')
  (hd:∀H1,Same H H1->∀p,H1 p=none->Q (.ref p) (upd H1 p (.lst ((ns.map fn).map V.int)))):CompL K 1 [] (z6w 0) te σ (.ref a) H Q:=by
 refine CompL.vals (fn:=λ x=>match x with | .int n=>.int (fn n) | y=>y) hS (by rw [t0c];exact hz) (λ x hx H1 h1 Q' h2=>?_) (λ H1 h1 p hp=>?_)
 ·obtain ⟨n,hn,rfl⟩:=t2j.mp hx;exact hs n hn H1 h1 Q' h2
 ·have e:=hd H1 h1 p hp;rw [t5i] at e ⊢;exact e
section
variable {X:Cx}
def v4w:R2:=λ x y H Q=>∃p xs,y=.ref p/\H p=some (.tup xs)/\z3f x=true/\xs.all z3f=true/\Q (.bl (inV x xs)) H
theorem w3b:OpR X (compareOp .In) v4w:=by
 intro pins s σ H x y v u Q I rx ry h;obtain ⟨p,xs,rfl,hq,fx,fs,q⟩:=h;exact x4x pins s σ H x _ v u Q I rx ry ⟨p,xs,rfl,.inr (.of hq),fx,fs,q⟩
def w8e:R2:=λ x y H Q=>w6h x y λ p i=>∃xs,H p=some (.lst xs)/\∃v,atI xs i=some v/\Q v H
def w8d:R2:=λ x y H Q=>w6h x y λ p i=>∃xs,H p=some (.tup xs)/\∃v,atI xs i=some v/\Q v H
theorem z0k:IxR X w8e:=by
 intro value slice pins s σ H x y v u Q I rx ry h hs;obtain ⟨p,i,rfl,rfl,xs,hq,z,he,q⟩:=y0d h;exact y4l value slice pins s σ H _ _ v u Q I rx ry ⟨p,xs,i,z,rfl,rfl,.of hq,he,q⟩ hs
theorem z0g:IxR X w8d:=by
 intro value slice pins s σ H x y v u Q I rx ry h hs;obtain ⟨p,i,rfl,rfl,xs,hq,z,he,q⟩:=y0d h;exact w9x value slice pins s σ H _ _ v u Q I rx ry ⟨p,xs,i,z,rfl,rfl,.of hq,he,q⟩ hs
end
section
variable {X:Cx}
def v0m (n:Nat) (t:TGs):TG:=λ v σ H Q=>∃a xs,v=.ref a/\H a=some (.tup xs)/\xs.length=n/\t xs σ H Q
theorem z7i (h:PG X (.Tuple es k pos) (v0n X.K n t)):PG X (.Tuple es k pos) (v0m n t):=by
 intro pins s σ H v u Q I r q;obtain ⟨a,xs,e,ha,hl,q⟩:=q;exact h pins s σ H v u Q I r ⟨a,xs,e,.of ha,hl,q⟩
noncomputable def v4l (to te:TE):TE:=λ σ H Q=>to σ H λ x H1=>∃l,x=.ref l/\(∃xs,H1 l=some (.lst xs))/\te σ H1 λ v H2=>∃xs,H2 l=some (.lst xs)/\xs.length < sizeLine/\Q .non (upd H2 l (.lst (xs++[v])))
theorem z5l {apos cpos:Pos}(ho:PE X o to) (he:PE X e te)
  (hbase:attributeBase o "append" X.env (eval o X.env)=eval o X.env:=by rfl) (hfew:((backTo cpos (starEach [e] X.env)).all (λ x=>!x.1) && (backToKw cpos (keywordEach [] X.env)).all (λ x=>x.1.isSome)
   && decide ([e].length+([]:List Keyword).length+(if ([]:List Keyword).isEmpty then 0 else 1) < 30))=true:=by rfl)
  (hline:(apos.endLine == cpos.line)=true:=by rfl) (hs:starEach [e] X.env=[(false,eval e X.env)]:=by rfl):PE X (.Call (.Attribute o "append" apos) [e] [] cpos) (v4l to te):=by
 intro pins s σ H Q I h;refine t6o hbase hfew hline rfl (thn (ho pins s σ H _ I h) λ v s1 ⟨x,H1,I1,r1,q1⟩=>?_);obtain ⟨l,rfl,⟨xs1,hx1⟩,q2⟩:=q1;obtain ⟨h1,h2⟩:=w1w (T := "list") I1 r1 (.inl ⟨rfl,_,.of hx1⟩);refine ⟨"list","list.append",t6f,PySem.F.slot_list_append,PySem.F.type_list_append,h1,h2,?_⟩;have hA:=(z0i he z1j hs) cpos pins s1 σ H1 (λ vs H2=>match vs with | [v]=>∃xs,H2 l=some (.lst xs)/\xs.length < sizeLine/\Q .non (upd H2 l (.lst (xs++[v]))) | _=>False) I1 q2;rw [hs] at hA ⊢;refine t6p rfl (t7l ?_);refine thn hA λ us s2 ⟨vs,H2,I2,r2,q3⟩=>?_
 match vs,q3 with
 | [v2],⟨xs,hx,hz,q⟩=>exact x5y pins s2 σ H2 (.ref l) [v2] v us Q I2 r1 r2 ⟨l,xs,v2,rfl,rfl,hx,hz,q⟩
end
def SameX (l:Addr) (H H':Hp):Prop:=∀b o,b≠l->H b=some o->H' b=some o
theorem SameX.trans (a:SameX l H H1) (b:SameX l H1 H2):SameX l H H2:=λ c o n h=>b c o n (a c o n h)
end L2
namespace L2
open PySem PySem.Spec PyProof.Rows PySem.W PySem.Calls
structure ExcK (K:FG) (C:Addr):Prop where
 cls:(clsIn K C).isSome=true
 ga:findIn K (.ref C) "__getattribute__"=some (some (.builtin "BaseException.__getattribute__"))
 gt:findIn K (.ref C) "__getattr__"=some none
 cl:findIn K (.ref C) "__class__"=some (some (.builtin "object.__class__"))
 mo:mroIn K C (.type "object")=some true
 mb:mroIn K C (.type "BaseException")=some true
section
variable {prog:Program}{w:World}{A:Around}{E:VS}{K:FG}{h:Heap}{g:Array GenState}{d:Drawn}{t:Nat}{os:OsState}{a C:Addr}{ox:Obj}
end
section
variable {X:Cx}
end
def y5r (t:Addr) (i:Int):Obj:={ cls:=.type "reversed",data:=.fields #[.ref t,rawInt i] }
noncomputable def IsRv (h:Heap) (a t:Addr) (i:Int):Prop:=∃o,h.get? a=some o/\o.cls=.type "reversed" /\ o.data=.fields #[.ref t,rawInt i]
theorem IsRv.typeIs {s:Shared}(x:IsRv s.heap a t i):s.TypeIs (.ref a) "reversed" := let ⟨o,ho,hc,_⟩:=x;⟨o,ho,hc⟩
theorem x2i:typeLookup (.type "tuple") "__reversed__"=pure none:=by rw [t3l,t2k];kernel_rfl
theorem y0o:typeLookup (.type "tuple") "__getitem__"=pure (some (.builtin "tuple.__getitem__")):=by rw [t3l,t2k];kernel_rfl
theorem x0y:isSubtype (.type "tuple") (.type "dict")=pure false:=by rw [t5c];kernel_rfl
theorem w3x:Slot "reversed" "__init__" "object.__init__" :=
 .of (owner := "object") (n := "__init__") (by rw [t3l,t2k];kernel_rfl) (by decide +kernel) (by decide +kernel) (by decide +kernel) (.inl (by decide +kernel)) (by rw [t5c];kernel_rfl)
theorem rv_next:Slot "reversed" "__next__" "reversed.__next__" :=
 .of (owner := "reversed") (n := "__next__") (by rw [t3l,t2k];kernel_rfl) (by decide +kernel) (by decide +kernel) (by decide +kernel) (.inl (by decide +kernel)) (by rw [t5c];kernel_rfl)
theorem x3z:Slot "reversed" "__iter__" "reversed.__iter__" :=
 .of (owner := "reversed") (n := "__iter__") (by rw [t3l,t2k];kernel_rfl) (by decide +kernel) (by decide +kernel) (by decide +kernel) (.inl (by decide +kernel)) (by rw [t5c];kernel_rfl)
theorem z8a:entryFor table "reversed.__next__"=some Builtin.«reversed.__next__»:=entryFor_of_tree (by kernel_rfl)
theorem y3t:entryFor table "reversed.__iter__"=some Builtin.«dict_keyiterator.__iter__» :=
 entryFor_alias (id' := "dict_keyiterator.__iter__") (by kernel_rfl) (by first | rfl | decide +kernel) (by decide +kernel) (by kernel_rfl)
theorem z9k (a:Value):argsOk "reversed.__next__" ⟨[a],[]⟩:=by unfold argsOk;kernel_rfl
theorem y5q (a:Value):argsOk "reversed.__iter__" ⟨[a],[]⟩:=by unfold argsOk;kernel_rfl
theorem x4b:TypeCalled "reversed" "reversed.__new__" "object.__init__" :=
 ⟨by decide +kernel,PySem.F.create_reversed,⟨_,_,PySem.F.mro_reversed⟩,PySem.F.made_reversed,PySem.F.plain_reversed_new,PySem.F.sub_reversed_self,w3x⟩
theorem w7u (t:Addr) (items:Array Value) (hz:(items.size:Int) < 2 ^ 63):Meets (Builtin.«reversed.__new__» ⟨[.type "reversed",.ref t],[]⟩)
  (λ _ R s=>IsTup s.heap t items/\∀tk,R (.ok (.ret (.ref s.heap.objs.size))) { s with heap:=s.heap.push (y5r t ((items.size:Int) - 1)),toks:=tk }) :=
 .of_wp λ prog w A R s h=>by
  obtain ⟨ht,h⟩:=h;have hT:s.TypeIs (.ref t) "tuple" := ht.typeIs;unfold Builtin.«reversed.__new__»;refine t0b (t4c (PySem.newClass_reversed _) ?_);try dsimp only
  refine t0b (t4c (a:=()) (by first | rfl | kernel_rfl) ?_);refine t0b (t4c (a:=()) (by first | rfl | kernel_rfl) ?_);try dsimp only
  refine t0b (t4d hT x2i ?_);try dsimp only
  refine t0b ?_
  k_delta "hasItemSlot"
  refine t0b (t4h (T := "tuple") (b:=false) hT x0y ?_);rw [if_neg t1e];refine t0b (t4d hT y0o ?_);dsimp only;rw [if_pos (by decide +kernel)];refine t0s ?_;rw [if_neg (by decide)];refine t0b (s0w ht hz ?_);refine t0b (t4c (a:=some (items.size:Int)) rfl ?_);dsimp only;refine t0b ?_;unfold Builtin.SmallTypes.newRecord;refine t1w (t0s ⟨_,rfl,h _⟩)
section
variable {prog:Program}{w:World}{A:Around}{E:VS}{s:Shared}
theorem x7z {Q:VS}(ht:IsTup s.heap t items) (hz:(items.size:Int) < 2 ^ 63)
  (h:∀tk,Q (.ref s.heap.objs.size) { s with heap:=s.heap.push (y5r t ((items.size:Int) - 1)),toks:=tk }):wpAny (model prog w) A (call (.type "reversed") [.ref t]) Q E s :=
 t9i x4b (by decide) (PySem.F.typeCall_reversed_1 _) (PySem.F.newCall_reversed_1 _) (λ obj=>t5m obj _) PySem.F.entry_reversed_new (w7u t items hz)
  ⟨ht,λ tk=>⟨⟨_,t0r _ rfl,rfl⟩,h tk⟩⟩
theorem x4a {i:Nat}{Q:Option Value->Shared->Prop}(hit:IsRv s.heap it t (i:Int)) (ht:IsTup s.heap t items) (hx:items[i]?=some x) (hz:(items.size:Int) < 2 ^ 63)
  (hQ:∀h' tk,IsRv h' it t ((i:Int) - 1)->Heap.SameBut it s.heap h'->Q (some x) { s with heap:=h',toks:=tk }):wpAny (model prog w) A (pyNext (.ref it)) Q E s:=by
 obtain ⟨o,ho,hc,hd⟩:=id hit;have hT:s.TypeIs (.ref t) "tuple" := ht.typeIs;have hi:i < items.size:=(t8d.mp hx).1;unfold pyNext;refine t0b (t4k (t1y (name:=Str.ofString "__next__") hit.typeIs rv_next (t2i rv_next hit.typeIs z8a ?_ (z9k _))));unfold Builtin.«reversed.__next__»;refine t0b (t4c (a:=(Value.ref it,[])) rfl ?_);try dsimp only
 refine t0b (t1r ho hd (x:=.ref t) rfl ?_);refine t0b (t1r ho hd (x:=rawInt (i:Int)) rfl ?_);show wpAny _ _ (if (i:Int) < 0 then _ else _) _ _ s;rw [if_neg (by lia)];refine t0b (t4d hT y0o ?_);rw [if_neg (by decide)];refine t0b (wpAny_mkInt ?_);refine t0b (t4k (getItem_tuple (k:=(i:Int)) (j:=i) ht (by lia) (by lia) (by simp [seqIndex?];lia) hx ?_));dsimp only;refine t0b (t1r ho hd (x:=rawInt (i:Int)) rfl ?_);show wpAny _ _ (setField (.ref it) 1 (rawInt ((i:Int) - 1)) >>= _) _ _ _;refine t0b (t6w ho hd (by simp) ?_);refine t0s ⟨x,rfl,t0s (hQ _ _ ?_ (t5t ..))⟩;exact ⟨_,t2q _ ho (t7a (t4l hd _)),(Obj.cls_mapFields ..).trans hc,by rw [t4l hd];simp⟩
theorem w2u {Q:Option Value->Shared->Prop}(hh:A.handled=none) (hit:IsRv s.heap it t (-1)) (hQ:∀h' tk,Heap.ExtBut it s.heap h'->Q none { s with heap:=h',toks:=tk }):wpAny (model prog w) A (pyNext (.ref it)) Q E s:=by
 obtain ⟨o,ho,hc,hd⟩:=id hit;unfold pyNext;refine t0b (t4k (t1y (name:=Str.ofString "__next__") hit.typeIs rv_next (t2i rv_next hit.typeIs z8a ?_ (z9k _))));unfold Builtin.«reversed.__next__»;refine t0b (t4c (a:=(Value.ref it,[])) rfl ?_);try dsimp only
 refine t0b (t1r ho hd (x:=.ref t) rfl ?_);refine t0b (t1r ho hd (x:=rawInt (-1)) rfl ?_);show wpAny _ _ (if (-1:Int) < 0 then _ else _) _ _ s;rw [if_pos (by decide)];refine t0b (t5x ?_);refine t0b ?_
 k_delta "reversedEnd"
 refine t0b (t6w ho hd (by simp) ?_);refine t6w (t2q _ ho (t7a (t4l hd _))) (t4l hd _) (by simp) ?_;refine t0b ?_
 have other:∀b u,b≠it->s.heap.get? b=some u->((s.heap.update it (Obj.mapFields λ x=>x.setIfInBounds 1 (rawInt (-1)))).update it (Obj.mapFields λ x=>x.setIfInBounds 0 Value.none)).get? b=some u:=λ b u nb e=>by
  rw [t1v _ _ (t3z nb),t1v _ _ (t3z nb)];exact e
 generalize ((s.heap.update it (Obj.mapFields λ x=>x.setIfInBounds 1 (rawInt (-1)))).update it (Obj.mapFields λ x=>x.setIfInBounds 0 Value.none))=hU at *;show wpAny _ _ (newExc (.type "StopIteration") [] >>= _) _ _ _;refine t0b ?_;simp only [newExc,newTuple];refine t0b (t1w ?_ (by size_fits));refine t0b (m:=firstArgMember _ _) (t4c (a:=Value.none) (by first | rfl | (simp only [firstArgMember];rfl)) ?_);refine t1w ?_ (by size_fits);simp only [raiseNew];refine t0b (wpAny_handled ?_);rw [show A.in1.handled=none from hh];refine t0b (t0s (wpAny_throw ?_));refine t0b (t4h (T := "StopIteration") (b:=true) ⟨_,t0r _ rfl,rfl⟩ t8i ?_);exact t0s (hQ _ _ λ b u nb e=>t0f _ (t0f _ (other b u nb e)))
theorem y7b {Q:VS}(hit:IsRv s.heap it t i) (h:Q (.ref it) s):wpAny (model prog w) A (pyIter (.ref it)) Q E s:=by
 refine wpAny_pyIter_slot hit.typeIs x3z (t2i x3z hit.typeIs y3t ?_ (y5q _));show wpAny _ _ (ret (.ref it)) _ _ s;exact t0s ⟨_,rfl,"reversed",_,hit.typeIs,rv_next.lookup,h⟩
end
noncomputable def w6m (K:FG) (a:Addr) (n:Nat):It:=⟨λ i H=>∃xs,SqT K H a xs/\xs.length=n/\i < n,λ i H x H'=>H'=H/\∀xs,SqT K H a xs->xs[n - 1 - i]?=some x,λ i H=>∃xs,SqT K H a xs/\xs.length=n/\i=n⟩
theorem y4j:(sizeLine:Int) < 2 ^ 63:=by rw [s0f];decide
theorem w3p {K:FG}(a it:Addr) (n:Nat):Turn P w K tg (w6m K a n) [it] it (λ i h=>IsRv h it a ((n:Int) - 1 - (i:Int))) where
 mem:=by simp
 obj:=λ i h x b hb=>by
  have e:b=it:=by simpa using hb
  subst e;obtain ⟨o,ho,_,hd⟩:=x;exact ⟨o,ho,λ v q=>by rw [hd] at q;cases q⟩
 keep:=λ i h h' x k=>let ⟨o,ho,r⟩:=x;⟨o,k it (by simp) o ho,r⟩
 item:=by
  intro X hP hw hK hc i pins s σ H E I hf st hg;subst hP hw hK;obtain ⟨xs,hq,hn,hi⟩:=hg;obtain ⟨its,rv,p,hz⟩:=I.tuple hq;have hx:xs[n - 1 - i]?=some (xs[n - 1 - i]'(by lia)):=t0e (by lia);obtain ⟨u,hu,ru⟩:=rv.get hx;obtain ⟨f0,f1,f2,f3,f4,f5⟩:=hf it (by simp);have e:(n:Int) - 1 - (i:Int)=((n - 1 - i:Nat):Int):=by lia
  rw [e] at st;have hl:=rv.length;have z63:=y4j;refine x4a st p (x:=u) (by simpa using hu) (by simp;lia) λ h' tk st' sb=>?_;have I1:Inv X pins σ H { s with heap:=h',toks:=tk }:=I.turned (t':=tk) (λ b o hb e=>(sb.2 b hb).trans e) f0 f1 f3 f4 f5;obtain ⟨o,e,c,d⟩:=id st';have e2:((n - 1 - i:Nat):Int) - 1=(n:Int) - 1 - ((i+1:Nat):Int):=by lia
  rw [e2] at st';exact ⟨u,rfl,w0x (s:={ s with heap:=h',toks:=tk }) e c d (by decide) ⟨_,H,I1,ru,⟨rfl,λ ys hy=>by rw [I.tuple_inj hy hq];exact hx⟩,st',λ b hb=>(hf b hb).1⟩⟩
 done:=by
  intro X hP hw hK hc i pins s σ H E I hf st hg;subst hP hw hK;obtain ⟨xs,hq,hn,hi⟩:=hg;obtain ⟨f0,f1,f2,f3,f4,f5⟩:=hf it (by simp);have e:(n:Int) - 1 - (i:Int)=-1:=by lia
  rw [e] at st;exact w2u (I.ok.hd hc) st λ h' tk eb=>⟨rfl,I.turned (t':=tk) (λ b o hb e=>eb b o hb e) f0 f1 f3 f4 f5⟩
 self:=λ _ _ _ _ _ st h=>y7b st h
section
variable {X:Cx}{tg:Expr}
def v0k (K:FG) (te:TE):TI:=λ σ H R=>te σ H λ x H1=>∃a xs,x=.ref a/\SqT K H1 a xs/\R (w6m K a xs.length) H1
theorem x4o {p pos:Pos}(hg:Gl X "reversed") (hm:X.mg "reversed"=none) (he:PE X e te) (hs:starEach [e] X.env=[(false,eval e X.env)]:=by rfl) :
  PI X tg (.Call (.Name "reversed" p) [e] [] pos) (v0k X.K te):=by
 intro pins s σ H R I h;have hA:=(z0i he (z1j (X:=X)) hs) pos pins s σ H (λ vs H1=>match vs with | [x]=>∃a xs,x=.ref a/\SqT X.K H1 a xs/\R (w6m X.K a xs.length) H1 | _=>False) I h;refine Call_ (z5d I hg hm s0y (t1t (thn hA λ us s1 ⟨vs,H1,I1,r1,q1⟩=>?_) hs rfl))
 match vs,q1 with
 | [x],⟨a,xs,e,hq,q⟩ =>
  subst e;obtain ⟨u,rfl,ru⟩:=z6g r1;cases (show u=Value.ref a from ru);obtain ⟨its,rv,p,hz⟩:=I1.tuple hq;have hl:=rv.length;have z63:=y4j;refine x7z p (by simp;lia) λ tk=>?_;have I2:Inv X pins σ H1 { s1 with heap:=s1.heap.push (y5r a ((its.toArray.size:Int) - 1)),toks:=tk }:=I1.kept (t':=tk) λ b o e=>t0f _ e
  have ir:IsRv (s1.heap.push (y5r a ((its.toArray.size:Int) - 1))) s1.heap.objs.size a ((xs.length:Int) - 1 - ((0:Nat):Int)):=by
   refine ⟨_,t0r _ rfl,rfl,?_⟩;show Data.fields #[.ref a,rawInt ((its.toArray.size:Int) - 1)]=_;have e:((its.toArray.size:Nat):Int) - 1=(xs.length:Int) - 1 - ((0:Nat):Int):=by simp;lia
   rw [e]
  refine y7b ir ⟨s1.heap.objs.size,[s1.heap.objs.size],_,_,H1,rfl,I2,w3p a _ xs.length,ir,λ b hb=>?_,q⟩;have e:b=s1.heap.objs.size:=by simpa using hb
  subst e;exact I1.fpOk (t0n _) (I1.hok.fresh (t0n _))
end
noncomputable def LoopV (K:PySem.W.Frag) (g:TG) (tb:TS) (D:Ends) (σ:St) (x:V) (H1:Hp):Prop:=∃a xs,x=.ref a/\SqT K H1 a xs/\∃W:Nat->Nat->St->Hp->Prop,(∃m,W 0 m σ H1)/\∀i m σ H,W i m σ H ->
 ((w6m K a xs.length).stop i H/\D.nx σ H)\/((w6m K a xs.length).go i H/\∃N:St->Hp->Prop,(∀σ' H',N σ' H'->∃m',m' < m/\W (i+1) m' σ' H')/\∀x H',(w6m K a xs.length).yld i H x H'->g x σ H' λ σ2 H2=>tb { D with nx:=N,ct:=N,bk:=D.nx } σ2 H2)
theorem w5i {K:FG}:w2b (v0k K te) g tb D σ H=te σ H λ x H1=>LoopV K g tb D σ x H1:=rfl
theorem LoopV.mk {K:FG}{g:TG}{tb:TS}{D:Ends}(hS:SqT K H a xs) (Pv:Nat->St->Hp->Prop) (h0:Pv 0 σ H) (hl:∀i σ H,i≤xs.length->Pv i σ H->SqT K H a xs)
  (hs:∀i x σ H,i < xs.length->xs[xs.length - 1 - i]?=some x->Pv i σ H->g x σ H λ σ2 H2=>tb { D with nx:=Pv (i+1),ct:=Pv (i+1),bk:=D.nx } σ2 H2) (hd:∀σ H,Pv xs.length σ H->D.nx σ H):LoopV K g tb D σ (.ref a) H:=by
 refine ⟨a,xs,rfl,hS,λ i m σ H=>m=xs.length - i/\i≤xs.length/\Pv i σ H,⟨xs.length,by simp,t0x _,h0⟩,?_⟩;rintro i m σ H ⟨rfl,hi,p⟩;have q:=hl i σ H hi p;by_cases hlt:i < xs.length
 ·refine .inr ⟨⟨xs,q,rfl,hlt⟩,Pv (i+1),λ σ' H' p'=>⟨xs.length - (i+1),by lia,rfl,hlt,p'⟩,λ x H' y=>?_⟩;obtain ⟨e,y⟩:=y;subst e;exact hs i x σ _ hlt (y xs q) p
 ·have e:i=xs.length:=by lia
  subst e;exact .inl ⟨⟨xs,q,rfl,rfl⟩,hd σ H p⟩
theorem x6a:typeLookup (.type "list_reverseiterator") "__len__"=pure none:=by rw [t3l,t2k];kernel_rfl
theorem w0i:typeLookup (.type "list_reverseiterator") "__length_hint__"=pure (some (.builtin "list_reverseiterator.__length_hint__")):=by rw [t3l,t2k];kernel_rfl
section
variable {pg:Program}{wd:World}{B:Around}{X0:VS}{s0:Shared}{J:Addr}{fs ws:List Addr}{Gg:Array GenState->Array GenState->Prop}{m:Nat}{Pr:Nat->Value->Prop}{Sx:Nat->Shared->Prop}
theorem y8m {R:LV->Shared->Prop}(wk:WalksS pg wd B.in1 J fs ws Gg m Pr Sx) (ty:∀j z,Sx j z->z.TypeIs (.ref J) "list_reverseiterator") (z0:Sx 0 s0) (lt:∀b∈fs,b < s0.heap.objs.size) (mJ:J∈fs) (sm:m≤sizeLine)
  (fin:∀z' ac,Moved ws Gg s0 z'->ItemsOf Pr ac m->R ac.toList z'):wpAny (model pg wd) B (collect (.ref J)) R X0 s0:=by
 have out:s0.heap.objs.size ∉ fs:=λ q=>absurd (lt _ q) (t2s _);have neJ:s0.heap.objs.size≠J:=by rintro rfl;exact out mJ
 let nu:Obj:={ cls:=.type "list",data:=.seq ([]:LV).toArray }
 unfold collect;refine t0b (wpAny_runValue (t3r t9j ?_));rw [t2v t9k _];show wpAny _ B.in1 (newList [] >>= λ q=>again (.builtin "list.__iadd__" ⟨[q,.ref J],[]⟩)) _ _ s0;refine t0b (t1w ?_);refine t0s ⟨t3q t6s _,t3r F.entry_list_iadd ?_⟩;rw [t2v t6s _];have z1:=wk.frame 0 s0 (s0.heap.push nu) s0.toks z0 (t0n _) λ b _ o e=>t0f _ e;have at1:(s0.heap.push nu).get? s0.heap.objs.size=some nu:=t0r _ rfl;have dif:Builtin.List.listSameRef (.ref s0.heap.objs.size) (.ref J)=false:=by simp [Builtin.List.listSameRef,neJ]
 show wpAny _ B.in1 (Builtin.List.listExtendWith (.ref s0.heap.objs.size) (.ref J) (.ref s0.heap.objs.size)) _ _ _;unfold Builtin.List.listExtendWith;refine t0b (t5w (ty 0 _ z1) ?_);rw [if_neg (by rw [dif];decide)];refine t0b (wk.self 0 _ _ _ z1 ?_);refine t0b (t3j ?_);unfold Builtin.List.listLengthHint;refine t0b (t4d (ty 0 _ z1) x6a ?_);show wpAny _ B.in1 (specialOf (Value.ref J) (Str.ofString "__length_hint__") >>= _) _ _ _;refine t0b (t4d (ty 0 _ z1) w0i ?_)
 (generalize hid:("list_reverseiterator.__length_hint__" : String)=id0;wp_delta;rw [show splitId id0=some ("list_reverseiterator","__length_hint__") from by subst hid;decide +kernel];subst hid)
 refine t0b (t4h (b:=true) (ty 0 _ z1) (by rw [t5c];kernel_rfl) ?_);refine t0s ?_;rw [if_neg (by decide)];refine t0s ⟨t3q t7w _,t7m wk sm _ out _ m 0 _ _ _ rfl (t0x _) z1 at1 (s1s Pr) λ z' ac cc mv at2 its=>?_⟩;show wpAny _ B (load s0.heap.objs.size >>= _) _ _ z';exact t0b (s1i at2 (t0s (fin z' ac (s0a (o:=nu) (tk:=s0.toks) mv (t0n _)) its)))
theorem y4i {R:VS}(wk:WalksS pg wd B.in1.in1 J fs ws Gg m Pr Sx) (ty:∀j z,Sx j z->z.TypeIs (.ref J) "list_reverseiterator") (z0:Sx 0 s0) (lt:∀b∈fs,b < s0.heap.objs.size) (mJ:J∈fs) (sm:m≤sizeLine)
  (fin:∀z' ac,Moved ws Gg s0 z'->ItemsOf Pr ac m->R (.ref z'.heap.objs.size) { z' with heap:=z'.heap.push { cls:=.type "tuple",data:=.seq ac } }) :
  codeAny (model pg wd) B (.call (.builtin "tuple.__new__") ⟨[.type "tuple",.ref J],[]⟩) (wants R X0) s0:=by
 refine codeAny_of_tree ?_;show wpAny _ B.in1 (do checkBuiltinCall "tuple.__new__" ⟨[.type "tuple",.ref J],[]⟩;again (.builtin "tuple.__new__" ⟨[.type "tuple",.ref J],[]⟩)) _ _ s0;refine t0b (t4c (F.newCall_tuple_1 _) (t0s ⟨t3q t6t _,t3r F.entry_tuple_new ?_⟩));rw [t2v t6t _];have q1:=sub_tuple_self;have q2:=init_tuple_lookup;have q3:=madeHere_tuple;have q4:=ty 0 s0 z0;wp_walk using t5w q4,y8m (sm:=sm) wk ty z0 lt mJ;intro z' ac mv its;show wpAny _ _ (Builtin.Tuple.tupleExact ac.toList.toArray >>= λ q=>ret q) _ _ _;have e:ac.toList.toArray=ac:=by simp
 rw [e];unfold Builtin.Tuple.tupleExact;exact t0b (t1w (t0s (fin z' ac mv its)) (by show ac.size≤sizeLine;rw [its.1];exact sm))
theorem y1x {R:VS}(wk:WalksS pg wd B.in1.in1.in1 J fs ws Gg m Pr Sx) (ty:∀j z,Sx j z->z.TypeIs (.ref J) "list_reverseiterator") (z0:Sx 0 s0) (lt:∀b∈fs,b < s0.heap.objs.size) (mJ:J∈fs) (sm:m≤sizeLine)
  (fin:∀z' ac,Moved ws Gg s0 z'->ItemsOf Pr ac m->R (.ref z'.heap.objs.size) { z' with heap:=z'.heap.push { cls:=.type "tuple",data:=.seq ac } }) :
  wpAny (model pg wd) B (call (.type "tuple") [.ref J]) R X0 s0 :=
 callType_codes (Q₁:=λ ob z=>z.TypeIs ob "tuple" /\ R ob z) F.called_tuple (s0z _) s0j
  (y4i (sm:=sm) wk ty z0 lt mJ λ z' ac mv its=>⟨⟨_,t0r _ rfl,rfl⟩,fin z' ac mv its⟩)
  λ ob z q=>⟨q.1,t5m ob _,object_init_meets F.called_tuple.init.lookup F.called_tuple.made (by decide) pg wd B.in1 _ z ⟨q.1,rfl,q.2⟩⟩
end
section
variable {X:Cx}
noncomputable def x2p (K:FG) (te:TE):TE:=λ σ H Q=>te σ H λ x H1=>∃a xs,x=.ref a/\SqL K H1 a xs/\∀p,H1 p=none->Q (.ref p) (upd H1 p (.tup xs.reverse))
theorem y5s {p1 p2 pos pos':Pos}(hc:X.calm=true) (ht:Gl X "tuple") (hr:Gl X "reversed") (mt:X.mg "tuple"=none) (mr:X.mg "reversed"=none) (he:PE X e te) (hs:starEach [e] X.env=[(false,eval e X.env)]:=by rfl) :
  PE X (.Call (.Name "tuple" p1) [.Call (.Name "reversed" p2) [e] [] pos'] [] pos) (x2p X.K te):=by
 intro pins s σ H Q I h;refine Call_ (z5d I ht mt t2g (t1t ?_ rfl rfl));refine t8f ?_;have hA:=(z0i he (z1j (X:=X)) hs) pos' pins s σ H (λ vs H1=>match vs with | [x]=>∃a xs,x=.ref a/\SqL X.K H1 a xs/\∀p,H1 p=none->Q (.ref p) (upd H1 p (.tup xs.reverse)) | _=>False) I h;refine Call_ (z5d I hr mr s0y (t1t (thn hA λ us s1 ⟨vs,H1,I1,r1,q1⟩=>?_) hs rfl))
 match vs,q1 with
 | [x],⟨a,xs,e,hq,q⟩ =>
  subst e;obtain ⟨u,rfl,ru⟩:=z6g r1;cases (show u=Value.ref a from ru);obtain ⟨its,rv,pl,hz⟩:=I1.list hq;have hl:=rv.length;refine call_reversed_list pl.isList ?_;refine t8l ?_;have I2:Inv X pins σ H1 { s1 with heap:=s1.heap.push (revObj a ((its.toArray.size:Int) - 1)) }:=I1.kept (t':=s1.toks) λ b o e=>t0f _ e;have al:a < s1.heap.objs.size:=by obtain ⟨o,ho,_⟩:=pl.isList;exact t0y ho
  have hne:a≠s1.heap.objs.size:=t1k al
  have ir:(s1.heap.push (revObj a ((its.toArray.size:Int) - 1))).IsRevIter s1.heap.objs.size a ((its.toArray.size:Int) - 1 - ((0:Nat):Int)):=by
   refine ⟨_,t0r _ rfl,rfl,?_⟩;have e:(its.toArray.size:Int) - 1 - ((0:Nat):Int)=(its.toArray.size:Int) - 1:=by lia
   rw [e];rfl
  have sz:(s1.heap.push (revObj a ((its.toArray.size:Int) - 1))).objs.size=s1.heap.objs.size+1:=by simp [Heap.push]
  have ff:=I1.fpOk (t0n s1.heap.objs.size) (I1.hok.fresh (t0n _))
  refine y1x (Walks.listRev (A:=X.A.in1.in1.in1) (I.ok.hd hc) s1.heap.objs.size a hne its.toArray).toS (λ j z q=>let ⟨o,ho,hk,_⟩:=q.2.1;⟨o,ho,hk⟩)
   ⟨t0x _,ir,pl.isList.at λ o e=>t0f _ e⟩ (λ b hb=>?_) (t0t ..) (by simp only [t0z];lia) λ z' ac mv io=>?_
  ·show b < (s1.heap.push (revObj a ((its.toArray.size:Int) - 1))).objs.size;rw [sz];simp only [t1a,t1l,t3f] at hb
   rcases hb with rfl | rfl
   ·exact t3v _
   ·exact t2b al
  have I3:Inv X pins σ H1 z':=by
   obtain ⟨zh,zg,zd,zt,zo⟩:=z';have e1:zg=s1.gens:=mv.gens;have e2:zd=s1.drawn:=mv.drawn;have e3:zo=s1.os:=mv.os;subst e1 e2 e3;obtain ⟨f0,f1,f2,f3,f4,f5⟩:=ff;exact I1.turned (t':=zt) (λ b o hb e=>mv.heap b o (by simpa using hb) (t0f _ e)) f0 f1 f3 f4 f5
  have er:ac=its.reverse.toArray:=by
   have sz2:ac.size=its.length:=by simpa using io.1
   apply Array.ext
   ·simp [sz2]
   ·intro j h1 h2;have q:=io.2 j _ (t4o h1);simp only [t0z,t7b] at q;have q2:its.reverse[j]?=some ac[j]:=by rw [t4m (by lia)];exact q
    rw [t9w];exact (t1i ((t0e (by simpa using h2)).symm.trans q2)).symm
  subst er
  have I4:Inv X pins σ (upd H1 z'.heap.objs.size (.tup xs.reverse)) { z' with heap:=z'.heap.push { cls:=.type "tuple",data:=.seq its.reverse.toArray } } :=
   I3.laid (t':=z'.toks) (λ b o e=>t0f _ e) (t0n _) (show ObjOk X.prog X.w _ _ _ (.tup xs.reverse) from ⟨by simpa using hz,its.reverse,rv.reverse,t9f _ _⟩)
  exact ⟨.ref z'.heap.objs.size,_,I4,rfl,q _ (I3.hok.fresh (t0n _))⟩
end
section
variable {X:Cx}
noncomputable def w8j (K:FG):R2:=λ x y H Q=>∃a b xs ys,x=.ref a/\y=.ref b/\SqT K H a xs/\SqT K H b ys/\xs.length+ys.length≤sizeLine /\
 (xs=[]->Q (.ref b) H)/\(xs≠[]->ys=[]->Q (.ref a) H)/\(xs≠[]->ys≠[]->∀p,H p=none->Q (.ref p) (upd H p (.tup (xs++ys))))
theorem w4m:OpR X (binaryOp .Add) (w8j X.K):=by
 intro pins s σ H x y v u Q I rx ry h;obtain ⟨a,b,xs,ys,rfl,rfl,ha,hb,hz,q0,q1,q2⟩:=h;by_cases hx:xs=[]
 ·cases rx;cases ry;obtain ⟨its,r1,p1,_⟩:=I.tuple ha;obtain ⟨its2,r2,p2,_⟩:=I.tuple hb;have e1:its=[]:=r1.nil_iff.mpr hx;obtain ⟨⟨c1,d1,z1,l1⟩,g1,hc1,n1,hd1⟩:=id p1;obtain ⟨⟨c2,d2,z2,l2⟩,g2,hc2,n2,hd2⟩:=id p2;simp only at hc1 hd1 hc2 hd2;subst hc1 hd1 hc2 hd2
  exact s1k ⟨_,g1,rfl⟩ ⟨_,g2,rfl⟩ t8w s0s t6n t6e (t5v _ _)
   (tuple_addW0 a b its.toArray its2.toArray n1 n2 d1 d2 l1 l2 (by simp [e1])) ⟨g1,g2,.ref b,H,I,rfl,q0 hx⟩
 ·exact w4l pins s σ H _ _ v u Q I rx ry ⟨a,b,xs,ys,rfl,rfl,ha,hb,hx,hz,q1 hx,q2 hx⟩
def y8h:List V->List V->Bool
 | [],[]=>true
 | x::xs,y::ys=>eqV x y && y8h xs ys
 | _,_=>false
theorem y0i:∀ {xs ys:List V},xs.length≠ys.length->y8h xs ys=false
 | [],[],h=>absurd rfl h
 | x::xs,y::ys,h=>by
  have e:xs.length≠ys.length:=λ z=>h (by simp [z]);simp [y8h,y0i e]
 | [],_::_,_=>rfl
 | _::_,[],_=>rfl
def z8z (xs ys:List V) (j:Nat):Bool:=match xs[j]?,ys[j]? with | some x,some y=>eqV x y | _,_=>false
theorem y0j:∀ {xs ys:List V},xs.length=ys.length->(List.range xs.length).all (z8z xs ys)=y8h xs ys
 | [],[],_=>rfl
 | x::xs,y::ys,h=>by
  have e:xs.length=ys.length:=by simpa using h
  rw [t0h,t8z,t7o,List.all_map];have z:(z8z (x::xs) (y::ys) ∘ Nat.succ)=z8z xs ys:=by funext j;simp [z8z]
  rw [z,y0j e];rfl
 | [],_::_,h=>by cases h
 | _::_,[],h=>by cases h
theorem y4n (r1:Vals xs us) (r2:Vals ys ws) (f1:xs.all z3f=true) (f2:ys.all z3f=true) (j:Nat) (h1:j < us.toArray.size) (h2:j < ws.toArray.size) :
  SeqAt.EqAt A s us.toArray[j] ws.toArray[j] (z8z xs ys j):=by
 have l1:=r1.length;have l2:=r2.length;have k1:j < xs.length:=by rw [l1];simpa using h1
 have k2:j < ys.length:=by rw [l2];simpa using h2
 obtain ⟨u,hu,ru⟩:=r1.get (t0e k1);obtain ⟨v,hv,rv⟩:=r2.get (t0e k2)
 have e1:us.toArray[j]=u:=by
  have z:us[j]?=some (us[j]'(by simpa using h1)):=t0e _;rw [z] at hu;simpa using hu
 have e2:ws.toArray[j]=v:=by
  have z:ws[j]?=some (ws[j]'(by simpa using h2)):=t0e _;rw [z] at hv;simpa using hv
 rw [e1,e2];have e3:z8z xs ys j=eqV xs[j] ys[j]:=by simp [z8z,k1,k2]
 rw [e3];exact x0o ru rv (t5r.mp f1 _ (t3w k1)) (t5r.mp f2 _ (t3w k2))
noncomputable def v4x (K:FG):R2:=λ x y H Q=>∃a b xs ys,x=.ref a/\y=.ref b/\SqT K H a xs/\SqT K H b ys/\xs.all z3f=true/\ys.all z3f=true/\Q (.bl (y8h xs ys)) H
theorem x4y (hu:X.A.units < cLine):OpR X (compareOp .Eq) (v4x X.K):=by
 intro pins s σ H x y v u Q I rx ry h;obtain ⟨a,b,xs,ys,rfl,rfl,ha,hb,f1,f2,q⟩:=h;cases rx;cases ry;obtain ⟨us,r1,p1,_⟩:=I.tuple ha;obtain ⟨ws,r2,p2,_⟩:=I.tuple hb;refine SeqAt.eq_tupleAt (show s.heap.IsTuple a us.toArray from p1) (show s.heap.IsTuple b ws.toArray from p2) (e:=z8z xs ys) hu (y4n r1 r2 f1 f2) ?_;have e1:us.toArray.size=xs.length:=by simp [r1.length]
 have e2:ws.toArray.size=ys.length:=by simp [r2.length]
 rw [e1,e2];by_cases hl:xs.length=ys.length
 ·have z:((List.range (min xs.length ys.length)).all (z8z xs ys) && xs.length == ys.length)=y8h xs ys:=by
   rw [← hl,t4x,y0j hl];simp
  rw [z];exact ⟨.bl _,H,I,rfl,q⟩
 ·have z:((List.range (min xs.length ys.length)).all (z8z xs ys) && xs.length == ys.length)=y8h xs ys:=by
   rw [y0i hl];simp [hl]
  rw [z];exact ⟨.bl _,H,I,rfl,q⟩
theorem z1i:∀(ns:LI),(ns.map V.int).all z3f=true
 | []=>rfl
 | n::ns=>by simp [z3f]
theorem z5n:z4s X (.builtin "isinstance") (λ xs H Q=>∃a ys,xs=[.ref a,.ty "tuple"]/\H a=some (.tup ys)/\Q (.bl true) H):=by
 intro pins s σ H xs us Q I r h;obtain ⟨a,ys,rfl,ha,q⟩:=h;exact x0r pins s σ H _ us Q I r ⟨.ref a,"tuple",.type "tuple",true,rfl,.tup ha,x0e (by decide +kernel),q⟩
end
section
variable {pg:Program}{wd:World}{B:Around}{X0:VS}{s0:Shared}
theorem z3e {R:VS}(p:s0.heap.IsTupleIter j t k) (q:s0.heap.IsTuple t its) (e:its[k]?=some x)
  (f:∀h',h'.IsTupleIter j t (k+1)->Heap.SameBut j s0.heap h'->R x { s0 with heap:=h' }):wpAny (model pg wd) B (Builtin.SmallTypes.nextOf (.ref j)) R X0 s0:=by
 obtain ⟨o,g,c,d⟩:=id p;obtain ⟨ot,gt,_,nt,dt⟩:=q;unfold Builtin.SmallTypes.nextOf;refine t0b (t1y (name:=Str.ofString "__next__") p.typeIs t4g (t2i t4g p.typeIs t7x ?_ (t7p _)));show wpAny _ _ (field (.ref j) 0 >>= _) _ _ s0;refine t0b (t1r g d (x:=.ref t) rfl ?_);show wpAny _ _ (if (Value.ref t == Value.none)=true then _ else _) _ _ s0;rw [if_neg (show ¬((Value.ref t == Value.none)=true) from t1e)];show wpAny _ _ (field (.ref j) 1 >>= _) _ _ s0;refine t0b (t1r g d (x:=.int k 0) rfl ?_);show wpAny _ _ (seqItems? (.ref t) >>= _) _ _ s0;refine t0b (t2h gt dt ?_);simp only [t1c,e];refine t0b (t6w g d (by simp) (t0s ⟨x,rfl,t0s (f _ ?_ (t5t ..))⟩));exact ⟨_,t2q _ g (t7a (t4l d _)),(Obj.cls_mapFields ..).trans c,by rw [t4l d];simp [rawInt]⟩
theorem z5m (hh:B.handled=none) (p:s0.heap.IsTupleIter j t k) (q:s0.heap.IsTuple t its) (e:its[k]?=none)
  (f:∀h' z,Heap.ExtBut j s0.heap h'->(∃o,h'.get? z=some o/\o.cls=.type "StopIteration")->X0 (.ref z) { s0 with heap:=h' }):wpAny (model pg wd) B (Builtin.SmallTypes.nextOf (.ref j)) R X0 s0:=by
 obtain ⟨o,g,c,d⟩:=id p;obtain ⟨ot,gt,_,nt,dt⟩:=q;unfold Builtin.SmallTypes.nextOf;refine t0b (t1y (name:=Str.ofString "__next__") p.typeIs t4g (t2i t4g p.typeIs t7x ?_ (t7p _)));show wpAny _ _ (field (.ref j) 0 >>= _) _ _ s0;refine t0b (t1r g d (x:=.ref t) rfl ?_);show wpAny _ _ (if (Value.ref t == Value.none)=true then _ else _) _ _ s0;rw [if_neg (show ¬((Value.ref t == Value.none)=true) from t1e)];show wpAny _ _ (field (.ref j) 1 >>= _) _ _ s0;refine t0b (t1r g d (x:=.int k 0) rfl ?_);show wpAny _ _ (seqItems? (.ref t) >>= _) _ _ s0;refine t0b (t2h gt dt ?_);simp only [t1c,e];refine t0b (t5x (t0b (t6w g d (by simp) ?_)));show wpAny _ _ (newExc (.type "StopIteration") [] >>= _) _ _ _;refine t0b ?_;simp only [newExc,newTuple];refine t0b (t1w ?_ (by size_fits));refine t0b (m:=firstArgMember _ _) (t4c (a:=Value.none) (by first | rfl | (simp only [firstArgMember];rfl)) ?_);refine t1w ?_ (by size_fits);simp only [raiseNew];refine t0b (wpAny_handled ?_);first | rw [show B.in1.handled=none from hh] | rw [hh]
 refine t0b (t0s (wpAny_throw ?_));exact f _ _ (((t5t ..).extBut.push _).push _) ⟨_,t0r _ rfl,rfl⟩
structure Apart5 (z ti ox j1 j2 t1 t2:Addr):Prop where
 ti_z:ti≠z
 ox_z:ox≠z
 j1_z:j1≠z
 j2_z:j2≠z
 ti_ox:ti≠ox
 ti_j1:ti≠j1
 ti_j2:ti≠j2
 ox_j1:ox≠j1
 ox_j2:ox≠j2
 j12:j1≠j2
 t1_z:t1≠z
 t1_ox:t1≠ox
 t1_j1:t1≠j1
 t1_j2:t1≠j2
 t2_z:t2≠z
 t2_ox:t2≠ox
 t2_j1:t2≠j1
 t2_j2:t2≠j2
def v1q (z ox j1 j2:Addr) (h h':Heap):Prop:=∀c o,c≠z->c≠ox->c≠j1->c≠j2->h.get? c=some o->h'.get? c=some o
theorem z1c {h h':Heap}(p:h.IsTupleIter j t k) (f:∀o,h.get? j=some o->h'.get? j=some o):h'.IsTupleIter j t k:=let ⟨o,g,r⟩:=p;⟨o,f o g,r⟩
theorem z4k {h h':Heap}(p:h.IsTuple t its) (f:∀o,h.get? t=some o->h'.get? t=some o):h'.IsTuple t its:=let ⟨o,g,r⟩:=p;⟨o,f o g,r⟩
theorem x2b {R:Option Value->Shared->Prop}(ap:Apart5 z ti ox j1 j2 t1 t2) (hz:IsZip s0.heap z ti ox .none) (hi:IsPair s0.heap ti (.ref j1) (.ref j2)) (ho:IsPair s0.heap ox u v)
  (p1:s0.heap.IsTupleIter j1 t1 k) (p2:s0.heap.IsTupleIter j2 t2 k) (q1:s0.heap.IsTuple t1 as) (q2:s0.heap.IsTuple t2 bs) (e1:as[k]?=some x) (e2:bs[k]?=some y)
  (f:∀h',IsZip h' z ti ox (rawInt s0.heap.objs.size)->IsPair h' ox x y->h'.IsTupleIter j1 t1 (k+1)->h'.IsTupleIter j2 t2 (k+1)->IsPair h' s0.heap.objs.size x y->v1q z ox j1 j2 s0.heap h'->R (some (.ref s0.heap.objs.size)) { s0 with heap:=h' }) :
  wpAny (model pg wd) B (pyNext (.ref z)) R X0 s0:=by
 have ty:s0.TypeIs (.ref z) "zip" := ⟨_,hz,rfl⟩;unfold pyNext;refine t0b (t4k (t1y (name:=Str.ofString "__next__") ty t4e (t2i t4e ty t7g ?_ (t6u _))));show wpAny _ _ (field (.ref z) 2 >>= _) _ _ _;refine t0b (t1r hz rfl (x:=.bool false) rfl ?_);show wpAny _ _ (field (.ref z) 3 >>= _) _ _ _;refine t0b (t1r hz rfl (x:=.ref ti) rfl ?_);refine t0b (t2h hi rfl ?_);show wpAny _ _ (Builtin.SmallTypes.ownedTupleIsFree (.ref z) >>= _) _ _ _;refine t0b ?_;unfold Builtin.SmallTypes.ownedTupleIsFree;refine t0b (t1r hz rfl (x:=.none) rfl (t0s ?_));simp only [t7u];refine t0b (t5x ?_);refine t0b (t1r hz rfl (x:=.ref ox) rfl ?_);refine t0b (t2p hz (by simp) λ m1 zm1 sb1=>?_);have zm1:IsZip m1 z ti ox .ellipsis:=zm1;refine t0b ?_;simp only [t7h,t7y,t6g,t6x];refine t0b (t0b (t4y ?_));show wpAny _ _ (Builtin.SmallTypes.nextOf (.ref j1) >>= _) _ _ _;refine t0b (z3e (z1c p1 λ o g=>sb1.extBut _ _ ap.j1_z g) (z4k q1 λ o g=>sb1.extBut _ _ ap.t1_z g) e1 λ m2 pm2 sb2=>t0s ?_);have om2:IsPair m2 ox u v:=sb2.extBut _ _ ap.ox_j1 (sb1.extBut _ _ ap.ox_z ho);refine t0b (t2h om2 rfl ?_);refine t0b (t7n om2 λ m3 om3 sb3=>?_);have om3:IsPair m3 ox x v:=om3;refine t0b (t4z (t0s ?_));refine t0b (t0b (t4y ?_));show wpAny _ _ (Builtin.SmallTypes.nextOf (.ref j2) >>= _) _ _ _;have to3:∀c o,c≠z->c≠ox->c≠j1->s0.heap.get? c=some o->m3.get? c=some o:=λ c o a1 a2 a3 g=>sb3.extBut _ _ a2 (sb2.extBut _ _ a3 (sb1.extBut _ _ a1 g));refine t0b (z3e (z1c p2 λ o g=>to3 _ o ap.j2_z ap.ox_j2.symm ap.j12.symm g) (z4k q2 λ o g=>to3 _ o ap.t2_z ap.t2_ox ap.t2_j1 g) e2 λ m4 pm4 sb4=>t0s ?_);have om4:IsPair m4 ox x v:=sb4.extBut _ _ ap.ox_j2 om3;refine t0b (t2h om4 rfl ?_);refine t0b (t7n om4 λ m5 om5 sb5=>?_);have om5:IsPair m5 ox x y:=om5;refine t0b (t4z (t0s (t0s ?_)));refine t0b (t2h om5 rfl ?_);refine t0b (wpAny_newTuple ?_);have sz5:m5.objs.size=s0.heap.objs.size:=by rw [sb5.1,sb4.1,sb3.1,sb2.1,sb1.1]
 have zm5:IsZip m5 z ti ox .ellipsis:=sb5.extBut _ _ ap.ox_z.symm (sb4.extBut _ _ ap.j2_z.symm (sb3.extBut _ _ ap.ox_z.symm (sb2.extBut _ _ ap.j1_z.symm zm1)));have to5:v1q z ox j1 j2 s0.heap m5:=λ c o a1 a2 a3 a4 g=>sb5.extBut _ _ a2 (sb4.extBut _ _ a4 (to3 c o a1 a2 a3 g));have pj1:m5.IsTupleIter j1 t1 (k+1):=z1c pm2 λ o g=>sb5.extBut _ _ ap.ox_j1.symm (sb4.extBut _ _ ap.j12 (sb3.extBut _ _ ap.ox_j1.symm g));have pj2:m5.IsTupleIter j2 t2 (k+1):=z1c pm4 λ o g=>sb5.extBut _ _ ap.ox_j2.symm g;have zlt:z < m5.objs.size:=t0y zm5;show wpAny _ _ (Builtin.SmallTypes.ownedTupleHandOut (.ref z) (.ref m5.objs.size) >>= _) _ _ _;refine t0b ?_;unfold Builtin.SmallTypes.ownedTupleHandOut;have zm6:IsZip (m5.push { cls:=.type "tuple",data:=.seq #[x,y] }) z ti ox .ellipsis:=t0f _ zm5;refine t0b (t2p zm6 (by simp) λ m7 zm7 sb7=>?_);have zm7:IsZip m7 z ti ox (rawInt m5.objs.size):=zm7;refine t2p zm7 (by simp) λ m8 zm8 sb8=>?_;have zm8:IsZip m8 z ti ox (rawInt m5.objs.size):=zm8;have to8:∀c o,c≠z->m5.get? c=some o->m8.get? c=some o:=λ c o a1 g=>sb8.extBut _ _ a1 (sb7.extBut _ _ a1 (t0f _ g));have np8:IsPair m8 m5.objs.size x y:=sb8.extBut _ _ (t4w zlt) (sb7.extBut _ _ (t4w zlt) (t0r _ rfl));rw [sz5] at zm8 np8;refine t0s ⟨_,rfl,t0s ?_⟩;show R (some (.ref m5.objs.size)) _;rw [sz5];exact f m8 zm8 (to8 _ _ ap.ox_z om5) (z1c pj1 λ o g=>to8 _ o ap.j1_z g) (z1c pj2 λ o g=>to8 _ o ap.j2_z g) np8 λ c o a1 a2 a3 a4 g=>to8 c o a1 (to5 c o a1 a2 a3 a4 g)
theorem x8n {R:Option Value->Shared->Prop}(hh:B.handled=none) (ap:Apart5 z ti ox j1 j2 t1 t2) (hz:IsZip s0.heap z ti ox .none) (hi:IsPair s0.heap ti (.ref j1) (.ref j2)) (ho:IsPair s0.heap ox u v)
  (p1:s0.heap.IsTupleIter j1 t1 k) (p2:s0.heap.IsTupleIter j2 t2 k) (q1:s0.heap.IsTuple t1 as) (q2:s0.heap.IsTuple t2 bs) (hend:as[k]?=none\/bs[k]?=none)
  (f:∀h',v1q z ox j1 j2 s0.heap h'->R none { s0 with heap:=h' }):wpAny (model pg wd) B (pyNext (.ref z)) R X0 s0:=by
 have ty:s0.TypeIs (.ref z) "zip" := ⟨_,hz,rfl⟩
 have last:∀(h':Heap) (e:Addr),v1q z ox j1 j2 s0.heap h'->(∃o,h'.get? e=some o/\o.cls=.type "StopIteration")->wpAny (model pg wd) B (do if ← isInstance (.ref e) (.type "StopIteration") then pure none else throw (.ref e)) R X0 { s0 with heap:=h' }:=λ h' e bt ⟨o,g,c⟩ =>
  t0b (t4h (T := "StopIteration") (b:=true) ⟨o,g,c⟩ t8i (t0s (f _ bt)))
 unfold pyNext;refine t0b (t4k (t1y (name:=Str.ofString "__next__") ty t4e (t2i t4e ty t7g ?_ (t6u _))));show wpAny _ _ (field (.ref z) 2 >>= _) _ _ _;refine t0b (t1r hz rfl (x:=.bool false) rfl ?_);show wpAny _ _ (field (.ref z) 3 >>= _) _ _ _;refine t0b (t1r hz rfl (x:=.ref ti) rfl ?_);refine t0b (t2h hi rfl ?_);show wpAny _ _ (Builtin.SmallTypes.ownedTupleIsFree (.ref z) >>= _) _ _ _;refine t0b ?_;unfold Builtin.SmallTypes.ownedTupleIsFree;refine t0b (t1r hz rfl (x:=.none) rfl (t0s ?_));simp only [t7u];refine t0b (t5x ?_);refine t0b (t1r hz rfl (x:=.ref ox) rfl ?_);refine t0b (t2p hz (by simp) λ m1 zm1 sb1=>?_);have zm1:IsZip m1 z ti ox .ellipsis:=zm1;refine t0b ?_;simp only [t7h,t7y,t6g,t6x];refine t0b (t0b (t4y ?_));show wpAny _ _ (Builtin.SmallTypes.nextOf (.ref j1) >>= _) _ _ _
 cases e1:as[k]? with
 | none =>
  refine t0b (z5m hh (z1c p1 λ o g=>sb1.extBut _ _ ap.j1_z g) (z4k q1 λ o g=>sb1.extBut _ _ ap.t1_z g) e1 λ m2 e xb he=>?_);obtain ⟨oe,ge,ce⟩:=he;have zm2:IsZip m2 z ti ox .ellipsis:=xb _ _ ap.j1_z.symm zm1;have ez:e≠z:=λ q=>by subst q;rw [zm2] at ge;cases ge;simp at ce
  exact t2p zm2 (by simp) λ m3 _ sb3=>last m3 e (λ c o a1 _ a3 _ g=>sb3.extBut _ _ a1 (xb _ _ a3 (sb1.extBut _ _ a1 g))) ⟨oe,sb3.extBut _ _ ez ge,ce⟩
 | some x =>
  have e2:bs[k]?=none:=by rcases hend with q | q;rw [e1] at q;cases q;exact q
  refine t0b (z3e (z1c p1 λ o g=>sb1.extBut _ _ ap.j1_z g) (z4k q1 λ o g=>sb1.extBut _ _ ap.t1_z g) e1 λ m2 pm2 sb2=>t0s ?_);have om2:IsPair m2 ox u v:=sb2.extBut _ _ ap.ox_j1 (sb1.extBut _ _ ap.ox_z ho);refine t0b (t2h om2 rfl ?_);refine t0b (t7n om2 λ m3 om3 sb3=>?_);refine t0b (t4z (t0s ?_));refine t0b (t0b (t4y ?_));show wpAny _ _ (Builtin.SmallTypes.nextOf (.ref j2) >>= _) _ _ _;have to3:∀c o,c≠z->c≠ox->c≠j1->s0.heap.get? c=some o->m3.get? c=some o:=λ c o a1 a2 a3 g=>sb3.extBut _ _ a2 (sb2.extBut _ _ a3 (sb1.extBut _ _ a1 g));refine t0b (z5m hh (z1c p2 λ o g=>to3 _ o ap.j2_z ap.ox_j2.symm ap.j12.symm g) (z4k q2 λ o g=>to3 _ o ap.t2_z ap.t2_ox ap.t2_j1 g) e2 λ m4 e xb he=>?_);obtain ⟨oe,ge,ce⟩:=he;have zm4:IsZip m4 z ti ox .ellipsis:=xb _ _ ap.j2_z.symm (sb3.extBut _ _ ap.ox_z.symm (sb2.extBut _ _ ap.j1_z.symm zm1));have ez:e≠z:=λ q=>by subst q;rw [zm4] at ge;cases ge;simp at ce
  exact t2p zm4 (by simp) λ m5 _ sb5=>last m5 e (λ c o a1 a2 a3 a4 g=>sb5.extBut _ _ a1 (xb _ _ a4 (to3 c o a1 a2 a3 g))) ⟨oe,sb5.extBut _ _ ez ge,ce⟩
end
theorem Inv.turnedL {h':Heap}{t':Nat}{fl:List Addr}(I:Inv X pins σ H s) (kk:∀b o,b ∉ fl->s.heap.get? b=some o->h'.get? b=some o) (fo:∀b∈fl,w3i X pins H b):Inv X pins σ H { s with heap:=h',toks:=t' }:=by
 have out:∀b u,H b=some u->b ∉ fl:=λ b u e z=>by rw [(fo b z).1] at e;cases e
 refine I.step (g':=s.gens) (d':=s.drawn) (ch:=fl) (λ b hb=>?_) (λ b o _ _ hc e _=>kk b o hc e) (λ b o _ _ hc e _=>⟨o.slots,kk b o hc e⟩) (λ _ _ _ _ q=>q)
  (λ b o hc e=>⟨o,kk b o hc e⟩) (λ _ _ e=>e) (λ _ _ _ e=>e) (λ b ps e=>⟨#[],by rw [e];simp⟩) (λ m hm=>?_) (λ b u e=>?_) I.bare
 ·obtain ⟨_,f1,_,f3,f4,f5⟩:=fo b hb;exact ⟨f3,f1,f4,f5⟩
 ·obtain ⟨o,es,ep,ho,r⟩:=hm;exact ⟨o,es,ep,kk _ o (λ z=>(fo _ z).2.1 rfl) ho,r⟩
 ·refine (I.hok b u e).stay (λ c v hc q=>kk c v ?_ q) (λ _ q=>q) λ _ _ q=>q
  rcases hc with z | z
  ·rw [z];exact out b u e
  ·exact out c _ z
noncomputable def Itz (K:FG) (a b:Addr):It:=⟨λ i H=>∃xs ys x y,SqT K H a xs/\SqT K H b ys/\xs[i]?=some x/\ys[i]?=some y,
 λ i H v H'=>∃T x y,v=.ref T/\H T=none/\H'=upd H T (.tup [x,y])/\∀xs ys,SqT K H a xs->SqT K H b ys->xs[i]?=some x/\ys[i]?=some y,λ i H=>∃xs ys,SqT K H a xs/\SqT K H b ys/\(xs.length≤i\/ys.length≤i)⟩
theorem x8r {K:FG}(ap:Apart5 z ti ox j1 j2 a b) :
  Turn P w K (.Tuple es x1 pp) (Itz K a b) [z,ti,ox,j1,j2] z (λ i h=>IsZip h z ti ox .none/\IsPair h ti (.ref j1) (.ref j2)/\(∃u v,IsPair h ox u v)/\h.IsTupleIter j1 a i/\h.IsTupleIter j2 b i) where
 mem:=by simp
 obj:=λ i h q c hc=>by
  obtain ⟨q1,q2,⟨u,v,q3⟩,⟨o4,g4,_,d4⟩,⟨o5,g5,_,d5⟩⟩:=q;simp only [t1a,t1l,t3f] at hc
  rcases hc with rfl | rfl | rfl | rfl | rfl
  ·exact ⟨_,q1,λ v z=>nomatch z⟩
  ·exact ⟨_,q2,λ v z=>nomatch z⟩
  ·exact ⟨_,q3,λ v z=>nomatch z⟩
  ·exact ⟨_,g4,λ v z=>by rw [d4] at z;cases z⟩
  ·exact ⟨_,g5,λ v z=>by rw [d5] at z;cases z⟩
 keep:=λ i h h' q k=>by
  obtain ⟨q1,q2,⟨u,v,q3⟩,q4,q5⟩:=q;exact ⟨k _ (by simp) _ q1,k _ (by simp) _ q2,⟨u,v,k _ (by simp) _ q3⟩,z1c q4 λ o g=>k _ (by simp) o g,z1c q5 λ o g=>k _ (by simp) o g⟩
 item:=by
  intro X hP hw hK hc i pins s σ H E I hf st hg;subst hP hw hK;obtain ⟨xs,ys,x,y,hq1,hq2,hx,hy⟩:=hg;obtain ⟨q1,q2,⟨u,v,q3⟩,q4,q5⟩:=st;obtain ⟨as,ra,pa,za⟩:=I.tuple hq1;obtain ⟨bs,rb,pb,zb⟩:=I.tuple hq2;obtain ⟨ux,hux,rux⟩:=ra.get hx;obtain ⟨uy,huy,ruy⟩:=rb.get hy;refine x2b ap q1 q2 q3 q4 q5 (show s.heap.IsTuple a as.toArray from pa) (show s.heap.IsTuple b bs.toArray from pb) (x:=ux) (y:=uy) (by simpa using hux) (by simpa using huy) λ h' zz oo p1' p2' np bt=>?_
  have I1:Inv X pins σ H { s with heap:=h' }:=I.turnedL (t':=s.toks) (fl:=[z,ti,ox,j1,j2]) (λ c o hc e=>by
   simp only [t1a,t1l,t3f,not_or] at hc
   exact bt c o hc.1 hc.2.2.1 hc.2.2.2.1 hc.2.2.2.2 e) hf
  obtain ⟨f0,f1,f2,f3,f4,f5⟩:=I.fpOk (t0n s.heap.objs.size) (I.hok.fresh (t0n _))
  have n0:X.s₀.heap.get? s.heap.objs.size=none:=by
   cases q:X.s₀.heap.get? s.heap.objs.size with
   | none=>rfl
   | some o=>exact absurd (t1d (t0y q) I.sz) (t2s _)
  have I2:Inv X pins σ (upd H s.heap.objs.size (.tup [x,y])) { s with heap:=h' }:=I1.track f0 ⟨small (by simp),[ux,uy],.cons rux (.cons ruy .nil),⟨_,np,rfl,_,rfl⟩⟩ f1 f4 f5 n0;have lt:∀ {c o},s.heap.get? c=some o->c≠s.heap.objs.size:=λ e=>t1k (t0y e);have hzT:z≠s.heap.objs.size:=lt q1;have ti2:IsPair h' ti (.ref j1) (.ref j2):=bt _ _ ap.ti_z ap.ti_ox ap.ti_j1 ap.ti_j2 q2;obtain ⟨e0,e1,e2,e3,e4,e5⟩:=hf z (by simp);refine ⟨_,rfl,t8j zz λ h2 z2 sb=>?_⟩;have I3:Inv X pins σ (upd H s.heap.objs.size (.tup [x,y])) { s with heap:=h2 }:=Inv.turned (s:={ s with heap:=h' }) (h':=h2) (t':=s.toks) (it:=z) I2 (λ c o hc e=>sb.extBut _ _ hc e) (by rw [z0u hzT];exact e0) e1 e3 e4 e5;refine ⟨.ref s.heap.objs.size,_,I3,rfl,⟨_,x,y,rfl,f0,rfl,λ xs' ys' k1 k2=>?_⟩,⟨z2,sb.extBut _ _ ap.ti_z ti2,⟨_,_,sb.extBut _ _ ap.ox_z oo⟩,z1c p1' λ o g=>sb.extBut _ _ ap.j1_z g,z1c p2' λ o g=>sb.extBut _ _ ap.j2_z g⟩,λ c hc=>?_⟩
  ·rw [I.tuple_inj k1 hq1,I.tuple_inj k2 hq2];exact ⟨hx,hy⟩
  ·have cT:c≠s.heap.objs.size:=by
    obtain ⟨o4,g4,_⟩:=q4;obtain ⟨o5,g5,_⟩:=q5;simp only [t1a,t1l,t3f] at hc
    rcases hc with rfl | rfl | rfl | rfl | rfl
    ·exact hzT
    ·exact lt q2
    ·exact lt q3
    ·exact lt g4
    ·exact lt g5
   rw [z0u cT];exact (hf c hc).1
 done:=by
  intro X hP hw hK hc i pins s σ H E I hf st hg;subst hP hw hK;obtain ⟨xs,ys,hq1,hq2,hx⟩:=hg;obtain ⟨q1,q2,⟨u,v,q3⟩,q4,q5⟩:=st;obtain ⟨as,ra,pa,za⟩:=I.tuple hq1;obtain ⟨bs,rb,pb,zb⟩:=I.tuple hq2;have la:=ra.length;have lb:=rb.length;refine x8n (I.ok.hd hc) ap q1 q2 q3 q4 q5 (show s.heap.IsTuple a as.toArray from pa) (show s.heap.IsTuple b bs.toArray from pb) (by rcases hx with q | q;exact .inl (by simp;lia);exact .inr (by simp;lia)) λ h' bt=>⟨rfl,?_⟩
  exact I.turnedL (t':=s.toks) (fl:=[z,ti,ox,j1,j2]) (λ c o hc e=>by
   simp only [t1a,t1l,t3f,not_or] at hc
   exact bt c o hc.1 hc.2.2.1 hc.2.2.2.1 hc.2.2.2.2 e) hf
 self:=λ _ _ _ _ _ st h=>t7i st.1 h
abbrev zt1 (h:Heap) (a:Addr):Heap:=h.push { cls:=.type "tuple_iterator",data:=.fields #[.ref a,.int 0 0] }
abbrev zt2 (h:Heap) (a b:Addr):Heap:=(zt1 h a).push { cls:=.type "tuple_iterator",data:=.fields #[.ref b,.int 0 0] }
noncomputable abbrev zt3 (h:Heap) (a b:Addr):Heap:=(zt2 h a b).push { cls:=.type "tuple",data:=.seq #[.ref h.objs.size,.ref (zt1 h a).objs.size] }
abbrev zt4 (h:Heap) (a b:Addr):Heap:=(zt3 h a b).push { cls:=.type "tuple",data:=.seq #[.none,.none] }
noncomputable abbrev zt5 (h:Heap) (a b:Addr):Heap:=(zt4 h a b).push { cls:=.type "zip",data:=.fields #[.none,.bool false,.bool false,.ref (zt2 h a b).objs.size,.ref (zt3 h a b).objs.size] }
theorem x8m (a b:Addr) (as bs:Array Value):Meets (Builtin.«zip.__new__» ⟨[.type "zip",.ref a,.ref b],[]⟩) (λ _ R s=>s.heap.IsTuple a as/\s.heap.IsTuple b bs/\R (.ok (.ret (.ref (zt4 s.heap a b).objs.size))) { s with heap:=zt5 s.heap a b }) :=
 .of_wp λ prog w A R s h=>by
  obtain ⟨hp,g,d,tk,os⟩:=s;obtain ⟨ha,hb,h⟩:=h;have q0:=sub_zip;have q1:Heap.IsTuple (Shared.heap ⟨hp,g,d,tk,os⟩) a as:=ha;have q2:Heap.IsTuple (Shared.heap ⟨hp.push { cls:=.type "tuple_iterator",data:=.fields #[.ref a,.int 0 0] },g,d,tk,os⟩) b bs:=z4k hb λ o e=>t0f _ e;wp_walk using t2w q1,t2w q2;exact ⟨_,rfl,h⟩
theorem x2c {s0:Shared}{R:VS}(ha:s0.heap.IsTuple a as) (hb:s0.heap.IsTuple b bs)
  (f:∀h',IsZip h' (s0.heap.objs.size+4) (s0.heap.objs.size+2) (s0.heap.objs.size+3) .none->IsPair h' (s0.heap.objs.size+2) (.ref s0.heap.objs.size) (.ref (s0.heap.objs.size+1))->IsPair h' (s0.heap.objs.size+3) .none .none ->
   h'.IsTupleIter s0.heap.objs.size a 0->h'.IsTupleIter (s0.heap.objs.size+1) b 0->(∀c o,s0.heap.get? c=some o->h'.get? c=some o)->R (.ref (s0.heap.objs.size+4)) { s0 with heap:=h' }) :
  wpAny (model pg wd) B (call (.type "zip") [.ref a,.ref b]) R X0 s0:=by
 refine t9i F.called_zip (by decide) (F.typeCall_zip_2 _ _) (F.newCall_zip_2 _ _) (λ ob=>F.args_object_init_3 ob _ _) F.entry_zip_new (x8m a b as bs) ⟨ha,hb,?_⟩;have n1:(zt1 s0.heap a).objs.size=s0.heap.objs.size+1:=t2l ..;have n2:(zt2 s0.heap a b).objs.size=s0.heap.objs.size+2:=by rw [t2l,n1]
 have n3:(zt3 s0.heap a b).objs.size=s0.heap.objs.size+3:=by rw [t2l,n2]
 have n4:(zt4 s0.heap a b).objs.size=s0.heap.objs.size+4:=by rw [t2l,n3]
 have g5:(zt5 s0.heap a b).get? (zt4 s0.heap a b).objs.size=some _:=t0r _ rfl;have g4:(zt5 s0.heap a b).get? (zt3 s0.heap a b).objs.size=some _:=t0f _ (t0r _ rfl);have g3:(zt5 s0.heap a b).get? (zt2 s0.heap a b).objs.size=some _:=t0f _ (t0f _ (t0r _ rfl));have g2:(zt5 s0.heap a b).get? (zt1 s0.heap a).objs.size=some _:=t0f _ (t0f _ (t0f _ (t0r _ rfl)));have g1:(zt5 s0.heap a b).get? s0.heap.objs.size=some _:=t0f _ (t0f _ (t0f _ (t0f _ (t0r _ rfl))));show _/\_;rw [n2,n3,n4] at g5;rw [n1,n2] at g3;rw [n3] at g4;rw [n1] at g2;rw [n4];exact ⟨⟨_,g5,rfl⟩,f _ g5 g3 g4 ⟨_,g1,rfl,rfl⟩ ⟨_,g2,rfl,rfl⟩ λ c o q=>t0f _ (t0f _ (t0f _ (t0f _ (t0f _ q))))⟩
theorem w1s (n a b:Nat) (ha:a < n) (hb:b < n):Apart5 (n+4) (n+2) (n+3) n (n+1) a b:=by
 constructor<;>first | exact t1k (by lia) | exact t4w (by lia)
section
variable {X:Cx}{es:List Expr}{x1:Nat}{pp:Pos}
noncomputable def v1l (K:FG) (ta:TA):TI:=λ σ H R=>ta σ H λ vs H1=>∃a b xs ys,vs=[.ref a,.ref b]/\SqT K H1 a xs/\SqT K H1 b ys/\R (Itz K a b) H1
theorem y9w {e1 e2:Expr}{p pos:Pos}(hg:Gl X "zip") (hm:X.mg "zip"=none) (ha:PA X [e1,e2] ta) (hs:starEach [e1,e2] X.env=[(false,eval e1 X.env),(false,eval e2 X.env)]:=by rfl) (hs2:starEach [e2] X.env=[(false,eval e2 X.env)]:=by rfl) :
  PI X (.Tuple es x1 pp) (.Call (.Name "zip" p) [e1,e2] [] pos) (v1l X.K ta):=by
 intro pins s σ H R I h;have hA:=ha pos pins s σ H _ I h;refine Call_ (z5d I hg hm boot_zip (t1t (thn hA λ us s1 ⟨vs,H1,I1,r1,q1⟩=>?_) (by rw [hs,hs2]) (by rw [hs2];rfl)));obtain ⟨a,b,xs,ys,rfl,ha,hb,q⟩:=q1;obtain ⟨u,u',rfl,ra,rb⟩:=x0w r1;cases (show u=Value.ref a from ra);cases (show u'=Value.ref b from rb);obtain ⟨as,va,pa,za⟩:=I1.tuple ha;obtain ⟨bs,vb,pb,zb⟩:=I1.tuple hb;have al:a < s1.heap.objs.size:=by obtain ⟨o,g,_⟩:=pa;exact t0y g
 have bl:b < s1.heap.objs.size:=by obtain ⟨o,g,_⟩:=pb;exact t0y g
 refine x2c (show s1.heap.IsTuple a as.toArray from pa) (show s1.heap.IsTuple b bs.toArray from pb) λ h' w1 w2 w3 w4 w5 kk=>?_;have I2:Inv X pins σ H1 { s1 with heap:=h' }:=I1.kept (t':=s1.toks) kk;have ap:=w1s s1.heap.objs.size a b al bl;refine t7i w1 ⟨s1.heap.objs.size+4,[s1.heap.objs.size+4,s1.heap.objs.size+2,s1.heap.objs.size+3,s1.heap.objs.size,s1.heap.objs.size+1],_,_,H1,rfl,I2,x8r ap,⟨w1,w2,⟨_,_,w3⟩,w4,w5⟩,λ c hc=>?_,q⟩
 have ge:s1.heap.objs.size≤c:=by
  simp only [t1a,t1l,t3f] at hc
  rcases hc with rfl | rfl | rfl | rfl | rfl<;>lia
 exact I1.fpOk ge (I1.hok.fresh ge)
end
noncomputable def LoopZ (K:PySem.W.Frag) (g:TG) (tb:TS) (D:Ends) (σ:St) (vs:List V) (H1:Hp):Prop:=∃a b xs ys,vs=[.ref a,.ref b]/\SqT K H1 a xs/\SqT K H1 b ys/\∃W:Nat->Nat->St->Hp->Prop,(∃m,W 0 m σ H1)/\∀i m σ H,W i m σ H ->
 ((Itz K a b).stop i H/\D.nx σ H)\/((Itz K a b).go i H/\∃N:St->Hp->Prop,(∀σ' H',N σ' H'->∃m',m' < m/\W (i+1) m' σ' H')/\∀x H',(Itz K a b).yld i H x H'->g x σ H' λ σ2 H2=>tb { D with nx:=N,ct:=N,bk:=D.nx } σ2 H2)
theorem w5h {K:FG}:w2b (v1l K ta) g tb D σ H=ta σ H λ vs H1=>LoopZ K g tb D σ vs H1:=rfl
theorem LoopZ.mk {K:FG}{xs ys:List V}{g:TG}{tb:TS}{D:Ends}(n:Nat) (hn:n=min xs.length ys.length) (h1:SqT K H a xs) (h2:SqT K H b ys) (Pv:Nat->St->Hp->Prop) (h0:Pv 0 σ H) (hl:∀i σ H,i≤n->Pv i σ H->SqT K H a xs/\SqT K H b ys)
  (hs:∀i x y σ H T,i < n->xs[i]?=some x->ys[i]?=some y->Pv i σ H->H T=none->g (.ref T) σ (upd H T (.tup [x,y])) λ σ2 H2=>tb { D with nx:=Pv (i+1),ct:=Pv (i+1),bk:=D.nx } σ2 H2) (hd:∀σ H,Pv n σ H->D.nx σ H) :
  LoopZ K g tb D σ [.ref a,.ref b] H:=by
 subst hn;refine ⟨a,b,xs,ys,rfl,h1,h2,λ i m σ H=>m=min xs.length ys.length - i/\i≤min xs.length ys.length/\Pv i σ H,⟨_,rfl,t0x _,h0⟩,?_⟩;rintro i m σ H ⟨rfl,hi,p⟩;obtain ⟨k1,k2⟩:=hl i σ H hi p;by_cases hlt:i < min xs.length ys.length
 ·have l1:i < xs.length:=by lia
  have l2:i < ys.length:=by lia
  refine .inr ⟨⟨xs,ys,_,_,k1,k2,t0e l1,t0e l2⟩,Pv (i+1),λ σ' H' p'=>⟨min xs.length ys.length - (i+1),by lia,rfl,hlt,p'⟩,λ v H' yy=>?_⟩;obtain ⟨T,x,y,rfl,hT,rfl,ex⟩:=yy;obtain ⟨ex1,ex2⟩:=ex xs ys k1 k2;exact hs i x y σ H T hlt ex1 ex2 p hT
 ·have e:i=min xs.length ys.length:=by lia
  exact .inl ⟨⟨xs,ys,k1,k2,by lia⟩,hd σ H (e ▸ p)⟩
noncomputable def CompZ (K:PySem.W.Frag) (k:Nat) (js:List Nat) (g:TG) (te:TE) (σ:St) (vs:List V) (H1:Hp) (Q:VK):Prop:=∃a b xs ys,vs=[.ref a,.ref b]/\SqT K H1 a xs/\SqT K H1 b ys/\∃W:Nat->Nat->List V->St->Hp->Prop,(∃m,W 0 m [] (z1s k js σ) H1)/\∀i m zs σ' H',W i m zs σ' H' ->
  ((Itz K a b).stop i H'/\∀p,H' p=none->Q (.ref p) (upd H' p (.lst zs))) \/
  ((Itz K a b).go i H'/\zs.length < sizeLine/\∃N:List V->St->Hp->Prop,(∀zs σ2 H2,N zs σ2 H2->∃m',m' < m/\W (i+1) m' zs σ2 H2)/\∀x H2,(Itz K a b).yld i H' x H2->g x σ' H2 λ σ3 H3=>te σ3 H3 λ v H4=>N (zs++[v]) σ3 H4)
theorem w1j {K:FG}:z8m (v1l K ta) k js g te σ H Q=ta σ H λ vs H1=>CompZ K k js g te σ vs H1 Q:=rfl
theorem CompZ.mk {K:FG}{xs ys:List V}{g:TG}{te:TE}{Q:VK}(n:Nat) (hn:n=min xs.length ys.length) (h1:SqT K H a xs) (h2:SqT K H b ys) (Pv:Nat->List V->St->Hp->Prop) (h0:Pv 0 [] (z1s k js σ) H) (hl:∀i zs σ H,i≤n->Pv i zs σ H->SqT K H a xs/\SqT K H b ys)
  (hs:∀i x y zs σ H T,i < n->xs[i]?=some x->ys[i]?=some y->Pv i zs σ H->H T=none->zs.length < sizeLine/\g (.ref T) σ (upd H T (.tup [x,y])) λ σ3 H3=>te σ3 H3 λ v H4=>Pv (i+1) (zs++[v]) σ3 H4) (hz:∀zs σ H,Pv n zs σ H->∀p,H p=none->Q (.ref p) (upd H p (.lst zs))) (hlen:∀i zs σ H,Pv i zs σ H->zs.length < sizeLine) :
  CompZ K k js g te σ [.ref a,.ref b] H Q:=by
 subst hn;refine ⟨a,b,xs,ys,rfl,h1,h2,λ i m zs σ H=>m=min xs.length ys.length - i/\i≤min xs.length ys.length/\Pv i zs σ H,⟨_,rfl,t0x _,h0⟩,?_⟩;rintro i m zs σ H ⟨rfl,hi,p⟩;obtain ⟨k1,k2⟩:=hl i zs σ H hi p;by_cases hlt:i < min xs.length ys.length
 ·have l1:i < xs.length:=by lia
  have l2:i < ys.length:=by lia
  refine .inr ⟨⟨xs,ys,_,_,k1,k2,t0e l1,t0e l2⟩,hlen _ _ _ _ p,Pv (i+1),λ zs' σ' H' p'=>⟨min xs.length ys.length - (i+1),by lia,rfl,hlt,p'⟩,λ v H' yy=>?_⟩;obtain ⟨T,x,y,rfl,hT,rfl,ex⟩:=yy;obtain ⟨ex1,ex2⟩:=ex xs ys k1 k2;exact (hs i x y zs σ H T hlt ex1 ex2 p hT).2
 ·have e:i=min xs.length ys.length:=by lia
  exact .inl ⟨⟨xs,ys,k1,k2,by lia⟩,hz zs σ H (e ▸ p)⟩
section
variable {X:Cx}
theorem y6l (hc:X.calm=true):z4s X (.builtin "sum") (λ xs H Q=>∃(a:Addr) (ns:LI),xs=[.ref a]/\SqL X.K H a (ns.map V.int)/\Q (.int ns.sum) H):=by
 intro pins s σ H xs us Q I r h;obtain ⟨a,ns,rfl,hq,q⟩:=h;obtain ⟨u,rfl,ru⟩:=z6g r;cases (show u=Value.ref a from ru);obtain ⟨its,rv,pl,hz⟩:=I.list hq;have hi:=z6v rv;have hn:=hi.numsOf;obtain ⟨ps,e⟩:=hi.allInts.items;have hl:s.heap.IsList a (intItems ps):=e ▸ pl.isList;refine sum_intListG (I.ok.hd hc) hl λ h' tk t' kk=>?_
 have e2:preSum (numAt ps) ps.size=ns.sum:=by
  rw [preSum_eq,t1o (by simp),← nums_intItems,← e];exact t3p List.sum hn
 rw [e2];exact ⟨.int ns.sum,H,I.kept kk,⟨t',rfl⟩,q⟩
def Its (lo st:Int) (n:Nat):It:=⟨λ i _=>i < n,λ i H x H'=>H'=H/\x=.int (lo+i * st),λ i _=>n≤i⟩
end
noncomputable def LoopS (lo st:Int) (n:Nat) (g:TG) (tb:TS) (D:Ends) (σ:St) (H1:Hp):Prop:=∃W:Nat->Nat->St->Hp->Prop,(∃m,W 0 m σ H1)/\∀i m σ H,W i m σ H ->
 ((Its lo st n).stop i H/\D.nx σ H)\/((Its lo st n).go i H/\∃N:St->Hp->Prop,(∀σ' H',N σ' H'->∃m',m' < m/\W (i+1) m' σ' H')/\∀x H',(Its lo st n).yld i H x H'->g x σ H' λ σ2 H2=>tb { D with nx:=N,ct:=N,bk:=D.nx } σ2 H2)
theorem LoopS.mk {lo st:Int}{n:Nat}{g:TG}{tb:TS}{D:Ends}(Pv:Nat->St->Hp->Prop) (h0:Pv 0 σ H)
  (hs:∀i σ H,i < n->Pv i σ H->g (.int (lo+i * st)) σ H λ σ2 H2=>tb { D with nx:=Pv (i+1),ct:=Pv (i+1),bk:=D.nx } σ2 H2) (hd:∀σ H,Pv n σ H->D.nx σ H):LoopS lo st n g tb D σ H:=by
 refine ⟨λ i m σ H=>m=n - i/\i≤n/\Pv i σ H,⟨_,rfl,t0x _,h0⟩,?_⟩;rintro i m σ H ⟨rfl,hi,p⟩;by_cases hlt:i < n
 ·refine .inr ⟨hlt,Pv (i+1),λ σ' H' p'=>⟨n - (i+1),by lia,rfl,hlt,p'⟩,λ v H' yy=>?_⟩;obtain ⟨rfl,rfl⟩:=yy;exact hs i σ _ hlt p
 ·have e:i=n:=by lia
  exact .inl ⟨(show n≤i by lia),hd σ H (e ▸ p)⟩
noncomputable def v7m (lo st:Int) (n k:Nat) (js:List Nat) (g:TG) (te:TE) (σ:St) (H1:Hp) (Q:VK):Prop:=∃W:Nat->Nat->List V->St->Hp->Prop,(∃m,W 0 m [] (z1s k js σ) H1)/\∀i m ys σ' H',W i m ys σ' H' ->
  ((Its lo st n).stop i H'/\∀p,H' p=none->Q (.ref p) (upd H' p (.lst ys))) \/
  ((Its lo st n).go i H'/\ys.length < sizeLine/\∃N:List V->St->Hp->Prop,(∀zs σ2 H2,N zs σ2 H2->∃m',m' < m/\W (i+1) m' zs σ2 H2)/\∀x H2,(Its lo st n).yld i H' x H2->g x σ' H2 λ σ3 H3=>te σ3 H3 λ v H4=>N (ys++[v]) σ3 H4)
open AutoSeq1 (wpAny_loadPart')
section
variable {X:Cx}
end
section
variable {X:Cx}
noncomputable def w8i:R2:=λ x y H Q=>∃a b xs ys,x=.ref a/\y=.ref b/\H a=some (.tup xs)/\H b=some (.tup ys)/\xs.length+ys.length≤sizeLine/\∀r H',Same H H'->H' r=some (.tup (xs++ys))->Q (.ref r) H'
theorem z2h:OpR X (binaryOp .Add) w8i:=by
 intro pins s σ H x y v u Q I rx ry h;obtain ⟨a,b,xs,ys,rfl,rfl,ha,hb,hz,q⟩:=h;refine w4m pins s σ H _ _ v u Q I rx ry ⟨a,b,xs,ys,rfl,rfl,.of ha,.of hb,hz,λ e=>?_,λ _ e=>?_,λ _ _ p hp=>?_⟩
 ·subst e;exact q b H (Same.refl _) hb
 ·subst e;exact q a H (Same.refl _) (by rw [t0a];exact ha)
 ·exact q p _ (z0a hp _) z0d
noncomputable def w7w:V->Option Int->Option Int->Hp->VK->Prop:=λ x lo hi H Q=>∃a xs,x=.ref a/\H a=some (.tup xs)/\¬(HT.sIx xs.length 0 lo=0/\HT.sIx xs.length xs.length hi=xs.length)/\∀r H',Same H H'->H' r=some (.tup (y1p xs lo hi))->Q (.ref r) H'
theorem y1a:SlR X w7w:=by
 intro pins s σ H x v vl vu lo hi sl Q I rx hs pl pu h;obtain ⟨a,xs,e,ha,nw,q⟩:=h;exact w7n pins s σ H x v vl vu lo hi sl Q I rx hs pl pu ⟨a,xs,e,.of ha,nw,λ p hp=>q p _ (z0a hp _) z0d⟩
end
theorem z2y {names:List (Str × NameKind)}{cl:LA}(h:names.all (λ y=>match y.2 with | .cell=>(cl.lookup y.1).isSome | .free=>(cl.lookup y.1).isSome | _=>true)=true) :
  ∀x,(names.lookup x=some .cell\/names.lookup x=some .free)->∃c,cl.lookup x=some c:=by
 intro x hx;have z:=t5r.mp h
 rcases hx with hx | hx
 ·exact t2x.mp (z _ (t1f hx))
 ·exact t2x.mp (z _ (t1f hx))
theorem y6v (c0:Cap X scope cl x0 j0):∀(i:Nat) x j,[x0][i]?=some x->[j0][i]?=some j->Cap X scope cl x j
 | 0,_,_,h1,h2=>by cases h1;cases h2;exact c0
 | _+1,_,_,h1,_=>by cases h1
theorem v1o (c0:Cap X scope cl x0 j0) (c1:Cap X scope cl x1 j1):∀(i:Nat) x j,[x0,x1][i]?=some x->[j0,j1][i]?=some j->Cap X scope cl x j
 | 0,_,_,h1,h2=>by cases h1;cases h2;exact c0
 | 1,_,_,h1,h2=>by cases h1;cases h2;exact c1
 | _+2,_,_,h1,_=>by cases h1
section
variable {prog:Program}{w:World}{A:Around}{R:Result->Shared->Prop}{s:Shared}
theorem y8k {elt target iter cnd:Expr}{it acc:Value}(I:Nat->Shared->Prop)
  (turn:∀n s,I n s->wpAny (model prog w) A (pyNext it) (λ r s₁=>match r with
   | none=>R (.ok .next) s₁
   | some v=>wpAny (model prog w) A (letOwnedTupleGo target it v) (λ _ s₀=>wpAny (model prog w) A (assign target env v) (λ _ s₂=>wpAny (model prog w) A (isTrue cnd env (eval cnd env)) (λ b s₃ =>
     if b=true then wpAny (model prog w) A (eval elt env) (λ x s₄ =>
      wpAny (model prog w) A (call (.builtin "list.append") [acc,x]) (λ _ s₅=>∃m,m < n/\I m s₅) (λ _ _=>False) s₄) (λ _ _=>False) s₃
     else ∃m,m < n/\I m s₃)
     (λ _ _=>False) s₂) (λ _ _=>False) s₀) (λ _ _=>False) s₁) (λ _ _=>False) s)
  (n:Nat) (h:I n s) :
  codeAny (model prog w) A (.compLoop (.ListComp elt [⟨target,iter,[cnd],0⟩] scope pos) 0 it acc env) R s:=by
 refine codeAny_loop rfl I (λ n s hI=>?_) n h;show wpAny _ _ ((compTurn (.ListComp elt [⟨target,iter,[cnd],0⟩] scope pos) 0 it acc env).onRaise (λ x=>do noteFrame x env;theTreesLotGoes x)) _ _ s;refine wpAny_noted ?_;rw [compTurn_list];refine t0b (t5l (t0b (t2z (turn n s hI) (λ r s₁ h₁=>?_) λ _ _ h'=>h'.elim)))
 cases r with
 | none=>exact t0s h₁
 | some v =>
  refine t0b (t2z h₁ (λ _ s₀ h₀=>?_) λ _ _ h'=>h'.elim);refine t0b (t2z h₀ (λ _ s₂ h₂=>?_) λ _ _ h'=>h'.elim);refine t0b (t2z (wpAny_tests_one h₂) (λ ok s₃ h₃=>?_) λ _ _ h'=>h'.elim)
  cases ok with
  | false=>exact t0s ⟨rfl,h₃⟩
  | true=>exact t0b (t0b (t2z h₃ (λ x s₄ h₄=>t0b (t2z h₄ (λ _ s₅ h₅=>t0s (t0s ⟨rfl,h₅⟩)) λ _ _ z=>z.elim)) λ _ _ z=>z.elim))
end
def v4b (cnd:Expr):v1b:=λ p w A env k s=>wpAny (model p w) A (isTrue cnd env (eval cnd env)) k (λ _ _=>False) s
theorem v2q {cnd:Expr}:w6a [cnd] (v4b cnd):=⟨λ I t n h=>y8k I t n h,λ h m=>t2z h m λ _ _ z=>z⟩
theorem pmI {X:Cx}(hx:X.xe=λ _ _=>False) (h:PT X cnd tc):PM X (v4b cnd) tc:=λ pins s σ H K I k=>by
 have z:=h pins s σ H K I k;rw [hx] at z;exact z
theorem y3e {X:Cx}{elt tg iter cnd:Expr}{own fv:List Str}{js:List Nat}
  (hc:X.calm=true) (hi:PI X tg iter wi) (hclos:closureFor scope X.env=pure cl) (hcell:∀y∈scope.names,y.2≠.cell) (hkind:scope.kind=.function)
  (hnames:∀y∈scope.names,y.2=.local->scope.names.lookup y.1=some .local)
  (hcl:∀x c,cl.lookup x=some c->X.env.cells.lookup x=some c)
  (hhas:∀x,((relabel scope X.env).names.lookup x=some .cell\/(relabel scope X.env).names.lookup x=some .free)->∃c,cl.lookup x=some c)
  (hlen:js.length=fv.length) (hcap:∀(i:Nat) x j,fv[i]?=some x->js[i]?=some j->Cap X scope cl x j)
  (hg:∀(C:Addr) (ex:List Addr) (s:Shared) (H:Hp),PG (z2c X (own++fv) scope cl C ex s H) tg g)
  (he:∀(C:Addr) (ex:List Addr) (s:Shared) (H:Hp),PE (z2c X (own++fv) scope cl C ex s H) elt te)
  (ht:∀(C:Addr) (ex:List Addr) (s:Shared) (H:Hp),PT (z2c X (own++fv) scope cl C ex s H) cnd tc)
  (hs:∀x,foldedSetIterable iter X.env x=pure x)(I:Inv X pins σ H s) (h:z5k wi own.length js g tc te σ H Q)
  (fin:∀(a C:Addr) (s5:Shared) (H5:Hp) (fl:Flow),Inv X pins σ H5 s5->H5 C=none->C≠X.env.locals->X.s₀.heap.objs.size≤C->(∀x c,X.env.cells.lookup x=some c->c≠C)->(∀p∈X.pn++pins,p.1≠C)->(∃m,s5.heap.Ns C m)->Q (.ref a) H5->compPost (model X.prog X.w) X.A X.xe use QQ (.ref a) C (.ok fl) s5) :
  wpAny (model X.prog X.w) X.A (comprehension (.ListComp elt [⟨tg,iter,[cnd],0⟩] scope pos) scope X.env fpos (newList []) false (firstIter [⟨tg,iter,[cnd],0⟩] X.env) use) QQ X.xe s :=
 y3f hc hi hclos hcell hkind hnames hcl hhas hlen hcap hg he (λ C ex s H=>pmI rfl (ht C ex s H)) v2q hs I h fin
theorem x9s {X:Cx}{elt tg iter cnd:Expr}{own fv:List Str}{js:List Nat}
  (hc:X.calm=true) (hi:PI X tg iter wi) (hclos:closureFor scope X.env=pure cl) (hcell:∀y∈scope.names,y.2≠.cell) (hkind:scope.kind=.function)
  (hnames:∀y∈scope.names,y.2=.local->scope.names.lookup y.1=some .local)
  (hcl:∀x c,cl.lookup x=some c->X.env.cells.lookup x=some c)
  (hhas:∀x,((relabel scope X.env).names.lookup x=some .cell\/(relabel scope X.env).names.lookup x=some .free)->∃c,cl.lookup x=some c)
  (hlen:js.length=fv.length) (hcap:∀(i:Nat) x j,fv[i]?=some x->js[i]?=some j->Cap X scope cl x j)
  (hg:∀(C:Addr) (ex:List Addr) (s:Shared) (H:Hp),PG (z2c X (own++fv) scope cl C ex s H) tg g)
  (he:∀(C:Addr) (ex:List Addr) (s:Shared) (H:Hp),PE (z2c X (own++fv) scope cl C ex s H) elt te)
  (ht:∀(C:Addr) (ex:List Addr) (s:Shared) (H:Hp),PT (z2c X (own++fv) scope cl C ex s H) cnd tc)
  (hs:∀x,foldedSetIterable iter X.env x=pure x:=by intro _;rfl) :
  PE X (.ListComp elt [⟨tg,iter,[cnd],0⟩] scope pos) (z5k wi own.length js g tc te):=by
 intro pins s σ H Q I h;rw [eval_ListComp];refine y3e (use:=none) (QQ:=EP X pins σ Q) hc hi hclos hcell hkind hnames hcl hhas hlen hcap hg he ht hs I h λ a C s5 H5 fl I5 zC zL zS zc zp ⟨m,hn⟩ q=>⟨m,hn,λ h' sc=>?_⟩;exact ⟨.ref a,H5,I5.turned (t':=s5.toks) (it:=C) (λ d o nd e=>sc.extBut d o nd e) zC zL (.inr zS) zc zp,rfl,q⟩
theorem v3l {B:Around}(hh:B.handled=none) (j t:Addr) (ne:t≠j) (as:Array Value):Draws pg wd B j [j,t] as.size (λ i v=>as[i]?=some v) (λ i h=>h.IsTupleIter j t i/\h.IsTuple t as) where
 live:=λ _ _ q=>let ⟨o,g,_⟩:=q.1;⟨o,g⟩
 frame:=λ _ _ _ q k=>⟨z1c q.1 λ o g=>k j (by simp) o g,z4k q.2 λ o g=>k t (by simp) o g⟩
 item:=λ i s R X0 hi q f=>z3e q.1 q.2 (x:=as[i]) (by simp [hi]) λ m p sb=>f _ m s.toks (by simp [hi]) ⟨p,z4k q.2 λ o g=>sb.extBut _ _ ne g⟩ sb
 done:=λ s R X0 q f=>z5m hh q.1 q.2 (by simp) f
section
variable {pg:Program}{wd:World}{B:Around}{X0:VS}{s0:Shared}
theorem x7g {R:Option Value->Shared->Prop}(hh:B.handled=none) (hz:IsEnum s0.heap z j n u) (p:s0.heap.IsTupleIter j t i) (q:s0.heap.IsTuple t as) (ex:as[i]?=none)
  (f:∀m,Heap.ExtBut j s0.heap m->R none { s0 with heap:=m }):wpAny (model pg wd) B (pyNext (.ref z)) R X0 s0:=by
 have ty:s0.TypeIs (.ref z) "enumerate" := ⟨_,hz,rfl⟩;unfold pyNext;refine t0b (t4k (t1y (name:=Str.ofString "__next__") ty t9l (t2i t9l ty F.entry_enumerate_next ?_ (F.args_enumerate_next_1 _))));show wpAny _ _ (field (.ref z) 2 >>= _) _ _ _;refine t0b (t1r hz rfl (x:=.ref j) rfl ?_);refine t0b (z5m hh p q ex λ m w xb hw=>?_);obtain ⟨ow,gw,cw⟩:=hw;exact t0b (t4h (T := "StopIteration") (b:=true) ⟨ow,gw,cw⟩ t8i (t0s (f _ xb)))
theorem x7f (t:Addr) (as:Array Value) (n:Nat) (dc:OA) (sl:AV) :
  Meets (Builtin.«enumerate.__new__» ⟨[.type "enumerate",.ref t],[]⟩) (λ _ R s=>s.heap.get? t=some { cls:=.type "tuple",dict:=dc,data:=.seq as n,slots:=sl } /\
   R (.ok (.ret (.ref (s.heap.push { cls:=.type "tuple_iterator",data:=.fields #[.ref t,.int 0 0] }).objs.size))) { s with heap:=(s.heap.push { cls:=.type "tuple_iterator",data:=.fields #[.ref t,.int 0 0] }).push { cls:=.type "enumerate",data:=.fields #[.none,.bool false,.ref s.heap.objs.size,rawInt 0,.none,.none] } }) :=
 .of_wp λ pg wd A R s h=>by
  obtain ⟨hp,g,d,tk,os⟩:=s;obtain ⟨ht,h⟩:=h;have q0:=sub_enumerate;have q1:Heap.IsTuple (Shared.heap ⟨hp,g,d,tk,os⟩) t as:=⟨_,ht,rfl,n,rfl⟩;wp_walk using t4t ht;refine wpAny_stack_any λ stk=>t0s ?_;split
  ·rename_i c _ _ _ _ _;cases (c == Value.type "enumerate")<;>(wp_walk using t4t ht,t2w q1)<;>exact ⟨_,rfl,h⟩
  ·wp_walk using t4t ht,t2w q1;exact ⟨_,rfl,h⟩
theorem x1v {R:VS}(q:s0.heap.IsTuple t as)
  (f:∀m,IsEnum m (s0.heap.objs.size+1) s0.heap.objs.size 0 .none->m.IsTupleIter s0.heap.objs.size t 0->(∀c o,s0.heap.get? c=some o->m.get? c=some o)->R (.ref (s0.heap.objs.size+1)) { s0 with heap:=m }) :
  wpAny (model pg wd) B (call (.type "enumerate") [.ref t]) R X0 s0:=by
 obtain ⟨⟨c,dc,dt,sl⟩,ht,hc,n,hd⟩:=q;cases (show c=.type "tuple" from hc);cases (show dt=.seq as n from hd);refine t9i F.called_enumerate (by decide) (F.typeCall_enumerate_1 _) (F.newCall_enumerate_1 _) (λ ob=>t5m ob _) F.entry_enumerate_new (x7f t as n dc sl) ⟨ht,?_⟩;have n1:(s0.heap.push { cls:=.type "tuple_iterator",data:=.fields #[.ref t,.int 0 0] }).objs.size=s0.heap.objs.size+1:=t2l ..;show _/\_;have g2:=t0r (s0.heap.push { cls:=.type "tuple_iterator",data:=.fields #[.ref t,.int 0 0] }) (o:={ cls:=.type "enumerate",data:=.fields #[.none,.bool false,.ref s0.heap.objs.size,rawInt 0,.none,.none] }) rfl;rw [n1] at g2 ⊢;exact ⟨⟨_,g2,rfl⟩,f _ g2 ⟨_,t0f _ (t0r _ rfl),rfl,rfl⟩ λ c o z=>t0f _ (t0f _ z)⟩
end
noncomputable def Ite (K:FG) (a:Addr):It:=⟨λ i H=>∃xs x,SqT K H a xs/\xs[i]?=some x,
 λ i H v H'=>∃T x,v=.ref T/\H T=none/\H'=upd H T (.tup [.int i,x])/\∀xs,SqT K H a xs->xs[i]?=some x,λ i H=>∃xs,SqT K H a xs/\xs.length≤i⟩
theorem x2g {K:FG}{a z j:Addr}(zj:z≠j) :
  Turn P w K (.Tuple es x1 pp) (Ite K a) [z,j] z (λ i h=>(∃u,IsEnum h z j i u)/\h.IsTupleIter j a i) where
 mem:=by simp
 obj:=λ i h q c hc=>by
  obtain ⟨⟨u,q1⟩,⟨o4,g4,_,d4⟩⟩:=q;simp only [t1a,t1l,t3f] at hc
  rcases hc with rfl | rfl
  ·exact ⟨_,q1,λ v y=>nomatch y⟩
  ·exact ⟨_,g4,λ v y=>by rw [d4] at y;cases y⟩
 keep:=λ i h h' q k=>by
  obtain ⟨⟨u,q1⟩,q4⟩:=q;exact ⟨⟨u,k _ (by simp) _ q1⟩,z1c q4 λ o g=>k _ (by simp) o g⟩
 item:=by
  intro X hP hw hK hc i pins s σ H E I hf st hg;subst hP hw hK;obtain ⟨xs,x,hq,hx⟩:=hg;obtain ⟨⟨u,q1⟩,q4⟩:=st;obtain ⟨as,ra,pa,za⟩:=I.tuple hq;obtain ⟨ux,hux,rux⟩:=ra.get hx;have ta:s.heap.IsTuple a as.toArray:=pa;have az:a≠z:=by rintro rfl;obtain ⟨o,g,c,_⟩:=ta;rw [q1] at g;cases g;simp at c
  have aj:a≠j:=by rintro rfl;obtain ⟨o,g,c,_⟩:=ta;obtain ⟨o4,g4,c4,_⟩:=q4;rw [g4] at g;cases g;rw [c4] at c;simp at c
  have il:i < as.toArray.size:=by simpa using (t0g.mp hux).1
  refine wpAny_pyNext_enum_itemD (v3l (B:=X.A.in1) (I.ok.hd hc) j a aj as.toArray) q1 ⟨q4,ta⟩ il zj (by simp only [t1a,t1l,t3f,not_or];exact ⟨zj,az.symm⟩) λ y m tk hy zo st' np sz bt=>?_;have yu:y=ux:=by simp only [t7b] at hy;rw [hux] at hy;exact (t1i hy).symm
  subst yu
  have I1:Inv X pins σ H { s with heap:=m,toks:=tk+1 }:=I.turnedL (t':=tk+1) (fl:=[z,j]) (λ c o hc e=>by
   simp only [t1a,t1l,t3f,not_or] at hc
   exact bt c o hc.1 hc.2 e) hf
  obtain ⟨f0,f1,f2,f3,f4,f5⟩:=I.fpOk (t0n s.heap.objs.size) (I.hok.fresh (t0n _))
  have n0:X.s₀.heap.get? s.heap.objs.size=none:=by
   cases q:X.s₀.heap.get? s.heap.objs.size with
   | none=>rfl
   | some o=>exact absurd (t1d (t0y q) I.sz) (t2s _)
  have I2:Inv X pins σ (upd H s.heap.objs.size (.tup [.int i,x])) { s with heap:=m,toks:=tk+1 }:=I1.track f0 ⟨small (by simp),[.int i tk,y],.cons (show RelV (V.int i) (Value.int i tk) from ⟨_,rfl⟩) (.cons rux .nil),⟨_,np,rfl,_,rfl⟩⟩ f1 f4 f5 n0;have lt:∀ {c o},s.heap.get? c=some o->c≠s.heap.objs.size:=λ e=>t1k (t0y e);have zT:z≠s.heap.objs.size:=lt q1;obtain ⟨e0,e1,e2,e3,e4,e5⟩:=hf z (by simp);refine ⟨_,rfl,wpAny_letOwnedTupleGo_enum zo λ h2 z2 sb=>?_⟩;have I3:Inv X pins σ (upd H s.heap.objs.size (.tup [.int i,x])) { s with heap:=h2,toks:=tk+1 }:=Inv.turned (s:={ s with heap:=m,toks:=tk+1 }) (h':=h2) (t':=tk+1) (it:=z) I2 (λ c o hc e=>sb.extBut _ _ hc e) (by rw [z0u zT];exact e0) e1 e3 e4 e5;refine ⟨.ref s.heap.objs.size,_,I3,rfl,⟨_,x,rfl,f0,rfl,λ xs' k1=>?_⟩,⟨⟨_,by simpa using z2⟩,z1c st'.1 λ o g=>sb.extBut _ _ zj.symm g⟩,λ c hc=>?_⟩
  ·rw [I.tuple_inj k1 hq];exact hx
  ·have cT:c≠s.heap.objs.size:=by
    obtain ⟨o4,g4,_⟩:=q4;simp only [t1a,t1l,t3f] at hc
    rcases hc with rfl | rfl
    ·exact zT
    ·exact lt g4
   rw [z0u cT];exact (hf c hc).1
 done:=by
  intro X hP hw hK hc i pins s σ H E I hf st hg;subst hP hw hK;obtain ⟨xs,hq,hx⟩:=hg;obtain ⟨⟨u,q1⟩,q4⟩:=st;obtain ⟨as,ra,pa,za⟩:=I.tuple hq;have la:=ra.length;refine x7g (I.ok.hd hc) q1 q4 (show s.heap.IsTuple a as.toArray from pa) (by simp;lia) λ m bt=>⟨rfl,?_⟩
  exact I.turnedL (t':=s.toks) (fl:=[z,j]) (λ c o hc e=>by
   simp only [t1a,t1l,t3f,not_or] at hc
   exact bt c o hc.2 e) hf
 self:=λ _ _ _ _ _ st h=>let ⟨⟨_,q1⟩,_⟩:=st;wpAny_pyIter_enum q1 h
section
variable {X:Cx}{es:List Expr}{x1:Nat}{pp:Pos}
def w0s (K:FG) (te:TE):TI:=λ σ H R=>te σ H λ v H1=>∃a xs,v=.ref a/\SqT K H1 a xs/\R (Ite K a) H1
theorem w4e {p pos:Pos}(hg:Gl X "enumerate") (hm:X.mg "enumerate"=none) (he:PE X e te) (hs:starEach [e] X.env=[(false,eval e X.env)]:=by rfl) :
  PI X (.Tuple es x1 pp) (.Call (.Name "enumerate" p) [e] [] pos) (w0s X.K te):=by
 intro pins s σ H R I h;have hA:=(z0i he (z1j (X:=X)) hs) pos pins s σ H (λ vs H1=>match vs with | [x]=>∃a xs,x=.ref a/\SqT X.K H1 a xs/\R (Ite X.K a) H1 | _=>False) I h;refine Call_ (z5d I hg hm boot_enumerate (t1t (thn hA λ us s1 ⟨vs,H1,I1,r1,q1⟩=>?_) hs rfl))
 match vs,q1 with
 | [x],⟨a,xs,e,hq,q⟩ =>
  subst e;obtain ⟨u,rfl,ru⟩:=z6g r1;cases (show u=Value.ref a from ru);obtain ⟨as,va,pa,za⟩:=I1.tuple hq;refine x1v (show s1.heap.IsTuple a as.toArray from pa) λ m w1 w2 kk=>?_;have I2:Inv X pins σ H1 { s1 with heap:=m }:=I1.kept (t':=s1.toks) kk;refine wpAny_pyIter_enum w1 ⟨s1.heap.objs.size+1,[s1.heap.objs.size+1,s1.heap.objs.size],_,_,H1,rfl,I2,x2g (Nat.succ_ne_self _),⟨⟨_,w1⟩,w2⟩,λ c hc=>?_,q⟩
  have ge:s1.heap.objs.size≤c:=by
   simp only [t1a,t1l,t3f] at hc
   rcases hc with rfl | rfl<;>lia
  exact I1.fpOk ge (I1.hok.fresh ge)
end
noncomputable def CompE (K:PySem.W.Frag) (k:Nat) (js:List Nat) (g:TG) (te:TE) (σ:St) (v:V) (H1:Hp) (Q:VK):Prop:=∃a xs,v=.ref a/\SqT K H1 a xs/\∃W:Nat->Nat->List V->St->Hp->Prop,(∃m,W 0 m [] (z1s k js σ) H1)/\∀i m zs σ' H',W i m zs σ' H' ->
  ((Ite K a).stop i H'/\∀p,H' p=none->Q (.ref p) (upd H' p (.lst zs))) \/
  ((Ite K a).go i H'/\zs.length < sizeLine/\∃N:List V->St->Hp->Prop,(∀zs σ2 H2,N zs σ2 H2->∃m',m' < m/\W (i+1) m' zs σ2 H2)/\∀x H2,(Ite K a).yld i H' x H2->g x σ' H2 λ σ3 H3=>te σ3 H3 λ v H4=>N (zs++[v]) σ3 H4)
theorem w1n {K:FG}:z8m (w0s K tx) k js g te σ H Q=tx σ H λ v H1=>CompE K k js g te σ v H1 Q:=rfl
theorem CompE.mk {K:FG}{g:TG}{te:TE}{Q:VK}(h1:SqT K H a xs) (Pv:Nat->List V->St->Hp->Prop) (h0:Pv 0 [] (z1s k js σ) H) (hl:∀i zs σ H,i≤xs.length->Pv i zs σ H->SqT K H a xs/\zs.length < sizeLine)
  (hs:∀i x zs σ H T,xs[i]?=some x->Pv i zs σ H->H T=none->g (.ref T) σ (upd H T (.tup [.int i,x])) λ σ3 H3=>te σ3 H3 λ v H4=>Pv (i+1) (zs++[v]) σ3 H4) (hz:∀zs σ H,Pv xs.length zs σ H->∀p,H p=none->Q (.ref p) (upd H p (.lst zs))) :
  CompE K k js g te σ (.ref a) H Q:=by
 refine ⟨a,xs,rfl,h1,λ i m zs σ H=>m=xs.length - i/\i≤xs.length/\Pv i zs σ H,⟨_,rfl,t0x _,h0⟩,?_⟩;rintro i m zs σ H ⟨rfl,hi,p⟩;obtain ⟨k1,k2⟩:=hl i zs σ H hi p;by_cases hlt:i < xs.length
 ·refine .inr ⟨⟨xs,_,k1,t0e hlt⟩,k2,Pv (i+1),λ zs' σ' H' p'=>⟨xs.length - (i+1),by lia,rfl,hlt,p'⟩,λ v H' yy=>?_⟩;obtain ⟨T,x,rfl,hT,rfl,ex⟩:=yy;exact hs i x zs σ H T (ex xs k1) p hT
 ·have e:i=xs.length:=by lia
  exact .inl ⟨⟨xs,k1,by lia⟩,hz zs σ H (e ▸ p)⟩
noncomputable def v1d (K:PySem.W.Frag) (k:Nat) (js:List Nat) (g:TG) (tc:TT) (te:TE) (σ:St) (v:V) (H1:Hp) (Q:VK):Prop:=∃a xs,v=.ref a/\SqT K H1 a xs/\∃W:Nat->Nat->List V->St->Hp->Prop,(∃m,W 0 m [] (z1s k js σ) H1)/\∀i m zs σ' H',W i m zs σ' H' ->
  ((Ite K a).stop i H'/\∀p,H' p=none->Q (.ref p) (upd H' p (.lst zs))) \/
  ((Ite K a).go i H'/\zs.length < sizeLine/\∃N:List V->St->Hp->Prop,(∀zs σ2 H2,N zs σ2 H2->∃m',m' < m/\W (i+1) m' zs σ2 H2)/\∀x H2,(Ite K a).yld i H' x H2->g x σ' H2 λ σ3 H3=>tc σ3 H3 λ b H4=>if b=true then te σ3 H4 λ v H5=>N (zs++[v]) σ3 H5 else N zs σ3 H4)
theorem x7t {K:FG}:z5k (w0s K tx) k js g tc te σ H Q=tx σ H λ v H1=>v1d K k js g tc te σ v H1 Q:=rfl
end L2
namespace L2
open PySem PySem.Spec PyProof.Rows PySem.W PySem.Calls
noncomputable def x7x (K:FG):List (Addr × TS)->Value->(TS->Prop)->Prop
 | [],_,_=>False
 | (C,ts)::r,c,k=>(W.exmOne K c (.ref C)=some true/\k ts)\/(W.exmOne K c (.ref C)=some false/\x7x K r c k)
def x7v (K:FG) (cs:List (Addr × TS)) (D:Ends):St->XK:=λ σ1 c _ H1=>x7x K cs c λ ts=>ts D σ1 H1
def v1w (K:FG) (cs:List (Addr × TS)) (tb:(St->XK)->TS):TS:=λ D σ H=>tb (x7v K cs D) D σ H
inductive Clauses (X:Cx):List ExceptHandler->List (Addr × TS)->Prop
 | nil:Clauses X [] []
 | cons {x:Str}{C:Addr}{b₀:Stmt}{suite:List Stmt}{np hpos:Pos}{ts:TS}{r:List ExceptHandler}{tr:List (Addr × TS)}(hg:Gl X x) (hn:W.nsIn X.K mainGlobals x=some (some (.ref C)))
   (hs:∀(a:Addr) (pn:LO),PSs (X.suite a pn) (b₀::suite) ts) (hr:Clauses X r tr) (hd:(x == ("__debug__" : Str))=false):Clauses X (.ExceptHandler (some (.Name x np)) none (b₀::suite) hpos::r) ((C,ts)::tr)
def v4a (i j:Int):Prop:=0 < j/\j < 1606938044258990275541962092341162602522202993782792835301376
section
variable {X:Cx}
noncomputable def v2c (K:FG):R2:=λ x y H Q=>∃a b xs ys,x=.ref a/\y=.ref b/\SqT K H a xs/\SqT K H b ys/\xs.all z3f=true/\ys.all z3f=true/\Q (.bl (!y8h xs ys)) H
theorem y9z (hu:X.A.units < cLine):OpR X (compareOp .NotEq) (v2c X.K):=by
 intro pins s σ H x y v u Q I rx ry h;obtain ⟨a,b,xs,ys,rfl,rfl,ha,hb,f1,f2,q⟩:=h;cases rx;cases ry;obtain ⟨us,r1,p1,_⟩:=I.tuple ha;obtain ⟨ws,r2,p2,_⟩:=I.tuple hb;refine s0k (show s.heap.IsTuple a us.toArray from p1) (show s.heap.IsTuple b ws.toArray from p2) (e:=z8z xs ys) hu (y4n r1 r2 f1 f2) _ _ _ _ ?_;have e1:us.toArray.size=xs.length:=by simp [r1.length]
 have e2:ws.toArray.size=ys.length:=by simp [r2.length]
 rw [e1,e2]
 have z:((List.range (min xs.length ys.length)).all (z8z xs ys) && xs.length == ys.length)=y8h xs ys:=by
  by_cases hl:xs.length=ys.length
  ·rw [← hl,t4x,y0j hl];simp
  ·rw [y0i hl];simp [hl]
 rw [z];exact ⟨.bl _,H,I,rfl,q⟩
noncomputable def v4r (K:FG):R2:=λ x y H Q=>∃a b xs ys,x=.ref a/\y=.ref b/\SqL K H a xs/\SqL K H b ys/\xs.all z3f=true/\ys.all z3f=true/\Q (.bl (!y8h xs ys)) H
theorem w8v (hu:X.A.units < cLine):OpR X (compareOp .NotEq) (v4r X.K):=by
 intro pins s σ H x y v u Q I rx ry h;obtain ⟨a,b,xs,ys,rfl,rfl,ha,hb,f1,f2,q⟩:=h;cases rx;cases ry;obtain ⟨us,r1,p1,_⟩:=I.list ha;obtain ⟨ws,r2,p2,_⟩:=I.list hb;by_cases hl:xs.length=ys.length
 ·refine s1b p1.isList p2.isList (e:=z8z xs ys) (by simp [← r1.length,← r2.length,hl]) hu (y4n r1 r2 f1 f2) _ _ _ _ ?_;have e:us.toArray.size=xs.length:=by simp [r1.length]
  rw [e,y0j hl];exact ⟨.bl _,H,I,rfl,q⟩
 ·refine SeqAt.RcNeAt.lists_lengths p1.isList p2.isList (by simp [← r1.length,← r2.length,hl]) hu _ _ _ _ ?_;rw [y0i hl] at q;exact ⟨.bl _,H,I,rfl,q⟩
end
theorem z2b {cells:LA}(h:cells.lookup y=some a):∀x c,[(y,a)].lookup x=some c->cells.lookup x=some c:=λ x c e=>by
 cases t0v.mp (t1f e);exact h
theorem z2a {cells:LA}(h:cells.lookup y=some a) (h2:cells.lookup z=some b):∀x c,[(y,a),(z,b)].lookup x=some c->cells.lookup x=some c:=λ x c e=>by
 rcases t1a.mp (t1f e) with q | q
 ·cases q;exact h
 ·cases t0v.mp q;exact h2
end L2
namespace HT
open PySem PySem.Spec PyProof.Rows L2
theorem whole_tup {s:Shared}{lo hi:Option Int}{R:VS}(ht:IsTup s.heap t its) (hs:s.heap.IsSliceOf sl vl vu .none) (pl:IsPart vl lo) (pu:IsPart vu hi)
  (h0:sIx its.size 0 lo=0) (h1:sIx its.size its.size hi=its.size) (h:R (.ref t) s):wpAny (model prog w) A (getItem (.ref t) (.ref sl)) R E s:=by
 obtain ⟨os,hos,hcs,hds⟩:=id hs;have hTs:s.TypeIs (.ref sl) "slice" := ⟨os,hos,hcs⟩;unfold getItem;try with_reducible refine t3j ?_
 first | refine t0b (t0s ?_) | skip
 refine t0b (wpAny_sequenceKey ht.typeIs (by decide) ?_);refine t0b (t1y (name:=Str.ofString "__getitem__") ht.typeIs t3n (t2i t3n ht.typeIs s0g ?_ (s0u _ _)));show wpAny _ _ (Builtin.Tuple.tupleItemsOf (.ref t) >>= _) _ _ s;refine t0b (tupleItemsOf_ ht ?_);refine t0b (t5w hTs ?_);rw [if_pos (by decide)];refine t0b (z6e hs pl pu ?_);show wpAny _ _ (if (((sIx its.size 0 lo:Nat):Int) == 0 && (1:Int) == 1 && (sIx its.size its.size hi - sIx its.size 0 lo) == its.size)=true then _ else _) _ _ s;rw [if_pos (by rw [h0,h1];simp)];unfold Builtin.Tuple.tupleIsExact;exact t0b (t0b (t5w ht.typeIs (t0s (t0b (t5x (t0s ⟨_,rfl,t0s h⟩))))))
end HT
namespace L2
open PySem PySem.Spec PyProof.Rows
section
variable {X:Cx}
noncomputable def w7x:V->Option Int->Option Int->Hp->VK->Prop:=λ x lo hi H Q=>∃a xs,x=.ref a/\H a=some (.tup xs)/\∀r H',Same H H'->H' r=some (.tup (y1p xs lo hi))->Q (.ref r) H'
theorem z1y:SlR X w7x:=by
 intro pins s σ H x v vl vu lo hi sl Q I rx hs pl pu h;obtain ⟨a,xs,rfl,ha,q⟩:=h;by_cases c:HT.sIx xs.length 0 lo=0/\HT.sIx xs.length xs.length hi=xs.length
 ·cases rx;obtain ⟨its,r,ht,hz⟩:=I.tuple (show SqT X.K H a xs from .of ha);have hlen:its.toArray.size=xs.length:=by rw [t0z];exact r.length.symm
  refine ⟨"tuple",_,PyProof.Rows.slot_tuple_getitem.lookup,ht.typeIs,HT.whole_tup ht hs pl pu (by rw [hlen];exact c.1) (by rw [hlen];exact c.2) ⟨.ref a,H,I,rfl,q a H (Same.refl _) ?_⟩⟩;unfold y1p;rw [c.1,c.2,s0b,s1n,t1h];exact ha
 ·exact y1a pins s σ H _ v vl vu lo hi sl Q I rx hs pl pu ⟨a,xs,rfl,ha,c,q⟩
end
theorem x4q {X:Cx}{elt tg iter cnd:Expr}{scope:Scope}
  (hc:X.calm=true) (hi:PI X tg iter wi) (hcell:∀y∈scope.names,y.2≠.cell) (hfree:∀y∈scope.names,y.2≠.free) (hkind:scope.kind=.function)
  (hnames:∀y∈scope.names,y.2=.local->scope.names.lookup y.1=some .local)
  (hg:∀(C:Addr) (ex:List Addr) (s:Shared) (H:Hp),PG (z2c X own scope [] C ex s H) tg g)
  (he:∀(C:Addr) (ex:List Addr) (s:Shared) (H:Hp),PE (z2c X own scope [] C ex s H) elt te)
  (ht:∀(C:Addr) (ex:List Addr) (s:Shared) (H:Hp),PT (z2c X own scope [] C ex s H) cnd tc)
  (hs:∀x,foldedSetIterable iter X.env x=pure x:=by intro _;rfl) :
  PE X (.ListComp elt [⟨tg,iter,[cnd],0⟩] scope pos) (z5k wi own.length [] g tc te):=by
 refine x9s (own:=own) (fv:=[]) (js:=[]) (cl:=[]) hc hi (t9h hfree) hcell hkind hnames (λ x c h=>by cases h) (λ x h=>?_) rfl (λ i x j h=>by simp at h) (by simpa using hg) (by simpa using he) (by simpa using ht) hs;rw [z6m hfree] at h
 rcases h with h | h
 ·exact absurd rfl (hcell _ (t1f h))
 ·exact absurd rfl (hfree _ (t1f h))
theorem x3x:typeLookup (.type "reversed") "__len__"=pure none:=by rw [t3l,t2k];kernel_rfl
theorem x9j:typeLookup (.type "reversed") "__length_hint__"=pure (some (.builtin "reversed.__length_hint__")):=by rw [t3l,t2k];kernel_rfl
theorem w3j {B:Around}(hh:B.handled=none) (I t:Addr) (hne:t≠I) (its:Array Value) (hz:(its.size:Int) < 2 ^ 63) :
  Walks pg wd B I [I,t] [I] its.size (λ i v=>its[its.size - 1 - i]?=some v) (λ i h=>i≤its.size/\IsRv h I t ((its.size:Int) - 1 - (i:Int))/\IsTup h t its) where
 sub:=λ b hb=>by simp at hb;simp [hb]
 frame:=λ _ _ _ st k=>⟨st.1,let ⟨o,g,r⟩:=st.2.1;⟨o,k I (by simp) o g,r⟩,let ⟨o,g,r⟩:=st.2.2;⟨o,k t (by simp) o g,r⟩⟩
 item:=λ i s R X0 hi st f=>by
  obtain ⟨_,q1,q2⟩:=st;have e:(its.size:Int) - 1 - (i:Int)=((its.size - 1 - i:Nat):Int):=by lia
  rw [e] at q1;have hx:its[its.size - 1 - i]?=some (its[its.size - 1 - i]'(by lia)):=t4o (by lia);refine x4a q1 q2 hx hz λ m tk q sb=>f _ m tk hx ⟨hi,?_,?_⟩ λ b o nb g=>sb.extBut b o (by simpa using nb) g
  ·have e2:((its.size - 1 - i:Nat):Int) - 1=(its.size:Int) - 1 - ((i+1:Nat):Int):=by lia
   rw [e2] at q;exact q
  ·obtain ⟨o,g,r⟩:=q2;exact ⟨o,sb.extBut _ _ hne g,r⟩
 done:=λ s R X0 st f=>by
  obtain ⟨_,q1,q2⟩:=st;have e:(its.size:Int) - 1 - (its.size:Int)=-1:=by lia
  rw [e] at q1;exact w2u hh q1 λ m tk eb=>f m tk λ b o nb g=>eb b o (by simpa using nb) g
 self:=λ _ _ _ _ st h=>y7b st.2.1 h
theorem x9k (v:Value):bindSpecial (.builtin "reversed.__length_hint__") v=pure (.builtin "reversed.__length_hint__",[v]):=by
 unfold bindSpecial;rw [show typeOf (.builtin "reversed.__length_hint__")=pure (.type "method_descriptor") by show builtinType _=_;rw [builtinType_eq_fast];kernel_rfl];rfl
theorem x9h:Slot "reversed" "__length_hint__" "reversed.__length_hint__" := .of (owner := "reversed") (n := "__length_hint__") (by rw [t3l,t2k];kernel_rfl) (by decide +kernel) (by decide +kernel) (by decide +kernel) (.inr (by decide +kernel)) (by rw [t5c];kernel_rfl)
theorem x3y:entryFor table "reversed.__length_hint__"=some Builtin.«reversed.__length_hint__»:=entryFor_of_tree (by kernel_rfl)
theorem x9l (a:Value):argsOk "reversed.__length_hint__" ⟨[a],[]⟩:=by unfold argsOk;kernel_rfl
theorem x9i {R:VS}{z:Shared}{its:Array Value}(q1:IsRv z.heap J t ((its.size:Int) - 1)) (q2:IsTup z.heap t its) (hz:(its.size:Int) < 2 ^ 63)
  (f:∀u tk,z.toks≤tk->R (.int its.size u) { z with toks:=tk }):wpAny (model pg wd) B (call (.builtin "reversed.__length_hint__") [.ref J]) R X0 z:=by
 obtain ⟨o,ho,hc,hd⟩:=id q1;refine t2i x9h q1.typeIs x3y ?_ (x9l _);show wpAny _ _ (field (.ref J) 0 >>= _) _ _ z;refine t0b (t1r ho hd (x:=.ref t) rfl ?_);show wpAny _ _ (if (Value.ref t == Value.none)=true then _ else _) _ _ z;rw [if_neg (show ¬((Value.ref t == Value.none)=true) from t1e)];show wpAny _ _ (call (.builtin "len") [.ref t] >>= _) _ _ z;refine t0b (s0w q2 hz ?_);refine t0b (m:=asInt? _) (t0s ?_);show wpAny _ _ (field (.ref J) 1 >>= _) _ _ _;refine t0b (t1r ho hd (x:=rawInt ((its.size:Int) - 1)) rfl ?_);show wpAny _ _ (if (its.size:Int) < (its.size:Int) - 1+1 then _ else retInt ((its.size:Int) - 1+1)) _ _ _;rw [if_neg (by lia),show (its.size:Int) - 1+1=its.size by lia];exact t0b (wpAny_mkInt (t0s ⟨_,rfl,f _ _ (by show z.toks≤z.toks+1+1+1;lia)⟩))
section
variable {pg:Program}{wd:World}{B:Around}{X0:VS}{s0:Shared}{J:Addr}{fs ws:List Addr}{Gg:Array GenState->Array GenState->Prop}{m:Nat}{Pr:Nat->Value->Prop}{Sx:Nat->Shared->Prop}
theorem y8l {R:LV->Shared->Prop}(hint:∀(z:Shared) (R':VS) (E':VS),Sx 0 z->(∀u tk,z.toks≤tk->R' (.int m u) { z with toks:=tk })->wpAny (model pg wd) B.in1 (call (.builtin "reversed.__length_hint__") [.ref J]) R' E' z) (wk:WalksS pg wd B.in1 J fs ws Gg m Pr Sx) (ty:∀j z,Sx j z->z.TypeIs (.ref J) "reversed") (z0:Sx 0 s0) (lt:∀b∈fs,b < s0.heap.objs.size) (mJ:J∈fs) (sm:m≤sizeLine)
  (fin:∀z' ac,Moved ws Gg s0 z'->ItemsOf Pr ac m->R ac.toList z'):wpAny (model pg wd) B (collect (.ref J)) R X0 s0:=by
 have out:s0.heap.objs.size ∉ fs:=λ q=>absurd (lt _ q) (t2s _);have neJ:s0.heap.objs.size≠J:=by rintro rfl;exact out mJ
 let nu:Obj:={ cls:=.type "list",data:=.seq ([]:LV).toArray }
 unfold collect;refine t0b (wpAny_runValue (t3r t9j ?_));rw [t2v t9k _];show wpAny _ B.in1 (newList [] >>= λ q=>again (.builtin "list.__iadd__" ⟨[q,.ref J],[]⟩)) _ _ s0;refine t0b (t1w ?_);refine t0s ⟨t3q t6s _,t3r F.entry_list_iadd ?_⟩;rw [t2v t6s _];have z1:=wk.frame 0 s0 (s0.heap.push nu) s0.toks z0 (t0n _) λ b _ o e=>t0f _ e;have at1:(s0.heap.push nu).get? s0.heap.objs.size=some nu:=t0r _ rfl;have dif:Builtin.List.listSameRef (.ref s0.heap.objs.size) (.ref J)=false:=by simp [Builtin.List.listSameRef,neJ]
 show wpAny _ B.in1 (Builtin.List.listExtendWith (.ref s0.heap.objs.size) (.ref J) (.ref s0.heap.objs.size)) _ _ _;unfold Builtin.List.listExtendWith;refine t0b (t5w (ty 0 _ z1) ?_);rw [if_neg (by rw [dif];decide)];refine t0b (wk.self 0 _ _ _ z1 ?_);refine t0b (t3j ?_);unfold Builtin.List.listLengthHint;refine t0b (t4d (ty 0 _ z1) x3x ?_);show wpAny _ B.in1 (specialOf (Value.ref J) (Str.ofString "__length_hint__") >>= _) _ _ _;refine t0b (t4d (ty 0 _ z1) x9j ?_)
 (generalize hid:("reversed.__length_hint__" : String)=id0;wp_delta;rw [show splitId id0=some ("reversed","__length_hint__") from by subst hid;decide +kernel];subst hid)
 refine t0b (t4h (b:=true) (ty 0 _ z1) (by rw [t5c];kernel_rfl) ?_);rw [if_neg (by decide)];dsimp only;rw [if_neg (by decide +kernel)];refine t0b (t5x ?_);refine t0b (t4c (x9k _) ?_);dsimp only;refine t0b (t4k (hint _ _ _ z1 λ u tk htk=>?_));have z2:=wk.frame 0 _ _ tk z1 htk λ b _ o e=>e;have l63:=y4j;have fi:Builtin.List.listFitsIndex (m:Int)=true:=by simp [Builtin.List.listFitsIndex];lia
 have tl:Builtin.List.listTooLong (m:Int).toNat=false:=by simp [Builtin.List.listTooLong];lia
 generalize hk:(m:Int)=kk at fi tl ⊢;show wpAny _ B.in1 (asInt? (.int kk u) >>= _) _ _ _;refine t0b (m:=asInt? (.int kk u)) (t0s ?_);dsimp only;rw [if_neg (by rw [fi];decide)];try dsimp only
 rw [if_neg (by lia)];try dsimp only
 rw [if_neg (by rw [tl];decide)];refine t0s ?_;by_cases m0:m=0
 ·rw [if_neg (by subst m0;subst hk;decide +kernel)];refine t0s ⟨t3q t7w _,t7m wk sm _ out _ m 0 _ _ _ rfl (t0x _) z2 at1 (s1s Pr) λ z' ac cc mv at2 its=>?_⟩;show wpAny _ B (load s0.heap.objs.size >>= _) _ _ z';exact t0b (s1i at2 (t0s (fin z' ac (s0a (o:=nu) (tk:=tk) mv htk) its)))
 ·rw [if_pos (by simp;left;lia)];refine t0b (t5x ?_);refine t0b ?_;show wpAny _ B.in1 (updateSeq s0.heap.objs.size (·.push .none) >>= λ _=>updateSeq s0.heap.objs.size (·.pop)) _ _ _;refine t0b (t5j at1 rfl ?_);have a2:=t2q (Obj.mapSeq (·.push Value.none)) at1 rfl;refine t5j a2 rfl ?_;have a3:=t2q (Obj.mapSeq (·.pop)) a2 rfl
  have oth:∀b o,b≠s0.heap.objs.size->(s0.heap.push nu).get? b=some o->(((s0.heap.push nu).update s0.heap.objs.size (Obj.mapSeq (·.push Value.none))).update s0.heap.objs.size (Obj.mapSeq (·.pop))).get? b=some o :=
   λ b o hb e=>(t1v _ _ (t3z hb)).trans ((t1v _ _ (t3z hb)).trans e)
  refine t0s ⟨t3q t7w _,t7m wk sm _ out _ m 0 _ _ _ rfl (t0x _)
   (wk.frame 0 ({ s0 with heap:=s0.heap.push nu,toks:=tk }:Shared) _ tk z2 (t0n _) λ b hb o e=>oth b o (λ q=>out (q ▸ hb)) e) a3 (s1s Pr) λ z' ac cc mv at2 its=>?_⟩
  show wpAny _ B (load s0.heap.objs.size >>= _) _ _ z';refine t0b (s1i at2 ?_);refine t0s (fin z' ac (s0a (o:=nu) (tk:=tk) (Moved.trans wk.gtrans ((Moved.refl wk.grefl).then_heap (t0n _) λ b o hb e=>?_) mv) htk) its);exact oth b o (λ q=>hb (q ▸ t0t)) e
theorem y4h {R:VS}(hint:∀(z:Shared) (R':VS) (E':VS),Sx 0 z->(∀u tk,z.toks≤tk->R' (.int m u) { z with toks:=tk })->wpAny (model pg wd) B.in1.in1 (call (.builtin "reversed.__length_hint__") [.ref J]) R' E' z) (wk:WalksS pg wd B.in1.in1 J fs ws Gg m Pr Sx) (ty:∀j z,Sx j z->z.TypeIs (.ref J) "reversed") (z0:Sx 0 s0) (lt:∀b∈fs,b < s0.heap.objs.size) (mJ:J∈fs) (sm:m≤sizeLine)
  (fin:∀z' ac,Moved ws Gg s0 z'->ItemsOf Pr ac m->R (.ref z'.heap.objs.size) { z' with heap:=z'.heap.push { cls:=.type "tuple",data:=.seq ac } }) :
  codeAny (model pg wd) B (.call (.builtin "tuple.__new__") ⟨[.type "tuple",.ref J],[]⟩) (wants R X0) s0:=by
 refine codeAny_of_tree ?_;show wpAny _ B.in1 (do checkBuiltinCall "tuple.__new__" ⟨[.type "tuple",.ref J],[]⟩;again (.builtin "tuple.__new__" ⟨[.type "tuple",.ref J],[]⟩)) _ _ s0;refine t0b (t4c (F.newCall_tuple_1 _) (t0s ⟨t3q t6t _,t3r F.entry_tuple_new ?_⟩));rw [t2v t6t _];have q1:=sub_tuple_self;have q2:=init_tuple_lookup;have q3:=madeHere_tuple;have q4:=ty 0 s0 z0;wp_walk using t5w q4,y8l (sm:=sm) hint wk ty z0 lt mJ;intro z' ac mv its;show wpAny _ _ (Builtin.Tuple.tupleExact ac.toList.toArray >>= λ q=>ret q) _ _ _;have e:ac.toList.toArray=ac:=by simp
 rw [e];unfold Builtin.Tuple.tupleExact;exact t0b (t1w (t0s (fin z' ac mv its)) (by show ac.size≤sizeLine;rw [its.1];exact sm))
theorem y1w {R:VS}(hint:∀(z:Shared) (R':VS) (E':VS),Sx 0 z->(∀u tk,z.toks≤tk->R' (.int m u) { z with toks:=tk })->wpAny (model pg wd) B.in1.in1.in1 (call (.builtin "reversed.__length_hint__") [.ref J]) R' E' z) (wk:WalksS pg wd B.in1.in1.in1 J fs ws Gg m Pr Sx) (ty:∀j z,Sx j z->z.TypeIs (.ref J) "reversed") (z0:Sx 0 s0) (lt:∀b∈fs,b < s0.heap.objs.size) (mJ:J∈fs) (sm:m≤sizeLine)
  (fin:∀z' ac,Moved ws Gg s0 z'->ItemsOf Pr ac m->R (.ref z'.heap.objs.size) { z' with heap:=z'.heap.push { cls:=.type "tuple",data:=.seq ac } }) :
  wpAny (model pg wd) B (call (.type "tuple") [.ref J]) R X0 s0 :=
 callType_codes (Q₁:=λ ob z=>z.TypeIs ob "tuple" /\ R ob z) F.called_tuple (s0z _) s0j
  (y4h (sm:=sm) hint wk ty z0 lt mJ λ z' ac mv its=>⟨⟨_,t0r _ rfl,rfl⟩,fin z' ac mv its⟩)
  λ ob z q=>⟨q.1,t5m ob _,object_init_meets F.called_tuple.init.lookup F.called_tuple.made (by decide) pg wd B.in1 _ z ⟨q.1,rfl,q.2⟩⟩
end
section
variable {X:Cx}
noncomputable def y8t (K:FG) (te:TE):TE:=λ σ H Q=>te σ H λ x H1=>∃a xs,x=.ref a/\SqT K H1 a xs/\∀p,H1 p=none->Q (.ref p) (upd H1 p (.tup xs.reverse))
theorem x1g {p1 p2 pos pos':Pos}(hc:X.calm=true) (ht:Gl X "tuple") (hr:Gl X "reversed") (mt:X.mg "tuple"=none) (mr:X.mg "reversed"=none) (he:PE X e te) (hs:starEach [e] X.env=[(false,eval e X.env)]:=by rfl) :
  PE X (.Call (.Name "tuple" p1) [.Call (.Name "reversed" p2) [e] [] pos'] [] pos) (y8t X.K te):=by
 intro pins s σ H Q I h;refine Call_ (z5d I ht mt t2g (t1t ?_ rfl rfl));refine t8f ?_;have hA:=(z0i he (z1j (X:=X)) hs) pos' pins s σ H (λ vs H1=>match vs with | [x]=>∃a xs,x=.ref a/\SqT X.K H1 a xs/\∀p,H1 p=none->Q (.ref p) (upd H1 p (.tup xs.reverse)) | _=>False) I h;refine Call_ (z5d I hr mr s0y (t1t (thn hA λ us s1 ⟨vs,H1,I1,r1,q1⟩=>?_) hs rfl))
 match vs,q1 with
 | [x],⟨a,xs,e,hq,q⟩ =>
  subst e;obtain ⟨u,rfl,ru⟩:=z6g r1;cases (show u=Value.ref a from ru);obtain ⟨its,rv,pl,hz⟩:=I1.tuple hq;have hl:=rv.length;have z63:=y4j;refine x7z pl (by simp;lia) λ tk=>?_;refine t8l ?_;have I2:Inv X pins σ H1 { s1 with heap:=s1.heap.push (y5r a ((its.toArray.size:Int) - 1)),toks:=tk }:=I1.kept (t':=tk) λ b o e=>t0f _ e;have al:a < s1.heap.objs.size:=by obtain ⟨o,ho,_⟩:=pl;exact t0y ho
  have hne:a≠s1.heap.objs.size:=t1k al
  have ir:IsRv (s1.heap.push (y5r a ((its.toArray.size:Int) - 1))) s1.heap.objs.size a ((its.toArray.size:Int) - 1 - ((0:Nat):Int)):=by
   refine ⟨_,t0r _ rfl,rfl,?_⟩;have e:(its.toArray.size:Int) - 1 - ((0:Nat):Int)=(its.toArray.size:Int) - 1:=by lia
   rw [e];rfl
  have sz:(s1.heap.push (y5r a ((its.toArray.size:Int) - 1))).objs.size=s1.heap.objs.size+1:=by simp [Heap.push]
  have ff:=I1.fpOk (t0n s1.heap.objs.size) (I1.hok.fresh (t0n _))
  refine y1w (m:=its.toArray.size) (Sx:=_) (λ z R' E' q f=>x9i (its:=its.toArray) (by have:=q.2.1;rw [show (its.toArray.size:Int) - 1 - ((0:Nat):Int)=(its.toArray.size:Int) - 1 by lia] at this;exact this) q.2.2 (by simp;lia) f) (w3j (B:=X.A.in1.in1.in1) (I.ok.hd hc) s1.heap.objs.size a hne its.toArray (by simp;lia)).toS (λ j z q=>let ⟨o,ho,hk,_⟩:=q.2.1;⟨o,ho,hk⟩)
   ⟨t0x _,ir,let ⟨o,g,r⟩:=pl;⟨o,t0f _ g,r⟩⟩ (λ b hb=>?_) (t0t ..) (by simp only [t0z];lia) λ z' ac mv io=>?_
  ·show b < (s1.heap.push (y5r a ((its.toArray.size:Int) - 1))).objs.size;rw [sz];simp only [t1a,t1l,t3f] at hb
   rcases hb with rfl | rfl
   ·exact t3v _
   ·exact t2b al
  have I3:Inv X pins σ H1 z':=by
   obtain ⟨zh,zg,zd,zt,zo⟩:=z';have e1:zg=s1.gens:=mv.gens;have e2:zd=s1.drawn:=mv.drawn;have e3:zo=s1.os:=mv.os;subst e1 e2 e3;obtain ⟨f0,f1,f2,f3,f4,f5⟩:=ff;exact I1.turned (t':=zt) (λ b o hb e=>mv.heap b o (by simpa using hb) (t0f _ e)) f0 f1 f3 f4 f5
  have er:ac=its.reverse.toArray:=by
   have sz2:ac.size=its.length:=by simpa using io.1
   apply Array.ext
   ·simp [sz2]
   ·intro j h1 h2;have q:=io.2 j _ (t4o h1);simp only [t0z,t7b] at q;have q2:its.reverse[j]?=some ac[j]:=by rw [t4m (by lia)];exact q
    rw [t9w];exact (t1i ((t0e (by simpa using h2)).symm.trans q2)).symm
  subst er
  have I4:Inv X pins σ (upd H1 z'.heap.objs.size (.tup xs.reverse)) { z' with heap:=z'.heap.push { cls:=.type "tuple",data:=.seq its.reverse.toArray } } :=
   I3.laid (t':=z'.toks) (λ b o e=>t0f _ e) (t0n _) (show ObjOk X.prog X.w _ _ _ (.tup xs.reverse) from ⟨by simpa using hz,its.reverse,rv.reverse,t9f _ _⟩)
  exact ⟨.ref z'.heap.objs.size,_,I4,rfl,q _ (I3.hok.fresh (t0n _))⟩
end
section
variable {X:Cx}
noncomputable def v5t (to:TE):TE:=λ σ H Q=>to σ H λ x H1=>∃l xs y,x=.ref l/\H1 l=some (.lst xs)/\xs[xs.length - 1]?=some y/\Q y (upd H1 l (.lst xs.dropLast))
end
def okS (k:Nat) (x:Str):Prop:=x.length≤k/\∀c∈x.cps.toList,c < 1000
section
variable {X:Cx}
end
noncomputable def v3x (K:FG) (a:Addr):It:=⟨λ i H=>∃xs x,SqL K H a xs/\xs[i]?=some x,
 λ i H v H'=>∃T x,v=.ref T/\H T=none/\H'=upd H T (.tup [.int i,x])/\∀xs,SqL K H a xs->xs[i]?=some x,λ i H=>∃xs,SqL K H a xs/\xs.length≤i⟩
section
variable {X:Cx}{es:List Expr}{x1:Nat}{pp:Pos}
end
noncomputable def v5n (K:PySem.W.Frag) (g:TG) (tb:TS) (D:Ends) (σ:St) (v:V) (H1:Hp):Prop:=∃a xs,v=.ref a/\SqL K H1 a xs/\∃W:Nat->Nat->St->Hp->Prop,(∃m,W 0 m σ H1)/\∀i m σ H,W i m σ H ->
 ((v3x K a).stop i H/\D.nx σ H)\/((v3x K a).go i H/\∃N:St->Hp->Prop,(∀σ' H',N σ' H'->∃m',m' < m/\W (i+1) m' σ' H')/\∀x H',(v3x K a).yld i H x H'->g x σ H' λ σ2 H2=>tb { D with nx:=N,ct:=N,bk:=D.nx } σ2 H2)
theorem w8s {x j pos}(hr:PA X es t):PA X (.Constant (.str x) j pos::es) (y7a (tC (.str x)) t):=z0i z0p hr rfl
def w7f (l:List (Str × Pos)):List Expr:=l.map λ p=>.Constant (.str p.1) 0 p.2
def w6x (l:List Str):TA:=λ _ H Q=>Q (l.map V.str) H
theorem x4t:∀l:List (Str × Pos),PA X (w7f l) (w6x (l.map (·.1)))
 | []=>z1j
 | _::l=>w8s (x4t l)
instance (k:Nat) (x:Str):Decidable (okS k x):=by unfold okS;infer_instance
def Itx (x:Str):It:=⟨λ i _=>i < x.cps.size,λ i H v H'=>H'=H/\∃c,x.cps[i]?=some c/\v=.str ⟨#[c]⟩,λ i _=>x.cps.size≤i⟩
section
variable {X:Cx}{tg:Expr}
end
noncomputable def v7i (g:TG) (tb:TS) (D:Ends) (σ:St) (v:V) (H1:Hp):Prop:=∃z,v=.str z/\∃W:Nat->Nat->St->Hp->Prop,(∃m,W 0 m σ H1)/\∀i m σ H,W i m σ H ->
 ((Itx z).stop i H/\D.nx σ H)\/((Itx z).go i H/\∃N:St->Hp->Prop,(∀σ' H',N σ' H'->∃m',m' < m/\W (i+1) m' σ' H')/\∀x H',(Itx z).yld i H x H'->g x σ H' λ σ2 H2=>tb { D with nx:=N,ct:=N,bk:=D.nx } σ2 H2)
noncomputable def v7l (k:Nat) (js:List Nat) (g:TG) (te:TE) (σ:St) (v:V) (H1:Hp) (Q:VK):Prop:=∃z,v=.str z/\∃W:Nat->Nat->List V->St->Hp->Prop,(∃m,W 0 m [] (z1s k js σ) H1)/\∀i m ys σ' H',W i m ys σ' H' ->
  ((Itx z).stop i H'/\∀p,H' p=none->Q (.ref p) (upd H' p (.lst ys))) \/
  ((Itx z).go i H'/\ys.length < sizeLine/\∃N:List V->St->Hp->Prop,(∀zs σ2 H2,N zs σ2 H2->∃m',m' < m/\W (i+1) m' zs σ2 H2)/\∀x H2,(Itx z).yld i H' x H2->g x σ' H2 λ σ3 H3=>te σ3 H3 λ v H4=>N (ys++[v]) σ3 H4)
section
variable {X:Cx}
end
section
variable {X:Cx}
end
section
variable {pg:Program}{wd:World}{B:Around}{X0:VS}{s0:Shared}
end
noncomputable def w6l (K:FG) (a b:Addr):It:=⟨λ i H=>∃xs ys x y,SqL K H a xs/\SqL K H b ys/\xs[i]?=some x/\ys[i]?=some y,
 λ i H v H'=>∃T x y,v=.ref T/\H T=none/\H'=upd H T (.tup [x,y])/\∀xs ys,SqL K H a xs->SqL K H b ys->xs[i]?=some x/\ys[i]?=some y,λ i H=>∃xs ys,SqL K H a xs/\SqL K H b ys/\(xs.length≤i\/ys.length≤i)⟩
section
variable {X:Cx}{es:List Expr}{x1:Nat}{pp:Pos}
end
noncomputable def v5l (K:PySem.W.Frag) (g:TG) (tb:TS) (D:Ends) (σ:St) (vs:List V) (H1:Hp):Prop:=∃a b xs ys,vs=[.ref a,.ref b]/\SqL K H1 a xs/\SqL K H1 b ys/\∃W:Nat->Nat->St->Hp->Prop,(∃m,W 0 m σ H1)/\∀i m σ H,W i m σ H ->
 ((w6l K a b).stop i H/\D.nx σ H)\/((w6l K a b).go i H/\∃N:St->Hp->Prop,(∀σ' H',N σ' H'->∃m',m' < m/\W (i+1) m' σ' H')/\∀x H',(w6l K a b).yld i H x H'->g x σ H' λ σ2 H2=>tb { D with nx:=N,ct:=N,bk:=D.nx } σ2 H2)
noncomputable def v5q (K:PySem.W.Frag) (k:Nat) (js:List Nat) (g:TG) (te:TE) (σ:St) (vs:List V) (H1:Hp) (Q:VK):Prop:=∃a b xs ys,vs=[.ref a,.ref b]/\SqL K H1 a xs/\SqL K H1 b ys/\∃W:Nat->Nat->List V->St->Hp->Prop,(∃m,W 0 m [] (z1s k js σ) H1)/\∀i m zs σ' H',W i m zs σ' H' ->
  ((w6l K a b).stop i H'/\∀p,H' p=none->Q (.ref p) (upd H' p (.lst zs))) \/
  ((w6l K a b).go i H'/\zs.length < sizeLine/\∃N:List V->St->Hp->Prop,(∀zs σ2 H2,N zs σ2 H2->∃m',m' < m/\W (i+1) m' zs σ2 H2)/\∀x H2,(w6l K a b).yld i H' x H2->g x σ' H2 λ σ3 H3=>te σ3 H3 λ v H4=>N (zs++[v]) σ3 H4)
end L2
namespace L2
open PySem PySem.Spec PyProof.Rows PySem.W PySem.Calls
def v3z (i j:Int):Prop:=IntMulOk i j
section
variable {prog:Program}{w:World}{A:Around}{E:VS}{s:Shared}
theorem y2l {l:Addr}{T:String}{vs:LV}{Q:VS}(hT:T="list" \/ T="tuple") (ho:s.heap.get? l=some o) (hc:o.cls=.type T) (hd:o.data=.seq vs.toArray n) (hI:IntsAre vs ns) (h64:vs.length < 64)
  (h:∀(h1 h2:Heap) (vs':LV) (ns':LI) (e:Nat),(∀b u,s.heap.get? b=some u->h1.get? b=some u)->(∀b u,h1.get? b=some u->h2.get? b=some u)->h2.get? h1.objs.size=some (seqObj "list" vs'.toArray e)->IntsAre vs' ns'->ns'.Perm ns->ns'.Pairwise (·≤·)->Q (.ref h1.objs.size) { s with heap:=h2 }) :
  wpAny (model prog w) A (call (.builtin "sorted") [.ref l]) Q E s:=by
 refine Calls.call_function_entry kind_sorted plain_sorted entry_sorted (args_sorted1 _) ?_;unfold Builtin.«sorted»;refine t0b (m:=checkCount "sorted" 1 1 _) (t0s ?_);refine t0b (wpAny_collect_seq l hT ho hc hd (λ h1 k1=>?_) (by simp only [t0z];exact t3h (z0n (by lia))));rw [show vs.toArray.toList=vs by simp];refine t0b (wpAny_newList ?_);have hoL:(h1.push (seqObj "list" vs.toArray 0)).get? h1.objs.size=some (seqObj "list" vs.toArray 0):=t0r _ rfl;refine t0b (t3j (t2i slot_list_sort ⟨_,hoL,rfl⟩ entry_list_sort (list_sort_tree hoL hI h64 λ out ns' a1 a2 a3=>⟨_,rfl,?_⟩) (args_list_sort _)));refine t0s ⟨_,rfl,?_⟩;obtain ⟨e,he⟩:=sortedHeap_at (vs:=vs) (out:=out) hoL;refine h h1 _ out.toList ns' e k1 (λ b u q=>?_) (by rw [t9x];exact he) a1 a2 a3;have hlt:=t0y q;rw [sortedHeap_old (t1k hlt) (by rw [size_push'];exact t2b hlt)];exact t0f _ q
end
theorem y0m:∀ {xs:List V}{us:LV},xs.length=us.length->(∀(i:Nat) u,us[i]?=some u->∃x,xs[i]?=some x/\RelV x u)->Vals xs us
 | [],[],_,_=>.nil
 | [],_::_,h,_=>by simp at h
 | _::_,[],h,_=>by simp at h
 | x::xs,u::us,h,f=>by
  obtain ⟨y,e,r⟩:=f 0 u rfl;cases (t1i e);exact .cons r (y0m (by simpa using h) λ i v e=>f (i+1) v e)
section
variable {X:Cx}
theorem y6m:z4s X (.builtin "sorted") (λ xs H Q=>∃p ns,xs=[.ref p]/\(SqL X.K H p (List.map V.int ns)\/SqT X.K H p (List.map V.int ns))/\ns.length < 64/\∀ns':LI,ns'.Perm ns->ns'.Pairwise (·≤·)->∀l,H l=none->Q (.ref l) (upd H l (.lst (ns'.map V.int)))):=by
 intro pins s σ H xs us Q I r h;obtain ⟨p,ns,rfl,hq,h64,q⟩:=h;obtain ⟨u,rfl,rx⟩:=z6g r;cases rx
 have fin:∀(h1 h2:Heap) (vs':LV) (ns':LI) (e:Nat),(∀b u,s.heap.get? b=some u->h1.get? b=some u)->(∀b u,h1.get? b=some u->h2.get? b=some u)->h2.get? h1.objs.size=some (seqObj "list" vs'.toArray e)->IntsAre vs' ns'->ns'.Perm ns->ns'.Pairwise (·≤·)->EP X pins σ Q (.ref h1.objs.size) { s with heap:=h2 }:=by
  intro h1 h2 vs' ns' e k1 k2 g a1 a2 a3;have I1:Inv X pins σ H { s with heap:=h1 }:=I.kept (t':=s.toks) k1;have hz:(ns'.map V.int).length≤sizeLine:=by rw [t0c,a2.length_eq];exact t3h (z0n (by lia))
  have I2:Inv X pins σ (upd H h1.objs.size (.lst (ns'.map V.int))) { s with heap:=h2 }:=I1.laid (t':=s.toks) k2 (t0n _) (show ObjOk X.prog X.w _ _ _ (.lst (ns'.map V.int)) from ⟨hz,vs',e,y0n a1,g⟩);exact ⟨.ref h1.objs.size,_,I2,rfl,q ns' a2 a3 _ (I1.hok.fresh (t0n _))⟩
 rcases hq with hq | hq
 ·obtain ⟨its,r',pl,hz⟩:=I.list hq;have hi:=z6v r';obtain ⟨o,ho,hc,n,hd⟩:=pl.isList;exact y2l (.inl rfl) ho hc hd hi (by rw [hi.length];exact h64) fin
 ·obtain ⟨its,r',pl,hz⟩:=I.tuple hq;have hi:=z6v r';obtain ⟨o,ho,hc,n,hd⟩:=pl;exact y2l (.inr rfl) ho hc hd hi (by rw [hi.length];exact h64) fin
theorem z7m:z4s X (.type "range") (λ xs H Q=>∃j:Int,xs=[.int j]/\∀r,H r=none->Q (.ref r) (upd H r (.rng 0 j))):=by
 intro pins s σ H xs us Q I r h;obtain ⟨j,rfl,q⟩:=h;obtain ⟨u,rfl,t,rfl⟩:=z6g r;refine call_range_1 ⟨.ref s.heap.objs.size,_,I.laid (λ b o e=>t0f _ e) (t0n _) ?_,rfl,q _ (I.hok.fresh (t0n _))⟩;exact ⟨_,_,_,t0r _ rfl⟩
def upL (n:Nat):LI:=(List.range n).map λ (i:Nat)=>(i:Int)
theorem z6s (hc:X.calm=true):z4s X (.type "list") (λ xs H Q=>∃p n,xs=[.ref p]/\H p=some (.rng 0 (Int.ofNat n))/\n≤1000/\∀l,H l=none->Q (.ref l) (upd H l (.lst ((upL n).map V.int)))):=by
 intro pins s σ H xs us Q I r h;obtain ⟨p,n,rfl,hp,hn,q⟩:=h;obtain ⟨u,rfl,rx⟩:=z6g r;cases rx;obtain ⟨t,u,v,e⟩:=I.hok p _ hp
 have hs:Builtin.Range.small 0 (Int.ofNat n) 1=true:=by
  have z:∀m:Fin 1001,Builtin.Range.small 0 (Int.ofNat m.val) 1=true:=by decide +kernel
  exact z ⟨n,by lia⟩
 have hsz:Builtin.Range.rangeSize 0 (Int.ofNat n) 1=n:=by
  unfold Builtin.Range.rangeSize;rw [if_pos (by decide)];split
  ·show (Int.ofNat n - 0 - 1) / 1+1=_;simp; 
  ·simp at *;lia
 refine call_list_range (I.ok.hd hc) e hs hsz (by lia) λ h' tk acc' c' k g it=>?_
 have rv:Vals ((upL n).map V.int) acc'.toList:=by
  refine y0m (by simp [upL,it.1]) λ i v e=>?_;rw [t9g] at e;obtain ⟨tt,rfl⟩:=it.2 i v e;have hi:i < n:=by rw [← it.1];exact (t8d.mp e).1
  exact ⟨.int i,by simp [upL,hi],tt,by simp⟩
 exact ⟨.ref s.heap.objs.size,_,I.laid k (t0n _) (show ObjOk X.prog X.w _ _ _ (.lst _) from ⟨by simp [upL];exact t3h (z0n hn),acc'.toList,c',rv,by rw [t9x];exact g⟩),rfl,q _ (I.hok.fresh (t0n _))⟩
theorem y1y:z4s X (.type "tuple") (λ xs H Q=>∃p ys,xs=[.ref p]/\SqL X.K H p ys/\∀l o,H l=none->o.dict=none->Q (.ref l) (upd H l (.frz o (.tup ys)))):=by
 intro pins s σ H xs us Q I r h;obtain ⟨p,ys,rfl,hq,q⟩:=h;obtain ⟨u,rfl,rx⟩:=z6g r;cases rx;obtain ⟨its,r',pl,hz⟩:=I.list hq;have hlen:=r'.length;refine call_tuple_list pl.isList (λ h' kp=>?_) (by simp only [t0z]<;>lia);have I1:Inv X pins σ H { s with heap:=h' }:=I.kept (t':=s.toks) kp
 have I2:Inv X pins σ (upd H h'.objs.size (.frz { cls:=.type "tuple",data:=.seq its.toArray } (.tup ys))) { s with heap:=h'.push { cls:=.type "tuple",data:=.seq its.toArray } } :=
  I1.laid (t':=s.toks) (λ b o e=>t0f _ e) (t0n _) (show ObjOk X.prog X.w _ _ _ (.frz _ (.tup ys)) from ⟨t0r _ rfl,hz,its,r',t9f _ _⟩)
 exact ⟨.ref h'.objs.size,_,I2,rfl,q _ _ (I1.hok.fresh (t0n _)) rfl⟩
noncomputable def v4k (r:V->List V->Hp->VK->Prop) (to:TE) (t:TA):TE:=λ σ H Q=>to σ H λ x H1=>(∃a o xs,x=.ref a/\H1 a=some (.frz o (.tup xs))/\o.dict=none)/\t σ H1 λ ys H2=>r x ys H2 Q
theorem w8p {o e:Expr}{es:List Expr}{name:Str}{apos cpos:Pos}{id:String}(slot:Slot "tuple" name id) (hty:typeOf (.builtin id)=pure (.type "method_descriptor")) (hm:MtR X id r) (ho:PE X o to) (ha:PA X (e::es) t)
  (hbase:attributeBase o name X.env (eval o X.env)=eval o X.env:=by rfl)
  (hfew:((backTo cpos (starEach (e::es) X.env)).all (λ x=>!x.1) && (backToKw cpos (keywordEach [] X.env)).all (λ x=>x.1.isSome)
   && decide ((e::es).length+([]:List Keyword).length+(if ([]:List Keyword).isEmpty then 0 else 1) < 30))=true:=by rfl)
  (hline:(apos.endLine == cpos.line)=true:=by rfl) (hs:starEach (e::es) X.env=(false,eval e X.env)::starEach es X.env:=by rfl) (hplain:(backTo cpos (starEach es X.env)).any (·.1)=false:=by rfl) :
  PE X (.Call (.Attribute o name apos) (e::es) [] cpos) (v4k r to t):=by
 intro pins s σ H Q I h;refine t6o hbase hfew hline rfl (thn (ho pins s σ H _ I h) λ v s1 ⟨x,H1,I1,r1,ty,q1⟩=>?_)
 have hh:s1.TypeIs v "tuple" /\ ∀a,v=.ref a->∃ob,s1.heap.get? a=some ob/\ob.dict=none:=by
  obtain ⟨a,ob,xs,rfl,ha,hd⟩:=ty;cases r1;obtain ⟨g1,hz,its,rv,o2,g2,c2,n2,d2⟩:=I1.hok a _ ha;rw [g1] at g2;cases g2;exact ⟨⟨_,g1,c2⟩,λ b e=>by cases e;exact ⟨_,g1,hd⟩⟩
 refine ⟨"tuple",id,PySem.F.plainAttrs_tuple,slot,hty,hh.1,hh.2,?_⟩;have hA:=ha cpos pins s1 σ H1 _ I1 q1;rw [hs] at hA ⊢;refine t6p (by show (false || (backTo cpos (starEach es X.env)).any (·.1))=false;rw [hplain]<;>rfl) (t7l ?_);exact thn hA λ us s2 ⟨vs,H2,I2,r2,q2⟩=>hm pins s2 σ H2 x vs v us Q I2 r1 r2 q2
theorem w0h:MtR X "list.pop" x4g:=w0g
end
theorem x4j {X:Cx}{i:Nat}{elt tg iter:Expr}{pos pos' lpos:Pos}{own fv:List Str}{js:List Nat}
  (hN:X.N.Nodup) (hx1:X.N[i]?=some x) (hx:Loc X.env.scope x) (hf:X.fn x=true\/X.env.scope.names.lookup x=some .local)
  (hc:X.calm=true) (hi:PI X tg iter wi) (hclos:closureFor scope X.env=pure cl) (hcell:∀y∈scope.names,y.2≠.cell) (hkind:scope.kind=.function)
  (hnames:∀y∈scope.names,y.2=.local->scope.names.lookup y.1=some .local)
  (hcl:∀x c,cl.lookup x=some c->X.env.cells.lookup x=some c)
  (hhas:∀x,((relabel scope X.env).names.lookup x=some .cell\/(relabel scope X.env).names.lookup x=some .free)->∃c,cl.lookup x=some c)
  (hlen:js.length=fv.length) (hcap:∀(i:Nat) x j,fv[i]?=some x->js[i]?=some j->Cap X scope cl x j)
  (hg:∀(C:Addr) (ex:List Addr) (s:Shared) (H:Hp),PG (z2c X (own++fv) scope cl C ex s H) tg g)
  (he:∀(C:Addr) (ex:List Addr) (s:Shared) (H:Hp),PE (z2c X (own++fv) scope cl C ex s H) elt te)
  (hsw:swapsWith (.ListComp elt [⟨tg,iter,[],0⟩] scope lpos) (some (.Name x pos')) pos.line X.env=pure true:=by rfl)
  (hs:∀x,foldedSetIterable iter X.env x=pure x:=by intro _;rfl) :
  PS X (.Assign [.Name x pos'] (.ListComp elt [⟨tg,iter,[],0⟩] scope lpos) pos) (w2f (z8m wi own.length js g te) (z6w i)):=by
 intro pins s σ H D I h;rw [t9m _ _ _ _ hsw];refine t0b (t5l ?_);rw [t8n];have core:=y6j (use:=some (assign (.Name x pos') X.env)) (QQ:=λ _ s'=>SP X pins D .next s') (fpos:=firstIterPos [⟨tg,iter,[],0⟩] lpos) (pos:=lpos) hc hi hclos hcell hkind hnames hcl hhas hlen hcap hg he hs I h (λ a C s5 H5 fl I5 zC zL zS zc zp ⟨m,hn⟩ q=>?_)
 ·refine t0b (t0b (thn core λ _ s' hq=>?_));exact t0s (t0s hq)
 ·show wpAny (model X.prog X.w) X.A (assign (.Name x pos') X.env (.ref a)) _ X.xe s5;show wpAny (model X.prog X.w) X.A (do standAt pos';bindName X.env x (.ref a)) _ X.xe s5;refine t0b (t5l ?_);refine bindName_ ?_;refine y0p I5 hN hx1 hx (show RelV (.ref a) (.ref a) from rfl) (λ s6 I6 ⟨b,sb,hb⟩=>?_) hf
  have cb:C≠b:=by
   rcases hb with rfl | hb
   ·exact zL
   ·exact λ z=>zc x b hb z.symm
  obtain ⟨o,es,ep,e,r⟩:=hn;refine ⟨m,⟨o,es,ep,(sb.2 C cb).trans e,r⟩,λ h' sc=>?_⟩;exact ⟨_,H5,I6.turned (t':=s6.toks) (it:=C) (λ d o nd e=>sc.extBut d o nd e) zC zL (.inr zS) zc zp,q⟩
section
variable {X:Cx}
theorem y2a:∀ {bs:List Bool}{us:LV},Vals (bs.map V.bl) us->us=bs.map Value.bool
 | [],_,.nil=>rfl
 | b::bs,_,.cons r t=>by
  cases (show _=Value.bool b from r);rw [y2a t];rfl
theorem y6p (hc:X.calm=true):z4s X (.builtin "any") (λ xs H Q=>∃(a:Addr) (bs:List Bool),xs=[.ref a]/\SqL X.K H a (bs.map V.bl)/\Q (.bl (bs.any id)) H):=by
 intro pins s σ H xs us Q I r h;obtain ⟨a,bs,rfl,hq,q⟩:=h;obtain ⟨u,rfl,ru⟩:=z6g r;cases (show u=Value.ref a from ru);obtain ⟨its,rv,pl,hz⟩:=I.list hq;have hl:=pl.isList;have hlt:a < s.heap.objs.size:=by obtain ⟨_,e,_⟩:=hl;exact t0y e
 have hb:=y2a rv;subst hb;refine call_any_walk (t8k hl ?_)
 refine ⟨s.heap.objs.size,[s.heap.objs.size,a],[s.heap.objs.size],(bs.map Value.bool).toArray.size,_,_,λ i=>(bs[i]?).getD false,rfl,Walks.list (A:=X.A.in1) (I.ok.hd hc) _ a (t1k hlt) (bs.map Value.bool).toArray,
  ⟨⟨_,t0r _ rfl,rfl,rfl⟩,hl.push _⟩,λ i v s' Q' E' hP hQ=>?_,λ h' tk hk=>?_⟩
 ·have hP:(bs.map Value.bool)[i]?=some v:=by simpa using hP
  rw [t0q] at hP
  cases e:bs[i]? with
  | none=>rw [e] at hP;cases hP
  | some b =>
   rw [e] at hP;cases hP;simp only [e,Option.getD_some] at hQ;exact t3i hQ
 ·have e:((List.range (bs.map Value.bool).toArray.size).any λ i=>(bs[i]?).getD false)=bs.any id:=by
   rw [t0z,t0c];exact LSm.range_any bs
  rw [e];exact ⟨.bl _,H,I.kept (t':=tk) (LSm.kept_iter hk),rfl,q⟩
end
section
variable {κ:Type} [DecidableEq κ]
def w6b (kvs:List (κ × V)) (k:κ):Option V:=(kvs.find? λ kv=>decide (kv.1=k)).map (·.2)
noncomputable def v1i (kvs:List (κ × V)) (k:κ) (v:V):List (κ × V) :=
 if (kvs.any λ kv=>decide (kv.1=k))=true then kvs.map (λ kv=>if kv.1=k then (kv.1,v) else kv) else kvs++[(k,v)]
def v6x (kvs:List (κ × V)) (k:κ):List (κ × V):=kvs.filter λ kv=>decide (kv.1≠k)
theorem v1g {p:κ × V}{r:List (κ × V)}{k:κ}(e:p.1=k):w6b (p::r) k=some p.2:=by simp [w6b,List.find?_cons,e]
theorem KV.length (r:KV kvs vs):kvs.length=vs.length:=Paired.length r
end
noncomputable abbrev KT (H:Hp):List (List Key × V)->List (List Key × Addr × Value)->Prop:=Paired λ p q=>p.1=q.1/\H q.2.1=some (.tup (p.1.map kV))/\RelV p.2 q.2.2
section
variable {P:Program}{w:World}{H:Hp}{h:Heap}{a:Addr}
end
noncomputable def DGet (H:Hp) (a:Addr) (y:V) (r:Option V):Prop :=
 (∃kvs k,Rd H a (.dK kvs)/\y=kV k/\r=w6b kvs k)\/∃kvs k b,Rd H a (.dT kvs)/\y=.ref b/\H b=some (.tup (k.map kV))/\r=w6b kvs k
noncomputable def DPut (H:Hp) (a:Addr) (y v:V) (H':Hp):Prop :=
 (∃kvs k,H a=some (.dK kvs)/\y=kV k/\kvs.length < sizeLine/\H'=upd H a (.dK (v1i kvs k v))) \/
 ∃kvs k b,H a=some (.dT kvs)/\y=.ref b/\H b=some (.tup (k.map kV))/\kvs.length < sizeLine/\H'=upd H a (.dT (v1i kvs k v))
theorem DGet.k {H:Hp}{a:Addr}{kvs:List (Key × V)}{k:Key}(e:H a=some (.dK kvs)):DGet H a (kV k) (w6b kvs k):=.inl ⟨kvs,k,.inl e,rfl,rfl⟩
theorem DGet.t {H:Hp}{k:List Key}(e:H a=some (.dT kvs)) (eb:H b=some (.tup (k.map kV))):DGet H a (.ref b) (w6b kvs k):=.inr ⟨kvs,k,b,.inl e,rfl,eb,rfl⟩
theorem DPut.k {H:Hp}{a:Addr}{kvs:List (Key × V)}{k:Key}{v:V}(e:H a=some (.dK kvs)) (hl:kvs.length < sizeLine):DPut H a (kV k) v (upd H a (.dK (v1i kvs k v))):=.inl ⟨kvs,k,e,rfl,hl,rfl⟩
theorem DPut.t {H:Hp}{k:List Key}(e:H a=some (.dT kvs)) (eb:H b=some (.tup (k.map kV))) (hl:kvs.length < sizeLine) :
  DPut H a (.ref b) v (upd H a (.dT (v1i kvs k v))):=.inr ⟨kvs,k,b,e,rfl,eb,hl,rfl⟩
section
variable {X:Cx}{pins:LO}{σ:St}{H:Hp}{s:Shared}{a:Addr}{y v:V}{u r:Value}{o:Option V}{A:Around}{E:VS}
end
section
variable {X:Cx}{pins:LO}{σ:St}{H:Hp}{s:Shared}{a:Addr}{kvs:List (Key × V)}{k:Key}{u:Value}{A:Around}{E:VS}
end
def v5i (i:Expr):Prop:=∀ov iv,subscripted i false ov iv=operate [ov,iv] (getItem ov iv)
theorem w3u {T id:String}
  (hl:typeLookup (.type T) "__getitem__"=pure (some (.builtin id))) (hs:v5i slice)
  (h:wpAny (model prog w) A (eval value env) (λ o s₁=>wpAny (model prog w) A (eval slice env) (λ i s₂=>s₂.TypeIs o T/\wpAny (model prog w) A (getItem o i) Q E s₂) E s₁) E s) :
  wpAny (model prog w) A (eval (.Subscript value slice pos) env) Q E s:=by
 refine Subscript_ (t2z h (λ o s₁ h₁=>t2z h₁ (λ i s₂ h₂=>?_) λ _ _ x=>x) λ _ _ x=>x);obtain ⟨hT,h₂⟩:=h₂;unfold subscriptTail;refine t0b ?_;rw [getitemInPython_of_ne hT.not_modules];refine t0b (t4d hT hl ?_)
 have fin:wpAny (model prog w) A (subscripted slice false o i) (λ r s₃=>wpAny (model prog w) A (letTemporaryGo value o r >>= λ _=>pure r) Q E s₃) E s₂:=by
  rw [hs o i];exact wpAny_operating (t2z h₂ (λ r s₃ h₃=>t0b (wpAny_letTemporaryGo (t0s h₃))) λ _ _ x=>x)
 first
  | exact t0s (t0b fin)
  | exact t0b (t0s (t0b fin))
  | exact t0b fin
section
variable {X:Cx}{o i e value:Expr}{pos pos' tpos:Pos}{td ty tv:TE}
end
section
variable {X:Cx}{pos:Pos}
end
structure M1 (X:Cx) (o:Expr) (m:Str) (apos:Pos) (e:Expr) (cpos:Pos):Prop where
 base:attributeBase o m X.env (eval o X.env)=eval o X.env
 few:((backTo cpos (starEach [e] X.env)).all (λ x=>!x.1) && (backToKw cpos (keywordEach [] X.env)).all (λ x=>x.1.isSome)
  && decide (([e]:List Expr).length+([]:List Keyword).length+(if ([]:List Keyword).isEmpty then 0 else 1) < 30))=true
 line:(apos.endLine == cpos.line)=true
 trees:backTo cpos (starEach [e] X.env)=[(false,eval e X.env)]
structure M2 (X:Cx) (o:Expr) (m:Str) (apos:Pos) (e f:Expr) (cpos:Pos):Prop where
 base:attributeBase o m X.env (eval o X.env)=eval o X.env
 few:((backTo cpos (starEach [e,f] X.env)).all (λ x=>!x.1) && (backToKw cpos (keywordEach [] X.env)).all (λ x=>x.1.isSome)
  && decide (([e,f]:List Expr).length+([]:List Keyword).length+(if ([]:List Keyword).isEmpty then 0 else 1) < 30))=true
 line:(apos.endLine == cpos.line)=true
 trees:backTo cpos (starEach [e,f] X.env)=[(false,eval e X.env),(false,eval f X.env)]
section
variable {X:Cx}{pins:LO}{σ:St}{H:Hp}{s:Shared}{a:Addr}{y d:V}{u r:Value}{o:Option V}{A:Around}{E:VS}
end
section
variable {X:Cx}{o e f:Expr}{apos cpos:Pos}{td ty tx:TE}
end
section
variable {X:Cx}{pins:LO}{σ:St}{H:Hp}{s:Shared}{a:Addr}{kvs:List (Key × V)}{A:Around}{E:VS}
end
section
variable {X:Cx}{pins:LO}{σ:St}{H:Hp}{s:Shared}{a:Addr}{y:V}{u:Value}{A:Around}{E:VS}
end
section
variable {X:Cx}
end
section
variable {κ:Type} [DecidableEq κ]
end
noncomputable def KTab (P:Program) (w:World) (K:FG) (d:Addr) (kvs:LA):Prop:=(d == sysModules)=false/\∀h:Heap,K.In h->h.DictOf (y7y P w) d (kvs.map λ p=>((Sum.inr p.1:Key),Value.ref p.2))
noncomputable def v6v (pm:Params) (l:List (Str × Tok × Addr)):List DictEntry:=l.map λ p=>⟨PyData.keyHash pm p.1,.str p.1 p.2.1,.ref p.2.2⟩
theorem KTab.mk {w:World}{K:FG}{d:Addr}(hd:(d == sysModules)=false) (hl:K.lookup d=some { cls:=.type "dict",data:=.dict es n }) (he:es.toList=v6v w.params l) (nd:(l.map (·.1)).Nodup) :
  KTab P w K d (l.map λ p=>(p.1,p.2.2)):=by
 refine ⟨hd,λ h KI=>⟨_,es,n,KI d _ hl,⟨rfl,rfl,rfl⟩,rfl,?_,?_,?_⟩⟩
 ·intro e hm;have hm:e∈es.toList:=t9t.mpr hm;rw [he] at hm;obtain ⟨p,_,rfl⟩:=t2j.mp hm;exact ⟨Sum.inr p.1,y1i p.1 p.2.1,rfl⟩
 ·rw [he];clear he nd hl
  induction l with
  | nil=>exact .nil
  | cons p r ih=>exact .cons (y1i p.1 p.2.1) rfl ih
 ·rw [t5i,t5i];have e:((λ x:Key × Value=>x.1) ∘ (λ p:Str × Addr=>((Sum.inr p.1:Key),Value.ref p.2))) ∘ (λ p:Str × Tok × Addr=>(p.1,p.2.2))=(λ x:Str=>(Sum.inr x:Key)) ∘ λ p=>p.1:=rfl;rw [← t5i] at *
  have z:(l.map λ p=>(Sum.inr p.1:Key)).Nodup:=by
   have:(l.map λ p=>(Sum.inr p.1:Key))=(l.map (·.1)).map (λ x:Str=>(Sum.inr x:Key)):=by rw [t5i];rfl
   rw [this];exact List.Pairwise.map _ (λ a b (h:a≠b) z=>h (s1q z)) nd
  simpa [t5i,Function.comp_def] using z
theorem w0m {kvs:LA}:valueAt (kvs.map λ p=>((Sum.inr p.1:Key),Value.ref p.2)) (Sum.inr x)=(kvs.lookup x).map Value.ref:=by
 induction kvs with
 | nil=>rfl
 | cons p r ih =>
  obtain ⟨k,a⟩:=p;unfold valueAt at *;rw [t2t,List.find?_cons,t4i];by_cases e:x=k
  ·subst e;simp
  ·have h1:decide ((Sum.inr k:Key)=Sum.inr x)=false:=t2n λ z=>e (s1q z).symm;have h2:(x == k)=false:=s0d.mpr e;rw [h2];simp only [h1];exact ih
section
variable {X:Cx}
def w8c (kvs:LA):V->Hp->VK->Prop:=λ y H Q=>∃x a,y=.str x/\kvs.lookup x=some a/\Q (.ref a) H
def w7b (kvs:LA) (te:TE):TE:=λ σ H Q=>te σ H λ y H1=>w8c kvs y H1 Q
theorem w4g (hg:Gl X n) (hm:X.mg n=some (.ref d)) (T:KTab X.prog X.w X.K d kvs) (hi:PE X i te) (hs:v5i i) (hdb:(n == ("__debug__" : Str))=false:=by decide) :
  PE X (.Subscript (.Name n np) i pos) (w7b kvs te):=by
 intro pins s σ H Q I h;refine w3u PySem.F.slot_dict_getitem.lookup hs (y4k I hg hm (thn (hi pins s σ H _ I h) λ iv s2 ⟨y,H2,I2,ry,x,a,ey,l,q⟩=>?_) hdb);subst ey;obtain ⟨t,rfl⟩:=ry;have dd:=T.2 s2.heap I2.kIn;refine ⟨dd.typeIs,wpAny_getItem_of (y1i x t) dd.mapOf (v:=.ref a) (by rw [w0m,l];rfl) ⟨.ref a,H2,I2.tok _,rfl,q⟩⟩
end
noncomputable def KTup (K:FG) (a:Addr) (xs:List V):Prop:=∃(o:Obj) (its:Array Value) (n:Nat),K.lookup a=some o/\o.cls=.type "tuple" /\ o.data=.seq its n/\its.size≤sizeLine/\Vals xs its.toList
theorem KTup.sq {K:FG}(h:KTup K a xs):SqT K H a xs:=.inr h
section
variable {pg:Program}{wd:World}{B:Around}{X0:VS}{s0:Shared}
end
noncomputable def w6k (K:FG) (a b:Addr):It:=⟨λ i H=>∃xs ys x y,SqL K H a xs/\SqT K H b ys/\xs[i]?=some x/\ys[i]?=some y,
 λ i H v H'=>∃T x y,v=.ref T/\H T=none/\H'=upd H T (.tup [x,y])/\∀xs ys,SqL K H a xs->SqT K H b ys->xs[i]?=some x/\ys[i]?=some y,λ i H=>∃xs ys,SqL K H a xs/\SqT K H b ys/\(xs.length≤i\/ys.length≤i)⟩
section
variable {X:Cx}{es:List Expr}{x1:Nat}{pp:Pos}
end
noncomputable def v5k (K:PySem.W.Frag) (g:TG) (tb:TS) (D:Ends) (σ:St) (vs:List V) (H1:Hp):Prop:=∃a b xs ys,vs=[.ref a,.ref b]/\SqL K H1 a xs/\SqT K H1 b ys/\∃W:Nat->Nat->St->Hp->Prop,(∃m,W 0 m σ H1)/\∀i m σ H,W i m σ H ->
 ((w6k K a b).stop i H/\D.nx σ H)\/((w6k K a b).go i H/\∃N:St->Hp->Prop,(∀σ' H',N σ' H'->∃m',m' < m/\W (i+1) m' σ' H')/\∀x H',(w6k K a b).yld i H x H'->g x σ H' λ σ2 H2=>tb { D with nx:=N,ct:=N,bk:=D.nx } σ2 H2)
noncomputable def v5p (K:PySem.W.Frag) (k:Nat) (js:List Nat) (g:TG) (te:TE) (σ:St) (vs:List V) (H1:Hp) (Q:VK):Prop:=∃a b xs ys,vs=[.ref a,.ref b]/\SqL K H1 a xs/\SqT K H1 b ys/\∃W:Nat->Nat->List V->St->Hp->Prop,(∃m,W 0 m [] (z1s k js σ) H1)/\∀i m zs σ' H',W i m zs σ' H' ->
  ((w6k K a b).stop i H'/\∀p,H' p=none->Q (.ref p) (upd H' p (.lst zs))) \/
  ((w6k K a b).go i H'/\zs.length < sizeLine/\∃N:List V->St->Hp->Prop,(∀zs σ2 H2,N zs σ2 H2->∃m',m' < m/\W (i+1) m' zs σ2 H2)/\∀x H2,(w6k K a b).yld i H' x H2->g x σ' H2 λ σ3 H3=>te σ3 H3 λ v H4=>N (zs++[v]) σ3 H4)
noncomputable def CompTI (K:PySem.W.Frag) (k:Nat) (js:List Nat) (g:TG) (tc:TT) (te:TE) (σ:St) (v:V) (H1:Hp) (Q:VK):Prop:=∃a,v=.ref a/\(∃xs,SqT K H1 a xs)/\∃W:Nat->Nat->List V->St->Hp->Prop,(∃m,W 0 m [] (z1s k js σ) H1)/\∀i m zs σ' H',W i m zs σ' H' ->
  ((Itt K a).stop i H'/\∀p,H' p=none->Q (.ref p) (upd H' p (.lst zs))) \/
  ((Itt K a).go i H'/\zs.length < sizeLine/\∃N:List V->St->Hp->Prop,(∀zs σ2 H2,N zs σ2 H2->∃m',m' < m/\W (i+1) m' zs σ2 H2)/\∀x H2,(Itt K a).yld i H' x H2->g x σ' H2 λ σ3 H3=>tc σ3 H3 λ b H4=>if b=true then te σ3 H4 λ v H5=>N (zs++[v]) σ3 H5 else N zs σ3 H4)
theorem x7p {K:FG}:z5k (v1m K tx) k js g tc te σ H Q=tx σ H λ v H1=>CompTI K k js g tc te σ v H1 Q:=rfl
theorem CompTI.mk {K:FG}{g:TG}{tc:TT}{te:TE}{Q:VK}(h1:SqT K H a xs) (Pv:Nat->List V->St->Hp->Prop) (h0:Pv 0 [] (z1s k js σ) H) (hl:∀i zs σ H,i≤xs.length->Pv i zs σ H->SqT K H a xs/\zs.length < sizeLine)
  (hs:∀i x zs σ H,xs[i]?=some x->Pv i zs σ H->g x σ H λ σ3 H3=>tc σ3 H3 λ b H4=>if b=true then te σ3 H4 λ v H5=>Pv (i+1) (zs++[v]) σ3 H5 else Pv (i+1) zs σ3 H4) (hz:∀zs σ H,Pv xs.length zs σ H->∀p,H p=none->Q (.ref p) (upd H p (.lst zs))) :
  CompTI K k js g tc te σ (.ref a) H Q:=by
 refine ⟨a,rfl,⟨xs,h1⟩,λ i m zs σ H=>m=xs.length - i/\i≤xs.length/\Pv i zs σ H,⟨_,rfl,t0x _,h0⟩,?_⟩;rintro i m zs σ H ⟨rfl,hi,p⟩;obtain ⟨k1,k2⟩:=hl i zs σ H hi p;by_cases hlt:i < xs.length
 ·refine .inr ⟨⟨xs,_,k1,t0e hlt⟩,k2,Pv (i+1),λ zs' σ' H' p'=>⟨xs.length - (i+1),by lia,rfl,hlt,p'⟩,λ v H' yy=>?_⟩;obtain ⟨rfl,ex⟩:=yy;exact hs i v zs σ _ (ex xs k1) p
 ·have e:i=xs.length:=by lia
  exact .inl ⟨⟨xs,k1,by lia⟩,hz zs σ H (e ▸ p)⟩
section
variable {X:Cx}
theorem w4f {K:FG}(hK:X.K=K) (h:PG X (.Tuple es k pos) (v0n X.K n t)):PG X (.Tuple es k pos) (v0n K n t):=hK ▸ h
end
theorem v7a (c0:Cap X scope cl x0 j0) (c1:Cap X scope cl x1 j1) (c2:Cap X scope cl x2 j2):∀(i:Nat) x j,[x0,x1,x2][i]?=some x->[j0,j1,j2][i]?=some j->Cap X scope cl x j
 | 0,_,_,h1,h2=>by cases h1;cases h2;exact c0
 | 1,_,_,h1,h2=>by cases h1;cases h2;exact c1
 | 2,_,_,h1,h2=>by cases h1;cases h2;exact c2
 | _+3,_,_,h1,_=>by cases h1
theorem z1z {cells:LA}(h:cells.lookup y=some a) (h2:cells.lookup z=some b) (h3:cells.lookup u=some d):∀x c,[(y,a),(z,b),(u,d)].lookup x=some c->cells.lookup x=some c:=λ x c e=>by
 rcases t1a.mp (t1f e) with q | q
 ·cases q;exact h
 ·rcases t1a.mp q with q | q
  ·cases q;exact h2
  ·cases t0v.mp q;exact h3
structure FunD (K:FG) (x qual:Str) (st:Stmt) (dV:Addr) (its:Array Value) (f:Addr) (fd:FuncData):Prop where
 ex:∃(oc:Value) (od:OA) (kV doc pm:Value) (an:OA) (cdv ct:Value) (osl:AV),
  fd=W.fnOf x qual (z2f st) (z1v st) (z0h st) (.ref dV) kV doc pm an cdv ct/\K.lookup f=some ⟨oc,od,.func fd,osl⟩/\W.codeIn K cdv qual=true
 kp:W.keepIn K (.ref f)=true
 dt:∃(o:Obj) (n:Nat),K.lookup dV=some o/\o.data=.seq its n
section
variable {P:Program}{w:World}{K:FG}{mg:SV}{base:Heap}
end
structure CalleeD (P:Program) (w:World) (K:FG) (mg:SV) (base:Heap) (CX:CXT) (k:Nat) (x:Str) (ps:List Str) (dvs:List V) (sp:Sp):Prop where
 has:∃(f:Addr) (fd:FuncData) (ds:LV),FnOk P w K mg base CX k f fd ps sp/\mg x=some (.ref f)/\W.keepIn K (.ref f)=true/\Binds K fd ps ds/\Vals dvs ds
section
variable {X:Cx}{CX:CXT}{k:Nat}{ps:List Str}{dvs:List V}{sp:Sp}{E:XK}{x:Str}{p pos:Pos}{e:Expr}{es:List Expr}{t:TA}
end
section
variable {X:Cx}
def v4u:R2:=λ x y H Q=>w6h x y λ p i=>∃xs,(H p=some (.lst xs)\/H p=some (.tup xs))/\∃v,atI xs i=some v/\Q v H
theorem y8b:IxR X v4u:=by
 intro value slice pins s σ H x y v u Q I rx ry h hs;obtain ⟨p,i,rfl,rfl,xs,hh | hh,z,ha,q⟩:=y0d h
 ·exact z0k value slice pins s σ H _ _ v u Q I rx ry ⟨xs,hh,z,ha,q⟩ hs
 ·exact z0g value slice pins s σ H _ _ v u Q I rx ry ⟨xs,hh,z,ha,q⟩ hs
end
section
open PySem.Builtin PySem.Builtin.Str
noncomputable def x3c (c:Nat):List Nat->List (List Nat)
 | []=>[[]]
 | d::r=>if d=c then []::x3c c r else match x3c c r with
  | []=>[[d]]
  | p::ps=>(d::p)::ps
def v5u (L:List Nat):Str:=⟨L.toArray⟩
section
variable {X:Cx}
end
end
section
variable {X:Cx}
end
section
variable {pg:Program}{wd:World}{B:Around}{X0:VS}{s0:Shared}{J d:Addr}{m:Nat}{Pr:Nat->Value->Prop}{OK:Heap->Prop}
end
section
variable {X:Cx}
end
section
variable {pg:Program}{wd:World}{B:Around}{X0:VS}{z0:Shared}
end
section
variable {X:Cx}
end
noncomputable def AlkV (H:Hp):Nat->V->V->Prop
 | 0,x,y=>z3f x=true/\x=y
 | d+1,x,y=>(z3f x=true/\x=y)\/∃(a b:Addr) (xs ys:List V),x=.ref a/\y=.ref b/\((H a=some (.lst xs)/\H b=some (.lst ys))\/(H a=some (.tup xs)/\H b=some (.tup ys)))/\xs.length=ys.length/\∀(i:Nat) z w,xs[i]?=some z->ys[i]?=some w->AlkV H d z w
theorem AlkV.flat (h:z3f x=true):AlkV H d x x:=by
 cases d with
 | zero=>exact ⟨h,rfl⟩
 | succ d=>exact .inl ⟨h,rfl⟩
theorem AlkV.tup {H:Hp}{d:Nat}(h1:H a=some (.tup xs)) (h2:H b=some (.tup xs)) (f:xs.all z3f=true):AlkV H (d+1) (.ref a) (.ref b) :=
 .inr ⟨a,b,xs,xs,rfl,rfl,.inr ⟨h1,h2⟩,rfl,λ i z w e1 e2=>by
  rw [e1] at e2;cases e2
  exact .flat (t5r.mp f _ (t0i e1))⟩
theorem x0m (h:z3f x=true):eqV x x=true:=by
 cases x<;>simp_all [eqV,z3f]
theorem z6i (r:Vals xs us) {j:Nat}(h:j < us.toArray.size):∃z,xs[j]?=some z/\RelV z us.toArray[j]:=by
 have l:=r.length;have k:j < xs.length:=by rw [l];simpa using h
 obtain ⟨u,hu,ru⟩:=r.get (t0e k)
 have e:us.toArray[j]=u:=by
  have z:us[j]?=some (us[j]'(by simpa using h)):=t0e _;rw [z] at hu;simpa using hu
 exact ⟨_,t0e k,by rw [e];exact ru⟩
theorem y0k:(List.range n).all (λ _=>true)=true:=by simp
section
variable {X:Cx}{pins:LO}{σ:St}{H:Hp}{s:Shared}
theorem x0n (I:Inv X pins σ H s):∀(d:Nat) (A:Around) (x y:V) (v u:Value),A.units+d < cLine->AlkV H d x y->RelV x v->RelV y u->SeqAt.EqAt A s v u true:=by
  intro d
  induction d with
  | zero =>
    intro A x y v u hu h rx ry;obtain ⟨f,rfl⟩:=h;have z:=x0o (A:=A) (s:=s) rx ry f f
    rwa [x0m f] at z
  | succ d ih =>
    intro A x y v u hu h rx ry
    rcases h with ⟨f,rfl⟩ | ⟨a,b,xs,ys,rfl,rfl,h,hl,q⟩
    · have z:=x0o (A:=A) (s:=s) rx ry f f
      rwa [x0m f] at z
    · cases rx;cases ry;by_cases ab:a=b
      · subst ab;exact SeqAt.EqAt.same _
      · refine SeqAt.EqAt.of_refs ab ?_
        rcases h with ⟨h1,h2⟩ | ⟨h1,h2⟩
        · obtain ⟨us,r1,p1,_⟩:=I.list (.of h1);obtain ⟨ws,r2,p2,_⟩:=I.list (.of h2)
          have z:=SeqAt.RcAt.lists (A:=A) p1.isList p2.isList (e:=λ _=>true) (by simp [← r1.length,← r2.length,hl]) (by lia) (λ j k1 k2=>by
            obtain ⟨z,e1,rz⟩:=z6i r1 k1;obtain ⟨w,e2,rw⟩:=z6i r2 k2
            exact ih A.in1 z w _ _ (by show A.units+1+d < cLine;lia) (q j z w e1 e2) rz rw)
          rwa [y0k] at z
        · obtain ⟨us,r1,p1,_⟩:=I.tuple (.of h1);obtain ⟨ws,r2,p2,_⟩:=I.tuple (.of h2)
          have z:=SeqAt.RcAt.tuples (A:=A) (show s.heap.IsTuple a us.toArray from p1) (show s.heap.IsTuple b ws.toArray from p2) (e:=λ _=>true) (by lia) (λ j k1 k2=>by
            obtain ⟨z,e1,rz⟩:=z6i r1 k1;obtain ⟨w,e2,rw⟩:=z6i r2 k2
            exact ih A.in1 z w _ _ (by show A.units+1+d < cLine;lia) (q j z w e1 e2) rz rw)
          have e:(us.toArray.size == ws.toArray.size)=true:=by simp [← r1.length,← r2.length,hl]
          rw [y0k,e] at z;exact z
def v4s:R2:=λ x y H Q=>(∃a,x=.ref a)/\AlkV H 9 x y/\Q (.bl false) H
theorem x4w (hu:X.A.units+20 < cLine):OpR X (compareOp .NotEq) v4s:=by
 intro pins s σ H x y v u Q I rx ry h;obtain ⟨⟨a,rfl⟩,h,q⟩:=h
 rcases h with ⟨f,_⟩ | ⟨a',b,xs,ys,e,rfl,h,hl,al⟩
 ·simp [z3f] at f
 ·cases e;cases rx;cases ry;have fin:EP X pins σ Q (.bool false) s:=⟨.bl false,H,I,rfl,q⟩
  rcases h with ⟨h1,h2⟩ | ⟨h1,h2⟩
  ·obtain ⟨us,r1,p1,_⟩:=I.list (.of h1);obtain ⟨ws,r2,p2,_⟩:=I.list (.of h2);refine s1b p1.isList p2.isList (e:=λ _=>true) (by simp [← r1.length,← r2.length,hl]) (by lia) (λ j k1 k2=>?_) _ _ _ _ (by rw [y0k];exact fin);obtain ⟨z,e1,rz⟩:=z6i r1 k1;obtain ⟨w,e2,rw⟩:=z6i r2 k2;exact x0n I 8 X.A.in1 z w _ _ (by show X.A.units+1+8 < cLine;lia) (al j z w e1 e2) rz rw
  ·obtain ⟨us,r1,p1,_⟩:=I.tuple (.of h1);obtain ⟨ws,r2,p2,_⟩:=I.tuple (.of h2);have e:(us.toArray.size == ws.toArray.size)=true:=by simp [← r1.length,← r2.length,hl]
   refine s0k (show s.heap.IsTuple a us.toArray from p1) (show s.heap.IsTuple b ws.toArray from p2) (e:=λ _=>true) (by lia) (λ j k1 k2=>?_) _ _ _ _ (by rw [y0k,e];exact fin);obtain ⟨z,e1,rz⟩:=z6i r1 k1;obtain ⟨w,e2,rw⟩:=z6i r2 k2;exact x0n I 8 X.A.in1 z w _ _ (by show X.A.units+1+8 < cLine;lia) (al j z w e1 e2) rz rw
end
theorem v2u (r:Room k A):A.units+20 < cLine:=by have:=r.un;lia
section
variable {X:Cx}
noncomputable def v2t (K:FG) (tl:TE):TI:=λ σ H R=>tl σ H λ x H1=>(∃a,x=.ref a/\(∃xs,SqL K H1 a xs)/\R (Itl K a) H1)\/(∃a,x=.ref a/\(∃xs,SqT K H1 a xs)/\R (Itt K a) H1)
theorem w2z (hl:PE X l tl):PI X tg l (v2t X.K tl):=by
 intro pins s σ H R I h;refine thn (hl pins s σ H _ I h) λ v s1 ⟨x,H1,I1,r1,q1⟩=>?_
 rcases q1 with ⟨a,e,⟨xs,hq⟩,q⟩ | ⟨a,e,⟨xs,hq⟩,q⟩
 ·subst e;cases r1;obtain ⟨its,rv,p,hz⟩:=I1.list hq;refine t8k p.isList ?_;refine ⟨s1.heap.objs.size,[s1.heap.objs.size],_,_,H1,rfl,I1.kept (t':=s1.toks) λ b o e=>t0f _ e,y4v a _,⟨_,t0r _ rfl,rfl,rfl⟩,λ b hb=>?_,q⟩;have e:b=s1.heap.objs.size:=by simpa using hb
  subst e;exact I1.fpOk (t0n _) (I1.hok.fresh (t0n _))
 ·subst e;cases r1;obtain ⟨its,rv,p,hz⟩:=I1.tuple hq;refine t2w (show s1.heap.IsTuple a its.toArray from p) ?_;refine ⟨s1.heap.objs.size,[s1.heap.objs.size],_,_,H1,rfl,I1.kept (t':=s1.toks) λ b o e=>t0f _ e,y2d a _,⟨_,t0r _ rfl,rfl,rfl⟩,λ b hb=>?_,q⟩;have e:b=s1.heap.objs.size:=by simpa using hb
  subst e;exact I1.fpOk (t0n _) (I1.hok.fresh (t0n _))
theorem w5k {K:FG}:w2b (v2t K te) g tb D σ H=te σ H λ x H1=>LoopL K g tb D σ x H1\/LoopT K g tb D σ x H1:=rfl
theorem w1l {K:FG}:z8m (v2t K ti) k js g te σ H Q=ti σ H λ x H1=>CompL K k js g te σ x H1 Q\/CompT K k js g te σ x H1 Q:=rfl
end
noncomputable def v3w (K:FG) (a:Addr) (n:Nat):It:=⟨λ i H=>∃xs,SqL K H a xs/\xs.length=n/\i < n,λ i H x H'=>H'=H/\∀xs,SqL K H a xs->xs[n - 1 - i]?=some x,λ i H=>∃xs,SqL K H a xs/\xs.length=n/\i=n⟩
section
variable {X:Cx}{tg:Expr}
end
noncomputable def v5m (K:PySem.W.Frag) (g:TG) (tb:TS) (D:Ends) (σ:St) (x:V) (H1:Hp):Prop:=∃a xs,x=.ref a/\SqL K H1 a xs/\∃W:Nat->Nat->St->Hp->Prop,(∃m,W 0 m σ H1)/\∀i m σ H,W i m σ H ->
 ((v3w K a xs.length).stop i H/\D.nx σ H)\/((v3w K a xs.length).go i H/\∃N:St->Hp->Prop,(∀σ' H',N σ' H'->∃m',m' < m/\W (i+1) m' σ' H')/\∀x H',(v3w K a xs.length).yld i H x H'->g x σ H' λ σ2 H2=>tb { D with nx:=N,ct:=N,bk:=D.nx } σ2 H2)
end L2
namespace L2
open PySem PySem.Spec PyProof.Rows PySem.W PySem.Calls
noncomputable def x7y (K:FG):List (Addr × Nat × TS)->Value->(Nat->TS->Prop)->Prop
 | [],_,_=>False
 | (C,i,ts)::r,c,k=>(W.exmOne K c (.ref C)=some true/\k i ts)\/(W.exmOne K c (.ref C)=some false/\x7y K r c k)
noncomputable def x7w (K:FG) (cs:List (Addr × Nat × TS)) (D:Ends):St->XK:=λ σ1 c _ H1=>∃C',c=.ref C'/\x7y K cs c λ i ts=>∀a,H1 a=none->ts (w0w D i) (σ1.set i (some (.ref a))) (upd H1 a (v7k a C'))
def v1x (K:FG) (cs:List (Addr × Nat × TS)) (tb:(St->XK)->TS):TS:=λ D σ H=>tb (x7w K cs D) D σ H
inductive ClausesA (X:Cx):List ExceptHandler->List (Addr × Nat × TS)->Prop
 | nil:ClausesA X [] []
 | cons {x n:Str}{C:Addr}{i:Nat}{b₀:Stmt}{suite:List Stmt}{np hpos:Pos}{ts:TS}{r:List ExceptHandler}{tr:List (Addr × Nat × TS)}(hi:X.N[i]?=some n) (hk:X.env.scope.names.lookup n=some .local) (hg:Gl X x) (hn:W.nsIn X.K mainGlobals x=some (some (.ref C)))
   (hs:∀(a:Addr) (pn:LO),PSs (X.suite a pn) (b₀::suite) ts) (hr:ClausesA X r tr) (hd:(x == ("__debug__" : Str))=false):ClausesA X (.ExceptHandler (some (.Name x np)) (some n) (b₀::suite) hpos::r) ((C,i,ts)::tr)
end L2
namespace L2
open PySem PySem.Spec PyProof.Rows PySem.W PySem.Calls
theorem z3t:∀(names:List (Str × NameKind)) (n:Nat) (acc:LA),cellsFrom n names acc=cellsFrom n names []++acc
 | [],_,_=>rfl
 | (x,k)::r,n,acc=>by
  unfold cellsFrom;split
  ·rw [z3t r (n+1) ((x,n)::acc),z3t r (n+1) [(x,n)],t3a];rfl
  ·exact z3t r n acc
theorem z4q {α:Type}:∀ {a b:List (Str × α)}{x:Str},(a++b).lookup x=match a.lookup x with | some c=>some c | none=>b.lookup x
 | [],_,_=>rfl
 | (y,c)::a,b,x=>by
  rw [t0k,t4i,t4i]
  cases x == y with
  | true=>rfl
  | false=>exact z4q
theorem y6a {α:Type}{y:Str}:∀ {cl:List (Str × α)}{q:Str × α},q∈cl->q.1=y->(cl.lookup y).isSome=true
 | a::r,q,hq,e=>by
  rw [t4i]
  cases q0:y == a.1 with
  | true=>rfl
  | false =>
   rcases t1a.mp hq with z | z
   ·rw [← z,e,t8x] at q0;cases q0
   ·exact y6a z e
theorem x6b {α:Type}:∀ {cl:List (Str × α)}{q:Str × α},(cl.map (·.1)).Nodup->q∈cl->cl.lookup q.1=some q.2
 | a::r,q,nd,hq=>by
  rw [t4i]
  rcases t1a.mp hq with z | z
  ·rw [← z,t8x]
  ·have na:=(t4b.mp nd).1
   have:(q.1 == a.1)=false:=by
    cases q0:q.1 == a.1 with
    | false=>rfl
    | true=>exact absurd (t2j.mpr ⟨q,z,t7v q0⟩) na
   rw [this];exact x6b (t4b.mp nd).2 z
theorem z4b {x:Str}:∀ {names:List (Str × NameKind)}{n:Nat},(∀y∈names,y.2=.cell->y.1≠x)->(cellsFrom n names []).lookup x=none
 | [],_,_=>rfl
 | (y,k)::r,n,h=>by
  unfold cellsFrom;split
  ·rename_i hk;rw [z3t,z4q,z4b λ z hz=>h z (t0d _ hz)];have hy:y≠x:=h (y,k) t0t (t7v hk);show List.lookup x [(y,n)]=none;rw [t4i]
   have:(x == y)=false:=by
    cases q:x == y with
    | false=>rfl
    | true=>exact absurd (t7v q).symm hy
   rw [this];rfl
  ·exact z4b λ z hz=>h z (t0d _ hz)
section
variable {M:Model}{A:Around}{E:VS}{s₀ s:Shared}{m cm:SV}{env:Env}{cs:LA}
theorem v5v {v:Value}{Q:Unit->Shared->Prop}(x:InCallC s₀ env.locals m cs cm s) (hk:env.scope.kind=.function) (hl:env.kindOf n=some .local)
  (h:∀s',InCallC s₀ env.locals (λ y=>if y=n then some v else m y) cs cm s'->Q () s'):wpAny M A (storeName env n v) Q E s:=by
 refine t9c hl x.toInCall.ns (λ h' hn' hs'=>h _ ⟨⟨?_,hn',λ b o e=>?_,x.toInCall.fresh⟩,λ k c hc=>?_,x.apart,x.above⟩) (by rw [hk];rfl)
 ·obtain ⟨h₁,tk,rfl⟩:=x.toInCall.same;exact ⟨h',_,rfl⟩
 ·exact hs'.extBut b o (t1k (t1d (t0y e) x.toInCall.fresh)) (x.toInCall.keep b o e)
 ·exact (x.cell k c hc).sameBut hs' (t4w (x.above k c (t1f hc)))
theorem v5w {v:Value}{Q:Unit->Shared->Prop}(x:InCallC s₀ env.locals m cs cm s) (hk:env.scope.kind=.function) (hl:env.kindOf n=some .cell)
  (hc:cs.lookup n=some c) (he:env.cells.lookup n=some c)
  (h:∀s',InCallC s₀ env.locals m cs (λ y=>if y=n then some v else cm y) s'->Q () s'):wpAny M A (storeName env n v) Q E s:=by
 have hLc:=x.above n c (t1f hc);refine t9s hk hl he (x.cell n c hc) λ h' hc' hs'=>h _ ⟨⟨?_,x.toInCall.ns.sameBut hs' (t1k hLc),λ b o e=>?_,x.toInCall.fresh⟩,λ k c' hk'=>?_,x.apart,x.above⟩
 ·obtain ⟨h₁,tk,rfl⟩:=x.toInCall.same;exact ⟨h',_,rfl⟩
 ·exact hs'.extBut b o (t1k (s1o (t1d (t0y e) x.toInCall.fresh) hLc)) (x.toInCall.keep b o e)
 ·by_cases hkn:k=n
  ·subst hkn;rw [hc] at hk';cases hk';simpa using hc'
  ·rw [if_neg hkn];exact (x.cell k c' hk').sameBut hs' λ e=>hkn (t9d x.apart (t1f hk') (e ▸ t1f hc))
theorem z7n (f:Str × Value->PUnit->Sem (ForInStep PUnit)) (hf:∀n v u,f (n,v) u=(do storeName env n v;pure (.yield ⟨⟩))) (hk:env.scope.kind=.function) (hcs:∀n c,cs.lookup n=some c->env.cells.lookup n=some c) :
  ∀(binds:List (Str × Value)) (m cm:SV) (s:Shared) (Q:PUnit->Shared->Prop),InCallC s₀ env.locals m cs cm s ->
   (∀x∈binds,env.kindOf x.1=some .local\/(env.kindOf x.1=some .cell/\(cs.lookup x.1).isSome=true)) ->
   (∀s',InCallC s₀ env.locals (bindL env.kindOf binds m) cs (bindC env.kindOf binds cm) s'->Q ⟨⟩ s')->wpAny M A (forIn binds ⟨⟩ f) Q E s
 | [],m,cm,s,Q,x,_,h=>by rw [t6x];exact t0s (h s x)
 | (n,v)::r,m,cm,s,Q,x,hkind,h=>by
  rw [t6g,hf];have hr:∀y∈r,env.kindOf y.1=some .local\/(env.kindOf y.1=some .cell/\(cs.lookup y.1).isSome=true):=λ y hy=>hkind y (t0d _ hy)
  rcases hkind (n,v) t0t with hl | ⟨hl,hc⟩
  ·refine t0b (t0b (v5v x hk hl λ s' x'=>t0s (z7n f hf hk hcs r _ _ s' Q x' hr λ s'' x''=>h s'' ?_)));unfold bindL bindC;rw [if_pos hl,if_pos hl];exact x''
  ·obtain ⟨c,hc⟩:=t2x.mp hc;have hnl:¬env.kindOf n=some .local:=by rw [hl];decide
   refine t0b (t0b (v5w x hk hl hc (hcs n c hc) λ s' x'=>t0s (z7n f hf hk hcs r _ _ s' Q x' hr λ s'' x''=>h s'' ?_)));unfold bindL bindC;rw [if_neg hnl,if_neg hnl];exact x''
end
section
variable {M:Model}{A:Around}{E:VS}{s:Shared}
theorem z7p {scope:Scope}{globals:Addr}{cl:LA}{binds:List (Str × Value)}{code:Value}{Q:Env->Shared->Prop}
  (hk:scope.kind=.function)
  (hkind:∀x∈binds,scope.names.lookup x.1=some .local\/(scope.names.lookup x.1=some .cell/\((cellsFrom (s.heap.objs.size+1) scope.names []).lookup x.1).isSome=true))
  (hQ:∀env,env=newEnv scope s.heap.objs.size globals (cellsFrom (s.heap.objs.size+1) scope.names []++cl) qual func code none builtins ->
   ∀s',InCallC s env.locals (bindL env.kindOf binds λ _=>none) (cellsFrom (s.heap.objs.size+1) scope.names []) (bindC env.kindOf binds λ _=>none) s'->Q env s') :
  wpAny M A (newFunctionEnv scope globals cl binds qual func code none builtins) Q E s:=by
 simp only [newFunctionEnv,Option.isSome_none,t8h,s0t];refine t0b (wpAny_alloc ?_);refine t0b (wpAny_layCells _ (λ name kind cells=>by cases hkc:kind == NameKind.cell<;>simp [hkc]) _ _ _ _ ?_);have ok:=cellsFrom_ok scope.names (s.heap.push { cls:=.type "frame",data:=.dict #[] }) (s.heap.objs.size+1) [] ⟨λ _ _ hm=>(nomatch hm),List.Pairwise.nil⟩ (by rw [t2l];exact t0n _);rw [t2l] at ok;rw [show ({ s with heap:=s.heap.push { cls:=.type "frame",data:=.dict #[] } }:Shared).heap.objs.size=s.heap.objs.size+1 from t2l ..];rw [z3t scope.names (s.heap.objs.size+1) cl]
 refine t0b (z7n (s₀:=s) (cs:=cellsFrom (s.heap.objs.size+1) scope.names []) (env:=newEnv scope s.heap.objs.size globals (cellsFrom (s.heap.objs.size+1) scope.names []++cl) qual func code none builtins)
  _ (λ _ _ _=>rfl) hk (λ n c hc=>by show List.lookup n (cellsFrom (s.heap.objs.size+1) scope.names []++cl)=some c;rw [z4q,hc]) binds (λ _=>none) (λ _=>none) _ _
  ⟨⟨⟨_,_,rfl⟩,(Heap.Ns.new s.heap (.type "frame")).keeps (pushCells_keeps _ _),λ b o e=>pushCells_keeps _ _ b o (t0f _ e),t0n _⟩,
   λ n c hc=>(ok.empty n c (t1f hc)).1,ok.apart,λ n c hm=>(ok.empty n c hm).2⟩
  hkind λ s' x=>t0s (hQ _ rfl s' x))
end
def v1e (c:Addr) (v:V):HO:=.ext λ h=>∃u,RelV v u/\h.IsCell c (some u)
def y4t (c:Addr) (qual:Str):HO:=.ext λ h=>h.CodeRec (.ref c) qual
noncomputable def x8k (fa c':Addr) (qual:Str) (params:Arguments) (body:Expr) (scope:Scope) (cl:LA):HO:=.ext λ h=>∃pm ctv,h.get? fa=some (kla_obj "<lambda>" qual params body scope cl pm c' ctv)
structure CelAt (H:Hp) (cl:LA) (vcs:List V):Prop where
 len:cl.length=vcs.length
 at_:∀(i:Nat) q,cl[i]?=some q->∃v o,vcs[i]?=some v/\H q.2=some (.frz o (v1e q.2 v))
 apart:cl.Pairwise λ x y=>x.2≠y.2
theorem CelAt.mem (h:CelAt H cl vcs) {q:Str × Addr}(hq:q∈cl):∃o v,H q.2=some (.frz o (v1e q.2 v)):=by
 obtain ⟨i,e⟩:=t5k.mp hq;obtain ⟨v,o,_,e2⟩:=h.at_ i q e;exact ⟨o,v,e2⟩
theorem CelAt.same {H H':Hp}(h:CelAt H cl vcs) (s:∀a o,H a=some o->H' a=some o):CelAt H' cl vcs :=
 ⟨h.len,λ i q e=>let ⟨v,o,e1,e2⟩:=h.at_ i q e;⟨v,o,e1,s _ _ e2⟩,h.apart⟩
open Classical in
noncomputable def minC (H:Hp) (cl:LA):Hp:=λ b=>if ∃q∈cl,q.2=b then none else H b
open Classical in
noncomputable def resC (H H':Hp) (cl:LA):Hp:=λ b=>if ∃q∈cl,q.2=b then H b else H' b
theorem z8x {cl:LA}{q:Str × Addr}(h:q∈cl):minC H cl q.2=none:=if_pos ⟨q,h,rfl⟩
theorem z2n {cl:LA}{b:Addr}(h:∀q∈cl,q.2≠b):minC H cl b=H b:=if_neg λ ⟨q,hq,e⟩=>h q hq e
theorem x5z (h:minC H cl b=some o):H b=some o/\∀q∈cl,q.2≠b:=by
 by_cases c:∃q∈cl,q.2=b
 ·rw [show minC H cl b=none from if_pos c] at h;cases h
 ·rw [show minC H cl b=H b from if_neg c] at h;exact ⟨h,λ q hq e=>c ⟨q,hq,e⟩⟩
theorem z3p {H:Hp}(h:H b=none):minC H cl b=none:=by
 by_cases c:∃q∈cl,q.2=b
 ·exact if_pos c
 ·rw [show minC H cl b=H b from if_neg c];exact h
theorem z5w {cl:LA}{q:Str × Addr}(h:q∈cl):resC H H' cl q.2=H q.2:=if_pos ⟨q,h,rfl⟩
theorem z2r {cl:LA}{b:Addr}(h:∀q∈cl,q.2≠b):resC H H' cl b=H' b:=if_neg λ ⟨q,hq,e⟩=>h q hq e
theorem HOk.minC (x:HOk P w H h) (hc:CelAt H cl vcs):HOk P w (minC H cl) h:=λ b o e=>by
 obtain ⟨e1,_⟩:=x5z e
 have nf:∀c u,H c=some u->(∀ob v,u≠.frz ob v)->L2.minC H cl c=some u:=λ c u e2 n=>by
  rw [z2n λ q hq z=>?_]
  ·exact e2
  ·obtain ⟨ob,v,e3⟩:=hc.mem hq;rw [z,e2] at e3;exact n _ _ (t1i e3)
 exact (x b o e1).stay (λ _ _ _ q=>q) (λ c q=>nf c _ q λ _ _ z=>nomatch z) λ c xs q=>nf c _ q λ _ _ z=>nomatch z
structure LmScope (N ps fv:List Str) (sc:Scope):Prop where
 kind:sc.kind=.function
 co:sc.isCoroutine=false
 gen:sc.isGenerator=false
 nd:N.Nodup
 pre:N.take (ps++fv).length=ps++fv
 par:∀x∈ps,sc.names.lookup x=some .local\/sc.names.lookup x=some .cell
 fre:∀x∈fv,sc.names.lookup x=some .free
 has:∀y∈sc.names,y.2=.free->y.1∈fv
 own:∀x∈fv,∀y∈sc.names,y.2=.cell->y.1≠x
noncomputable def y8j (P:Program) (w:World) (K:FG) (mg:SV) (base:Heap) (N:List Str) (qual:Str) (scope:Scope) (f:Addr) (cd:Value) (cl:LA) (A:Around) (outer:List Env) (s:Shared) (H:Hp):Cx where
 prog:=P
 w:=w
 K:=K
 mg:=mg
 base:=base
 A:=A.deeper (envX qual scope s.heap.objs.size f cd (cellsFrom (s.heap.objs.size+1) scope.names []++cl))
 N:=N
 s₀:=s
 H₀:=H
 env:=envX qual scope s.heap.objs.size f cd (cellsFrom (s.heap.objs.size+1) scope.names []++cl)
 outer:=outer
 stack:=envX qual scope s.heap.objs.size f cd (cellsFrom (s.heap.objs.size+1) scope.names []++cl)::outer
 ex:=[]
 calm:=true
 fn:=λ x=>decide (scope.names.lookup x=some .cell)
 pn:=[]
 xe:=λ _ _=>False
theorem x8y {i:Nat}(h:(start N vs)[i]?=some (some v)):vs[i]?=some v:=by
 unfold start at h
 have hi:i < vs.length:=by
  by_cases hi:i < vs.length
  ·exact hi
  ·rw [t0u (by simpa using hi),t6d] at h;split at h<;>cases h
 rw [t1b (by simpa using hi),t0q] at h
 cases e:vs[i]? with
 | none=>rw [e] at h;cases h
 | some a=>rw [e] at h;cases h;rfl
theorem x6o {K:FG}{cl:LA}{A:Around}{vs vcs:List V}
  (S:LmScope N ps fv scope) (hd:A.handled=none) (e0:Env0 P w K mg base A outer s H) (hl:vs.length=ps.length) (r:Vals vs us) (hcl:cl.map (·.1)=fv) (hc:CelAt H cl vcs)
  (x:InCallC s s.heap.objs.size (bindL (λ x=>scope.names.lookup x) (ps.zip us) λ _=>none) (cellsFrom (s.heap.objs.size+1) scope.names []) (bindC (λ x=>scope.names.lookup x) (ps.zip us) λ _=>none) s1) :
  Inv (y8j P w K mg base N qual scope f cd cl A outer s (minC H cl)) [] (start N (vs++vcs)) (minC H cl) s1:=by
 obtain ⟨h1,tk,rfl,hk⟩:=x.done;have cll:cl.length=fv.length:=by rw [← hcl,t0c]
 have hpl:(ps++fv).length≤N.length:=by have:=t3p List.length S.pre;rw [t0p] at this;lia
 have noA:∀b:Addr,b ∉ (y8j P w K mg base N qual scope f cd cl A outer s (minC H cl)).ex:=λ b z=>absurd (show b∈([]:List Addr) from z) (by simp)
 have old:∀q∈cl,q.2 < s.heap.objs.size:=λ q hq=>by
  obtain ⟨o,v,e⟩:=hc.mem hq;exact e0.hok.lt e
 have celv:∀(i:Nat) q,cl[i]?=some q->∃v u,vcs[i]?=some v/\RelV v u/\h1.IsCell q.2 (some u):=λ i q e=>by
  obtain ⟨v,o,e1,e2⟩:=hc.at_ i q e;obtain ⟨_,⟨u,ru,ic⟩,_⟩:=e0.hok _ _ e2;exact ⟨v,u,e1,ru,ic.keeps hk⟩
 have lk:∀y c,(cellsFrom (s.heap.objs.size+1) scope.names []++cl).lookup y=some c->(y,c)∈cellsFrom (s.heap.objs.size+1) scope.names []\/(y,c)∈cl:=λ y c e=>t1n.mp (t1f e);have abv:∀y c,(y,c)∈cellsFrom (s.heap.objs.size+1) scope.names []->s.heap.objs.size≤c:=λ y c e=>t3h (x.above y c e)
 refine ⟨⟨e0.mod,S.kind,rfl,rfl,t0n _,λ y z c h1 h2=>?_,λ y hy=>?_,λ y c hf h=>?_,λ _=>hd,t9u e0.frames,.inr ⟨rfl,rfl⟩,λ b z=>absurd z (noA b),λ b o e=>⟨(e0.bs b o e).1,z3p (e0.bs b o e).2⟩,e0.bsz,λ b _ _=>noA b,λ b z=>absurd z (noA b),e0.funs,λ b hb=>z3p (e0.frf b hb)⟩,
  rfl,e0.bare,Un.kept hk,⟨_,x.toInCall.ns,λ i y v h1 h2 h3=>?_⟩,λ y c h=>?_,(e0.hok.minC hc).fresh (t0n _),λ y c h=>?_,λ p hp=>absurd (show p∈([]:LO) from hp) (by simp),(e0.hok.minC hc).kept hk,?_⟩
 ·rcases lk y c h1 with m1 | m1<;>rcases lk z c h2 with m2 | m2
  ·exact t9d x.apart m1 m2
  ·exact absurd (abv y c m1) (Nat.not_le_of_lt (old _ m2))
  ·exact absurd (abv z c m2) (Nat.not_le_of_lt (old _ m1))
  ·exact t9d hc.apart m1 m2
 ·have hy:scope.names.lookup y=some .cell\/scope.names.lookup y=some .free:=hy
  rcases hy with hy | hy
  ·obtain ⟨c,e⟩:=z8j (n:=s.heap.objs.size+1) hy;exact ⟨c,by show List.lookup y (cellsFrom (s.heap.objs.size+1) scope.names []++cl)=some c;rw [z4q,e]⟩
  ·have hm:=S.has _ (t1f hy) rfl;have hm:y∈cl.map (·.1):=by rw [hcl];exact hm
   obtain ⟨q,hq,e⟩:=t2j.mp hm;have iss:(cl.lookup y).isSome=true:=y6a hq e;obtain ⟨c,ec⟩:=t2x.mp iss;have e1:(cellsFrom (s.heap.objs.size+1) scope.names []).lookup y=none:=z4b (S.own y (by rw [← hcl];exact hm));exact ⟨c,by show List.lookup y (cellsFrom (s.heap.objs.size+1) scope.names []++cl)=some c;rw [z4q,e1];exact ec⟩
 ·have hf:scope.names.lookup y=some .cell:=t1q hf;obtain ⟨c',e⟩:=z8j (n:=s.heap.objs.size+1) hf;have h:List.lookup y (cellsFrom (s.heap.objs.size+1) scope.names []++cl)=some c:=h;rw [z4q,e] at h;cases h;exact abv y _ (t1f e)
 ·have ha:=x8y h2;have hi:i < (vs++vcs).length:=(t0g.mp ha).1;have lv:(vs++vcs).length=(ps++fv).length:=by rw [t0o,t0o,hl,← hc.len,cll]
  have hp:(ps++fv)[i]?=some y:=by
   rw [← S.pre,t2a (by lia)];exact h1
  have ndA:(ps++fv).Nodup:=by rw [← S.pre];exact S.nd.sublist (List.take_sublist _ _)
  have ndP:ps.Nodup:=ndA.sublist (List.sublist_append_left _ _);by_cases hil:i < ps.length
  ·rw [t1b (by lia)] at ha;rw [t1b hil] at hp;obtain ⟨u,hu,rv⟩:=r.get ha;refine ⟨u,rv,?_⟩
   rcases S.par y (t0i hp) with k | k
   ·exact .inl ⟨k,y1m ndP hp hu k⟩
   ·obtain ⟨c,e⟩:=z8j (n:=s.heap.objs.size+1) k;refine .inr ⟨.inl k,c,by show List.lookup y (cellsFrom (s.heap.objs.size+1) scope.names []++cl)=some c;rw [z4q,e],?_⟩;have q:=x.cell y c e;rw [y1n ndP hp hu (by rw [k];decide)] at q;exact q
  ·rw [t0u (by lia),hl] at ha;rw [t0u (by lia)] at hp;have hm:=t0i hp;have hqc:(cl.map (·.1))[i - ps.length]?=some y:=by rw [hcl];exact hp
   rw [t0q] at hqc
   obtain ⟨q,eq,e1⟩:∃q,cl[i - ps.length]?=some q/\q.1=y:=by
    cases z:cl[i - ps.length]? with
    | none=>rw [z] at hqc;cases hqc
    | some q=>rw [z] at hqc;exact ⟨q,rfl,t1i hqc⟩
   obtain ⟨v',u,e2,ru,ic⟩:=celv _ q eq;rw [ha] at e2;cases e2;have ndF:(cl.map (·.1)).Nodup:=by rw [hcl];exact ndA.sublist (List.sublist_append_right _ _)
   have lkq:cl.lookup y=some q.2:=by rw [← e1];exact x6b ndF (t0i eq)
   have own0:(cellsFrom (s.heap.objs.size+1) scope.names []).lookup y=none:=z4b (S.own y hm);exact ⟨u,ru,.inr ⟨.inr (S.fre y hm),q.2,by show List.lookup y (cellsFrom (s.heap.objs.size+1) scope.names []++cl)=some q.2;rw [z4q,own0];exact lkq,ic⟩⟩
 ·rcases lk y c h with m | m
  ·have h:List.lookup y (cellsFrom (s.heap.objs.size+1) scope.names []++cl)=some c:=h;rw [z4q] at h
   cases e:(cellsFrom (s.heap.objs.size+1) scope.names []).lookup y with
   | some c2=>rw [e] at h;cases h;exact ⟨_,x.cell y _ e⟩
   | none =>
    rw [e] at h;obtain ⟨i,ei⟩:=t5k.mp (t1f h);obtain ⟨v,u,_,_,ic⟩:=celv i _ ei;exact ⟨_,ic⟩
  ·obtain ⟨i,ei⟩:=t5k.mp m;obtain ⟨v,u,_,_,ic⟩:=celv i _ ei;exact ⟨_,ic⟩
 ·rcases lk y c h with m | m
  ·exact (e0.hok.minC hc).fresh (abv y c m)
  ·exact z8x m
 ·unfold start;show _=N.length;have lv:(vs++vcs).length=(ps++fv).length:=by rw [t0o,t0o,hl,← hc.len,cll]
  rw [t0o,t0c,t5h];lia
noncomputable def w1u (P:Program) (w:World) (K:FG) (mg:SV) (base:Heap) (k:Nat) (fa:Addr) (vs:List V) (H:Hp) (Q:VK):Prop :=
 ∀(A:Around) (outer:List Env) (s:Shared) (us:LV),Room k A->Env0 P w K mg base A outer s H->Vals vs us->codeAny (model P w) A (.call (.ref fa) ⟨us,[]⟩) (CR CX0 outer P w H s Q λ _ _ _=>False) s
theorem z8y {K:FG}{qual:Str}{cl:LA}{vs vcs:List V}{H:Hp}{Q:VK}
  (S:LmScope N ps fv scope) (hcl:cl.map (·.1)=fv)
  (hb:∀(pm ctv:Value) (us:LV),us.length=ps.length->bindArgs (kla_fn "<lambda>" qual params body scope cl pm (.ref c') ctv) ⟨us,[]⟩=pure (ps.zip us)) (hl:vs.length=ps.length)
  (L1:H fa=some (x8k fa c' qual params body scope cl)) (L2:H c'=some (y4t c' qual)) (hc:CelAt H cl vcs)
  (hbody:∀(A:Around) (outer:List Env) (s:Shared),Room k (A.deeper (envX qual scope s.heap.objs.size fa (.ref c') (cellsFrom (s.heap.objs.size+1) scope.names []++cl)))->PE (y8j P w K mg base N qual scope fa (.ref c') cl A outer s (minC H cl)) body te)
  (hq:te (start N (vs++vcs)) (minC H cl) (λ v H'=>Q v (resC H H' cl))):w1u P w K mg base (k+1) fa vs H Q:=by
 intro A outer s us hr e0 r;obtain ⟨⟨pm,ctv,ho⟩,_⟩:=e0.hok fa _ L1;obtain ⟨hcd,_⟩:=e0.hok c' _ L2;have lim:s.heap.NoLimit:=e0.mod.nolimit.keeps λ b o e=>(e0.bs b o e).1
 have hkind:∀y∈ps.zip us,scope.names.lookup y.1=some .local\/(scope.names.lookup y.1=some .cell/\((cellsFrom (s.heap.objs.size+1) scope.names []).lookup y.1).isSome=true):=λ ⟨n,v⟩ hy=>by
  rcases S.par n (t6c hy).1 with q | q
  ·exact .inl q
  ·exact .inr ⟨q,t7f _ _ _ (.inl q)⟩
 refine kla_callFunE hr.depth ho rfl S.co S.gen rfl hcd ?_;rw [hb pm ctv us (by rw [← r.length];exact hl)];refine t0s (z7p S.kind hkind λ env he s1 x=>?_);subst he;refine ⟨lim.keeps x.toInCall.keep,kla_codeExpr ?_⟩;have I:Inv (y8j P w K mg base N qual scope fa (.ref c') cl A outer s (minC H cl)) [] (start N (vs++vcs)) (minC H cl) s1:=x6o S hr.hd e0 hl r hcl hc x;refine t2z (hbody A outer s (hr.deeper _) [] s1 _ _ _ I hq) (λ u s' hs=>?_) (λ e s' hs=>False.elim hs);obtain ⟨v,H',J,rv,q⟩:=hs;have un:Un (frs outer) [] (minC H cl) H' s.heap s'.heap:=J.base
 have nfr:∀q∈cl,q.2 ∉ frs outer:=λ q hq z=>by
  obtain ⟨o,v,e⟩:=hc.mem hq;rw [e0.frf _ z] at e;cases e
 have kc:∀q∈cl,∀o,s.heap.get? q.2=some o->s'.heap.get? q.2=some o/\H' q.2=none:=λ q hq o e=>⟨un.keep _ o e (z8x hq) (nfr q hq) (by simp),un.free _ o e (z8x hq) (by simp)⟩
 have there:∀q∈cl,∃o,s.heap.get? q.2=some o:=λ q hq=>by
  obtain ⟨o,v,e⟩:=hc.mem hq;exact ⟨o,(e0.hok _ _ e).1⟩
 have split:∀b,(∃q∈cl,q.2=b)\/∀q∈cl,q.2≠b:=λ b=>by
  by_cases c:∃q∈cl,q.2=b
  ·exact .inl c
  ·exact .inr λ q hq e=>c ⟨q,hq,e⟩
 refine ⟨v,resC H H' cl,J.os,J.bare,⟨λ b o e n hb hx=>un.keep b o e (z3p n) hb hx,λ b o e n hb hx=>un.slot b o e (z3p n) hb hx,λ b o e n hx=>?_,un.there,λ b xs e=>?_,λ b o u e=>?_,λ b ps e=>?_⟩,λ b o e=>?_,rv,q⟩
 ·rcases split b with ⟨q,hq,rfl⟩ | hn
  ·rw [z5w hq];exact n
  ·rw [z2r hn];exact un.free b o e (z3p n) hx
 ·rcases split b with ⟨q,hq,rfl⟩ | hn
  ·rw [z5w hq];exact e
  ·rw [z2r hn];exact un.tups b xs (by rw [z2n hn];exact e)
 ·rcases split b with ⟨q,hq,rfl⟩ | hn
  ·rw [z5w hq];exact e
  ·rw [z2r hn];exact un.frzs b o u (by rw [z2n hn];exact e)
 ·rcases split b with ⟨q,hq,rfl⟩ | hn
  ·obtain ⟨o,v,e2⟩:=hc.mem hq;rw [e] at e2;cases e2
  ·rw [z2r hn];exact un.tbls b ps (by rw [z2n hn];exact e)
 ·rcases split b with ⟨q,hq,rfl⟩ | hn
  ·rw [z5w hq] at e;obtain ⟨o2,v2,e2⟩:=hc.mem hq;rw [e] at e2;cases e2;obtain ⟨g1,⟨u2,ru,ic⟩,_,st⟩:=e0.hok _ _ e;have k1:=(kc q hq _ g1).1;refine ⟨k1,⟨u2,ru,?_⟩,⟨_,k1⟩,st⟩;obtain ⟨o3,e3,d3⟩:=ic;rw [g1] at e3;cases e3;exact ⟨_,k1,d3⟩
  ·rw [z2r hn] at e
   have nf:∀c u,H' c=some u->resC H H' cl c=some u:=λ c u e2=>by
    rcases split c with ⟨q,hq,rfl⟩ | hn
    ·obtain ⟨o,eo⟩:=there q hq;rw [(kc q hq o eo).2] at e2;cases e2
    ·rw [z2r hn];exact e2
   exact (J.hok b o e).stay (λ _ _ _ q=>q) (λ c q=>nf c _ q) λ c xs q=>nf c _ q
end L2
namespace L2
open PySem PySem.Spec PyProof.Rows PySem.W PySem.Calls
def FnV (H:Hp) (fa:Addr):Prop:=∃φ,H fa=some (.ext φ)/\∀h,φ h->FnAt fa h
theorem FnV.same {H H':Hp}(h:FnV H fa) (s:∀o,H fa=some o->H' fa=some o):FnV H' fa:=let ⟨φ,e,k⟩:=h;⟨φ,s _ e,k⟩
theorem FnV.lam {H:Hp}(h:H fa=some (x8k fa c' qual params body scope cl)):FnV H fa:=⟨_,h,λ _ ⟨_,_,e⟩=>⟨_,_,_,_,e⟩⟩
noncomputable def w3t (P:Program) (w:World) (K:FG) (mg:SV) (base:Heap) (k i:Nat) (t:TA):TE:=λ σ H Q=>∃fa,σ[i]?=some (some (.ref fa))/\FnV H fa/\t σ H λ vs H1=>FnV H1 fa/\w1u P w K mg base k fa vs H1 Q
section
variable {X:Cx}{k:Nat}{x:Str}{p pos:Pos}{e:Expr}{es:List Expr}{t:TA}
theorem w4i {i:Nat}(hr:Room k X.A) (hN:X.N[i]?=some x) (hv:Vis X.env.scope x) (ha:PA X (e::es) t) (hd:(x == ("__debug__" : Str))=false:=by decide) (hcd:(x == ("__classdict__" : Str))=false:=by decide)
  (he:starEach (e::es) X.env=(false,eval e X.env)::starEach es X.env:=by rfl) (hpl:(backTo pos (starEach es X.env)).any (·.1)=false:=by rfl) :
  PE X (.Call (.Name x p) (e::es) [] pos) (w3t X.prog X.w X.K X.mg X.base k i t):=by
 intro pins s σ H Q I h;obtain ⟨fa,es',fn,h⟩:=h;refine t4j (thn ((w3a (pos:=p) hN hv hd hcd) pins s σ H (λ v H1=>v=.ref fa/\H1=H) I (by unfold x8u;rw [es'];exact ⟨rfl,rfl⟩)) λ u s1 ⟨v,H1,I1,r1,e1,e2⟩=>?_);subst e1 e2;cases r1;have at1:∀ {H':Hp}{s':Shared},Inv X pins σ H' s'->FnV H' fa->FnAt fa s'.heap:=λ J ⟨φ,e,k⟩=>k _ (J.hok _ _ e).1;refine callWith_F (at1 I1 fn) (thn (ha pos pins s1 σ _ _ I1 h) λ us s2 ⟨vs,H2,I2,r2,fn2,cv⟩=>⟨at1 I2 fn2,?_⟩) he hpl;refine wpAny_call (t8g (cv X.A X.stack s2 us hr I2.env0 r2) λ r s' hq=>?_)
 cases r with
 | error e=>exact False.elim hq
 | ok fl =>
  cases fl with
  | ret u=>exact I2.after hq
  | next=>exact False.elim hq
  | brk=>exact False.elim hq
  | cont=>exact False.elim hq
end
def OwnCl (ec:LA) (fv:List Str) (cl:LA):Prop:=cl.map (·.1)=fv/\∀q∈cl,ec.lookup q.1=some q.2
theorem OwnCl.uniq:∀ {fv:List Str}{cl cl':LA},OwnCl ec fv cl->OwnCl ec fv cl'->cl=cl'
 | [],[],[],_,_=>rfl
 | [],_::_,_,h,_=>by cases h.1
 | [],[],_::_,_,h=>by cases h.1
 | _::_,[],_,h,_=>by cases h.1
 | _::_,_::_,[],_,h=>by cases h.1
 | n::fv,(a,c)::cl,(b,d)::cl',h,h'=>by
  have e1:a=n:=(t7q h.1).1;have e2:b=n:=(t7q h'.1).1;subst e1 e2;have l1:=h.2 (b,c) t0t;have l2:=h'.2 (b,d) t0t;rw [show ec.lookup b=some c from l1] at l2;cases l2;rw [OwnCl.uniq (fv:=fv) ⟨(t7q h.1).2,λ q hq=>h.2 q (t0d _ hq)⟩ ⟨(t7q h'.1).2,λ q hq=>h'.2 q (t0d _ hq)⟩]
noncomputable def TabOk (H:Hp) (T:Addr) (pos:Pos) (qual:Str):Prop:=∃ps,H T=some (.tbl ps)/\TriplesOk ps.toList/\(codeAmong pos ps.toList=none\/∃c',codeAmong pos ps.toList=some (.ref c')/\H c'=some (y4t c' qual))
theorem TabOk.same {H H':Hp}(h:TabOk H T pos qual) (s:∀a o,H a=some o->H' a=some o):TabOk H' T pos qual:=by
 obtain ⟨ps,e,t,z⟩:=h;exact ⟨ps,s _ _ e,t,z.imp id λ ⟨c',a,b⟩=>⟨c',a,s _ _ b⟩⟩
theorem z9b {c:Value}(l:LV) (h:TriplesOk l):TriplesOk (l++[rawInt a,rawInt b,c]):=by
 fun_induction TriplesOk l with
 | case1=>simp [TriplesOk,rawInt]
 | case2 i t j u v rest ih=>simpa [TriplesOk] using ih h
 | case3=>exact h.elim
structure TabF (base:Heap) (mg:SV) (c T:Addr):Prop where
 hd:CodeHd base c T
 none_:base.get? T=none
 blt:∃bm o,mg "__builtins__"=some (.ref bm)/\bm≠builtinsNs/\bm≠mainGlobals/\bm≠T/\base.get? bm=some o/\o.cls=.type "module" /\ o.dict=some builtinsNs/\o.data=.plain
 ne:mainGlobals≠T
noncomputable def v4h (ec:LA) (fv:List Str) (T:Addr) (pos:Pos) (qual:Str) (params:Arguments) (body:Expr) (scope:Scope):TE:=λ _ H Q=>TabOk H T pos qual /\
 ∀fa c' cl H2,OwnCl ec fv cl->H fa=none->H2 fa=some (x8k fa c' qual params body scope cl)->H2 c'=some (y4t c' qual)->TabOk H2 T pos qual->(∀b o,b≠T->H b=some o->H2 b=some o)->Q (.ref fa) H2
theorem z5f {h1 h2:Heap}(x:h1.CodeRec (.ref c) qual) (k:∀o,h1.get? c=some o->h2.get? c=some o):h2.CodeRec (.ref c) qual:=by
 obtain ⟨c',o,vs,t,e,ho,r⟩:=x;cases e;exact ⟨c,o,vs,t,rfl,k _ ho,r⟩
section
variable {X:Cx}{params:Arguments}{body:Expr}{scope:Scope}{pos:Pos}{fv:List Str}{c T:Addr}{cl:LA}
theorem y2z {qual:Str}(hq:X.env.qual ++ "<lambda>"=qual) (hcode:X.env.code=.ref c) (TF:TabF X.base X.mg c T) (hdef:defaultsOf params X.env=([],[])) (hcl:closureFor scope X.env=pure cl) (own:OwnCl X.env.cells fv cl) :
  PE X (.Lambda params body scope pos) (v4h X.env.cells fv T pos qual params body scope):=by
 intro pins s σ H Q I h;obtain ⟨⟨ps,hT,ht,hz⟩,h⟩:=h;subst hq;have eT:s.heap.get? T=some (tabObj ps):=I.hok _ _ hT;have hg:s.heap.Ns mainGlobals X.mg:=I.mod.glob.keeps I.bk;obtain ⟨bm,ob,b1,b2,b3,b4,b5,b6⟩:=TF.blt;have hb:s.heap.BuiltinsAt X.mg T:=⟨bm,ob,b1,b2,b3,b4,I.bk _ _ b5,b6⟩;have C:CodeHd s.heap c T:=TF.hd.keeps I.bk;refine kla_eval hdef ?_
 rcases hz with hnf | ⟨c',hf,hc'⟩
 ·refine kla_makeFunction hcl I.ok.glob hg hcode C eT ht hnf TF.ne hb λ c' ctv h' tk hx hge hlt hrec htb=>?_;have hfa:H h'.objs.size=none:=I.hok.fresh (t3h (t3k hge hlt));have hc0:H c'=none:=I.hok.fresh hge;have nTc:c'≠T:=λ z=>by rw [z,hT] at hc0;cases hc0
  have nTf:h'.objs.size≠T:=λ z=>by rw [z,hT] at hfa;cases hfa
  have ncf:c'≠h'.objs.size:=t1k hlt;have old:∀b o,b≠T->s.heap.get? b=some o->(h'.push (kla_obj "<lambda>" (X.env.qual ++ "<lambda>") params body scope cl ((X.mg "__name__").getD .none) c' ctv)).get? b=some o:=λ b o n e=>t0f _ (hx b o n e);have eP:(h'.push (kla_obj "<lambda>" (X.env.qual ++ "<lambda>") params body scope cl ((X.mg "__name__").getD .none) c' ctv)).get? T=some (tabObj (ps++#[rawInt pos.line,rawInt pos.col,.ref c'])):=t0f _ htb;have eF:(h'.push (kla_obj "<lambda>" (X.env.qual ++ "<lambda>") params body scope cl ((X.mg "__name__").getD .none) c' ctv)).get? h'.objs.size=some (kla_obj "<lambda>" (X.env.qual ++ "<lambda>") params body scope cl ((X.mg "__name__").getD .none) c' ctv):=t0r _ rfl;have eC:(h'.push (kla_obj "<lambda>" (X.env.qual ++ "<lambda>") params body scope cl ((X.mg "__name__").getD .none) c' ctv)).CodeRec (.ref c') (X.env.qual ++ "<lambda>"):=z5f hrec λ o e=>t0f _ e;generalize h'.push (kla_obj "<lambda>" (X.env.qual ++ "<lambda>") params body scope cl ((X.mg "__name__").getD .none) c' ctv)=h2 at *;generalize h'.objs.size=fa at *;have lowT:∀b o,s.heap.get? b=some o->b≠c'/\(H b=none->b≠T):=λ b o e=>⟨t1k (t1d (t0y e) hge),λ n z=>by rw [z,hT] at n;cases n⟩;have lowF:∀b o,s.heap.get? b=some o->b≠fa:=λ b o e=>t1k (s1o (t1d (t0y e) hge) hlt);have out:∀b,b≠T->b≠c'->b≠fa->upd (upd (upd H T (.tbl (ps++#[rawInt pos.line,rawInt pos.col,.ref c']))) c' (y4t c' (X.env.qual ++ "<lambda>"))) fa (x8k fa c' (X.env.qual ++ "<lambda>") params body scope cl) b=H b:=λ b n1 n2 n3=>by rw [z0u n3,z0u n2,z0u n1]
  have trk:∀b o,H b=some o->b≠c'/\b≠fa:=λ b o e=>⟨(λ z=>by rw [z,hc0] at e;cases e),(λ z=>by rw [z,hfa] at e;cases e)⟩;have HT:upd (upd (upd H T (.tbl (ps++#[rawInt pos.line,rawInt pos.col,.ref c']))) c' (y4t c' (X.env.qual ++ "<lambda>"))) fa (x8k fa c' (X.env.qual ++ "<lambda>") params body scope cl) T=some (.tbl (ps++#[rawInt pos.line,rawInt pos.col,.ref c'])):=by rw [z0u nTf.symm,z0u nTc.symm,z0d]
  have HC:upd (upd (upd H T (.tbl (ps++#[rawInt pos.line,rawInt pos.col,.ref c']))) c' (y4t c' (X.env.qual ++ "<lambda>"))) fa (x8k fa c' (X.env.qual ++ "<lambda>") params body scope cl) c'=some (y4t c' (X.env.qual ++ "<lambda>")):=by rw [z0u ncf,z0d]
  have HF:upd (upd (upd H T (.tbl (ps++#[rawInt pos.line,rawInt pos.col,.ref c']))) c' (y4t c' (X.env.qual ++ "<lambda>"))) fa (x8k fa c' (X.env.qual ++ "<lambda>") params body scope cl) fa=some (x8k fa c' (X.env.qual ++ "<lambda>") params body scope cl):=z0d;generalize upd (upd (upd H T (.tbl (ps++#[rawInt pos.line,rawInt pos.col,.ref c']))) c' (y4t c' (X.env.qual ++ "<lambda>"))) fa (x8k fa c' (X.env.qual ++ "<lambda>") params body scope cl)=H2 at *;have same:∀b o,b≠T->H b=some o->H2 b=some o:=λ b o n e=>by rw [out b n (trk b o e).1 (trk b o e).2];exact e
  have un:Un X.fs [] H H2 s.heap h2:=⟨λ b o e n _ _=>old b o ((lowT b o e).2 n) e,λ b o e n _ _=>⟨o.slots,old b o ((lowT b o e).2 n) e⟩,λ b o e n _=>by rw [out b ((lowT b o e).2 n) (lowT b o e).1 (lowF b o e)];exact n,λ b o e _=>by
   by_cases z:b=T
   ·rw [z];exact ⟨_,eP⟩
   ·exact ⟨o,old b o z e⟩,λ b xs e=>same b _ (λ z=>by rw [z,hT] at e;cases e) e,λ b o u e=>same b _ (λ z=>by rw [z,hT] at e;cases e) e,λ b qs e=>by
   by_cases z:b=T
   ·subst z;rw [hT] at e;cases e;exact ⟨_,HT⟩
   ·exact ⟨#[],by rw [same b _ z e];simp⟩⟩
  have hok:HOk X.prog X.w H2 h2:=λ b o e=>by
   by_cases zf:b=fa
   ·subst zf;rw [HF] at e;cases e;exact ⟨⟨_,_,eF⟩,⟨_,eF⟩,λ h1 h3 ⟨pm,cv,e1⟩ k=>⟨pm,cv,k _ e1⟩⟩
   ·by_cases zc:b=c'
    ·subst zc;rw [HC] at e;cases e;obtain ⟨c2,o2,vs2,t2,e2,ho2,r2⟩:=id eC;cases e2;exact ⟨eC,⟨_,ho2⟩,λ h1 h3 x k=>z5f x k⟩
    ·by_cases zT:b=T
     ·subst zT;rw [HT] at e;cases e;exact eP
     ·rw [out b zT zc zf] at e;refine (I.hok b o e).stay (λ d u hd q=>old d u (λ z=>?_) q) (λ d q=>same d _ (λ z=>by rw [z,hT] at q;cases q) q) λ d xs q=>same d _ (λ z=>by rw [z,hT] at q;cases q) q
      rcases hd with hd | hd
      ·exact zT (hd.symm.trans z)
      ·rw [z,hT] at hd;cases hd
  exact ⟨.ref fa,H2,I.un un hok,rfl,h fa c' cl H2 own hfa HF HC ⟨_,HT,by simpa using z9b ps.toList ht,.inr ⟨c',by simpa using codeAmong_snoc ps.toList ht hnf,HC⟩⟩ same⟩
 ·refine kla_makeFunctionHit hcl I.ok.glob hg hcode C eT ht hf hb λ ctv h' tk hx hsz=>?_;have hfa:H h'.objs.size=none:=I.hok.fresh hsz;have same:∀b o,H b=some o->upd H h'.objs.size (x8k h'.objs.size c' (X.env.qual ++ "<lambda>") params body scope cl) b=some o:=λ b o e=>by rw [z0u (z3j e hfa)];exact e
  refine ⟨.ref h'.objs.size,upd H h'.objs.size (x8k h'.objs.size c' (X.env.qual ++ "<lambda>") params body scope cl),I.laid (t':=tk) (λ b u e=>t0f _ (hx b u e)) hsz ?_,rfl,h _ c' cl _ own hfa z0d (same _ _ hc') ⟨ps,same _ _ hT,ht,.inr ⟨c',hf,same _ _ hc'⟩⟩ λ b o _ e=>same b o e⟩;exact ⟨⟨_,_,t0r _ rfl⟩,⟨_,t0r _ rfl⟩,λ h1 h3 ⟨pm,cv,e1⟩ k=>⟨pm,cv,k _ e1⟩⟩
end
end L2
namespace L2
open PySem PySem.Spec PyProof.Rows PySem.W PySem.Calls
noncomputable def addC (h:Heap) (H:Hp):LA->List V->Hp
 | q::cl,v::vs=>upd (addC h H cl vs) q.2 (.frz ((h.get? q.2).getD { cls:=.none,data:=.plain }) (v1e q.2 v))
 | _,_=>H
theorem x0v {b:Addr}:∀ {cl:LA}{vs:List V},(∀q∈cl,q.2≠b)->addC h H cl vs b=H b
 | [],_,_=>rfl
 | _::_,[],_=>rfl
 | q::cl,v::vs,n=>by
  show upd _ _ _ b=_;rw [z0u (t3z (n q t0t))];exact x0v λ q' hq=>n q' (t0d _ hq)
theorem x8h:∀ {cl:LA}{vs:List V},(cl.Pairwise λ x y=>x.2≠y.2)->cl.length=vs.length->∀(i:Nat) q,cl[i]?=some q->∃v,vs[i]?=some v/\addC h H cl vs q.2=some (.frz ((h.get? q.2).getD { cls:=.none,data:=.plain }) (v1e q.2 v))
 | [],_,_,_,i,q,e=>by simp at e
 | _::_,[],_,l,_,_,_=>by simp at l
 | a::cl,v::vs,pw,l,0,q,e=>by
  cases (t1i e);exact ⟨v,rfl,z0d⟩
 | a::cl,v::vs,pw,l,i+1,q,e=>by
  have e:cl[i]?=some q:=by simpa using e
  obtain ⟨u,e1,e2⟩:=x8h (t5d.mp pw).2 (by simpa using l) i q e;refine ⟨u,by simpa using e1,?_⟩;show upd _ _ _ _=_;rw [z0u (t3z ((t5d.mp pw).1 q (t0i e)))];exact e2
noncomputable def w7d (ec:LA) (fv:List Str) (js:List Nat) (sp:Sp) (t:TA):TE:=λ σ H Q=>t σ H λ vs H1=>∃vcs:List V,js.map (λ j=>σ[j]?)=vcs.map (λ v=>some (some v)) /\
 ∀cl H2,OwnCl ec fv cl->(∀q∈cl,H1 q.2=none)->CelAt H2 cl vcs->(∀b,(∀q∈cl,q.2≠b)->H2 b=H1 b)->sp vs H2 (λ v H'=>Q v (minC H' cl)) E0
section
variable {X:Cx}{k:Nat}{x:Str}{ps:List Str}{sp:Sp}{p pos:Pos}{e:Expr}{es:List Expr}{t:TA}{fv:List Str}{js:List Nat}{cl:LA}
theorem z5z (c:Callee X.prog X.w X.K X.mg X.base CX0 k x ps sp) (hr:Room k X.A) (hg:Gl X x) (own:OwnCl X.env.cells fv cl) (hj:js.map (λ j=>X.N[j]?)=fv.map some) (hk:∀n∈fv,X.env.scope.names.lookup n=some .cell) (hf:∀n∈fv,X.fn n=true) (nd:fv.Nodup)
  (ha:PA X (e::es) t) (hdb:(x == ("__debug__" : Str))=false:=by decide)
  (he:starEach (e::es) X.env=(false,eval e X.env)::starEach es X.env:=by rfl) (hpl:(backTo pos (starEach es X.env)).any (·.1)=false:=by rfl) :
  PE X (.Call (.Name x p) (e::es) [] pos) (w7d X.env.cells fv js sp t):=by
 obtain ⟨f,fd,F,hm,kp,hb⟩:=c.has;intro pins s0 σ H0 Q I0 h;refine t4j (y4k I0 hg hm ?_ hdb);refine W.callWith_K (h₀:=X.base) I0.ok.mod.kin kp (thn (ha pos pins s0 σ H0 _ I0 h) λ us s ⟨vs,H,I,r,vcs,hv,q⟩=>⟨I.kIn,?_⟩) he hpl;have mfv:∀q∈cl,q.1∈fv:=λ q hq=>by rw [← own.1];exact t2j.mpr ⟨q,hq,rfl⟩
 have free:∀q∈cl,H q.2=none:=λ q hq=>I.freeC q.1 q.2 (own.2 q hq)
 have apart:cl.Pairwise λ x y=>x.2≠y.2:=by
  have nd':(cl.map (·.1)).Nodup:=by rw [own.1];exact nd
  have ec:=own.2;clear own mfv free
  induction cl with
  | nil=>exact .nil
  | cons a r ih =>
   refine t5d.mpr ⟨λ y hy z=>?_,ih (t4b.mp nd').2 (λ q hq=>ec q (t0d _ hq))⟩;have:=I.ok.inj a.1 y.1 a.2 (ec a t0t) (by rw [z];exact ec y (t0d _ hy));exact (t4b.mp nd').1 (t2j.mpr ⟨y,hy,this.symm⟩)
 have lf:js.length=fv.length:=by have:=t3p List.length hj;simpa using this
 have lv:js.length=vcs.length:=by have:=t3p List.length hv;simpa using this
 have lc:cl.length=fv.length:=by rw [← own.1,t0c]
 have l:cl.length=vcs.length:=by rw [lc,← lf,lv]
 have holds:∀(i:Nat) q,cl[i]?=some q->∃v u,vcs[i]?=some v/\RelV v u/\s.heap.IsCell q.2 (some u):=λ i q e=>by
  have il:i < cl.length:=(t0g.mp e).1;have ej:=t0e (l:=js) (i:=i) (by lia);have ev:=t0e (l:=vcs) (i:=i) (by lia)
  have en:X.N[js[i]'(by lia)]?=some q.1:=by
   have z:=t3p (λ l=>l[i]?) hj;simp only [t0q,ej,Option.map_some] at z;have y:fv[i]?=some q.1:=by rw [← own.1,t0q,e];rfl
   rw [y] at z;exact t1i z
  have eσ:σ[js[i]'(by lia)]?=some (some (vcs[i]'(by lia))):=by
   have z:=t3p (λ l=>l[i]?) hv;simp only [t0q,ej,ev,Option.map_some] at z;exact t1i z
  obtain ⟨m,_,lo⟩:=I.loc;have kq:=hk q.1 (mfv q (t0i e));obtain ⟨u,ru,lk⟩:=lo _ _ _ en eσ (.inr (.inl kq));refine ⟨_,u,ev,ru,?_⟩
  rcases lk with ⟨k1,_⟩ | ⟨_,c,ec,ic⟩
  ·have k1:X.env.scope.names.lookup q.1=some .local:=k1;rw [kq] at k1;cases k1
  ·rw [own.2 q (t0i e)] at ec;cases ec;exact ic
 have hat:=x8h (h:=s.heap) (H:=H) apart l;have hC:CelAt (addC s.heap H cl vcs) cl vcs:=⟨l,λ i q e=>let ⟨v,e1,e2⟩:=hat i q e;⟨v,_,e1,e2⟩,apart⟩;have hout:∀b,(∀q∈cl,q.2≠b)->addC s.heap H cl vcs b=H b:=λ b n=>x0v n
 have split:∀b,(∃q∈cl,q.2=b)\/∀q∈cl,q.2≠b:=λ b=>by
  by_cases c:∃q∈cl,q.2=b
  ·exact .inl c
  ·exact .inr λ q hq e=>c ⟨q,hq,e⟩
 have gobj:∀q∈cl,∃o v,addC s.heap H cl vcs q.2=some (.frz o (v1e q.2 v))/\s.heap.get? q.2=some o/\∃u,RelV v u/\s.heap.IsCell q.2 (some u):=λ q hq=>by
  obtain ⟨i,e⟩:=t5k.mp hq;obtain ⟨v,e1,e2⟩:=hat i q e;obtain ⟨v',u,e3,ru,ic⟩:=holds i q e;rw [e1] at e3;cases e3;obtain ⟨o,eo,d⟩:=id ic;rw [eo] at e2;exact ⟨o,v,e2,eo,u,ru,ic⟩
 have trk:∀b o,H b=some o->addC s.heap H cl vcs b=some o:=λ b o e=>by
  rw [hout b λ q hq z=>by rw [← z,free q hq] at e;cases e];exact e
 have hok:HOk X.prog X.w (addC s.heap H cl vcs) s.heap:=λ b o e=>by
  rcases split b with ⟨q,hq,rfl⟩ | hn
  ·obtain ⟨o',v,e1,eo,u,ru,ic⟩:=gobj q hq;rw [e1] at e;cases e;exact ⟨eo,⟨u,ru,ic⟩,⟨_,eo⟩,λ h1 h2 ⟨u,ru,o2,e2,d2⟩ k=>⟨u,ru,o2,k _ e2,d2⟩⟩
  ·rw [hout b hn] at e;exact (I.hok b o e).stay (λ _ _ _ z=>z) (λ d z=>trk d _ z) λ d xs z=>trk d _ z
 have abv:∀q∈cl,X.s₀.heap.objs.size≤q.2:=λ q hq=>I.ok.cab q.1 q.2 (hf q.1 (mfv q hq)) (own.2 q hq)
 have nfr:∀b∈frs X.stack,∀q∈cl,q.2≠b:=λ b hb q hq z=>by
  rcases t1a.mp (I.stkSub b hb) with y | y
  ·exact I.cne q.1 q.2 (own.2 q hq) (z.trans y)
  ·obtain ⟨_,o,eo,_⟩:=I.ok.funs.mem y;have:=t0y eo;rw [← z] at this;exact absurd this (Nat.not_lt_of_le (abv q hq))
 have e0:Env0 X.prog X.w X.K X.mg X.base X.A X.stack s (addC s.heap H cl vcs):=by
  have b0:=I.env0;refine ⟨b0.frames,b0.mod,λ b o e=>⟨(b0.bs b o e).1,?_⟩,b0.bsz,b0.funs,λ b hb=>?_,hok,b0.bare⟩
  ·rw [hout b λ q hq z=>?_]
   ·exact (b0.bs b o e).2
   ·have:=t0y e;rw [← z] at this;exact absurd (t1d this I.ok.bsz) (Nat.not_lt_of_le (abv q hq))
  ·rw [hout b (nfr b hb)];exact b0.frf b hb
 have hl:us.length=ps.length:=by rw [← r.length];exact F.len _ _ _ _ (q cl _ own free hC hout)
 have hb':=hb s us I.kIn (by simpa using hl);rw [t0a] at hb';refine wpAny_call (t8g (F.run X.A X.stack s (addC s.heap H cl vcs) ⟨us,[]⟩ us vs _ E0 hr e0 hb' r (q cl _ own free hC hout)) λ r s' hq=>?_)
 cases r with
 | error e=>exact False.elim hq
 | ok fl =>
  cases fl with
  | next=>exact False.elim hq
  | brk=>exact False.elim hq
  | cont=>exact False.elim hq
  | ret u =>
   obtain ⟨v,H',os,bare,un,hok',rv,q'⟩:=hq;have hC':CelAt H' cl vcs:=⟨l,λ i q e=>let ⟨v,o,e1,e2⟩:=hC.at_ i q e;⟨v,o,e1,un.frzs _ _ _ e2⟩,apart⟩;obtain ⟨hh,gg,dd,tt,os'⟩:=s';obtain rfl:os'=s.os:=os
   have un2:Un (frs X.stack) [] H (minC H' cl) s.heap hh:=by
    refine ⟨λ b o e n hb hx=>?_,λ b o e n hb hx=>?_,λ b o e n hx=>?_,un.there,λ b xs e=>?_,λ b o u e=>?_,λ b qs e=>?_⟩
    ·rcases split b with ⟨q,hq,rfl⟩ | hn
     ·obtain ⟨o',v',e1,eo,_⟩:=gobj q hq;rw [e] at eo;cases eo;exact (hok' _ _ (un.frzs _ _ _ e1)).1
     ·exact un.keep b o e (by rw [hout b hn];exact n) hb hx
    ·exact un.slot b o e (by rw [hout b (nfr b hb)];exact n) hb hx
    ·rcases split b with ⟨q,hq,rfl⟩ | hn
     ·exact z8x hq
     ·exact z3p (un.free b o e (by rw [hout b hn];exact n) hx)
    ·have hn:∀q∈cl,q.2≠b:=λ q hq z=>by rw [← z,free q hq] at e;cases e
     rw [z2n hn];exact un.tups b xs (trk b _ e)
    ·have hn:∀q∈cl,q.2≠b:=λ q hq z=>by rw [← z,free q hq] at e;cases e
     rw [z2n hn];exact un.frzs b o u (trk b _ e)
    ·have hn:∀q∈cl,q.2≠b:=λ q hq z=>by rw [← z,free q hq] at e;cases e
     rw [z2n hn];exact un.tbls b qs (trk b _ e)
   exact ⟨v,minC H' cl,I.call (h':=hh) (g':=gg) (d':=dd) (t':=tt) (ch:=[]) un2 (hok'.minC hC') bare (λ b z=>absurd z (by simp)),rv,q'⟩
end
theorem Fun.okT {K:FG}{st:Stmt}{sp:Sp}(F:Fun K x qual st f fd) (hcd:fd.code=.ref c) (S:FnScope N ps (z0h st)) (len:∀vs H Q E,sp vs H Q E->vs.length=ps.length)
  (hbody:∀(A:Around) (outer:List Env) (s:Shared) (H:Hp) (vs:List V) (Q:VK) (E:XK),Room k (A.deeper (envOfC qual (z0h st) s.heap.objs.size f (.ref c)))->sp vs H Q E ->
   ∃t,PSs (y6i CX0 P w K mg base N qual (z0h st) f (.ref c) A outer s H E).nox (z1v st) t/\t { nx:=λ _ H'=>Q .non H',rt:=Q } (start N vs) H):FnOk P w K mg base CX0 (k+1) f fd ps sp:=by
 obtain ⟨oc,od,kV,doc,pm,an,cdv,ct,osl,rfl,lk,hc⟩:=F.ex;obtain rfl:cdv=.ref c:=hcd;refine v0q lk hc S len λ A outer s H vs Q E hr hsp=>?_;obtain ⟨t,h,q⟩:=hbody A outer s H vs Q E hr hsp;exact ⟨t,h.nox,q⟩
end L2
namespace L2
open PySem PySem.Spec PyProof.Rows PySem.W PySem.Calls
theorem x6h {K:FG}{mg mb:SV}{fa a:Addr}{x:Str}{s₁:Shared}{vs:LV}(tbs:List (Addr × Addr))
  (hT:TabsAt tbs s₁.heap) (hK0:noTabs K=true) (hbm:∃bm ob,mg "__builtins__"=some (.ref bm)/\bm≠builtinsNs/\s₁.heap.get? bm=some ob/\ob.cls=.type "module" /\ ob.dict=some builtinsNs/\ob.data=.plain)
  (KX:K.In s₁.heap) (hns:s₁.heap.Ns mainGlobals mg) (hb:s₁.heap.Ns builtinsNs mb) (hbb:∀x:Str,x ≠ "__name__" -> mb x=bootBuiltins x) (hlim:s₁.heap.NoLimit) (hg:s₁.gens=#[])
  (ha:s₁.heap.get? a=some { cls:=.type "list",data:=.seq vs.toArray }) (hi:IntsAre vs ns) (hl:ns.length≤sizeLine) (hr:Room k callerA)
  (F:∀base:Heap,K.In base->base.Ns mainGlobals mg->(∀q∈tbs,TabF base mg q.1 q.2)->FnOk P w K mg base CX k fa fd [x] sp) (hbind:∀(s:Shared) (u:Value),BindsTo s fd ⟨[u],[]⟩ [(x,u)])
  (hsp:∀H:Hp,(∀q∈tbs,H q.2=some (.tbl #[]))->SqL K H a (ns.map V.int)->sp [.ref a] H (λ v _=>v=.bl true) λ _ _ _=>False)
  (hCX:∀H e s',CX [] H s₁ (λ _ _ _=>False) e s'->False) :
  codeAny (model P w) callerA (.call (.ref fa) ⟨[.ref a],[]⟩) (λ r s'=>r=.ok (.ret (.bool true))/\OldK s₁.heap s'.heap/\s'.os=s₁.os/\AllBare s'.gens) s₁:=by
 have rv:=y0n hi;have lenV:=hi.length;have tab:∀q∈tbs,s₁.heap.get? q.2=some (tabObj #[]):=λ q hq=>(hT q hq).2
 have naT:∀q∈tbs,q.2≠a:=λ q hq z=>by
  have e:=tab q hq;rw [z,ha] at e;cases e
 have kT:∀q∈tbs,K.lookup q.2=none:=λ q hq=>by
  cases e:K.lookup q.2 with
  | none=>rfl
  | some o =>
   have e1:=KX _ _ e;rw [tab q hq] at e1;have h2:=t5r.mp hK0 (q.2,o) (mem_of_lookupK e);cases e1;exact absurd (show false=true from h2) t1e
 have core:∀H:Hp,(∀q∈tbs,H q.2=some (.tbl #[]))->(∀b,H b=none\/(∃o xs,H b=some (.frz o (.lst xs)))\/∃q∈tbs,q.2=b)->SqL K H a (ns.map V.int)->HOk P w H s₁.heap->(∀b,H b≠none->b=a\/∃q∈tbs,q.2=b)->(H a≠none->K.lookup a=none) ->
   codeAny (model P w) callerA (.call (.ref fa) ⟨[.ref a],[]⟩) (λ r s'=>r=.ok (.ret (.bool true))/\OldK s₁.heap s'.heap/\s'.os=s₁.os/\AllBare s'.gens) s₁:=by
  intro H hH hO hS hok hA hK;have base_of:∀ {b:Addr}{o:Obj},s₁.heap.get? b=some o->H b=none->(x6t s₁.heap H).get? b=some o:=λ e n=>w0t e n
  have noA:∀ {b:Addr}{o:Obj},s₁.heap.get? b=some o->o≠{ cls:=.type "list",data:=.seq vs.toArray }->o≠tabObj #[]->H b=none:=λ {b o} e n1 n2=>by
   cases q:H b with
   | none=>rfl
   | some u =>
    rcases hA b (by rw [q];simp) with z | ⟨p,hp,z⟩
    ·subst z;rw [ha] at e;cases e;exact absurd rfl n1
    ·subst z;rw [tab p hp] at e;cases e;exact absurd rfl n2
  have nsK:∀ {b:Addr}{m:SV},s₁.heap.Ns b m->(x6t s₁.heap H).Ns b m:=λ {b m} ⟨o,es,ep,e,d,r⟩=>⟨o,es,ep,base_of e (noA e (λ z=>by rw [z] at d;cases d) (λ z=>by rw [z] at d;cases d)),d,r⟩
  have hKb:K.In (x6t s₁.heap H):=λ b o e=>base_of (KX b o e) (by
   cases q:H b with
   | none=>rfl
   | some u =>
    rcases hA b (by rw [q];simp) with z | ⟨p,hp,z⟩
    ·subst z;rw [hK (by rw [q];simp)] at e;cases e
    ·subst z;rw [kT p hp] at e;cases e)
  have hM:Mod K mg (x6t s₁.heap H):=⟨hKb,nsK hns,⟨mb,nsK hb,hbb⟩,let ⟨mc,h1,h2⟩:=hlim;⟨mc,nsK h1,h2⟩⟩;have e0:Env0 P w K mg (x6t s₁.heap H) callerA [] s₁ H:=⟨rfl,hM,λ b o e=>x5s e,s1p (x6s _ _),trivial,λ b hb=>absurd (show b∈([]:List Addr) from hb) (by simp),hok,.of_eq hg⟩
  have tf:∀q∈tbs,TabF (x6t s₁.heap H) mg q.1 q.2:=λ q hq=>by
   obtain ⟨o,vs',file,tf,flags,tg,inF,text,tt,e1,r1,r2⟩:=(hT q hq).1;obtain ⟨bm,ob,b1,b2,b3,b4,b5,b6⟩:=hbm;have bmT:bm≠q.2:=λ z=>by rw [z,tab q hq] at b3;cases b3;cases b4
   have bmG:bm≠mainGlobals:=λ z=>by
    obtain ⟨o,es,ep,e,d,_⟩:=hns;rw [← z,b3] at e;cases e;rw [b6] at d;cases d
   have gT:mainGlobals≠q.2:=λ z=>by
    obtain ⟨o,es,ep,e,d,_⟩:=hns;rw [z,tab q hq] at e;cases e;cases d
   refine ⟨⟨o,vs',file,tf,flags,tg,inF,text,tt,base_of e1 (noA e1 (λ z=>by rw [z] at r1;exact absurd (show Value.type "list"=Value.type "code" from r1) (by decide)) (λ z=>by rw [z] at r1;cases r1)),r1,r2⟩,?_,⟨bm,ob,b1,b2,bmG,bmT,base_of b3 (noA b3 (λ z=>by rw [z] at b4;exact absurd (show Value.type "list"=Value.type "module" from b4) (by decide)) (λ z=>by rw [z] at b4;cases b4)),b4,b5,b6⟩,gT⟩
   cases e:(x6t s₁.heap H).get? q.2 with
   | none=>rfl
   | some o=>have:=(x5s e).2;rw [hH q hq] at this;cases this
  refine t8g ((F _ hKb (nsK hns) tf).run callerA [] s₁ H ⟨[.ref a],[]⟩ [.ref a] [.ref a] _ _ hr e0 (hbind s₁ (.ref a)) (.cons rfl .nil) (hsp H hH hS)) λ r s' h=>?_
  cases r with
  | error e=>exact (hCX H e s' h).elim
  | ok fl =>
   cases fl with
   | next=>exact False.elim h
   | brk=>exact False.elim h
   | cont=>exact False.elim h
   | ret u =>
    obtain ⟨v,H',os,bare,un,hok',r',q⟩:=h;have q':v=.bl true:=q;subst q';obtain rfl:u=Value.bool true:=r';refine ⟨rfl,⟨λ b o e=>?_,λ b o e=>un.there b o e (by simp)⟩,os,bare⟩
    rcases hO b with z | ⟨ob,xs,z⟩ | ⟨p,hp,z⟩
    ·exact .inl (un.keep b o e z (by intro z;exact absurd (show b∈([]:List Addr) from z) (by simp)) (by simp))
    ·have z2:=un.frzs b ob _ z;obtain ⟨e1,_⟩:=hok b _ z;obtain ⟨e2,_⟩:=hok' b _ z2;rw [e] at e1;cases e1;exact .inl e2
    ·subst z;obtain ⟨more,z2⟩:=un.tbls p.2 #[] (hH p hp);have e2:s'.heap.get? p.2=some (tabObj (#[]++more)):=hok' _ _ z2;have e1:=tab p hp;rw [e] at e1;cases e1;obtain ⟨o,vs',file,tf,flags,tg,inF,text,tt,c1,c2,c3,c4,_⟩:=(hT p hp).1;exact .inr (.inl ⟨⟨p.1,o,vs',c1,c2,c3,c4⟩,rfl,#[],more,rfl,e2⟩)
 have withT:∀H:Hp,(∀b,H b=none\/∃o xs,H b=some (.frz o (.lst xs)))->SqL K H a (ns.map V.int)->HOk P w H s₁.heap->(∀b,H b≠none->b=a)->(H a≠none->K.lookup a=none) ->
   codeAny (model P w) callerA (.call (.ref fa) ⟨[.ref a],[]⟩) (λ r s'=>r=.ok (.ret (.bool true))/\OldK s₁.heap s'.heap/\s'.os=s₁.os/\AllBare s'.gens) s₁:=by
  intro H hO hS hok hA hK;have inT:∀q∈tbs,(λ b=>if (tbs.any λ q=>q.2 == b)=true then some (HO.tbl #[]) else H b) q.2=some (.tbl #[]):=λ q hq=>if_pos (List.any_eq_true.mpr ⟨q,hq,by simp⟩)
  have split:∀b,(∃q∈tbs,q.2=b)\/(λ b=>if (tbs.any λ q=>q.2 == b)=true then some (HO.tbl #[]) else H b) b=H b:=λ b=>by
   by_cases c:(tbs.any λ q=>q.2 == b)=true
   ·obtain ⟨q,hq,e⟩:=List.any_eq_true.mp c;exact .inl ⟨q,hq,t7v e⟩
   ·exact .inr (if_neg c)
  have aT:(λ b=>if (tbs.any λ q=>q.2 == b)=true then some (HO.tbl #[]) else H b) a=H a:=by
   rcases split a with ⟨q,hq,z⟩ | z
   ·exact absurd z (naT q hq)
   ·exact z
  generalize (λ b=>if (tbs.any λ q=>q.2 == b)=true then some (HO.tbl #[]) else H b)=G at *
  have noneT:∀q∈tbs,H q.2=none:=λ q hq=>by
   cases e:H q.2 with
   | none=>rfl
   | some u=>exact absurd (hA q.2 (by rw [e];simp)) (naT q hq)
  refine core G inT (λ b=>?_) ?_ (λ b o e=>?_) (λ b n=>?_) (λ n=>hK (by rw [← aT];exact n))
  ·rcases split b with z | z
   ·exact .inr (.inr z)
   ·rw [z];rcases hO b with y | y
    ·exact .inl y
    ·exact .inr (.inl y)
  ·rcases hS with (z | ⟨o,z⟩) | z
   ·exact .inl (.inl (by rw [aT];exact z))
   ·exact .inl (.inr ⟨o,by rw [aT];exact z⟩)
   ·exact .inr z
  ·rcases split b with ⟨q,hq,z⟩ | z
   ·subst z;rw [inT q hq] at e;cases e;exact tab q hq
   ·rw [z] at e
    rcases hO b with y | ⟨ob,xs,y⟩
    ·rw [y] at e;cases e
    ·rw [y] at e;cases e;obtain ⟨e1,l,its,n,r,e2⟩:=hok b _ y;exact ⟨e1,l,its,n,r,e2⟩
  ·rcases split b with z | z
   ·exact .inr z
   ·rw [z] at n;exact .inl (hA b n)
 cases hk:K.lookup a with
 | some o =>
  have e:=KX a o hk;rw [ha] at e;cases e;refine withT (λ _=>none) (λ _=>.inl rfl) (.inr ⟨_,vs.toArray,_,hk,rfl,rfl,rfl,by rw [t0z,lenV];exact hl,by simpa using rv⟩) (λ b u z=>by have z':(none:Option HO)=some u:=z;cases z') (λ b z=>absurd rfl z) λ z=>absurd rfl z
 | none =>
  refine withT (λ b=>if b=a then some (.frz { cls:=.type "list",data:=.seq vs.toArray } (.lst (ns.map V.int))) else none) (λ b=>?_) (.inl (.inr ⟨{ cls:=.type "list",data:=.seq vs.toArray },if_pos rfl⟩)) (λ b u z=>?_) (λ b z=>?_) λ _=>hk
  ·by_cases hb:b=a
   ·exact .inr ⟨_,_,if_pos hb⟩
   ·exact .inl (if_neg hb)
  ·by_cases hb:b=a
   ·have z':=(if_pos hb).symm.trans z;cases z';subst hb;exact ⟨ha,by rw [t0c];exact hl,vs,_,rv,ha⟩
   ·have z':=(if_neg hb).symm.trans z;cases z'
  ·by_cases hb:b=a
   ·exact hb
   ·exact absurd (if_neg hb) z
theorem x8s {K:FG}{oc oc2:Value}{od od2:OA}{fd:FuncData}{sl sl2:AV}(h1:nsIn K mainGlobals x=some (some (.ref f))) (h2:K.lookup f=some ⟨oc,od,.func fd,sl⟩) (h3:fd.code=.ref c) (h4:K.lookup c=some ⟨oc2,od2,.fields vs,sl2⟩) (h5:vs[11]?=some (.ref T)):tabIn K x=some (c,T):=by
 unfold tabIn;simp only [h1,h2,h3,h4,h5]
theorem walk_ofT {l:W.OpenLaw}{YP:World->Heap->Prop}{d:DefRec}{K:Params->FG}{CX:World->CXT}{sp:World->List Addr->Sp}{x:Str}
  (hn:l.most=some n) (hn2:n≤sizeLine) (hdf:d.params.defaults=[]) (hr:Room k callerA)
  (hY:∀(w:World) (h:Heap),YP w h->(K w.params).In h) (hK0:∀w:World,noTabs (K w.params)=true)
  (F:∀(w:World) (mg:SV) (fa:Addr) (h:Heap),(K w.params).In h->h.Ns mainGlobals mg->mg d.name=some (.ref fa) ->
   ∃(fd:FuncData) (tbs:List (Str × Addr × Addr)),(∀p∈tbs,tabIn (K w.params) p.1=some p.2/\((recsOf q).find? λ e=>e.name == p.1).isSome=true)/\(∀(s:Shared) (u:Value),BindsTo s fd ⟨[u],[]⟩ [(x,u)]) /\
    ∀base:Heap,(K w.params).In base->base.Ns mainGlobals mg->(∀p∈tbs,TabF base mg p.2.1 p.2.2)->FnOk l.prog w (K w.params) mg base (CX w) k fa fd [x] (sp w (tbs.map λ p=>p.2.2)))
  (hsp:∀(w:World) (H:Hp) (a:Addr) (ns:LI) (ts:List Addr),ns.length≤n->(∀T∈ts,H T=some (.tbl #[]))->SqL (K w.params) H a (ns.map V.int)->sp w ts [.ref a] H (λ v _=>v=.bl true) λ _ _ _=>False)
  (hCX:∀(w:World) (H:Hp) (s:Shared) (e:Value) (s':Shared),CX w [] H s (λ _ _ _=>False) e s'->False) :
  W.WalkO q loose XP YP l.row.toRowW d [] (λ f vs=>PySem.call f vs):=by
 refine Att.attach_call hn hdf λ w s₀ s₁ mg mb fa o pm cd doc a vs ns G Y ho hd hcd hmg hobj hints hlen hg=>?_;have KX:=hY w _ Y;obtain ⟨fd,tbs,ht,hb,hF⟩:=F w mg fa _ KX G.T.g hmg
 have hT:TabsAt (tbs.map (·.2)) s₁.heap:=λ p hp=>by
  obtain ⟨t,htm,rfl⟩:=t2j.mp hp;obtain ⟨h1,h2⟩:=ht t htm;obtain ⟨d',hd'⟩:=t2x.mp h2;exact tab_of G.T KX hd' (show tabIn (K w.params) t.1=some (t.2.1,t.2.2) from h1)
 refine x6h (tbs.map (·.2)) hT (hK0 w) G.T.bmain KX G.T.g G.T.b G.T.builtins G.T.nolimit hg hobj hints (t2u hlen hn2) hr (λ base kb nb tf=>hF base kb nb λ p hp=>tf p.2 (t2j.mpr ⟨p,hp,rfl⟩)) hb (λ H hH hS=>hsp w H a ns _ hlen (λ T hT=>?_) hS) λ H e s'=>hCX w H s₁ e s';obtain ⟨t,htm,rfl⟩:=t2j.mp hT;exact hH t.2 (t2j.mpr ⟨t,htm,rfl⟩)
end L2
namespace L2
open PySem PySem.Spec PyProof.Rows PySem.W PySem.Calls
noncomputable def x2a (fa c':Addr) (name qual:Str) (params:Arguments) (body:List Stmt) (scope:Scope) (cl:LA):HO:=.ext λ h=>∃doc pm ctv,h.get? fa=some (fnMade name qual params body scope cl doc pm c' ctv)
theorem FnV.dfn {H:Hp}(h:H fa=some (x2a fa c' name qual params body scope cl)):FnV H fa:=⟨_,h,λ _ ⟨_,_,_,e⟩=>⟨_,_,_,_,e⟩⟩
theorem y8i {K:FG}{cl:LA}{vs vcs:List V}{H:Hp}{Q:VK}
  (S:LmScope N ps fv scope) (hcl:cl.map (·.1)=fv)
  (hb:∀(doc pm ctv:Value) (us:LV),us.length=ps.length->bindArgs (fnX name qual params body scope cl .none .none doc pm none (.ref c') ctv) ⟨us,[]⟩=pure (ps.zip us)) (hl:vs.length=ps.length)
  (L1:H fa=some (x2a fa c' name qual params body scope cl)) (L2:H c'=some (y4t c' qual)) (hc:CelAt H cl vcs)
  (hbody:∀(A:Around) (outer:List Env) (s:Shared),Room k (A.deeper (envX qual scope s.heap.objs.size fa (.ref c') (cellsFrom (s.heap.objs.size+1) scope.names []++cl)))->PSs (y8j P w K mg base N qual scope fa (.ref c') cl A outer s (minC H cl)) body ts)
  (hq:ts { nx:=λ _ H'=>Q .non (resC H H' cl),rt:=λ v H'=>Q v (resC H H' cl) } (start N (vs++vcs)) (minC H cl)):w1u P w K mg base (k+1) fa vs H Q:=by
 intro A outer s us hr e0 r;obtain ⟨⟨doc,pm,ctv,ho⟩,_⟩:=e0.hok fa _ L1;obtain ⟨hcd,_⟩:=e0.hok c' _ L2;have lim:s.heap.NoLimit:=e0.mod.nolimit.keeps λ b o e=>(e0.bs b o e).1
 have hkind:∀y∈ps.zip us,scope.names.lookup y.1=some .local\/(scope.names.lookup y.1=some .cell/\((cellsFrom (s.heap.objs.size+1) scope.names []).lookup y.1).isSome=true):=λ ⟨n,v⟩ hy=>by
  rcases S.par n (t6c hy).1 with q | q
  ·exact .inl q
  ·exact .inr ⟨q,t7f _ _ _ (.inl q)⟩
 refine t9e hr.depth ho rfl S.co S.gen rfl hcd ?_;rw [hb doc pm ctv us (by rw [← r.length];exact hl)];refine t0s (z7p S.kind hkind λ env he s1 x=>?_);subst he;refine ⟨lim.keeps x.toInCall.keep,codeAny_func ?_⟩;have I:Inv (y8j P w K mg base N qual scope fa (.ref c') cl A outer s (minC H cl)) [] (start N (vs++vcs)) (minC H cl) s1:=x6o S hr.hd e0 hl r hcl hc x;refine t2z (hbody A outer s (hr.deeper _) [] s1 _ _ _ I hq) (λ fl s' hs=>?_) (λ e s' hs=>False.elim hs);have fin:∀ {v:V}{u:Value}{σ':St}{H':Hp},Inv (y8j P w K mg base N qual scope fa (.ref c') cl A outer s (minC H cl)) [] σ' H' s'->RelV v u->Q v (resC H H' cl)->CE outer P w H s Q u s':=?_
 ·cases fl with
  | ret u =>
   obtain ⟨v,σ',H',J,rv,q⟩:=hs;exact fin J rv q
  | next =>
   obtain ⟨σ',H',J,q⟩:=hs;exact fin (v:=V.non) (u:=Value.none) J rfl q
  | brk=>obtain ⟨_,_,_,q⟩:=hs;exact False.elim q
  | cont=>obtain ⟨_,_,_,q⟩:=hs;exact False.elim q
 intro v u σ' H' J rv q;have un:Un (frs outer) [] (minC H cl) H' s.heap s'.heap:=J.base
 have nfr:∀q∈cl,q.2 ∉ frs outer:=λ q hq z=>by
  obtain ⟨o,v,e⟩:=hc.mem hq;rw [e0.frf _ z] at e;cases e
 have kc:∀q∈cl,∀o,s.heap.get? q.2=some o->s'.heap.get? q.2=some o/\H' q.2=none:=λ q hq o e=>⟨un.keep _ o e (z8x hq) (nfr q hq) (by simp),un.free _ o e (z8x hq) (by simp)⟩
 have there:∀q∈cl,∃o,s.heap.get? q.2=some o:=λ q hq=>by
  obtain ⟨o,v,e⟩:=hc.mem hq;exact ⟨o,(e0.hok _ _ e).1⟩
 have split:∀b,(∃q∈cl,q.2=b)\/∀q∈cl,q.2≠b:=λ b=>by
  by_cases c:∃q∈cl,q.2=b
  ·exact .inl c
  ·exact .inr λ q hq e=>c ⟨q,hq,e⟩
 refine ⟨v,resC H H' cl,J.os,J.bare,⟨λ b o e n hb hx=>un.keep b o e (z3p n) hb hx,λ b o e n hb hx=>un.slot b o e (z3p n) hb hx,λ b o e n hx=>?_,un.there,λ b xs e=>?_,λ b o u e=>?_,λ b ps e=>?_⟩,λ b o e=>?_,rv,q⟩
 ·rcases split b with ⟨q,hq,rfl⟩ | hn
  ·rw [z5w hq];exact n
  ·rw [z2r hn];exact un.free b o e (z3p n) hx
 ·rcases split b with ⟨q,hq,rfl⟩ | hn
  ·rw [z5w hq];exact e
  ·rw [z2r hn];exact un.tups b xs (by rw [z2n hn];exact e)
 ·rcases split b with ⟨q,hq,rfl⟩ | hn
  ·rw [z5w hq];exact e
  ·rw [z2r hn];exact un.frzs b o u (by rw [z2n hn];exact e)
 ·rcases split b with ⟨q,hq,rfl⟩ | hn
  ·obtain ⟨o,v,e2⟩:=hc.mem hq;rw [e] at e2;cases e2
  ·rw [z2r hn];exact un.tbls b ps (by rw [z2n hn];exact e)
 ·rcases split b with ⟨q,hq,rfl⟩ | hn
  ·rw [z5w hq] at e;obtain ⟨o2,v2,e2⟩:=hc.mem hq;rw [e] at e2;cases e2;obtain ⟨g1,⟨u2,ru,ic⟩,_,st⟩:=e0.hok _ _ e;have k1:=(kc q hq _ g1).1;refine ⟨k1,⟨u2,ru,?_⟩,⟨_,k1⟩,st⟩;obtain ⟨o3,e3,d3⟩:=ic;rw [g1] at e3;cases e3;exact ⟨_,k1,d3⟩
  ·rw [z2r hn] at e
   have nf:∀c u,H' c=some u->resC H H' cl c=some u:=λ c u e2=>by
    rcases split c with ⟨q,hq,rfl⟩ | hn
    ·obtain ⟨o,eo⟩:=there q hq;rw [(kc q hq o eo).2] at e2;cases e2
    ·rw [z2r hn];exact e2
   exact (J.hok b o e).stay (λ _ _ _ q=>q) (λ c q=>nf c _ q) λ c xs q=>nf c _ q
section
variable {X:Cx}{params:Arguments}{scope:Scope}{pos:Pos}{fv:List Str}{c T:Addr}{cl:LA}
theorem w9p {Q:VK}(I:Inv X pins σ H s) (hcode:X.env.code=.ref c) (TF:TabF X.base X.mg c T) (hcl:closureFor scope X.env=pure cl) (own:OwnCl X.env.cells fv cl)
  (h:TabOk H T pos qual/\∀fa c' cl H2,OwnCl X.env.cells fv cl->H fa=none->H2 fa=some (x2a fa c' name qual params body scope cl)->H2 c'=some (y4t c' qual)->TabOk H2 T pos qual->(∀b o,b≠T->H b=some o->H2 b=some o)->Q (.ref fa) H2) :
  wpAny (model X.prog X.w) X.A (makeFunction name qual params (.stmts body) scope X.env [] [] [] pos pos.line) (EP X pins σ Q) X.xe s:=by
 obtain ⟨⟨ps,hT,ht,hz⟩,h⟩:=h;have eT:s.heap.get? T=some (tabObj ps):=I.hok _ _ hT;have hg:s.heap.Ns mainGlobals X.mg:=I.mod.glob.keeps I.bk;obtain ⟨bm,ob,b1,b2,b3,b4,b5,b6⟩:=TF.blt;have hb:s.heap.BuiltinsAt X.mg T:=⟨bm,ob,b1,b2,b3,b4,I.bk _ _ b5,b6⟩;have C:CodeHd s.heap c T:=TF.hd.keeps I.bk
 rcases hz with hnf | ⟨c',hf,hc'⟩
 ·refine makeFunction_K hcl I.ok.glob hg hcode C eT ht hnf TF.ne hb λ c' ctv doc h' tk hx hge hlt hrec htb=>?_;have hfa:H h'.objs.size=none:=I.hok.fresh (t3h (t3k hge hlt));have hc0:H c'=none:=I.hok.fresh hge;have nTc:c'≠T:=λ z=>by rw [z,hT] at hc0;cases hc0
  have nTf:h'.objs.size≠T:=λ z=>by rw [z,hT] at hfa;cases hfa
  have ncf:c'≠h'.objs.size:=t1k hlt;have old:∀b o,b≠T->s.heap.get? b=some o->(h'.push (fnMade name qual params body scope cl doc ((X.mg "__name__").getD .none) c' ctv)).get? b=some o:=λ b o n e=>t0f _ (hx b o n e);have eP:(h'.push (fnMade name qual params body scope cl doc ((X.mg "__name__").getD .none) c' ctv)).get? T=some (tabObj (ps++#[rawInt pos.line,rawInt pos.col,.ref c'])):=t0f _ htb;have eF:(h'.push (fnMade name qual params body scope cl doc ((X.mg "__name__").getD .none) c' ctv)).get? h'.objs.size=some (fnMade name qual params body scope cl doc ((X.mg "__name__").getD .none) c' ctv):=t0r _ rfl;have eC:(h'.push (fnMade name qual params body scope cl doc ((X.mg "__name__").getD .none) c' ctv)).CodeRec (.ref c') qual:=z5f hrec λ o e=>t0f _ e;generalize h'.push (fnMade name qual params body scope cl doc ((X.mg "__name__").getD .none) c' ctv)=h2 at *;generalize h'.objs.size=fa at *;have lowT:∀b o,s.heap.get? b=some o->b≠c'/\(H b=none->b≠T):=λ b o e=>⟨t1k (t1d (t0y e) hge),λ n z=>by rw [z,hT] at n;cases n⟩;have lowF:∀b o,s.heap.get? b=some o->b≠fa:=λ b o e=>t1k (s1o (t1d (t0y e) hge) hlt);have out:∀b,b≠T->b≠c'->b≠fa->upd (upd (upd H T (.tbl (ps++#[rawInt pos.line,rawInt pos.col,.ref c']))) c' (y4t c' qual)) fa (x2a fa c' name qual params body scope cl) b=H b:=λ b n1 n2 n3=>by rw [z0u n3,z0u n2,z0u n1]
  have trk:∀b o,H b=some o->b≠c'/\b≠fa:=λ b o e=>⟨(λ z=>by rw [z,hc0] at e;cases e),(λ z=>by rw [z,hfa] at e;cases e)⟩;have HT:upd (upd (upd H T (.tbl (ps++#[rawInt pos.line,rawInt pos.col,.ref c']))) c' (y4t c' qual)) fa (x2a fa c' name qual params body scope cl) T=some (.tbl (ps++#[rawInt pos.line,rawInt pos.col,.ref c'])):=by rw [z0u nTf.symm,z0u nTc.symm,z0d]
  have HC:upd (upd (upd H T (.tbl (ps++#[rawInt pos.line,rawInt pos.col,.ref c']))) c' (y4t c' qual)) fa (x2a fa c' name qual params body scope cl) c'=some (y4t c' qual):=by rw [z0u ncf,z0d]
  have HF:upd (upd (upd H T (.tbl (ps++#[rawInt pos.line,rawInt pos.col,.ref c']))) c' (y4t c' qual)) fa (x2a fa c' name qual params body scope cl) fa=some (x2a fa c' name qual params body scope cl):=z0d;generalize upd (upd (upd H T (.tbl (ps++#[rawInt pos.line,rawInt pos.col,.ref c']))) c' (y4t c' qual)) fa (x2a fa c' name qual params body scope cl)=H2 at *;have same:∀b o,b≠T->H b=some o->H2 b=some o:=λ b o n e=>by rw [out b n (trk b o e).1 (trk b o e).2];exact e
  have un:Un X.fs [] H H2 s.heap h2:=⟨λ b o e n _ _=>old b o ((lowT b o e).2 n) e,λ b o e n _ _=>⟨o.slots,old b o ((lowT b o e).2 n) e⟩,λ b o e n _=>by rw [out b ((lowT b o e).2 n) (lowT b o e).1 (lowF b o e)];exact n,λ b o e _=>by
   by_cases z:b=T
   ·rw [z];exact ⟨_,eP⟩
   ·exact ⟨o,old b o z e⟩,λ b xs e=>same b _ (λ z=>by rw [z,hT] at e;cases e) e,λ b o u e=>same b _ (λ z=>by rw [z,hT] at e;cases e) e,λ b qs e=>by
   by_cases z:b=T
   ·subst z;rw [hT] at e;cases e;exact ⟨_,HT⟩
   ·exact ⟨#[],by rw [same b _ z e];simp⟩⟩
  have hok:HOk X.prog X.w H2 h2:=λ b o e=>by
   by_cases zf:b=fa
   ·subst zf;rw [HF] at e;cases e;exact ⟨⟨_,_,_,eF⟩,⟨_,eF⟩,λ h1 h3 ⟨dc,pm,cv,e1⟩ k=>⟨dc,pm,cv,k _ e1⟩⟩
   ·by_cases zc:b=c'
    ·subst zc;rw [HC] at e;cases e;obtain ⟨c2,o2,vs2,t2,e2,ho2,r2⟩:=id eC;cases e2;exact ⟨eC,⟨_,ho2⟩,λ h1 h3 x k=>z5f x k⟩
    ·by_cases zT:b=T
     ·subst zT;rw [HT] at e;cases e;exact eP
     ·rw [out b zT zc zf] at e;refine (I.hok b o e).stay (λ d u hd q=>old d u (λ z=>?_) q) (λ d q=>same d _ (λ z=>by rw [z,hT] at q;cases q) q) λ d xs q=>same d _ (λ z=>by rw [z,hT] at q;cases q) q
      rcases hd with hd | hd
      ·exact zT (hd.symm.trans z)
      ·rw [z,hT] at hd;cases hd
  exact ⟨.ref fa,H2,I.un un hok,rfl,h fa c' cl H2 own hfa HF HC ⟨_,HT,by simpa using z9b ps.toList ht,.inr ⟨c',by simpa using codeAmong_snoc ps.toList ht hnf,HC⟩⟩ same⟩
 ·refine makeFunction_hit hcl I.ok.glob hg hcode C eT ht hf hb λ ctv doc h' tk hx hsz=>?_;have hfa:H h'.objs.size=none:=I.hok.fresh hsz;have same:∀b o,H b=some o->upd H h'.objs.size (x2a h'.objs.size c' name qual params body scope cl) b=some o:=λ b o e=>by rw [z0u (z3j e hfa)];exact e
  refine ⟨.ref h'.objs.size,upd H h'.objs.size (x2a h'.objs.size c' name qual params body scope cl),I.laid (t':=tk) (λ b u e=>t0f _ (hx b u e)) hsz ?_,rfl,h _ c' cl _ own hfa z0d (same _ _ hc') ⟨ps,same _ _ hT,ht,.inr ⟨c',hf,same _ _ hc'⟩⟩ λ b o _ e=>same b o e⟩;exact ⟨⟨_,_,_,t0r _ rfl⟩,⟨_,t0r _ rfl⟩,λ h1 h3 ⟨dc,pm,cv,e1⟩ k=>⟨dc,pm,cv,k _ e1⟩⟩
noncomputable def v4j (ec:LA) (fv:List Str) (T:Addr) (pos:Pos) (i:Nat) (name qual:Str) (params:Arguments) (body:List Stmt) (scope:Scope):TS:=λ D σ H=>TabOk H T pos qual /\
 ∀fa c' cl H2,OwnCl ec fv cl->H fa=none->H2 fa=some (x2a fa c' name qual params body scope cl)->H2 c'=some (y4t c' qual)->TabOk H2 T pos qual->(∀b o,b≠T->H b=some o->H2 b=some o)->D.nx (σ.set i (some (.ref fa))) H2
theorem x4k {i:Nat}{name qual:Str}(hN:X.N.Nodup) (hi:X.N[i]?=some name) (hx:Loc X.env.scope name) (hq:qualnameIn X.env name name=qual) (hcode:X.env.code=.ref c) (TF:TabF X.base X.mg c T) (hcl:closureFor scope X.env=pure cl) (own:OwnCl X.env.cells fv cl)
  (hd0:params.defaults=[]) (hk0:params.kw_defaults=[]) (ha:annTrees params none X.env=[]) (hf:X.fn name=true\/X.env.scope.names.lookup name=some .local:=by first | exact .inl rfl | exact .inr rfl) :
  PS X (.FunctionDef name params body [] none [] scope none name pos) (v4j X.env.cells fv T pos i name qual params body scope):=by
 intro pins s σ H D I h;refine nestDef_K hd0 hk0 ha ?_;rw [hq];refine thn (w9p (Q:=λ v H2=>∃fa,v=.ref fa/\D.nx (σ.set i (some (.ref fa))) H2) I hcode TF hcl own ⟨h.1,λ fa c' cl H2 o1 n1 a1 a2 a3 a4=>⟨fa,rfl,h.2 fa c' cl H2 o1 n1 a1 a2 a3 a4⟩⟩) λ u s1 ⟨v,H2,J,r,fa,e,q⟩=>?_;subst e;exact y3m J hN hi hx r (λ s2 J2=>⟨_,H2,J2,q⟩) hf
end
end L2
namespace L2
open PySem PySem.Spec PyProof.Rows PySem.W PySem.Calls
theorem x9t {X:Cx}{P:Program}{w:World}{K:FG}{mg:SV}{base:Heap}{k i:Nat}{e:Expr}{es:List Expr}(e1:X.prog=P) (e2:X.w=w) (e3:X.K=K) (e4:X.mg=mg) (e5:X.base=base) (hr:Room k X.A) (hN:X.N[i]?=some x) (hv:Vis X.env.scope x) (ha:PA X (e::es) t)
  (hd:(x == ("__debug__" : Str))=false:=by decide) (hcd:(x == ("__classdict__" : Str))=false:=by decide)
  (he:starEach (e::es) X.env=(false,eval e X.env)::starEach es X.env:=by rfl) (hpl:(backTo pos (starEach es X.env)).any (·.1)=false:=by rfl) :
  PE X (.Call (.Name x p) (e::es) [] pos) (w3t P w K mg base k i t):=by
 subst e1 e2 e3 e4 e5;exact w4i hr hN hv ha hd hcd he hpl
noncomputable def LoopE (K:PySem.W.Frag) (g:TG) (tb:TS) (D:Ends) (σ:St) (v:V) (H1:Hp):Prop:=∃a xs,v=.ref a/\SqT K H1 a xs/\∃W:Nat->Nat->St->Hp->Prop,(∃m,W 0 m σ H1)/\∀i m σ H,W i m σ H ->
 ((Ite K a).stop i H/\D.nx σ H)\/((Ite K a).go i H/\∃N:St->Hp->Prop,(∀σ' H',N σ' H'->∃m',m' < m/\W (i+1) m' σ' H')/\∀x H',(Ite K a).yld i H x H'->g x σ H' λ σ2 H2=>tb { D with nx:=N,ct:=N,bk:=D.nx } σ2 H2)
theorem w5m {K:FG}:w2b (w0s K te) g tb D σ H=te σ H λ v H1=>LoopE K g tb D σ v H1:=rfl
theorem LoopE.mk {K:FG}{g:TG}{tb:TS}{D:Ends}(h1:SqT K H a xs) (Pv:Nat->St->Hp->Prop) (h0:Pv 0 σ H) (hl:∀i σ H,i≤xs.length->Pv i σ H->SqT K H a xs)
  (hs:∀i x σ H T,xs[i]?=some x->Pv i σ H->H T=none->g (.ref T) σ (upd H T (.tup [.int i,x])) λ σ2 H2=>tb { D with nx:=Pv (i+1),ct:=Pv (i+1),bk:=D.nx } σ2 H2) (hd:∀σ H,Pv xs.length σ H->D.nx σ H) :
  LoopE K g tb D σ (.ref a) H:=by
 refine ⟨a,xs,rfl,h1,λ i m σ H=>m=xs.length - i/\i≤xs.length/\Pv i σ H,⟨_,rfl,t0x _,h0⟩,?_⟩;rintro i m σ H ⟨rfl,hi,p⟩;have k1:=hl i σ H hi p;by_cases hlt:i < xs.length
 ·refine .inr ⟨⟨xs,_,k1,t0e hlt⟩,Pv (i+1),λ σ' H' p'=>⟨xs.length - (i+1),by lia,rfl,hlt,p'⟩,λ v H' yy=>?_⟩;obtain ⟨T,x,rfl,hT,rfl,ex⟩:=yy;exact hs i x σ H T (ex xs k1) p hT
 ·have e:i=xs.length:=by lia
  exact .inl ⟨⟨xs,k1,by lia⟩,hd σ H (e ▸ p)⟩
theorem x7e:∀ {xs:List V}{us:LV},Vals xs us->xs.all z3f=true->∀(j:Nat) (h1:j < xs.length) (h2:j < us.length),eqU x us[j]=eqV xs[j] x
 | y::xs,u::us,.cons r t,f,j,h1,h2=>by
  rw [t7o,t5q] at f
  cases j with
  | zero=>exact x7d r f.1
  | succ j=>exact x7e t f.2 j (t9a h1) (t9a h2)
section
variable {X:Cx}
end
theorem x2h (l:Addr) (its:Array Value) (n:Nat) (dd:OA) (sl:AV) (x:Value) (e:Value->Bool) (j:Nat) (hj:j < its.size) (hit:e its[j]=true) (hno:∀m (hm:m < its.size),m < j->e its[m]=false):Meets (Builtin.«tuple.index» ⟨[.ref l,x],[]⟩) (λ A R s=>s.heap.get? l=some ⟨.type "tuple",dd,.seq its n,sl⟩/\(∀y,y∈its->SeqAt.EqAt A.in1 s y x (e y))/\R (.ok (.ret (.int j s.toks))) { s with toks:=s.toks+1 }) :=
 .of_wp λ prog w A R s h=>by
  obtain ⟨hp,g,d,tk,os⟩:=s;obtain ⟨hl,he,h⟩:=h;unfold Builtin.«tuple.index»;simp only [Std.Legacy.Range.forIn_eq_forIn_range',Std.Legacy.Range.size,s1n,s1c,Nat.div_one];wp_walk using t4t hl,wpAny_forIn_list _ (λ rest b s'=>b.1=none/\s'=⟨hp,g,d,tk,os⟩/\∃i,i≤j/\rest=List.range' i (its.size - i)) _
  case turn =>
   rintro y rest b s' ⟨hb,rfl,i,ij,er⟩;have il:i < its.size:=by lia
   rw [show its.size - i=(its.size - (i+1))+1 by lia,List.range'_succ] at er;obtain ⟨rfl,rfl⟩:=t7q er;rw [t4o il];refine t0b (he _ (Array.getElem_mem il) prog w _ _ ?_);by_cases c:y=j
   ·subst c;rw [hit];wp_walk;exact ⟨_,rfl,h⟩
   ·rw [hno y il (by lia)];wp_walk;exact ⟨rfl,rfl,y+1,by lia,rfl⟩
  case fin =>
   rintro b s' ⟨hb,rfl,i,ij,er⟩;have:=t3p List.length er;rw [t0j,List.length_range'] at this;lia
  case h =>
   exact ⟨rfl,rfl,0,t0x _,by simp⟩
section
variable {X:Cx}
noncomputable def x4h:V->List V->Hp->VK->Prop:=λ x ys H Q=>∃a o xs y j,x=.ref a/\ys=[y]/\H a=some (.frz o (.tup xs))/\xs.all z3f=true/\z3f y=true/\(∃z,xs[j]?=some z/\eqV z y=true)/\(∀m z,m < j->xs[m]?=some z->eqV z y=false)/\Q (.int (j:Nat)) H
theorem x5x:MtR X "tuple.index" x4h:=by
 intro pins s σ H x ys v us Q I rx rv h;obtain ⟨a,o,xs,y,j,rfl,rfl,ha,hfl,fy,⟨z,ez,hz0⟩,hn,q⟩:=h;cases rx;obtain ⟨u,rfl,ru⟩:=z6g rv;obtain ⟨g1,hz,its,rv2,o2,g2,c2,n2,d2⟩:=I.hok a _ ha;rw [g1] at g2;cases g2;obtain ⟨oc,od,odt,osl⟩:=o;subst c2 d2;have hlen:=rv2.length;have jl:=(t0g.mp ez).1;have jl2:j < its.length:=by lia
 refine t9p F.slot_tuple_index ⟨_,g1,rfl⟩ F.entry_tuple_index (F.args_tuple_index_2 _ _) (x2h a its.toArray n2 od osl u (eqU y) j (by simpa using jl2) ?_ ?_) ⟨g1,λ w hw=>y0b ru fy rv2 hfl w (by simpa using hw),?_⟩
 ·show eqU y its[j]=true;rw [x7e rv2 hfl j jl jl2];rw [t0e jl] at ez;cases (t1i ez);exact hz0
 ·intro m hm hlt;show eqU y its[m]=false;have ml:m < xs.length:=by simp only [t0z] at hm;lia
  rw [x7e rv2 hfl m ml (by simpa using hm)];exact hn m _ hlt (t0e ml)
 ·exact ⟨.int _,H,I.tok _,⟨_,rfl⟩,q⟩
theorem z2z {K:FG}(hK:X.K=K):z4s X (.type "tuple") (λ xs H Q=>∃p ys,xs=[.ref p]/\((SqL K H p ys/\∀l,H l=none->Q (.ref l) (upd H l (.tup ys)))\/(SqT K H p ys/\Q (.ref p) H))):=hK ▸ z1a
theorem x9r {K:FG}(hK:X.K=K) (hl:PE X l tl):PI X tg l (x6r K tl):=hK ▸ z4h hl
end
section
variable {prog:Program}{w:World}{A:Around}{R:Result->Shared->Prop}{I:Addr}{fp wr:List Addr}{n:Nat}{P:Nat->Value->Prop}{St:Nat->Heap->Prop}
end
section
variable {X:Cx}
theorem w1p (hc:X.calm=true):z4s X (.builtin "max") (λ xs H Q=>∃a ns,xs=[.ref a]/\SqL X.K H a (List.map V.int ns)/\0 < ns.length/\∀M:Int,M∈ns->(∀z∈ns,z≤M)->Q (.int M) H):=by
 intro pins s σ H xs us Q I r h;obtain ⟨a,ns,rfl,hq,hne,q⟩:=h;obtain ⟨u,rfl,ru⟩:=z6g r;cases (show u=Value.ref a from ru);obtain ⟨its,rv,pl,hz⟩:=I.list hq;have hi:=z6v rv;obtain ⟨xs,e⟩:=hi.allInts.items;have hns:ns=xs.toList.map (·.1):=by rw [← hi.numsOf,← nums_intItems,← e]
 have hl:=pl.isList;rw [e] at hl;have hsz:0 < xs.size:=by rw [hns,t0c,t4a] at hne;exact hne
 refine max_intList (I.ok.hd hc) hl hsz λ v h' tk hv kk=>?_;obtain ⟨t,rfl⟩:=intItems_at hv;obtain ⟨h1,h2⟩:=argBest_gt (numAt xs) (xs.size - 1);refine ⟨.int _,H,I.kept kk,⟨t,rfl⟩,q _ ?_ λ z hz=>?_⟩
 ·rw [hns,numAt_eq];exact getD_mem (by rw [t0c,t4a];lia)
 ·rw [hns] at hz;obtain ⟨j,hj,rfl⟩:=mem_getD hz;rw [t0c,t4a] at hj;rw [← numAt_eq];exact h2 j (by lia)
end
section
variable {pg:Program}{wd:World}{B:Around}{X0:VS}{s0:Shared}
end
noncomputable def w6j (K:FG) (a b:Addr):It:=⟨λ i H=>∃xs ys x y,SqT K H a xs/\SqL K H b ys/\xs[i]?=some x/\ys[i]?=some y,
 λ i H v H'=>∃T x y,v=.ref T/\H T=none/\H'=upd H T (.tup [x,y])/\∀xs ys,SqT K H a xs->SqL K H b ys->xs[i]?=some x/\ys[i]?=some y,λ i H=>∃xs ys,SqT K H a xs/\SqL K H b ys/\(xs.length≤i\/ys.length≤i)⟩
section
variable {X:Cx}{es:List Expr}{x1:Nat}{pp:Pos}
end
noncomputable def v5j (K:PySem.W.Frag) (g:TG) (tb:TS) (D:Ends) (σ:St) (vs:List V) (H1:Hp):Prop:=∃a b xs ys,vs=[.ref a,.ref b]/\SqT K H1 a xs/\SqL K H1 b ys/\∃W:Nat->Nat->St->Hp->Prop,(∃m,W 0 m σ H1)/\∀i m σ H,W i m σ H ->
 ((w6j K a b).stop i H/\D.nx σ H)\/((w6j K a b).go i H/\∃N:St->Hp->Prop,(∀σ' H',N σ' H'->∃m',m' < m/\W (i+1) m' σ' H')/\∀x H',(w6j K a b).yld i H x H'->g x σ H' λ σ2 H2=>tb { D with nx:=N,ct:=N,bk:=D.nx } σ2 H2)
noncomputable def v5o (K:PySem.W.Frag) (k:Nat) (js:List Nat) (g:TG) (te:TE) (σ:St) (vs:List V) (H1:Hp) (Q:VK):Prop:=∃a b xs ys,vs=[.ref a,.ref b]/\SqT K H1 a xs/\SqL K H1 b ys/\∃W:Nat->Nat->List V->St->Hp->Prop,(∃m,W 0 m [] (z1s k js σ) H1)/\∀i m zs σ' H',W i m zs σ' H' ->
  ((w6j K a b).stop i H'/\∀p,H' p=none->Q (.ref p) (upd H' p (.lst zs))) \/
  ((w6j K a b).go i H'/\zs.length < sizeLine/\∃N:List V->St->Hp->Prop,(∀zs σ2 H2,N zs σ2 H2->∃m',m' < m/\W (i+1) m' zs σ2 H2)/\∀x H2,(w6j K a b).yld i H' x H2->g x σ' H2 λ σ3 H3=>te σ3 H3 λ v H4=>N (zs++[v]) σ3 H4)
section
variable {X:Cx}
noncomputable def z0b:V->List V->Hp->VK->Prop:=λ x vs H Q=>∃l xs i y,x=.ref l/\vs=[.int i,y]/\H l=some (.lst xs)/\0≤i/\i≤xs.length/\xs.length < sizeLine/\Q .non (upd H l (.lst (xs.take i.toNat++y::xs.drop i.toNat)))
theorem x5w:MtR X "list.insert" z0b:=by
 intro pins s σ H x vs v us Q I rx rv h;obtain ⟨l,xs,i,y,rfl,rfl,hH,i0,i1,hz,q⟩:=h;cases rx;obtain ⟨u,w,rfl,⟨t,rfl⟩,rw'⟩:=x0w rv;obtain ⟨z,its,n,r,hl,e⟩:=I.lstM hH;have s63:sizeLine≤2 ^ 62:=by rw [s0f];decide
 have hf:Builtin.List.listFitsIndex i=true:=fitsIndex_both (by lia) (by lia)
 refine t9p F.slot_list_insert ⟨_,e,rfl⟩ F.entry_list_insert (F.args_list_insert_3 _ _ _)
  (AutoSeq1.list_insert_list_int_val_1 l its.toArray n i t w (by simp [hf]) (by rw [t0z];lia)) ⟨e,?_⟩
 refine ⟨.non,_,I.lset (its':=its.take i.toNat++w::its.drop i.toNat) hH e ?_ ((r.take _).append (.cons rw' (r.drop _))) ?_,rfl,q⟩
 ·show (its.toArray.extract 0 (if i < 0 then (i+(its.toArray.size:Int)).toNat else min i.toNat its.toArray.size)).push w++its.toArray.extract (if i < 0 then (i+(its.toArray.size:Int)).toNat else min i.toNat its.toArray.size)=_;rw [if_neg (by lia),t0z,t7z (by lia)];apply Array.ext';simp [List.extract_eq_take_drop,t1o]
 ·rw [t0o,t0h,t0p,t2d];lia
end
abbrev z3u (h:Heap) (T:Addr) (a b c:Value):Prop:=h.get? T=some { cls:=.type "tuple",data:=.seq #[a,b,c] }
theorem y3i {s:Shared}{Q:Unit->Shared->Prop}(hT:z3u s.heap T a b c)
  (h:∀h',h'.get? T=some { cls:=.type "tuple",data:=.seq ((#[a,b,c]:Array Value).setIfInBounds k x) }->Heap.SameBut T s.heap h'->Q () { s with heap:=h' }) :
  wpAny (model prog w) A (updateSeq T (·.setIfInBounds k x)) Q E s:=by
 refine t5j hT rfl (h _ ?_ (t5t ..));rw [t2q _ hT rfl];simp [Obj.mapSeq]
theorem x8q {x y z:V}(r:Vals [x,y,z] us):∃u v t,us=[u,v,t]/\RelV x u/\RelV y v/\RelV z t:=by
 cases r with
 | cons r1 r2=>cases r2 with
  | cons r3 r4=>cases r4 with
   | cons r5 r6=>cases r6;exact ⟨_,_,_,rfl,r1,r3,r5⟩
theorem w3r (a b c:Value):checkTypeCall "zip" ⟨[a,b,c],[]⟩=pure ():=by kernel_rfl
theorem w4x (a b c:Value):checkBuiltinCall "zip.__new__" ⟨[.type "zip",a,b,c],[]⟩=pure ():=by kernel_rfl
theorem v5y (a b c d:Value):argsOk "object.__init__" ⟨[a,b,c,d],[]⟩:=by
 unfold argsOk;rw [signature?_of (n:=['_','_','t','i','n','i','_','_']) (o:=['t','c','e','j','b','o']) (by kernel_rfl) F.owner_object]
 kernel_rfl
structure Apart6 (z ti ox j1 j2 j3 t1 t2 t3:Addr):Prop where
 ti_z:ti≠z
 ox_z:ox≠z
 j1_z:j1≠z
 j2_z:j2≠z
 j3_z:j3≠z
 ti_ox:ti≠ox
 ti_j1:ti≠j1
 ti_j2:ti≠j2
 ti_j3:ti≠j3
 ox_j1:ox≠j1
 ox_j2:ox≠j2
 ox_j3:ox≠j3
 j12:j1≠j2
 j13:j1≠j3
 j23:j2≠j3
 t1_z:t1≠z
 t2_z:t2≠z
 t2_ox:t2≠ox
 t2_j1:t2≠j1
 t3_z:t3≠z
 t3_ox:t3≠ox
 t3_j1:t3≠j1
 t3_j2:t3≠j2
def v1p (z ox j1 j2 j3:Addr) (h h':Heap):Prop:=∀c o,c≠z->c≠ox->c≠j1->c≠j2->c≠j3->h.get? c=some o->h'.get? c=some o
section
variable {pg:Program}{wd:World}{B:Around}{X0:VS}{s0:Shared}
theorem x2d {R:Option Value->Shared->Prop}(ap:Apart6 z ti ox j1 j2 j3 t1 t2 t3) (hz:IsZip s0.heap z ti ox .none) (hi:z3u s0.heap ti (.ref j1) (.ref j2) (.ref j3)) (ho:z3u s0.heap ox u v r)
  (p1:s0.heap.IsTupleIter j1 t1 k) (p2:s0.heap.IsTupleIter j2 t2 k) (p3:s0.heap.IsTupleIter j3 t3 k) (q1:s0.heap.IsTuple t1 as) (q2:s0.heap.IsTuple t2 bs) (q3:s0.heap.IsTuple t3 cs) (e1:as[k]?=some x) (e2:bs[k]?=some y) (e3:cs[k]?=some o3)
  (f:∀h',IsZip h' z ti ox (rawInt s0.heap.objs.size)->z3u h' ox x y o3->h'.IsTupleIter j1 t1 (k+1)->h'.IsTupleIter j2 t2 (k+1)->h'.IsTupleIter j3 t3 (k+1)->z3u h' s0.heap.objs.size x y o3->v1p z ox j1 j2 j3 s0.heap h'->R (some (.ref s0.heap.objs.size)) { s0 with heap:=h' }) :
  wpAny (model pg wd) B (pyNext (.ref z)) R X0 s0:=by
 have ty:s0.TypeIs (.ref z) "zip" := ⟨_,hz,rfl⟩;unfold pyNext;refine t0b (t4k (t1y (name:=Str.ofString "__next__") ty t4e (t2i t4e ty t7g ?_ (t6u _))));show wpAny _ _ (field (.ref z) 2 >>= _) _ _ _;refine t0b (t1r hz rfl (x:=.bool false) rfl ?_);show wpAny _ _ (field (.ref z) 3 >>= _) _ _ _;refine t0b (t1r hz rfl (x:=.ref ti) rfl ?_);refine t0b (t2h hi rfl ?_);show wpAny _ _ (Builtin.SmallTypes.ownedTupleIsFree (.ref z) >>= _) _ _ _;refine t0b ?_;unfold Builtin.SmallTypes.ownedTupleIsFree;refine t0b (t1r hz rfl (x:=.none) rfl (t0s ?_));simp only [t7u];refine t0b (t5x ?_);refine t0b (t1r hz rfl (x:=.ref ox) rfl ?_);refine t0b (t2p hz (by simp) λ m1 zm1 sb1=>?_);have zm1:IsZip m1 z ti ox .ellipsis:=zm1;refine t0b ?_;simp only [t7h,t7y,t6g,t6x];refine t0b (t0b (t4y ?_));show wpAny _ _ (Builtin.SmallTypes.nextOf (.ref j1) >>= _) _ _ _;refine t0b (z3e (z1c p1 λ o g=>sb1.extBut _ _ ap.j1_z g) (z4k q1 λ o g=>sb1.extBut _ _ ap.t1_z g) e1 λ m2 pm2 sb2=>t0s ?_);have om2:z3u m2 ox u v r:=sb2.extBut _ _ ap.ox_j1 (sb1.extBut _ _ ap.ox_z ho);refine t0b (t2h om2 rfl ?_);refine t0b (y3i om2 λ m3 om3 sb3=>?_);have om3:z3u m3 ox x v r:=om3;refine t0b (t4z (t0s ?_));refine t0b (t0b (t4y ?_));show wpAny _ _ (Builtin.SmallTypes.nextOf (.ref j2) >>= _) _ _ _;have to3:∀c o,c≠z->c≠ox->c≠j1->s0.heap.get? c=some o->m3.get? c=some o:=λ c o a1 a2 a3 g=>sb3.extBut _ _ a2 (sb2.extBut _ _ a3 (sb1.extBut _ _ a1 g));refine t0b (z3e (z1c p2 λ o g=>to3 _ o ap.j2_z ap.ox_j2.symm ap.j12.symm g) (z4k q2 λ o g=>to3 _ o ap.t2_z ap.t2_ox ap.t2_j1 g) e2 λ m4 pm4 sb4=>t0s ?_);have om4:z3u m4 ox x v r:=sb4.extBut _ _ ap.ox_j2 om3;refine t0b (t2h om4 rfl ?_);refine t0b (y3i om4 λ m5 om5 sb5=>?_);have om5:z3u m5 ox x y r:=om5;refine t0b (t4z (t0s ?_));refine t0b (t0b (t4y ?_));show wpAny _ _ (Builtin.SmallTypes.nextOf (.ref j3) >>= _) _ _ _;have to5:∀c o,c≠z->c≠ox->c≠j1->c≠j2->s0.heap.get? c=some o->m5.get? c=some o:=λ c o a1 a2 a3 a4 g=>sb5.extBut _ _ a2 (sb4.extBut _ _ a4 (to3 c o a1 a2 a3 g));refine t0b (z3e (z1c p3 λ o g=>to5 _ o ap.j3_z ap.ox_j3.symm ap.j13.symm ap.j23.symm g) (z4k q3 λ o g=>to5 _ o ap.t3_z ap.t3_ox ap.t3_j1 ap.t3_j2 g) e3 λ m6 pm6 sb6=>t0s ?_);have om6:z3u m6 ox x y r:=sb6.extBut _ _ ap.ox_j3 om5;refine t0b (t2h om6 rfl ?_);refine t0b (y3i om6 λ m7 om7 sb7=>?_);have om7:z3u m7 ox x y o3:=om7;refine t0b (t4z (t0s (t0s ?_)));refine t0b (t2h om7 rfl ?_);refine t0b (wpAny_newTuple ?_);have sz7:m7.objs.size=s0.heap.objs.size:=by rw [sb7.1,sb6.1,sb5.1,sb4.1,sb3.1,sb2.1,sb1.1]
 have zm7:IsZip m7 z ti ox .ellipsis:=sb7.extBut _ _ ap.ox_z.symm (sb6.extBut _ _ ap.j3_z.symm (sb5.extBut _ _ ap.ox_z.symm (sb4.extBut _ _ ap.j2_z.symm (sb3.extBut _ _ ap.ox_z.symm (sb2.extBut _ _ ap.j1_z.symm zm1)))));have to7:v1p z ox j1 j2 j3 s0.heap m7:=λ c o a1 a2 a3 a4 a5 g=>sb7.extBut _ _ a2 (sb6.extBut _ _ a5 (to5 c o a1 a2 a3 a4 g));have pj1:m7.IsTupleIter j1 t1 (k+1):=z1c pm2 λ o g=>sb7.extBut _ _ ap.ox_j1.symm (sb6.extBut _ _ ap.j13 (sb5.extBut _ _ ap.ox_j1.symm (sb4.extBut _ _ ap.j12 (sb3.extBut _ _ ap.ox_j1.symm g))));have pj2:m7.IsTupleIter j2 t2 (k+1):=z1c pm4 λ o g=>sb7.extBut _ _ ap.ox_j2.symm (sb6.extBut _ _ ap.j23 (sb5.extBut _ _ ap.ox_j2.symm g));have pj3:m7.IsTupleIter j3 t3 (k+1):=z1c pm6 λ o g=>sb7.extBut _ _ ap.ox_j3.symm g;have zlt:z < m7.objs.size:=t0y zm7;show wpAny _ _ (Builtin.SmallTypes.ownedTupleHandOut (.ref z) (.ref m7.objs.size) >>= _) _ _ _;refine t0b ?_;unfold Builtin.SmallTypes.ownedTupleHandOut;have zm8:IsZip (m7.push { cls:=.type "tuple",data:=.seq #[x,y,o3] }) z ti ox .ellipsis:=t0f _ zm7;refine t0b (t2p zm8 (by simp) λ m9 zm9 sb9=>?_);have zm9:IsZip m9 z ti ox (rawInt m7.objs.size):=zm9;refine t2p zm9 (by simp) λ m10 zm10 sb10=>?_;have zm10:IsZip m10 z ti ox (rawInt m7.objs.size):=zm10;have to10:∀c o,c≠z->m7.get? c=some o->m10.get? c=some o:=λ c o a1 g=>sb10.extBut _ _ a1 (sb9.extBut _ _ a1 (t0f _ g));have np:z3u m10 m7.objs.size x y o3:=sb10.extBut _ _ (t4w zlt) (sb9.extBut _ _ (t4w zlt) (t0r _ rfl));rw [sz7] at zm10 np;refine t0s ⟨_,rfl,t0s ?_⟩;show R (some (.ref m7.objs.size)) _;rw [sz7];exact f m10 zm10 (to10 _ _ ap.ox_z om7) (z1c pj1 λ o g=>to10 _ o ap.j1_z g) (z1c pj2 λ o g=>to10 _ o ap.j2_z g) (z1c pj3 λ o g=>to10 _ o ap.j3_z g) np λ c o a1 a2 a3 a4 a5 g=>to10 c o a1 (to7 c o a1 a2 a3 a4 a5 g)
theorem x8p {R:Option Value->Shared->Prop}(hh:B.handled=none) (ap:Apart6 z ti ox j1 j2 j3 t1 t2 t3) (hz:IsZip s0.heap z ti ox .none) (hi:z3u s0.heap ti (.ref j1) (.ref j2) (.ref j3))
  (p1:s0.heap.IsTupleIter j1 t1 k) (q1:s0.heap.IsTuple t1 as) (e1:as[k]?=none)
  (f:∀h',v1p z ox j1 j2 j3 s0.heap h'->R none { s0 with heap:=h' }):wpAny (model pg wd) B (pyNext (.ref z)) R X0 s0:=by
 have ty:s0.TypeIs (.ref z) "zip" := ⟨_,hz,rfl⟩
 have last:∀(h':Heap) (e:Addr),v1p z ox j1 j2 j3 s0.heap h'->(∃o,h'.get? e=some o/\o.cls=.type "StopIteration")->wpAny (model pg wd) B (do if ← isInstance (.ref e) (.type "StopIteration") then pure none else throw (.ref e)) R X0 { s0 with heap:=h' }:=λ h' e bt ⟨o,g,c⟩ =>
  t0b (t4h (T := "StopIteration") (b:=true) ⟨o,g,c⟩ t8i (t0s (f _ bt)))
 unfold pyNext;refine t0b (t4k (t1y (name:=Str.ofString "__next__") ty t4e (t2i t4e ty t7g ?_ (t6u _))));show wpAny _ _ (field (.ref z) 2 >>= _) _ _ _;refine t0b (t1r hz rfl (x:=.bool false) rfl ?_);show wpAny _ _ (field (.ref z) 3 >>= _) _ _ _;refine t0b (t1r hz rfl (x:=.ref ti) rfl ?_);refine t0b (t2h hi rfl ?_);show wpAny _ _ (Builtin.SmallTypes.ownedTupleIsFree (.ref z) >>= _) _ _ _;refine t0b ?_;unfold Builtin.SmallTypes.ownedTupleIsFree;refine t0b (t1r hz rfl (x:=.none) rfl (t0s ?_));simp only [t7u];refine t0b (t5x ?_);refine t0b (t1r hz rfl (x:=.ref ox) rfl ?_);refine t0b (t2p hz (by simp) λ m1 zm1 sb1=>?_);have zm1:IsZip m1 z ti ox .ellipsis:=zm1;refine t0b ?_;simp only [t7h,t7y,t6g,t6x];refine t0b (t0b (t4y ?_));show wpAny _ _ (Builtin.SmallTypes.nextOf (.ref j1) >>= _) _ _ _;refine t0b (z5m hh (z1c p1 λ o g=>sb1.extBut _ _ ap.j1_z g) (z4k q1 λ o g=>sb1.extBut _ _ ap.t1_z g) e1 λ m2 e xb he=>?_);obtain ⟨oe,ge,ce⟩:=he;have zm2:IsZip m2 z ti ox .ellipsis:=xb _ _ ap.j1_z.symm zm1;have ez:e≠z:=λ q=>by subst q;rw [zm2] at ge;cases ge;simp at ce
 exact t2p zm2 (by simp) λ m3 _ sb3=>last m3 e (λ c o a1 _ a3 _ _ g=>sb3.extBut _ _ a1 (xb _ _ a3 (sb1.extBut _ _ a1 g))) ⟨oe,sb3.extBut _ _ ez ge,ce⟩
end
noncomputable def v1c (K:FG) (a b c:Addr):It:=⟨λ i H=>∃xs ys zs x y z,SqT K H a xs/\SqT K H b ys/\SqT K H c zs/\xs[i]?=some x/\ys[i]?=some y/\zs[i]?=some z,
 λ i H v H'=>∃T x y z,v=.ref T/\H T=none/\H'=upd H T (.tup [x,y,z])/\∀xs ys zs,SqT K H a xs->SqT K H b ys->SqT K H c zs->xs[i]?=some x/\ys[i]?=some y/\zs[i]?=some z,λ i H=>∃xs,SqT K H a xs/\xs.length≤i⟩
theorem x2f {K:FG}(ap:Apart6 z ti ox j1 j2 j3 a b c) :
  Turn P w K (.Tuple es x1 pp) (v1c K a b c) [z,ti,ox,j1,j2,j3] z (λ i h=>IsZip h z ti ox .none/\z3u h ti (.ref j1) (.ref j2) (.ref j3)/\(∃u v r,z3u h ox u v r)/\h.IsTupleIter j1 a i/\h.IsTupleIter j2 b i/\h.IsTupleIter j3 c i) where
 mem:=by simp
 obj:=λ i h q c hc=>by
  obtain ⟨q1,q2,⟨u,v,r,q3⟩,⟨o4,g4,_,d4⟩,⟨o5,g5,_,d5⟩,⟨o6,g6,_,d6⟩⟩:=q;simp only [t1a,t1l,t3f] at hc
  rcases hc with rfl | rfl | rfl | rfl | rfl | rfl
  ·exact ⟨_,q1,λ v z=>nomatch z⟩
  ·exact ⟨_,q2,λ v z=>nomatch z⟩
  ·exact ⟨_,q3,λ v z=>nomatch z⟩
  ·exact ⟨_,g4,λ v z=>by rw [d4] at z;cases z⟩
  ·exact ⟨_,g5,λ v z=>by rw [d5] at z;cases z⟩
  ·exact ⟨_,g6,λ v z=>by rw [d6] at z;cases z⟩
 keep:=λ i h h' q k=>by
  obtain ⟨q1,q2,⟨u,v,r,q3⟩,q4,q5,q6⟩:=q;exact ⟨k _ (by simp) _ q1,k _ (by simp) _ q2,⟨u,v,r,k _ (by simp) _ q3⟩,z1c q4 λ o g=>k _ (by simp) o g,z1c q5 λ o g=>k _ (by simp) o g,z1c q6 λ o g=>k _ (by simp) o g⟩
 item:=by
  intro X hP hw hK hc i pins s σ H E I hf st hg;subst hP hw hK;obtain ⟨xs,ys,zs,x,y,z',hq1,hq2,hq3,hx,hy,hz'⟩:=hg;obtain ⟨q1,q2,⟨u,v,r,q3⟩,q4,q5,q6⟩:=st;obtain ⟨as,ra,pa,za⟩:=I.tuple hq1;obtain ⟨bs,rb,pb,zb⟩:=I.tuple hq2;obtain ⟨cs,rc,pc,zc⟩:=I.tuple hq3;obtain ⟨ux,hux,rux⟩:=ra.get hx;obtain ⟨uy,huy,ruy⟩:=rb.get hy;obtain ⟨uz,huz,ruz⟩:=rc.get hz';refine x2d ap q1 q2 q3 q4 q5 q6 (show s.heap.IsTuple a as.toArray from pa) (show s.heap.IsTuple b bs.toArray from pb) (show s.heap.IsTuple c cs.toArray from pc) (x:=ux) (y:=uy) (o3:=uz) (by simpa using hux) (by simpa using huy) (by simpa using huz) λ h' zz oo p1' p2' p3' np bt=>?_
  have I1:Inv X pins σ H { s with heap:=h' }:=I.turnedL (t':=s.toks) (fl:=[z,ti,ox,j1,j2,j3]) (λ c o hc e=>by
   simp only [t1a,t1l,t3f,not_or] at hc
   exact bt c o hc.1 hc.2.2.1 hc.2.2.2.1 hc.2.2.2.2.1 hc.2.2.2.2.2 e) hf
  obtain ⟨f0,f1,f2,f3,f4,f5⟩:=I.fpOk (t0n s.heap.objs.size) (I.hok.fresh (t0n _))
  have n0:X.s₀.heap.get? s.heap.objs.size=none:=by
   cases q:X.s₀.heap.get? s.heap.objs.size with
   | none=>rfl
   | some o=>exact absurd (t1d (t0y q) I.sz) (t2s _)
  have I2:Inv X pins σ (upd H s.heap.objs.size (.tup [x,y,z'])) { s with heap:=h' }:=I1.track f0 ⟨small (by simp),[ux,uy,uz],.cons rux (.cons ruy (.cons ruz .nil)),⟨_,np,rfl,_,rfl⟩⟩ f1 f4 f5 n0;have lt:∀ {c o},s.heap.get? c=some o->c≠s.heap.objs.size:=λ e=>t1k (t0y e);have hzT:z≠s.heap.objs.size:=lt q1;have ti2:z3u h' ti (.ref j1) (.ref j2) (.ref j3):=bt _ _ ap.ti_z ap.ti_ox ap.ti_j1 ap.ti_j2 ap.ti_j3 q2;obtain ⟨e0,e1,e2,e3,e4,e5⟩:=hf z (by simp);refine ⟨_,rfl,t8j zz λ h2 z2 sb=>?_⟩;have I3:Inv X pins σ (upd H s.heap.objs.size (.tup [x,y,z'])) { s with heap:=h2 }:=Inv.turned (s:={ s with heap:=h' }) (h':=h2) (t':=s.toks) (it:=z) I2 (λ c o hc e=>sb.extBut _ _ hc e) (by rw [z0u hzT];exact e0) e1 e3 e4 e5;refine ⟨.ref s.heap.objs.size,_,I3,rfl,⟨_,x,y,z',rfl,f0,rfl,λ xs' ys' zs' k1 k2 k3=>?_⟩,⟨z2,sb.extBut _ _ ap.ti_z ti2,⟨_,_,_,sb.extBut _ _ ap.ox_z oo⟩,z1c p1' λ o g=>sb.extBut _ _ ap.j1_z g,z1c p2' λ o g=>sb.extBut _ _ ap.j2_z g,z1c p3' λ o g=>sb.extBut _ _ ap.j3_z g⟩,λ c hc=>?_⟩
  ·rw [I.tuple_inj k1 hq1,I.tuple_inj k2 hq2,I.tuple_inj k3 hq3];exact ⟨hx,hy,hz'⟩
  ·have cT:c≠s.heap.objs.size:=by
    obtain ⟨o4,g4,_⟩:=q4;obtain ⟨o5,g5,_⟩:=q5;obtain ⟨o6,g6,_⟩:=q6;simp only [t1a,t1l,t3f] at hc
    rcases hc with rfl | rfl | rfl | rfl | rfl | rfl
    ·exact hzT
    ·exact lt q2
    ·exact lt q3
    ·exact lt g4
    ·exact lt g5
    ·exact lt g6
   rw [z0u cT];exact (hf c hc).1
 done:=by
  intro X hP hw hK hc i pins s σ H E I hf st hg;subst hP hw hK;obtain ⟨xs,hq1,hx⟩:=hg;obtain ⟨q1,q2,_,q4,_,_⟩:=st;obtain ⟨as,ra,pa,za⟩:=I.tuple hq1;have la:=ra.length;refine x8p (I.ok.hd hc) ap q1 q2 q4 (show s.heap.IsTuple a as.toArray from pa) (by simp;lia) λ h' bt=>⟨rfl,?_⟩
  exact I.turnedL (t':=s.toks) (fl:=[z,ti,ox,j1,j2,j3]) (λ c o hc e=>by
   simp only [t1a,t1l,t3f,not_or] at hc
   exact bt c o hc.1 hc.2.2.1 hc.2.2.2.1 hc.2.2.2.2.1 hc.2.2.2.2.2 e) hf
 self:=λ _ _ _ _ _ st h=>t7i st.1 h
abbrev it0 (h:Heap) (a:Addr):Heap:=h.push { cls:=.type "tuple_iterator",data:=.fields #[.ref a,.int 0 0] }
abbrev zw3 (h:Heap) (a b c:Addr):Heap:=it0 (it0 (it0 h a) b) c
noncomputable abbrev zw4 (h:Heap) (a b c:Addr):Heap:=(zw3 h a b c).push { cls:=.type "tuple",data:=.seq #[.ref h.objs.size,.ref (it0 h a).objs.size,.ref (it0 (it0 h a) b).objs.size] }
abbrev zw5 (h:Heap) (a b c:Addr):Heap:=(zw4 h a b c).push { cls:=.type "tuple",data:=.seq #[.none,.none,.none] }
noncomputable abbrev zw6 (h:Heap) (a b c:Addr):Heap:=(zw5 h a b c).push { cls:=.type "zip",data:=.fields #[.none,.bool false,.bool false,.ref (zw3 h a b c).objs.size,.ref (zw4 h a b c).objs.size] }
theorem x8o (a b c:Addr) (as bs cs:Array Value):Meets (Builtin.«zip.__new__» ⟨[.type "zip",.ref a,.ref b,.ref c],[]⟩) (λ _ R s=>s.heap.IsTuple a as/\s.heap.IsTuple b bs/\s.heap.IsTuple c cs/\R (.ok (.ret (.ref (zw5 s.heap a b c).objs.size))) { s with heap:=zw6 s.heap a b c }) :=
 .of_wp λ prog w A R s h=>by
  obtain ⟨hp,g,d,tk,os⟩:=s;obtain ⟨ha,hb,hc,h⟩:=h;have q0:=sub_zip;have q1:Heap.IsTuple (Shared.heap ⟨hp,g,d,tk,os⟩) a as:=ha;have q2:Heap.IsTuple (Shared.heap ⟨hp.push { cls:=.type "tuple_iterator",data:=.fields #[.ref a,.int 0 0] },g,d,tk,os⟩) b bs:=z4k hb λ o e=>t0f _ e;have q3:Heap.IsTuple (Shared.heap ⟨(hp.push { cls:=.type "tuple_iterator",data:=.fields #[.ref a,.int 0 0] }).push { cls:=.type "tuple_iterator",data:=.fields #[.ref b,.int 0 0] },g,d,tk,os⟩) c cs:=z4k hc λ o e=>t0f _ (t0f _ e);wp_walk using t2w q1,t2w q2,t2w q3;exact ⟨_,rfl,h⟩
theorem x2e {s0:Shared}{R:VS}(ha:s0.heap.IsTuple a as) (hb:s0.heap.IsTuple b bs) (hc:s0.heap.IsTuple c cs)
  (f:∀h',IsZip h' (s0.heap.objs.size+5) (s0.heap.objs.size+3) (s0.heap.objs.size+4) .none->z3u h' (s0.heap.objs.size+3) (.ref s0.heap.objs.size) (.ref (s0.heap.objs.size+1)) (.ref (s0.heap.objs.size+2))->z3u h' (s0.heap.objs.size+4) .none .none .none ->
   h'.IsTupleIter s0.heap.objs.size a 0->h'.IsTupleIter (s0.heap.objs.size+1) b 0->h'.IsTupleIter (s0.heap.objs.size+2) c 0->(∀c o,s0.heap.get? c=some o->h'.get? c=some o)->R (.ref (s0.heap.objs.size+5)) { s0 with heap:=h' }) :
  wpAny (model pg wd) B (call (.type "zip") [.ref a,.ref b,.ref c]) R X0 s0:=by
 refine t9i F.called_zip (by decide) (w3r _ _ _) (w4x _ _ _) (λ ob=>v5y ob _ _ _) F.entry_zip_new (x8o a b c as bs cs) ⟨ha,hb,hc,?_⟩;have n1:(it0 s0.heap a).objs.size=s0.heap.objs.size+1:=t2l ..;have n2:(it0 (it0 s0.heap a) b).objs.size=s0.heap.objs.size+2:=by rw [t2l,n1]
 have n3:(zw3 s0.heap a b c).objs.size=s0.heap.objs.size+3:=by rw [t2l,n2]
 have n4:(zw4 s0.heap a b c).objs.size=s0.heap.objs.size+4:=by rw [t2l,n3]
 have n5:(zw5 s0.heap a b c).objs.size=s0.heap.objs.size+5:=by rw [t2l,n4]
 have u1:∀ {h:Heap}{o o':Obj}{x:Addr},h.get? x=some o->(h.push o').get? x=some o:=λ e=>t0f _ e;have g6:(zw6 s0.heap a b c).get? (zw5 s0.heap a b c).objs.size=some _:=t0r _ rfl;have g5:(zw6 s0.heap a b c).get? (zw4 s0.heap a b c).objs.size=some _:=u1 (t0r _ rfl);have g4:(zw6 s0.heap a b c).get? (zw3 s0.heap a b c).objs.size=some _:=u1 (u1 (t0r _ rfl));have g3:(zw6 s0.heap a b c).get? (it0 (it0 s0.heap a) b).objs.size=some _:=u1 (u1 (u1 (t0r _ rfl)));have g2:(zw6 s0.heap a b c).get? (it0 s0.heap a).objs.size=some _:=u1 (u1 (u1 (u1 (t0r _ rfl))));have g1:(zw6 s0.heap a b c).get? s0.heap.objs.size=some _:=u1 (u1 (u1 (u1 (u1 (t0r _ rfl)))));show _/\_;rw [n3,n4,n5] at g6;rw [n1,n2,n3] at g4;rw [n4] at g5;rw [n2] at g3;rw [n1] at g2;rw [n5];exact ⟨⟨_,g6,rfl⟩,f _ g6 g4 g5 ⟨_,g1,rfl,rfl⟩ ⟨_,g2,rfl,rfl⟩ ⟨_,g3,rfl,rfl⟩ λ x o q=>u1 (u1 (u1 (u1 (u1 (u1 q)))))⟩
theorem x8e (n a b c:Nat) (ha:a < n) (hb:b < n) (hc:c < n):Apart6 (n+5) (n+3) (n+4) n (n+1) (n+2) a b c:=by
 constructor<;>first | exact t1k (by lia) | exact t4w (by lia)
section
variable {X:Cx}{es:List Expr}{x1:Nat}{pp:Pos}
noncomputable def v0j (K:FG) (ta:TA):TI:=λ σ H R=>ta σ H λ vs H1=>∃a b c xs ys zs,vs=[.ref a,.ref b,.ref c]/\SqT K H1 a xs/\SqT K H1 b ys/\SqT K H1 c zs/\R (v1c K a b c) H1
theorem w4d {e1 e2 e3:Expr}{p pos:Pos}(hg:Gl X "zip") (hm:X.mg "zip"=none) (ha:PA X [e1,e2,e3] ta) (hs:starEach [e1,e2,e3] X.env=[(false,eval e1 X.env),(false,eval e2 X.env),(false,eval e3 X.env)]:=by rfl) (hs2:starEach [e2,e3] X.env=[(false,eval e2 X.env),(false,eval e3 X.env)]:=by rfl) :
  PI X (.Tuple es x1 pp) (.Call (.Name "zip" p) [e1,e2,e3] [] pos) (v0j X.K ta):=by
 intro pins s σ H R I h;have hA:=ha pos pins s σ H _ I h;refine Call_ (z5d I hg hm boot_zip (t1t (thn hA λ us s1 ⟨vs,H1,I1,r1,q1⟩=>?_) (by rw [hs,hs2]) (by rw [hs2];rfl)));obtain ⟨a,b,c,xs,ys,zs,rfl,ha,hb,hc,q⟩:=q1;obtain ⟨u,u',u'',rfl,ra,rb,rc⟩:=x8q r1;cases (show u=Value.ref a from ra);cases (show u'=Value.ref b from rb);cases (show u''=Value.ref c from rc);obtain ⟨as,va,pa,za⟩:=I1.tuple ha;obtain ⟨bs,vb,pb,zb⟩:=I1.tuple hb;obtain ⟨cs,vc,pc,zc⟩:=I1.tuple hc;have al:a < s1.heap.objs.size:=by obtain ⟨o,g,_⟩:=pa;exact t0y g
 have bl:b < s1.heap.objs.size:=by obtain ⟨o,g,_⟩:=pb;exact t0y g
 have cl:c < s1.heap.objs.size:=by obtain ⟨o,g,_⟩:=pc;exact t0y g
 refine x2e (show s1.heap.IsTuple a as.toArray from pa) (show s1.heap.IsTuple b bs.toArray from pb) (show s1.heap.IsTuple c cs.toArray from pc) λ h' w1 w2 w3 w4 w5 w6 kk=>?_;have I2:Inv X pins σ H1 { s1 with heap:=h' }:=I1.kept (t':=s1.toks) kk;have ap:=x8e s1.heap.objs.size a b c al bl cl;refine t7i w1 ⟨s1.heap.objs.size+5,[s1.heap.objs.size+5,s1.heap.objs.size+3,s1.heap.objs.size+4,s1.heap.objs.size,s1.heap.objs.size+1,s1.heap.objs.size+2],_,_,H1,rfl,I2,x2f ap,⟨w1,w2,⟨_,_,_,w3⟩,w4,w5,w6⟩,λ c hc=>?_,q⟩
 have ge:s1.heap.objs.size≤c:=by
  simp only [t1a,t1l,t3f] at hc
  rcases hc with rfl | rfl | rfl | rfl | rfl | rfl<;>lia
 exact I1.fpOk ge (I1.hok.fresh ge)
end
noncomputable def CompZ3 (K:PySem.W.Frag) (k:Nat) (js:List Nat) (g:TG) (te:TE) (σ:St) (vs:List V) (H1:Hp) (Q:VK):Prop:=∃a b c xs ys zs,vs=[.ref a,.ref b,.ref c]/\SqT K H1 a xs/\SqT K H1 b ys/\SqT K H1 c zs/\∃W:Nat->Nat->List V->St->Hp->Prop,(∃m,W 0 m [] (z1s k js σ) H1)/\∀i m zs σ' H',W i m zs σ' H' ->
  ((v1c K a b c).stop i H'/\∀p,H' p=none->Q (.ref p) (upd H' p (.lst zs))) \/
  ((v1c K a b c).go i H'/\zs.length < sizeLine/\∃N:List V->St->Hp->Prop,(∀zs σ2 H2,N zs σ2 H2->∃m',m' < m/\W (i+1) m' zs σ2 H2)/\∀x H2,(v1c K a b c).yld i H' x H2->g x σ' H2 λ σ3 H3=>te σ3 H3 λ v H4=>N (zs++[v]) σ3 H4)
theorem x7o {K:FG}:z8m (v0j K ta) k js g te σ H Q=ta σ H λ vs H1=>CompZ3 K k js g te σ vs H1 Q:=rfl
theorem CompZ3.mk {K:FG}{xs ys zs:List V}{g:TG}{te:TE}{Q:VK}(n:Nat) (hn:n=xs.length) (hy:ys.length=n) (hz:zs.length=n) (h1:SqT K H a xs) (h2:SqT K H b ys) (h3:SqT K H c zs) (Pv:Nat->List V->St->Hp->Prop) (h0:Pv 0 [] (z1s k js σ) H) (hl:∀i us σ H,i≤n->Pv i us σ H->SqT K H a xs/\SqT K H b ys/\SqT K H c zs)
  (hs:∀i x y z us σ H T,i < n->xs[i]?=some x->ys[i]?=some y->zs[i]?=some z->Pv i us σ H->H T=none->g (.ref T) σ (upd H T (.tup [x,y,z])) λ σ3 H3=>te σ3 H3 λ v H4=>Pv (i+1) (us++[v]) σ3 H4) (hd:∀us σ H,Pv n us σ H->∀p,H p=none->Q (.ref p) (upd H p (.lst us))) (hlen:∀i us σ H,Pv i us σ H->us.length < sizeLine) :
  CompZ3 K k js g te σ [.ref a,.ref b,.ref c] H Q:=by
 subst hn;refine ⟨a,b,c,xs,ys,zs,rfl,h1,h2,h3,λ i m us σ H=>m=xs.length - i/\i≤xs.length/\Pv i us σ H,⟨_,rfl,t0x _,h0⟩,?_⟩;rintro i m us σ H ⟨rfl,hi,p⟩;obtain ⟨k1,k2,k3⟩:=hl i us σ H hi p;by_cases hlt:i < xs.length
 ·refine .inr ⟨⟨xs,ys,zs,_,_,_,k1,k2,k3,t0e hlt,t0e (hy ▸ hlt),t0e (hz ▸ hlt)⟩,hlen _ _ _ _ p,Pv (i+1),λ us' σ' H' p'=>⟨xs.length - (i+1),by lia,rfl,hlt,p'⟩,λ v H' yy=>?_⟩;obtain ⟨T,x,y,z,rfl,hT,rfl,ex⟩:=yy;obtain ⟨ex1,ex2,ex3⟩:=ex xs ys zs k1 k2 k3;exact hs i x y z us σ H T hlt ex1 ex2 ex3 p hT
 ·have e:i=xs.length:=by lia
  exact .inl ⟨⟨xs,k1,by lia⟩,hd us σ H (e ▸ p)⟩
section
variable {prog:Program}{w:World}{A:Around}{R:Result->Shared->Prop}{I:Addr}{fp wr:List Addr}{n:Nat}{P:Nat->Value->Prop}{St:Nat->Heap->Prop}
noncomputable def v5f (h0:Heap) (S:Addr) (wr:List Addr) (kf:Nat->Int) (P:Nat->Value->Prop):Prop:=∀i v,P i v->∃a its,v=.ref a/\¬a∈wr/\a≠S/\h0.IsTuple a its/\(its.size:Int) < 2 ^ 63/\kf i=its.size
def x8l (kf:Nat->Int) (m i:Nat):Prop:=∀j,j < m->kf j≤kf i/\(j < i->kf j < kf i)
theorem w0f (W:Walks prog w A.in1 I fp wr n P St) (kf:Nat->Int) (S:Addr) (hSf:¬S∈fp) (h0:Heap) (hk:v5f h0 S wr kf P):∀(k j i:Nat) (s:Shared) (vb:Value) (tb:Tok) (c:Nat),n - (j+1)=k->j+1≤n->St (j+1) s.heap->P i vb->i≤j->x8l kf (j+1) i->(∀b o,¬b∈wr->b≠S->h0.get? b=some o->s.heap.get? b=some o)->s.heap.get? S=some ⟨.type "list",none,.seq #[vb,.int (kf i) tb] c,#[]⟩ ->
  (∀i v h' tk,P i v->i < n->x8l kf n i->(∀b o,¬b∈wr->b≠S->h0.get? b=some o->h'.get? b=some o)->R (.ok (.ret v)) { s with heap:=h',toks:=tk })->codeAny (model prog w) A (.builtin "max.loop" ⟨[.ref I,.builtin "len",.ref S],[]⟩) R s:=by
 have hSw:¬S∈wr:=λ h=>hSf (W.sub _ h);have nm:(toString "max" ++ toString ".loop" : String)="max.loop" := by decide
 intro k;induction k with
 | zero =>
  intro j i s vb tb c hk' hj hst hPb hij hb kp0 hS hR;have e0:j+1=n:=by lia
  refine t3r t6q ?_;rw [t2v t3c _];show wpAny (model prog w) A.in1 (seqItems? (.ref S) >>= _) _ _ s;refine t0b (m:=seqItems? (.ref S)) (t2h hS rfl ?_);show wpAny (model prog w) A.in1 (tryCatch (pyNext (.ref I)) _ >>= _) _ _ s;refine t0b (m:=tryCatch (pyNext (.ref I)) _) (t5p (W.done s _ _ (e0 ▸ hst) λ h' tk kp=>?_));have hS1:=kp S _ hSw hS;show wpAny (model prog w) A.in1 (updateSeq S (λ _=>#[]) >>= _) _ _ _;refine t0b (m:=updateSeq S (λ _=>#[])) (t5j hS1 rfl (t0b (t4z (t0s ?_))));exact hR i vb _ tk hPb (by lia) (e0 ▸ hb) λ b o hbw hbS e=>(t1v _ _ (t3z hbS)).trans (kp b o hbw (kp0 b o hbw hbS e))
 | succ k ih =>
  intro j i s vb tb c hk' hj hst hPb hij hb kp0 hS hR;have lt0:j+1 < n:=by lia
  refine t3r t6q ?_;rw [t2v t3c _];show wpAny (model prog w) A.in1 (seqItems? (.ref S) >>= _) _ _ s;refine t0b (m:=seqItems? (.ref S)) (t2h hS rfl ?_);show wpAny (model prog w) A.in1 (tryCatch (pyNext (.ref I)) _ >>= _) _ _ s;refine t0b (m:=tryCatch (pyNext (.ref I)) _) (t5p (W.item (j+1) s _ _ lt0 hst λ v h' tk hP hst1 kp=>?_));have hS1:=kp S _ hSw hS;have kp1:∀b o,¬b∈wr->b≠S->h0.get? b=some o->h'.get? b=some o:=λ b o hbw hbS e=>kp b o hbw (kp0 b o hbw hbS e);obtain ⟨a,its,rfl,aw,aS,at0,a63,ek⟩:=hk _ _ hP;show wpAny (model prog w) A.in1 (tryCatch (holding [.ref a] (call (.builtin "len") [.ref a])) _ >>= _) _ _ _;refine t0b (t5p (t3j (s0w (z4k at0 λ o e=>kp1 a o aw aS e) a63 ?_)));rw [← ek];show wpAny (model prog w) A.in1 (tryCatch (holding [.ref a,.int (kf (j+1)) _] (richCompare .Gt (.int (kf (j+1)) _) (.int (kf i) tb) >>= _)) _ >>= _) _ _ _;refine t0b (t5p (t3j (t0b (CmpOf.ints_gt (prog:=prog) (w:=w) (A:=A.in1) (P:=λ i v=>∃t,v=.int (kf i) t) kf (λ i v h=>h) (j+1) i _ _ _ _ _ ⟨_,rfl⟩ ⟨tb,rfl⟩ ?_))));refine t0b (t3j (t3i ?_));refine t0b (t4z (t0s ?_));by_cases hb':kf (j+1) > kf i
  ·simp only [hb',decide_true,t7u];refine t0b (m:=updateSeq S _) (t5j hS1 rfl (t0b (t4z ?_)));rw [nm];refine t0s (a:=_) ⟨t3q t3c _,ih (j+1) (j+1) _ (.ref a) _ _ (by lia) lt0 (W.frame _ _ _ hst1 λ b hbf o e=>(t1v _ _ (λ h:S=b=>hSf (by rw [h];exact hbf))).trans e) hP (t0n _) (λ j' hj'=>?_) (λ b o hbw hbS e=>(t1v _ _ (t3z hbS)).trans (kp1 b o hbw hbS e)) (t2q _ hS1 rfl) λ i2 v2 h2 tk2 q1 q2 q3 q4=>hR i2 v2 h2 tk2 q1 q2 q3 q4⟩;by_cases e:j'=j+1
   ·subst e;exact ⟨t5u _,λ z=>absurd z (t2s _)⟩
   ·have:=(hb j' (by lia)).1;exact ⟨by lia,λ _=>by lia⟩
  ·simp only [hb',decide_false,t8h,s0t];refine t0b (m:=letGo _) (t4z ?_);rw [nm];refine t0s (a:=_) ⟨t3q t3c _,ih (j+1) i _ vb tb c (by lia) lt0 hst1 hPb (by lia) (λ j' hj'=>?_) kp1 hS1 λ i2 v2 h2 tk2 q1 q2 q3 q4=>hR i2 v2 h2 tk2 q1 q2 q3 q4⟩;by_cases e:j'=j+1
   ·subst e;exact ⟨by lia,λ z=>by lia⟩
   ·exact hb j' (by lia)
theorem x5u (W:Walks prog w A.in1 I fp wr n P St) (kf:Nat->Int) (S:Addr) (hSf:¬S∈fp) (h0:Heap) (hk:v5f h0 S wr kf P) (hn:0 < n) {s:Shared}(hst:St 0 s.heap) (kp0:∀b o,¬b∈wr->b≠S->h0.get? b=some o->s.heap.get? b=some o) (hS:s.heap.get? S=some ⟨.type "list",none,.seq #[] c,#[]⟩)
  (hR:∀i v h' tk,P i v->i < n->x8l kf n i->(∀b o,¬b∈wr->b≠S->h0.get? b=some o->h'.get? b=some o)->R (.ok (.ret v)) { s with heap:=h',toks:=tk }):codeAny (model prog w) A (.builtin "max.loop" ⟨[.ref I,.builtin "len",.ref S],[]⟩) R s:=by
 have hSw:¬S∈wr:=λ h=>hSf (W.sub _ h);have nm:(toString "max" ++ toString ".loop" : String)="max.loop" := by decide
 refine t3r t6q ?_;rw [t2v t3c _];show wpAny (model prog w) A.in1 (seqItems? (.ref S) >>= _) _ _ s;refine t0b (m:=seqItems? (.ref S)) (t2h hS rfl ?_);show wpAny (model prog w) A.in1 (tryCatch (pyNext (.ref I)) _ >>= _) _ _ s;refine t0b (m:=tryCatch (pyNext (.ref I)) _) (t5p (W.item 0 s _ _ hn hst λ v h' tk hP hst1 kp=>?_));have hS1:=kp S _ hSw hS;have kp1:∀b o,¬b∈wr->b≠S->h0.get? b=some o->h'.get? b=some o:=λ b o hbw hbS e=>kp b o hbw (kp0 b o hbw hbS e);obtain ⟨a,its,rfl,aw,aS,at0,a63,ek⟩:=hk _ _ hP;show wpAny (model prog w) A.in1 (tryCatch (holding [.ref a] (call (.builtin "len") [.ref a])) _ >>= _) _ _ _;refine t0b (t5p (t3j (s0w (z4k at0 λ o e=>kp1 a o aw aS e) a63 ?_)));rw [← ek];show wpAny (model prog w) A.in1 (updateSeq S (λ _=>#[.ref a,.int (kf 0) _]) >>= _) _ _ _;refine t0b (m:=updateSeq S _) (t5j hS1 rfl ?_);rw [nm];refine t0s (a:=_) ⟨t3q t3c _,w0f W kf S hSf h0 hk _ 0 0 _ (.ref a) _ _ rfl hn (W.frame _ _ _ hst1 λ b hbf o e=>(t1v _ _ (λ h:S=b=>hSf (by rw [h];exact hbf))).trans e) hP (t0n _) (λ j' hj'=>?_) (λ b o hbw hbS e=>(t1v _ _ (t3z hbS)).trans (kp1 b o hbw hbS e)) (t2q _ hS1 rfl) λ i2 v2 h2 tk2 q1 q2 q3 q4=>hR i2 v2 h2 tk2 q1 q2 q3 q4⟩;have z:j'=0:=by lia
 subst z;exact ⟨t5u _,λ z=>absurd z (t2s _)⟩
end
section
variable {X:Cx}
end
section
variable {X:Cx}{st:Stmt}{rest:List Stmt}{t u:TS}{e:Expr}{es:List Expr}{te:TE}{ta:TA}{pos:Pos}
end
section
variable {prog:Program}{w:World}{A:Around}
theorem y6c (a b v:Value):argsOk "max" ⟨[a,b],[(Str.ofString "key",v)]⟩:=by unfold argsOk;kernel_rfl
theorem x5v {s:Shared}{Q:VS}(hh:A.handled=none) (h1:s.heap.IsTuple a1 i1) (h2:s.heap.IsTuple a2 i2) (z1:(i1.size:Int) < 2 ^ 63) (z2:(i2.size:Int) < 2 ^ 63)
  (hQ:∀v h' tk,(v=.ref a1/\i2.size≤i1.size\/v=.ref a2/\i1.size < i2.size)->(∀b o,s.heap.get? b=some o->h'.get? b=some o)->Q v { s with heap:=h',toks:=tk }):wpAny (model prog w) A (call (.builtin "max") [.ref a1,.ref a2] [(Str.ofString "key",.builtin "len")]) Q E s:=by
 have nm:(toString "max" ++ toString ".loop" : String)="max.loop" := by decide
 have hT:(s.heap.push { cls:=.type "tuple",data:=.seq #[.ref a1,.ref a2] }).IsTuple s.heap.objs.size #[.ref a1,.ref a2]:=⟨_,t0r _ rfl,rfl,0,rfl⟩;have hsz:(s.heap.push { cls:=.type "tuple",data:=.seq #[.ref a1,.ref a2] }).objs.size=s.heap.objs.size+1:=t2l ..;refine kmb_tree PySem.F.kind_max PySem.F.plain_max PySem.F.entry_max (y6c _ _ _) ?_;show wpAny _ A.in1 (Builtin.Builtins.bindParams "max" ["key","default"] 0 ⟨[],[(Str.ofString "key",.builtin "len")]⟩ >>= _) _ _ s;refine t0b (t4c (show Builtin.Builtins.bindParams "max" ["key","default"] 0 ⟨[],[(Str.ofString "key",.builtin "len")]⟩=pure [some (.builtin "len"),none] from rfl) ?_);show wpAny _ A.in1 (newTuple [.ref a1,.ref a2] >>= _) _ _ s;refine t0b (t1w ?_);refine t0b (m:=pyIter _) (t2w hT ?_);refine t0b (m:=newList _) (t1w ?_);rw [nm];have W:=Walks.tuple (prog:=prog) (w:=w) (A:=A.in1) hh (s.heap.push { cls:=.type "tuple",data:=.seq #[.ref a1,.ref a2] }).objs.size s.heap.objs.size (by rw [hsz];exact t1k (t3v _)) #[.ref a1,.ref a2];have hI:((s.heap.push { cls:=.type "tuple",data:=.seq #[.ref a1,.ref a2] }).push { cls:=.type "tuple_iterator",data:=.fields #[.ref s.heap.objs.size,.int 0 0] }).objs.size=s.heap.objs.size+2:=by rw [t2l,hsz]
 have e1:a1 < s.heap.objs.size:=by obtain ⟨o,g,_⟩:=h1;exact t0y g
 have e2:a2 < s.heap.objs.size:=by obtain ⟨o,g,_⟩:=h2;exact t0y g
 refine t0s (a:=_) ⟨t3q t3c _,x5u W (λ i=>([(i1.size:Int),(i2.size:Int)].getD i 0)) ((s.heap.push { cls:=.type "tuple",data:=.seq #[.ref a1,.ref a2] }).push { cls:=.type "tuple_iterator",data:=.fields #[.ref s.heap.objs.size,.int 0 0] }).objs.size ?_ s.heap (λ i v hv=>?_) (t5s _) ?_ (λ b o _ _ e=>t0f _ (t0f _ (t0f _ e))) (t0r _ rfl) λ i v h' tk q1 q2 q3 q4=>?_⟩
 ·rw [hI,hsz];intro z
  rcases t1a.mp z with z | z
  ·exact absurd z (Nat.succ_ne_self _)
  ·exact absurd (t0v.mp z) (t4w (t2b (t3v _)))
 ·have nw:∀a,a < s.heap.objs.size->¬a∈[(s.heap.push { cls:=.type "tuple",data:=.seq #[.ref a1,.ref a2] }).objs.size]:=λ a h z=>by
   have:=t0v.mp z;rw [hsz] at this;exact t1k (t2b h) this
  match i,hv with
  | 0,hv=>cases hv;exact ⟨a1,i1,rfl,nw _ e1,by rw [hI];exact t1k (t2b (t2b e1)),h1,z1,rfl⟩
  | 1,hv=>cases hv;exact ⟨a2,i2,rfl,nw _ e2,by rw [hI];exact t1k (t2b (t2b e2)),h2,z2,rfl⟩
  | i+2,hv=>simp at hv
 ·exact W.frame _ _ _ ⟨⟨_,t0r _ rfl,rfl,rfl⟩,hT.push _⟩ λ b _ o e=>t0f _ e
 ·have kp:∀b o,s.heap.get? b=some o->h'.get? b=some o:=λ b o e=>by
   have bl:=t0y e;exact q4 b o (λ z=>by have:=t0v.mp z;rw [hsz] at this;exact t1k (t2b bl) this) (by rw [hI];exact t1k (t2b (t2b bl))) e
  match i,q1 with
  | 0,q1 =>
   cases q1;have b:=(q3 1 (t3v _)).1;have b:(i2.size:Int)≤(i1.size:Int):=b;exact hQ _ _ _ (.inl ⟨rfl,by lia⟩) kp
  | 1,q1 =>
   cases q1;have b:=(q3 0 (t5s _)).2 (t5s _);have b:(i1.size:Int) < (i2.size:Int):=b;exact hQ _ _ _ (.inr ⟨rfl,by lia⟩) kp
  | i+2,q1=>simp at q1
end
section
variable {X:Cx}
noncomputable def v2e:V->V->Hp->VK->Prop:=λ x y H Q=>∃(a b:Addr) (xs ys:List V),x=.ref a/\y=.ref b/\H a=some (.tup xs)/\H b=some (.tup ys)/\(ys.length≤xs.length->Q (.ref a) H)/\(xs.length < ys.length->Q (.ref b) H)
def v4i (r:V->V->Hp->VK->Prop) (te tf:TE):TE:=λ σ H Q=>te σ H λ x H1=>tf σ H1 λ y H2=>r x y H2 Q
theorem y9x {p kp pos p2:Pos}(hc:X.calm=true) (hg:Gl X "max") (hm:X.mg "max"=none) (hg2:Gl X "len") (hm2:X.mg "len"=none) (he:PE X e te) (hf:PE X f tf) (hs:starEach [e,f] X.env=(false,eval e X.env)::starEach [f] X.env:=by rfl) (hs2:starEach [f] X.env=[(false,eval f X.env)]:=by rfl):PE X (.Call (.Name "max" p) [e,f] [⟨some (Str.ofString "key"),.Name "len" p2,kp⟩] pos) (v4i v2e te tf):=by
 intro pins s σ H Q I h;refine t4j (z5d I hg hm t9q ?_);have hA:=(z0i he (z0i hf (z1j (X:=X)) hs2) hs) pos pins s σ H (λ vs H1=>match vs with | [x,y]=>v2e x y H1 Q | _=>False) I h;refine callWith_kw (thn hA λ us s1 ⟨vs,H1,I1,r1,q1⟩=>?_) (by rw [hs,hs2];rfl) (by rw [hs,hs2];rfl)
 match vs,q1 with
 | [x0,y0],q1 =>
  obtain ⟨u,v,rfl,ru,rv⟩:=x0w r1;refine kws_cons (z5d I1 hg2 hm2 boot_len (kws_nil ?_));obtain ⟨a,b,xs,ys,rfl,rfl,ha,hb,qa,qb⟩:=q1;cases (show u=Value.ref a from ru);cases (show v=Value.ref b from rv);obtain ⟨i1,t1,p1,y1⟩:=I1.tuple (show SqT X.K H1 a xs from .of ha);obtain ⟨i2,t2,p2',y2⟩:=I1.tuple (show SqT X.K H1 b ys from .of hb);have l1:=t1.length;have l2:=t2.length;have hsz:sizeLine=16777216:=s0f;refine x5v (I1.ok.hd hc) p1 p2' (by rw [t0z];lia) (by rw [t0z];lia) λ v h' tk hv kk=>?_;simp only [t0z] at hv
  rcases hv with ⟨rfl,hl⟩ | ⟨rfl,hl⟩
  ·exact ⟨.ref a,H1,I1.kept kk,rfl,qa (by lia)⟩
  ·exact ⟨.ref b,H1,I1.kept kk,rfl,qb (by lia)⟩
end
noncomputable def CompLI (K:PySem.W.Frag) (k:Nat) (js:List Nat) (g:TG) (tc:TT) (te:TE) (σ:St) (v:V) (H1:Hp) (Q:VK):Prop:=∃a,v=.ref a/\(∃xs,SqL K H1 a xs)/\∃W:Nat->Nat->List V->St->Hp->Prop,(∃m,W 0 m [] (z1s k js σ) H1)/\∀i m zs σ' H',W i m zs σ' H' ->
  ((Itl K a).stop i H'/\∀p,H' p=none->Q (.ref p) (upd H' p (.lst zs))) \/
  ((Itl K a).go i H'/\zs.length < sizeLine/\∃N:List V->St->Hp->Prop,(∀zs σ2 H2,N zs σ2 H2->∃m',m' < m/\W (i+1) m' zs σ2 H2)/\∀x H2,(Itl K a).yld i H' x H2->g x σ' H2 λ σ3 H3=>tc σ3 H3 λ b H4=>if b=true then te σ3 H4 λ v H5=>N (zs++[v]) σ3 H5 else N zs σ3 H4)
theorem x7s {K:FG}:z5k (x6r K tx) k js g tc te σ H Q=tx σ H λ v H1=>CompLI K k js g tc te σ v H1 Q:=rfl
theorem CompLI.mk {K:FG}{g:TG}{tc:TT}{te:TE}{Q:VK}(h1:SqL K H a xs) (Pv:Nat->List V->St->Hp->Prop) (h0:Pv 0 [] (z1s k js σ) H) (hl:∀i zs σ H,i≤xs.length->Pv i zs σ H->SqL K H a xs/\zs.length < sizeLine)
  (hs:∀i x zs σ H,xs[i]?=some x->Pv i zs σ H->g x σ H λ σ3 H3=>tc σ3 H3 λ b H4=>if b=true then te σ3 H4 λ v H5=>Pv (i+1) (zs++[v]) σ3 H5 else Pv (i+1) zs σ3 H4) (hz:∀zs σ H,Pv xs.length zs σ H->∀p,H p=none->Q (.ref p) (upd H p (.lst zs))) :
  CompLI K k js g tc te σ (.ref a) H Q:=by
 refine ⟨a,rfl,⟨xs,h1⟩,λ i m zs σ H=>m=xs.length - i/\i≤xs.length/\Pv i zs σ H,⟨_,rfl,t0x _,h0⟩,?_⟩;rintro i m zs σ H ⟨rfl,hi,p⟩;obtain ⟨k1,k2⟩:=hl i zs σ H hi p;by_cases hlt:i < xs.length
 ·refine .inr ⟨⟨xs,_,k1,t0e hlt⟩,k2,Pv (i+1),λ zs' σ' H' p'=>⟨xs.length - (i+1),by lia,rfl,hlt,p'⟩,λ v H' yy=>?_⟩;obtain ⟨rfl,ex⟩:=yy;exact hs i v zs σ _ (ex xs k1) p
 ·have e:i=xs.length:=by lia
  exact .inl ⟨⟨xs,k1,by lia⟩,hz zs σ H (e ▸ p)⟩
noncomputable def CompRI (lo:Int) (n k:Nat) (js:List Nat) (g:TG) (tc:TT) (te:TE) (σ:St) (H1:Hp) (Q:VK):Prop:=∃W:Nat->Nat->List V->St->Hp->Prop,(∃m,W 0 m [] (z1s k js σ) H1)/\∀i m zs σ' H',W i m zs σ' H' ->
  ((Itr lo n).stop i H'/\∀p,H' p=none->Q (.ref p) (upd H' p (.lst zs))) \/
  ((Itr lo n).go i H'/\zs.length < sizeLine/\∃N:List V->St->Hp->Prop,(∀zs σ2 H2,N zs σ2 H2->∃m',m' < m/\W (i+1) m' zs σ2 H2)/\∀x H2,(Itr lo n).yld i H' x H2->g x σ' H2 λ σ3 H3=>tc σ3 H3 λ b H4=>if b=true then te σ3 H4 λ v H5=>N (zs++[v]) σ3 H5 else N zs σ3 H4)
theorem x7q:z5k (w0r ta) k js g tc te σ H Q=ta σ H λ vs H1=>∃j:Int,vs=[.int j]/\-(2 ^ 62)≤j/\j < 2 ^ 62/\CompRI 0 j.toNat k js g tc te σ H1 Q:=rfl
theorem CompRI.mk {lo:Int}{n k:Nat}{g:TG}{tc:TT}{te:TE}{Q:VK}(Pv:Nat->List V->St->Hp->Prop) (h0:Pv 0 [] (z1s k js σ) H) (hl:∀i zs σ H,i≤n->Pv i zs σ H->zs.length < sizeLine)
  (hs:∀i zs σ H,i < n->Pv i zs σ H->g (.int (lo+i)) σ H λ σ3 H3=>tc σ3 H3 λ b H4=>if b=true then te σ3 H4 λ v H5=>Pv (i+1) (zs++[v]) σ3 H5 else Pv (i+1) zs σ3 H4) (hz:∀zs σ H,Pv n zs σ H->∀p,H p=none->Q (.ref p) (upd H p (.lst zs))) :
  CompRI lo n k js g tc te σ H Q:=by
 refine ⟨λ i m zs σ H=>m=n - i/\i≤n/\Pv i zs σ H,⟨_,rfl,t0x _,h0⟩,?_⟩;rintro i m zs σ H ⟨rfl,hi,p⟩;by_cases hlt:i < n
 ·refine .inr ⟨hlt,hl i zs σ H hi p,Pv (i+1),λ zs' σ' H' p'=>⟨n - (i+1),by lia,rfl,hlt,p'⟩,λ v H' yy=>?_⟩;obtain ⟨rfl,rfl⟩:=yy;exact hs i zs σ _ hlt p
 ·have e:i=n:=by lia
  exact .inl ⟨show n≤i by lia,hz zs σ H (e ▸ p)⟩
theorem w5o {K:FG}{xs:LI}{g:TG}{tc:TT}{te:TE}{Q:VK}{H:Hp}(h1:H a=some (.lst (xs.map V.int))) (lx:xs.length≤1000) (P:Int->Prop) (cs:St) (h0:z1s k js σ=none::cs)
  (hs:∀(x:Int) (y:Option V) (G:Hp) (Rt:V->St->Hp->Prop) (Rf:St->Hp->Prop),x∈xs->Same H G->(∀G',Same H G'->P x->Rt (.int x) (some (.int x)::cs) G')->(∀G',Same H G'->¬P x->Rf (some (.int x)::cs) G')->g (.int x) (y::cs) G λ σ3 H3=>tc σ3 H3 λ b H4=>if b=true then te σ3 H4 λ v H5=>Rt v σ3 H5 else Rf σ3 H4)
  (hz:∀(ks:LI) (G:Hp) (p:Addr),Same H G->G p=none->(∀k,k∈ks ↔ k∈xs/\P k)->ks.length≤xs.length->Q (.ref p) (upd G p (.lst (ks.map V.int)))):CompLI K k js g tc te σ (.ref a) H Q:=by
 have sz:(1000:Nat) < sizeLine:=z0n (t0n _);refine CompLI.mk (xs:=xs.map V.int) (.of h1) (λ i zs σ' G=>Same H G/\∃ks:LI,zs=ks.map V.int/\i≤xs.length/\ks.length≤i/\(∀k,k∈ks ↔ k∈xs.take i/\P k)/\∃y,σ'=y::cs) ⟨Same.refl _,[],rfl,t0x _,t0x _,λ k=>by simp,none,h0⟩ (λ i zs σ' G il h=>?_) (λ i x zs σ' G e h=>?_) (λ zs σ' G h p hp=>?_)
 ·obtain ⟨u,ks,rfl,i1,k1,_⟩:=h;exact ⟨.of (u _ _ h1),by rw [t0c];exact t3k (t2u k1 (t2u i1 lx)) sz⟩
 ·obtain ⟨u,ks,rfl,i1,k1,hk,y,rfl⟩:=h
  obtain ⟨n,rfl,hn⟩:∃n,x=.int n/\xs[i]?=some n:=by
   rw [t0q] at e
   cases hx:xs[i]? with
   | none=>rw [hx] at e;cases e
   | some n=>rw [hx] at e;cases e;exact ⟨n,rfl,rfl⟩
  have il:=(t0g.mp hn).1;have tk:∀k,k∈xs.take (i+1) ↔ k∈xs.take i\/k=n:=λ k=>by rw [t1j,hn];simp
  refine hs n y G _ _ (t0i hn) u (λ G' u' pn=>?_) (λ G' u' pn=>?_)
  ·refine ⟨u',ks++[n],by rw [t0l];rfl,il,by rw [t0o];exact t3u k1,λ k=>?_,_,rfl⟩;rw [t1n,t0v,hk,tk];constructor
   ·rintro (⟨a,b⟩ | rfl)
    ·exact ⟨.inl a,b⟩
    ·exact ⟨.inr rfl,pn⟩
   ·rintro ⟨a | rfl,b⟩
    ·exact .inl ⟨a,b⟩
    ·exact .inr rfl
  ·refine ⟨u',ks,rfl,il,Nat.le_succ_of_le k1,λ k=>?_,_,rfl⟩;rw [hk,tk];constructor
   ·rintro ⟨a,b⟩;exact ⟨.inl a,b⟩
   ·rintro ⟨a | rfl,b⟩
    ·exact ⟨a,b⟩
    ·exact absurd b pn
 ·obtain ⟨u,ks,rfl,i1,k1,hk,y,rfl⟩:=h;rw [t0c] at k1 hk;exact hz ks G p u hp (λ k=>by rw [hk,t1h]) k1
theorem v0s {n k:Nat}{g:TG}{tc:TT}{te:TE}{Q:VK}(ln:n≤1000) (P:Nat->Prop) (cs:St) (h0:z1s k js σ=none::cs)
  (hs:∀(x:Nat) (y:Option V) (G:Hp) (Rt:V->St->Hp->Prop) (Rf:St->Hp->Prop),x < n->Same H G->(∀G',Same H G'->P x->Rt (.int (x:Int)) (some (.int (x:Int))::cs) G')->(∀G',Same H G'->¬P x->Rf (some (.int (x:Int))::cs) G')->g (.int (x:Int)) (y::cs) G λ σ3 H3=>tc σ3 H3 λ b H4=>if b=true then te σ3 H4 λ v H5=>Rt v σ3 H5 else Rf σ3 H4)
  (hz:∀(ks:LI) (G:Hp) (p:Addr),Same H G->G p=none->(∀k,k∈ks ↔ ∃j:Nat,k=j/\j < n/\P j)->ks.length≤n->Q (.ref p) (upd G p (.lst (ks.map V.int)))):CompRI 0 n k js g tc te σ H Q:=by
 have sz:(1000:Nat) < sizeLine:=z0n (t0n _);refine CompRI.mk (λ i zs σ' G=>Same H G/\∃ks:LI,zs=ks.map V.int/\ks.length≤i/\(∀k,k∈ks ↔ ∃j:Nat,k=j/\j < i/\P j)/\∃y,σ'=y::cs) ⟨Same.refl _,[],rfl,t0x _,λ k=>⟨(λ z=>nomatch z),λ ⟨j,_,z,_⟩=>absurd z (Nat.not_lt_zero _)⟩,none,h0⟩ (λ i zs σ' G il h=>?_) (λ i zs σ' G il h=>?_) (λ zs σ' G h p hp=>?_)
 ·obtain ⟨u,ks,rfl,k1,_⟩:=h;rw [t0c];exact t3k (t2u k1 (t2u il ln)) sz
 ·obtain ⟨u,ks,rfl,k1,hk,y,rfl⟩:=h;rw [t5y];refine hs i y G _ _ il u (λ G' u' pn=>?_) (λ G' u' pn=>?_)
  ·refine ⟨u',ks++[(i:Int)],by rw [t0l];rfl,by rw [t0o];exact t3u k1,λ k=>?_,_,rfl⟩;rw [t1n,t0v,hk];constructor
   ·rintro (⟨j,a,b,c⟩ | rfl)
    ·exact ⟨j,a,t2b b,c⟩
    ·exact ⟨i,rfl,t3v _,pn⟩
   ·rintro ⟨j,a,b,c⟩
    rcases t8o.mp b with z | z
    ·exact .inl ⟨j,a,z,c⟩
    ·exact .inr (by rw [a,z])
  ·refine ⟨u',ks,rfl,Nat.le_succ_of_le k1,λ k=>?_,_,rfl⟩;rw [hk];constructor
   ·rintro ⟨j,a,b,c⟩;exact ⟨j,a,t2b b,c⟩
   ·rintro ⟨j,a,b,c⟩
    rcases t8o.mp b with z | z
    ·exact ⟨j,a,z,c⟩
    ·exact absurd (z ▸ c) pn
 ·obtain ⟨u,ks,rfl,k1,hk,y,rfl⟩:=h;exact hz ks G p u hp hk k1
theorem z6u {X:Cx}{i:Nat}{elt tg iter cnd:Expr}{pos pos' lpos:Pos}{own fv:List Str}{js:List Nat}
  (hN:X.N.Nodup) (hx1:X.N[i]?=some x) (hx:Loc X.env.scope x) (hf:X.fn x=true\/X.env.scope.names.lookup x=some .local)
  (hc:X.calm=true) (hi:PI X tg iter wi) (hclos:closureFor scope X.env=pure cl) (hcell:∀y∈scope.names,y.2≠.cell) (hkind:scope.kind=.function)
  (hnames:∀y∈scope.names,y.2=.local->scope.names.lookup y.1=some .local)
  (hcl:∀x c,cl.lookup x=some c->X.env.cells.lookup x=some c)
  (hhas:∀x,((relabel scope X.env).names.lookup x=some .cell\/(relabel scope X.env).names.lookup x=some .free)->∃c,cl.lookup x=some c)
  (hlen:js.length=fv.length) (hcap:∀(i:Nat) x j,fv[i]?=some x->js[i]?=some j->Cap X scope cl x j)
  (hg:∀(C:Addr) (ex:List Addr) (s:Shared) (H:Hp),PG (z2c X (own++fv) scope cl C ex s H) tg g)
  (he:∀(C:Addr) (ex:List Addr) (s:Shared) (H:Hp),PE (z2c X (own++fv) scope cl C ex s H) elt te)
  (ht:∀(C:Addr) (ex:List Addr) (s:Shared) (H:Hp),PT (z2c X (own++fv) scope cl C ex s H) cnd tc)
  (hsw:swapsWith (.ListComp elt [⟨tg,iter,[cnd],0⟩] scope lpos) (some (.Name x pos')) pos.line X.env=pure true:=by rfl)
  (hs:∀x,foldedSetIterable iter X.env x=pure x:=by intro _;rfl) :
  PS X (.Assign [.Name x pos'] (.ListComp elt [⟨tg,iter,[cnd],0⟩] scope lpos) pos) (w2f (z5k wi own.length js g tc te) (z6w i)):=by
 intro pins s σ H D I h;rw [t9m _ _ _ _ hsw];refine t0b (t5l ?_);rw [t8n];have core:=y3e (use:=some (assign (.Name x pos') X.env)) (QQ:=λ _ s'=>SP X pins D .next s') (fpos:=firstIterPos [⟨tg,iter,[cnd],0⟩] lpos) (pos:=lpos) hc hi hclos hcell hkind hnames hcl hhas hlen hcap hg he ht hs I h (λ a C s5 H5 fl I5 zC zL zS zc zp ⟨m,hn⟩ q=>?_)
 ·refine t0b (t0b (thn core λ _ s' hq=>?_));exact t0s (t0s hq)
 ·show wpAny (model X.prog X.w) X.A (assign (.Name x pos') X.env (.ref a)) _ X.xe s5;show wpAny (model X.prog X.w) X.A (do standAt pos';bindName X.env x (.ref a)) _ X.xe s5;refine t0b (t5l ?_);refine bindName_ ?_;refine y0p I5 hN hx1 hx (show RelV (.ref a) (.ref a) from rfl) (λ s6 I6 ⟨b,sb,hb⟩=>?_) hf
  have cb:C≠b:=by
   rcases hb with rfl | hb
   ·exact zL
   ·exact λ z=>zc x b hb z.symm
  obtain ⟨o,es,ep,e,r⟩:=hn;refine ⟨m,⟨o,es,ep,(sb.2 C cb).trans e,r⟩,λ h' sc=>?_⟩;exact ⟨_,H5,I6.turned (t':=s6.toks) (it:=C) (λ d o nd e=>sc.extBut d o nd e) zC zL (.inr zS) zc zp,q⟩
theorem x4i {X:Cx}{i:Nat}{elt tg iter cnd:Expr}{scope:Scope}{pos pos' lpos:Pos}
  (hN:X.N.Nodup) (hx1:X.N[i]?=some x) (hx:Loc X.env.scope x) (hf:X.fn x=true\/X.env.scope.names.lookup x=some .local)
  (hc:X.calm=true) (hi:PI X tg iter wi) (hcell:∀y∈scope.names,y.2≠.cell) (hfree:∀y∈scope.names,y.2≠.free) (hkind:scope.kind=.function)
  (hnames:∀y∈scope.names,y.2=.local->scope.names.lookup y.1=some .local)
  (hg:∀(C:Addr) (ex:List Addr) (s:Shared) (H:Hp),PG (z2c X own scope [] C ex s H) tg g)
  (he:∀(C:Addr) (ex:List Addr) (s:Shared) (H:Hp),PE (z2c X own scope [] C ex s H) elt te)
  (ht:∀(C:Addr) (ex:List Addr) (s:Shared) (H:Hp),PT (z2c X own scope [] C ex s H) cnd tc)
  (hsw:swapsWith (.ListComp elt [⟨tg,iter,[cnd],0⟩] scope lpos) (some (.Name x pos')) pos.line X.env=pure true:=by rfl)
  (hs:∀x,foldedSetIterable iter X.env x=pure x:=by intro _;rfl) :
  PS X (.Assign [.Name x pos'] (.ListComp elt [⟨tg,iter,[cnd],0⟩] scope lpos) pos) (w2f (z5k wi own.length [] g tc te) (z6w i)):=by
 refine z6u (own:=own) (fv:=[]) (js:=[]) (cl:=[]) hN hx1 hx hf hc hi (t9h hfree) hcell hkind hnames (λ x c h=>by cases h) (λ x h=>?_) rfl (λ i x j h=>by simp at h) (by simpa using hg) (by simpa using he) (by simpa using ht) hsw hs;rw [z6m hfree] at h
 rcases h with h | h
 ·exact absurd rfl (hcell _ (t1f h))
 ·exact absurd rfl (hfree _ (t1f h))
section
variable {X:Cx}
def v2d:R2:=λ x y H Q=>(∃a,x=.ref a)/\AlkV H 101 x y/\Q (.bl false) H
end
noncomputable def v3y (B h:Heap) (e:Addr) (cls:Value) (dx:Addr) (hd:Value):Prop :=
 ∃oe vs,h.get? e=some oe/\(oe.cls=cls/\oe.dict=some dx)/\oe.data=.fields vs/\vs[1]?=some hd
noncomputable def v7g (B h:Heap) (e:Addr) (hd fl:Value):Prop:=∃T oT ts,hd=.ref T/\B.get? T=none/\T≠e/\h.get? T=some oT/\oT.data=.fields ts/\ts[3]?=some fl
noncomputable def v7p (B:Heap) (l:List Env) (e:Addr) (cls:Value) (dx:Addr) (fl:Value) (h:Heap):Prop :=
 B.StaysIn h/\B.get? e=none/\h.FunFrames B l/\∃hd,v3y B h e cls dx hd/\v7g B h e hd fl
section
variable {M:Model}{A:Around}{E:VS}{s:Shared}{B:Heap}{env:Env}{outer:List Env}{L e dx:Addr}{cls:Value}
end
end L2
namespace L2
open PySem PySem.Spec PyProof.Rows Builtin Builtin.ObjectAttr
noncomputable def v6z (K:FG) (C:Addr) (bmB:LV) (nid:String):Bool:=match K.lookup C with
 | some ⟨.type "type",_,.cls cd,kk⟩=>cd.hasDict && (match cd.mro,kk.toList with | .ref C2::tl,[_,_,_,_,some (.builtin n2),_]=>C2 == C && (n2 == nid && (!cd.hasDel && W.tailIn K bmB tl)) | _,_=>false)
 | _=>false
structure HasX (h:Heap) (C:Addr) (bmB:LV) (nid:String):Prop where
 ex:∃(nm q:Str) (N:Addr) (bs bm:LV) (sn:List Str) (sub:LV) (ab:Bool) (col:Option Bool) (dd:OA) (k0 k1 k2 k3 k5:Option Value),
  h.get? C=some (excClassObj nm q C N bs bm true sn sub ab col dd k0 k1 k2 k3 k5 nid)/\OwnTail h bmB bm
section
variable {prog:Program}{w:World}{A:Around}{E:VS}{h:Heap}{g:Array GenState}{dr:Drawn}{tk:Nat}{os:OsState}{C:Addr}{bmB:LV}{B nid initId:String}
end
end L2
namespace L2
open PySem PySem.Spec PyProof.Rows Builtin Builtin.ObjectAttr
section
variable {prog:Program}{w:World}{A:Around}{E:VS}{h:Heap}{g:Array GenState}{dr:Drawn}{tk:Nat}{os:OsState}{C x:Addr}{bmB:LV}{B nid initId:String}{K:FG}
noncomputable def w8t:LV->Bool
 | .ref _::r=>w8t r
 | l=>l == [.type "ValueError",.type "Exception",.type "BaseException",.type "object"]
structure AtX (K:FG) (C:Addr):Prop where
 over:(W.clsIn K C).any (λ cd=>cd.hasDict && w8t cd.mro)=true
 sa:W.findIn K (.ref C) "__setattr__"=some (some (.builtin "object.__setattr__"))
 ga:W.findIn K (.ref C) "__getattribute__"=some (some (.builtin "BaseException.__getattribute__"))
end
def rm (H:Hp) (a:Addr):Hp:=λ b=>if b=a then none else H b
section
variable {P:Program}{w:World}{K:FG}{mg:SV}{base:Heap}{N:List Str}{qual:Str}{scope:Scope}{f:Addr}{cd:Value}{A:Around}{outer:List Env}{s:Shared}{H:Hp}{E:XK}
end
section
variable {M:Model}{A:Around}{E:VS}{env:Env}{C:Addr}{bmB:LV}{nid:String}
end
structure MkX (K:FG) (C f:Addr) (bmB:LV) (nid:String):Prop where
 cls:v6z K C bmB nid=true
 init:W.findIn K (.ref C) "__init__"=some (some (.ref f))
 fn:W.isFn K (.ref f)=true
 kp:W.keepIn K (.ref C)=true
end L2
namespace L2
open PySem PySem.Spec PyProof.Rows PySem.W
section
variable {X:Cx}{o e value:Expr}{f:Str}{pos pos' tpos:Pos}{ta tv:TE}
end
noncomputable def CompZI (K:PySem.W.Frag) (k:Nat) (js:List Nat) (g:TG) (tc:TT) (te:TE) (σ:St) (vs:List V) (H1:Hp) (Q:VK):Prop:=∃a b xs ys,vs=[.ref a,.ref b]/\SqT K H1 a xs/\SqT K H1 b ys/\∃W:Nat->Nat->List V->St->Hp->Prop,(∃m,W 0 m [] (z1s k js σ) H1)/\∀i m zs σ' H',W i m zs σ' H' ->
  ((Itz K a b).stop i H'/\∀p,H' p=none->Q (.ref p) (upd H' p (.lst zs))) \/
  ((Itz K a b).go i H'/\zs.length < sizeLine/\∃N:List V->St->Hp->Prop,(∀zs σ2 H2,N zs σ2 H2->∃m',m' < m/\W (i+1) m' zs σ2 H2)/\∀x H2,(Itz K a b).yld i H' x H2->g x σ' H2 λ σ3 H3=>tc σ3 H3 λ b H4=>if b=true then te σ3 H4 λ v H5=>N (zs++[v]) σ3 H5 else N zs σ3 H4)
theorem x7n {K:FG}:z5k (v1l K ta) k js g tc te σ H Q=ta σ H λ vs H1=>CompZI K k js g tc te σ vs H1 Q:=rfl
theorem CompZI.mk {K:FG}{xs ys:List V}{g:TG}{tc:TT}{te:TE}{Q:VK}(n:Nat) (hn:n=min xs.length ys.length) (h1:SqT K H a xs) (h2:SqT K H b ys) (Pv:Nat->List V->St->Hp->Prop) (h0:Pv 0 [] (z1s k js σ) H) (hl:∀i zs σ H,i≤n->Pv i zs σ H->SqT K H a xs/\SqT K H b ys/\zs.length < sizeLine)
  (hs:∀i x y zs σ H T,i < n->xs[i]?=some x->ys[i]?=some y->Pv i zs σ H->H T=none->g (.ref T) σ (upd H T (.tup [x,y])) λ σ3 H3=>tc σ3 H3 λ b H4=>if b=true then te σ3 H4 λ v H5=>Pv (i+1) (zs++[v]) σ3 H5 else Pv (i+1) zs σ3 H4) (hz:∀zs σ H,Pv n zs σ H->∀p,H p=none->Q (.ref p) (upd H p (.lst zs))) :
  CompZI K k js g tc te σ [.ref a,.ref b] H Q:=by
 subst hn;refine ⟨a,b,xs,ys,rfl,h1,h2,λ i m zs σ H=>m=min xs.length ys.length - i/\i≤min xs.length ys.length/\Pv i zs σ H,⟨_,rfl,t0x _,h0⟩,?_⟩;rintro i m zs σ H ⟨rfl,hi,p⟩;obtain ⟨k1,k2,k3⟩:=hl i zs σ H hi p;by_cases hlt:i < min xs.length ys.length
 ·have l1:i < xs.length:=by lia
  have l2:i < ys.length:=by lia
  refine .inr ⟨⟨xs,ys,_,_,k1,k2,t0e l1,t0e l2⟩,k3,Pv (i+1),λ zs' σ' H' p'=>⟨min xs.length ys.length - (i+1),by lia,rfl,hlt,p'⟩,λ v H' yy=>?_⟩;obtain ⟨T,x,y,rfl,hT,rfl,ex⟩:=yy;obtain ⟨ex1,ex2⟩:=ex xs ys k1 k2;exact hs i x y zs σ H T hlt ex1 ex2 p hT
 ·have e:i=min xs.length ys.length:=by lia
  exact .inl ⟨⟨xs,ys,k1,k2,by lia⟩,hz zs σ H (e ▸ p)⟩
structure CalM (P:Program) (w:World) (K:FG) (mg:SV) (base:Heap) (CX:CXT) (k:Nat) (C:Addr) (m:Str) (ps:List Str) (sp:Sp):Prop where
 has:∃(f:Addr) (fd:FuncData),FnOk P w K mg base CX k f fd ps sp/\Meth K C m f/\Binds K fd ps []
structure MakC (P:Program) (w:World) (K:FG) (mg:SV) (base:Heap) (CX:CXT) (k:Nat) (C:Addr) (x:Str) (ps:List Str) (sp:Sp):Prop where
 has:∃(f:Addr) (fd:FuncData),FnOk P w K mg base CX k f fd ps sp/\Mk K C f/\Binds K fd ps []/\mg x=some (.ref C)
section
variable {X:Cx}{CX:CXT}{k:Nat}{f C:Addr}{fd:FuncData}{ps:List Str}{sp:Sp}{dvs:List V}{ds:LV}{E:XK}{EE:St->XK}{x m:Str}{p pos apos:Pos}{e o:Expr}{es:List Expr}{ta:TE}{t:TA}
end
section
variable {X:Cx}
end
section
open PySem.Builtin PySem.Builtin.Str
variable {X:Cx}
noncomputable def w7z:V->List V->Hp->VK->Prop:=λ x ys H Q=>∃(t:Str) (c:Nat),x=.str t/\ys=[.str ⟨#[c]⟩]/\t.length≤4000000/\∀l u v,H l=none->Q (.ref l) (upd H l (.tup [.str (v5u ((x3c c t.cps.toList).headD [])),.str u,.str v]))
end
section
variable {X:Cx}{a b e:Expr}{es:List Expr}{ta tb te:TE}{t:TA}{u v:TS}{st:Stmt}{rest bl:List Stmt}{pos p pos':Pos}{x:Str}
theorem z0s (hr:IxR X r) (ha:PE X a ta) (hb:PE X b tb) (hs:x8j b:=by exact λ _ _=>rfl):PE X (.Subscript a b pos) (tOp r ta tb):=x1h hr ha hb hs
theorem y4r (i:Nat) (hN:X.N.Nodup) (he:PE X e te) (hi:X.N[i]?=some x:=by rfl) (hx:Loc X.env.scope x:=by first | exact Or.inl rfl | exact Or.inr rfl) (hs:swapsWith e (some (.Name x pos')) pos.line X.env=pure false:=by rfl) (hf:X.fn x=true\/X.env.scope.names.lookup x=some .local:=by first | exact .inl rfl | exact .inr rfl | assumption):PS X (.Assign [.Name x pos'] e pos) (w2f te (z6w i)):=w2w hN hi hx he hs hf
theorem z1u (i:Nat) (hN:X.N.Nodup) (he:PE X e te) (h2:PSs X rest u) (hi:X.N[i]?=some x:=by rfl) (hx:Loc X.env.scope x:=by first | exact Or.inl rfl | exact Or.inr rfl) (hs:swapsWith e (some (.Name x pos')) pos.line X.env=pure false:=by rfl) (hf:X.fn x=true\/X.env.scope.names.lookup x=some .local:=by first | exact .inl rfl | exact .inr rfl | assumption):PSs X (.Assign [.Name x pos'] e pos::rest) (y6t (w2f te (z6w i)) u):=z0o (w2w hN hi hx he hs hf) h2
theorem z1b (he:PE X e te):PSs X [.Return (some e) pos] (v1y te):=z0q (w8l he)
theorem z1q (hc:PT X a tc) (ha:PSs X bl v) (h2:PSs X rest u):PSs X (.If a bl [] pos::rest) (y6t (z9t tc v w3s) u):=z0o (z9q hc ha z5x) h2
theorem z1o (ha:PE X e te) (hs:starEach [e] X.env=(false,eval e X.env)::starEach [] X.env:=by rfl):PA X [e] (y7a te w7a):=z0i ha z1j hs
theorem z0v (ha:PE X a ta) (he:PE X e te) (hs:starEach [a,e] X.env=(false,eval a X.env)::starEach [e] X.env:=by rfl) (hs2:starEach [e] X.env=(false,eval e X.env)::starEach [] X.env:=by rfl):PA X [a,e] (y7a ta (y7a te w7a)):=z0i ha (z0i he z1j hs2) hs
theorem z1f (ho:OpR X (compareOp op) r) (ha:PE X a ta) (hb:PE X b tb) (h:op≠.In:=by decide) (h2:op≠.NotIn:=by decide):PT X (.Compare a [op] [b] pos) (x8v (tOp r ta tb)):=y7d ho ha hb (z9m b h h2)
theorem z7o {id:String}(hc:z4s X (.builtin id) r) (hm:X.mg x=none) (hv:bootBuiltins x=some (.builtin id)) (ha:PA X (e::es) t) (hg:Gl X x:=by rfl) (hn:x ≠ "__name__" := by decide) (hdb:(x == ("__debug__" : Str))=false:=by decide)
  (he:starEach (e::es) X.env=(false,eval e X.env)::starEach es X.env:=by rfl) (hpl:(backTo pos (starEach es X.env)).any (·.1)=false:=by rfl):PE X (.Call (.Name x p) (e::es) [] pos) (tCB r t):=y9y hc hg hm hv ha hn hdb he hpl
theorem z7z (hc:z4s X (.type T) r) (hm:X.mg x=none) (hv:bootBuiltins x=some (.type T)) (ha:PA X (e::es) t) (hg:Gl X x:=by rfl) (hn:x ≠ "__name__" := by decide) (hdb:(x == ("__debug__" : Str))=false:=by decide)
  (he:starEach (e::es) X.env=(false,eval e X.env)::starEach es X.env:=by rfl) (hpl:(backTo pos (starEach es X.env)).any (·.1)=false:=by rfl):PE X (.Call (.Name x p) (e::es) [] pos) (tCB r t):=y5t hc hg hm hv ha hn hdb he hpl
theorem z3k (hm:X.mg "len"=none) (he:PE X e te) (hg:Gl X "len" := by rfl)
  (hs:starEach [e] X.env=(false,eval e X.env)::starEach [] X.env:=by rfl):PE X (.Call (.Name "len" p) [e] [] pos) (tCB (λ xs H Q=>∃p ys,xs=[.ref p]/\(SqL X.K H p ys\/SqT X.K H p ys)/\Q (.int ys.length) H) (y7a te w7a)):=y9y z9o hg hm t6y (z0i he z1j hs) (by decide) (by decide) hs rfl
theorem z6l (i:Nat) (l:List Str) (hN:l.Nodup:=by decide +kernel) (e:X.N=l:=by rfl) (hi:X.N[i]?=some x:=by rfl) (hx:Loc X.env.scope x:=by exact Or.inl rfl) (hf:X.fn x=true\/X.env.scope.names.lookup x=some .local:=by first | exact .inl rfl | exact .inr rfl | assumption):PG X (.Name x pos) (z6w i):=y7h (e ▸ hN) hi hx hf
theorem z9p (i:Nat) (hN:X.N.Nodup) (hi:X.N[i]?=some x:=by rfl) (hx:Loc X.env.scope x:=by exact Or.inl rfl) (hf:X.fn x=true\/X.env.scope.names.lookup x=some .local:=by first | exact .inl rfl | exact .inr rfl | assumption):PG X (.Name x pos) (z6w i):=y7h hN hi hx hf
end
noncomputable def Cr (P:Program) (w:World) (K:FG) (mg:SV) (base:Heap) (CX:CXT) (k:Nat) (x:Str) (ps:List Str) (sp:Sp):Prop:=∀n,k≤n->Callee P w K mg base CX n x ps sp
theorem Cr.a {K:FG}{j n:Nat}(c:Cr P w K mg base CX j x ps sp) (h:j≤n:=by decide):Callee P w K mg base CX n x ps sp:=c n h
def ca:List Prop->Nat->Prop
 | [],_=>True
 | a::_,0=>a
 | _::l,j+1=>ca l j
section
variable {X:Cx}{k j:Nat}{ps:List Str}{sp:Sp}{E:XK}{x:Str}{p pos:Pos}{e:Expr}{es:List Expr}{t:TA}
def w2e (sp:Sp) (E:XK) (t:TA):TE:=λ σ H Q=>t σ H λ vs H1=>sp vs H1 Q E
theorem z1d (c:Cr X.prog X.w X.K X.mg X.base CX j x ps sp) (hr:Room k X.A) (hx:y6s CX X E) (ha:PA X (e::es) t) (hj:j≤k:=by decide) (hg:Gl X x:=by rfl) (hdb:(x == ("__debug__" : Str))=false:=by decide)
  (he:starEach (e::es) X.env=(false,eval e X.env)::starEach es X.env:=by rfl) (hpl:(backTo pos (starEach es X.env)).any (·.1)=false:=by rfl):PE X (.Call (.Name x p) (e::es) [] pos) (w2e sp E t):=λ pins s σ H Q I h=>z8d (c _ hj) hr hg hx ha hdb he hpl pins s σ H Q I (show t σ H (λ vs H1=>sp (vs++[]) H1 Q E) by simp only [t0a];exact h)
end
end L2
namespace L2
open PySem PyProof.Rows
section
variable {a p q:Addr}{b:Bool}{i j:Int}{x y:Str}{v:V}{vs:List V}{r:L2.St}{H:Hp}{Q:VK}{K:FG}{o:Option V}{n:Nat}{α β:Type}
theorem v1v:x8u 0 (some v::r) H Q=Q v H:=rfl
theorem v1u:x8u (n+1) (o::r) H Q=x8u n r H Q:=rfl
theorem exB {P:Bool->Prop}:(∃k,V.bl b=V.bl k/\P k)=P b:=by simp
theorem exI {P:Int->Prop}:(∃k,V.int i=V.int k/\P k)=P i:=by simp
theorem exS {P:Str->Prop}:(∃k,V.str x=V.str k/\P k)=P x:=by simp
theorem exR {P:Addr->Prop}:(∃k,V.ref a=V.ref k/\P k)=P a:=by simp
theorem v6s {P:Addr->α->Prop}:(∃k y,V.ref a=V.ref k/\P k y)=∃y,P a y:=by simp
theorem v6r {P:Addr->α->β->Prop}:(∃k y z,V.ref a=V.ref k/\P k y z)=∃y z,P a y z:=by simp
theorem v6t {P:Addr->α->Prop}:(∃k y,[V.ref a]=[V.ref k]/\P k y)=∃y,P a y:=by simp
theorem exC {P:V->List V->Prop}:(∃k y,v::vs=k::y/\P k y)=P v vs:=by simp [t2o]
theorem v6q {S:Addr->α->Prop}{P:Addr->Addr->α->β->Prop}:(∃k l y z,V.ref p=V.ref k/\V.ref q=V.ref l/\S k y/\P k l y z)=∃y,S p y/\∃z,P p q y z:=by simp
theorem v6u {S:Addr->α->Prop}{P:Addr->α->Int->β->Prop}:(∃k y l z,V.ref p=V.ref k/\V.int i=V.int l/\S k y/\P k y l z)=∃y,S p y/\∃z,P p y i z:=by simp
theorem w8f:rI0 g (.int i) (.int j) H Q=Q (g i j) H:=rfl
theorem v2f:rI C g (.int i) (.int j) H Q=(C i j/\Q (g i j) H):=rfl
theorem w8h:rEq (.int i) (.int j) H Q=Q (.bl (decide (i=j))) H:=rfl
theorem w8b:rNe (.int i) (.int j) H Q=Q (.bl (!decide (i=j))) H:=rfl
theorem w8g:rEq (.str x) (.str y) H Q=Q (.bl (decide (x=y))) H:=rfl
theorem x8w:x2t sp [] E t σ H Q=t σ H λ vs H1=>sp vs H1 Q E:=by simp [x2t]
theorem x2s:w2e sp E t σ H Q=t σ H λ vs H1=>sp vs H1 Q E:=rfl
theorem v0g:isB (.bl b) P=P b:=rfl
theorem v0e:isI (.int i) P=P i:=rfl
theorem w5e:v0i (.int i) (.int j) P=P i j:=rfl
theorem w5c:w6h (.ref a) (.int i) P=P a i:=rfl
theorem w8a:rNe (.str x) (.str y) H Q=Q (.bl (!decide (x=y))) H:=rfl
theorem x2r:w2d sp [] EE t σ H Q=t σ H λ vs H1=>sp vs H1 Q (EE σ):=by simp [w2d]
end
end L2
namespace L2
open PySem PySem.Spec PyProof.Rows PySem.W PySem.Calls
theorem w4c {X:Cx}{h₀:ExceptHandler}{hl:List ExceptHandler}(hb:∀(xe:VS) (pn:LO),PSs (X.more xe pn) body tb) :
  PS X (.Try body (h₀::hl) [] [] pos) tb:=by
 intro pins s σ H D I h;refine wpAny_Try_except ?_;generalize (λ e s₁=>wpAny (model X.prog X.w) X.A (noteFrame e X.env) (λ _ s₂=>wpAny (model X.prog X.w) X.A (setFlight e none) (λ _ s₃=>wpAny (model X.prog X.w) X.A (handleBy e X.env (h₀::hl)) (SP X pins D) X.xe s₃) X.xe s₂) X.xe s₁:VS)=XE;have toY:Inv (X.more XE (X.pn++pins)) [] σ H s:=⟨I.ok.more _ _,I.os,I.bare,I.base,I.loc,I.cell,I.free,I.freeC,λ p hp=>I.pin p (by simpa using hp),I.hok,I.len⟩;have ofY:∀ {σ':St}{H':Hp}{s':Shared}{pp:LO},Inv (X.more XE (X.pn++pins)) pp σ' H' s'->Inv X pins σ' H' s':=λ J=>⟨I.ok,J.os,J.bare,J.base,J.loc,J.cell,J.free,J.freeC,λ p hp=>J.pin p (t3y _ hp),J.hok,J.len⟩;refine thn (hb XE (X.pn++pins) [] s σ H D toY h) λ fl s' q=>?_
 cases fl with
 | next=>obtain ⟨σ',H',J,z⟩:=q;exact t7s ⟨σ',H',ofY J,z⟩
 | brk=>obtain ⟨σ',H',J,z⟩:=q;exact ⟨σ',H',ofY J,z⟩
 | cont=>obtain ⟨σ',H',J,z⟩:=q;exact ⟨σ',H',ofY J,z⟩
 | ret u=>obtain ⟨v,σ',H',J,r,z⟩:=q;exact ⟨v,σ',H',ofY J,r,z⟩
end L2
structure PySem.W.Fast:Prop where(tw3964931659597258443 tw4647238969859204768 tw6877519668790602368 tw8816469431594617675 tw422383646793132429 tw16884176743196254291 tw16955343663091614181 tw3687449839851168474 tw6705845301883049601 tw6057723600550321548 tw15481993229992111382 tw1444593485769472930 tw6742729052805670019 tw15017083842124811446 tw13585219382275376244 tw1164916781049527922 tw17958255994691273338 tw14775467127253699143 tw13603570147381412413 tw4240591511095869044 tw12801212198518502073 tw14892053607019342426 tw13673406166546093465 tw4363279752823715909 tw12614449472997158336 tw1397295486716770902 tw11978075559954481746 tw4064459900377206885 tw3933447598004302014 tw2633177192272643763 tw15229129664560269912 tw15228664769995683757 tw14302781811851128860 tw17477671571078478207 tw15009236601947495027 tw5814763815937090406 tw6826716507316000526 tw11813985742586223029 tw6869607339994911235 tw1297582411995636172 tw5131670307844707789 tw10807994570050067204 tw4187485825614617395 tw9265623693190633563 tw11526596328842644762 tw8006856970460833617 tw14496447013205941514 tw5274392499761242549 tw16114056439852701558 tw4131210758901647696 tw13765453766228761958 tw1474244654122330809 tw13438102257566264494 tw14227052168627860300 tw16010051160363909999 tw11615823990512022264 tw17645888727137276184 tw7944608410602290970 tw9227197700325616363 tw17175627801208287905 tw4633064554184668676 tw1448618160184856464 tw18047689298116118535 tw17392220045190286485 tw1450713595287686744 tw14870238746511339946 tw8376232355784509987 tw5522264555440302562 tw8222810483947658736 tw2433302839859562144 tw5917229474077817044 tw10159325438656307766 tw11290283381558815611 tw11752687649634233919 tw3602151749256465598 tw12431543396715435651 tw4094776480458657213 tw10012849599046691634 tw3433656629831773732 tw17489342083589424818 tw17937140999060928091 tw1115000828877382413 tw13740126023046311092 tw847310200781090531 tw4596559122174362266 tw4524410274700535424 tw4108996023693669903 tw17600707864511468864 tw17410083806708742326 tw12911548757619135886 tw14117531302789892345 tw10200474600264346816 tw11822247960827119408 tw5163292123871807475 tw14024436317727157511 tw394947541480648140 tw2584684374544499077 tw15690414427561683613 tw5780778520380965688 tw190409257027468033 tw16349751092734512841 tw17815694227800961682 tw14965060876777051868 tw15760691005295784843 tw16631604971760158778 tw417820835248446000 tw15678357791698741938 tw3142160021241807741 tw14668688543152860180 tw3252137157422162146 tw16827671807964330258 tw5555680491870421368 tw15678471881851533223 tw3864339085670027803 tw12971610395101612570 tw2301433731626670381 tw5880152277219092531 tw5237545925612827295 tw3986174877832703747 tw3236287181277320051 tw4097128413565580914 tw4913857608869483607 tw3671761124506959190 tw6583469003634071109 tw14370676080373722155 tw7198792723579660745 tw3402718936051126327 tw11346528417984120872 tw6322667263658381405 tw14622410870376250546 tw17468137136388157651 tw11837359306528352346 tw14423302320793437262 tw8349973594687729620 tw4264255895370958063 tw13257085874127922688 tw15966975135381969475 tw17580273522194168688 tw5642204627421989974 tw17759774114300332654 tw12572124521718767511 tw12440490408884738680 tw9267539020693751264 tw16742577370158827456 tw13345737739801399009 tw8403588642284520764 tw3156246173492895683 tw15519453728228678782 tw9864317719431225043 tw8392605196756748942 tw6644213288746961698 tw6644012309359655780 tw3864703427777904853 tw11567703675826605199 tw16588622531672555972 tw3645342658919325897 tw8058188229666132269 tw1485335278709593993 tw2794093584196360753 tw7931680542277014341 tw1348259249484466354 tw4826732112017318128 tw15461237513937370293 tw13493866592389179947 tw2228507608171028609 tw13713321639435535685 tw6617831841746126616 tw14030753381592486574 tw9450500149236534287 tw9140847302227005952 tw8735623507830655568 tw2366139919841668662 tw2129765547781520936 tw13550442406000648195 tw10026345994588916750 tw14316571414506041024 tw1704390528128773805 tw14778445312496330611 tw6741036264007547046 tw9400432048592529532 tw14560230192972085456 tw1446911807086987459 tw6381005148090369299 tw16213465230874521332 tw16860553559187843441 tw10152152661590609203 tw17197357531196335213 tw6048082810197562463 tw3110342417093780303 tw10951900255214899999 tw2131621566040430675 tw15224198507848488246 tw7818822735905657041 tw11416275776943903596 tw16779343485355128900 tw10294984894384473975 tw15457151547356395029 tw14917261904362327807 tw3130433836875591172 tw3279770171477920845 tw4753942441350216220 tw12541678702175525632 tw6885779625171655426 tw4492148918354900011 tw525504223289933981 tw2890559658805316636 tw15988989208947591077 tw12693329763081721651 tw2313740329579868833 tw8085207016733149220 tw5394591776200452886 tw17419259519249685422 tw3064541039563980701 tw492249724616183696 tw236607168531965331 tw16705055143305534068 tw9922070372840554504 tw1343949227576178118 tw11178035599975040990 tw15972444382657184164 tw14270576122359651414 tw7881721006593039863 tw10535911140999304055 tw10196956320456530460 tw519847374932267139 tw5394805474610010435 tw8241954003925603676 tw6808853155627274832 tw3093646345967634645 tw15827957172454804365 tw16049162444494321583 tw16379368313234370533 tw4914497842223426627 tw15019705029717981694 tw13080714000403497393 tw10318979477639588720 tw9267693876303158108 tw11730362508718194881 tw17524278539660667618 tw9882632468605830059 tw17767177154745247205 tw13109690233675799085 tw3856319616233146261 tw6126184459817204181 tw16760517846543677829 tw13718216293999717081 tw16379079301410920947 tw8763830962421754388 tw16713592526270158481 tw1393883669128496433 tw15347604827720206001 tw18222092257408046510 tw15201227408805830537 tw4414763999997213610 tw15253869052322007511 tw16216913846969024747 tw14547065677483541193 tw13095021134505535885 tw3047179416428049842 tw15778961423656173074 tw5597109221679325623:True)
namespace My
open PySem L2 PyProof.Rows
def top (i:Nat):Stmt:=PySem.Challenge.pw_sideloom_k35_step_by_step.main.body.getD i (.Pass ⟨0,0,0,0⟩)
noncomputable def formsL:List (Str × List (Str × Int)):=[("in",[("sides",1)]),("num",[("number",1)]),("count",[("small",2),("sides",1)]),("each",[("word",1),("step",2)]),("pair",[("word",1),("step",2),("step",3)]),("pick",[("step",1),("step",2),("step",3)]),("turn",[("step",1),("sides",2)]),("flip",[("step",1),("small",2)]),("cut",[("step",1),("small",2),("small",3),("small",4),("small",5)]),("spread",[("step",1),("small",2),("small",3)]),("lay",[("step",1),("sides",2)]),("join",[("step",1),("step",2),("small",3)]),("fetch",[("step",1),("step",2)]),("fold",[("word",1),("step",2),("small",3)]),("run",[("word",1),("step",2),("small",3)])]
noncomputable def y0l (K:FG):List (Str × Int)->List V->Prop
 | [],[]=>True
 | f::fs,x::xs=>(∃a,x=.ref a/\KTup K a [.str f.1,.int f.2])/\y0l K fs xs
 | _,_=>False
noncomputable def y4q (K:FG):List (Str × List (Str × Int))->LA->Prop
 | [],[]=>True
 | f::fs,p::ps=>(p.1=f.1/\∃xs,KTup K p.2 xs/\y0l K f.2 xs)/\y4q K fs ps
 | _,_=>False
def y8q (P:Program) (w:World) (K:FG) (d:Addr):Prop:=∃kvs,KTab P w K d kvs/\y4q K formsL kvs
theorem y1h {K:FG}{od:OA}{sl:AV}(h:K.lookup a=some ⟨.type "tuple",od,.seq its n,sl⟩) (z:its.size≤sizeLine) (v:Vals xs its.toList):KTup K a xs:=⟨_,its,n,h,rfl,rfl,z,v⟩
theorem y3a {K:FG}:∀ {fs:List (Str × List (Str × Int))}{kvs:LA},y4q K fs kvs->∀ {x:Str}{f:List (Str × Int)},fs.lookup x=some f->∃a xs,kvs.lookup x=some a/\KTup K a xs/\y0l K f xs
 | [],_,_,x,f,e=>nomatch e
 | _::_,[],h,_,_,_=>h.elim
 | (g,gs)::fs,(p,pa)::ps,h,x,f,e=>by
  obtain ⟨⟨e1,xs,k1,k2⟩,h2⟩:=h;cases (show p=g from e1);rw [t4i] at e ⊢;by_cases c:x == g
  ·rw [c] at e ⊢;cases e;exact ⟨pa,xs,rfl,k1,k2⟩
  ·have c:(x == g)=false:=by simpa using c
   rw [c] at e ⊢;exact y3a h2 e
theorem x0g {K:FG}:∀ {fs:List (Str × Int)}{xs:List V},y0l K fs xs->xs.length=fs.length/\∀ {i:Nat}{x:V},xs[i]?=some x->∃f a,fs[i]?=some f/\x=.ref a/\KTup K a [.str f.1,.int f.2]
 | [],[],_=>⟨rfl,λ e=>by simp at e⟩
 | [],_::_,h=>h.elim
 | _::_,[],h=>h.elim
 | f::fs,y::ys,h=>by
  obtain ⟨⟨a,e1,k1⟩,h2⟩:=h;obtain ⟨l,at2⟩:=x0g h2;refine ⟨by simp [l],λ {i x} e=>?_⟩
  cases i with
  | zero=>cases e;exact ⟨f,a,rfl,e1,k1⟩
  | succ i=>exact at2 e
def z0e (ns:LI):Int:=ns.foldl (λ a b=>a * b) 1
theorem y1e {ns:LI}{i:Nat}(h:ns[i]?=some x):z0e (ns.take (i+1))=z0e (ns.take i) * x:=by
 unfold z0e;rw [t1j,h,List.foldl_append];rfl
def z2x (ns:LI):Prop:=∀n∈ns,0≤n/\n < 1000000000000000000
def z1m (n:Int):Int:=if n=0 then 1 else n
theorem w3c (h:z2x ns):z2x (ns.map z1m):=by
 intro n hn;obtain ⟨m,hm,rfl⟩:=t2j.mp hn;have:=h m hm;unfold z1m;split<;>lia
theorem y5o (h:z2x ns) {i:Nat}(e:(ns.map V.int)[i]?=some x):∃m,x=.int m/\ns[i]?=some m/\0≤m/\m < 1000000000000000000:=by
 rw [t0q] at e
 cases q:ns[i]? with
 | none=>rw [q] at e;cases e
 | some m =>
  rw [q] at e;exact ⟨m,(t1i e).symm,rfl,h m (t0i q)⟩
def stP (ns:LI) (j:Nat):Int:=z0e (ns.reverse.take j)
def stL (ns:LI) (i:Nat):LI:=(List.range i).map (stP ns)
theorem y3n (ns:LI) (i:Nat):stL ns (i+1)=stL ns i++[stP ns i]:=by
 unfold stL;rw [t6h,t0l];rfl
theorem y8x {ns:LI}{i:Nat}(hi:i < ns.length) (h:ns[ns.length - 1 - i]?=some m):stP ns (i+1)=stP ns i * m:=by
 unfold stP;exact y1e (by rw [t4m hi];exact h)
def z6t (ns:LI):Prop:=6 < ns.length\/512 < z0e (ns.map z1m)
theorem z9w {A B:TS}{σ:L2.St}{H:Hp}(J:L2.St->Hp->Prop) (h2:∀σ H,J σ H->B D σ H) (h1:∀R:L2.St->Hp->Prop,(∀σ H,J σ H->R σ H)->A { D with nx:=R } σ H):y6t A B D σ H:=h1 (B D) h2
theorem w7h (ns:LI):((stL ns ns.length).reverse.map V.int).length=ns.length:=by rw [t0c,t5a,stL,t0c,t1x]
theorem z0j (ns:LI):(ns.map V.int).length=ns.length:=t0c ..
def y0g (ns ms:LI):Prop:=ms.length=ns.length/\∀(i:Nat) m n,ms[i]?=some m->ns[i]?=some n->0≤m/\m < n
def v1n (ms ss:LI):Int:=(List.zipWith (λ a b=>a * b) ms ss).sum
theorem z3q {ms:LI}{i:Nat}(ey:(ms.map V.int)[i]?=some y):∃m,y=.int m/\ms[i]?=some m:=by
 rw [t0q] at ey
 cases q:ms[i]? with
 | none=>rw [q] at ey;cases ey
 | some m=>rw [q] at ey;exact ⟨m,(t1i ey).symm,rfl⟩
def lfI (ns:LI) (place:Int):Nat->Int
 | 0=>place
 | i+1=>lfI ns place i / ns.reverse.getD i 1
def dgI (ns:LI) (place:Int) (i:Nat):Int:=lfI ns place i % ns.reverse.getD i 1
def dgL (ns:LI) (place:Int) (i:Nat):LI:=(List.range i).map (dgI ns place)
theorem x0p (ns:LI) (p:Int) (i:Nat):dgL ns p (i+1)=dgL ns p i++[dgI ns p i]:=by
 unfold dgL;rw [t6h,t0l];rfl
theorem y3v {ns:LI}{i:Nat}(hi:i < ns.length) (h:ns[ns.length - 1 - i]?=some m):ns.reverse.getD i 1=m:=by
 rw [t0w,t4m hi,h];rfl
theorem z8b (xs:LI) (y:Int):z0e (xs++[y])=z0e xs * y:=by unfold z0e;rw [List.foldl_append];rfl
theorem x4l (xs:LI):∀a:Int,xs.foldl (λ a b=>a * b) a=a * z0e xs:=by
 induction xs with
 | nil=>intro a;show a=a * 1;rw [s0e]
 | cons x xs ih=>intro a;show xs.foldl (λ a b=>a * b) (a * x)=a * (xs.foldl (λ a b=>a * b) (1 * x));rw [ih,ih (1 * x),t8t,t6i]
theorem z0x (x:Int) (xs:LI):z0e (x::xs)=x * z0e xs:=by
 show xs.foldl (λ a b=>a * b) (1 * x)=_;rw [x4l,t8t]
theorem x9o (ns:LI):z0e ns.reverse=z0e ns:=by
 induction ns with
 | nil=>rfl
 | cons x xs ih=>rw [t4s,z8b,z0x,ih,t5z]
theorem y7f (h:z0e ns≠0):∀n∈ns,n≠0:=by
 induction ns with
 | nil=>intro n hn;cases hn
 | cons x xs ih =>
  rw [z0x] at h;intro n hn
  rcases t1a.mp hn with rfl | hn
  ·intro z;rw [z,Int.zero_mul] at h;exact h rfl
  ·exact ih (λ z=>h (by rw [z,Int.mul_zero])) n hn
theorem x2u (ns:LI):stP ns ns.length=z0e ns:=by
 unfold stP;rw [← t5a,t1h,x9o]
theorem z8t {ns:LI}(h:∀n∈ns,0≤n):0≤z0e ns:=by
 induction ns with
 | nil=>decide
 | cons x xs ih=>rw [z0x];exact t6z (h x (t0t ..)) (ih λ n hn=>h n (t0d _ hn))
theorem w2i (h:z2x ns) (i:Nat):0≤stP ns i:=z8t λ n hn=>(h n (List.mem_reverse.mp (t4q hn))).1
def w1y (ns:LI) (pl:Int):Nat->Int
 | 0=>0
 | i+1=>w1y ns pl i+dgI ns pl i * stP ns i
theorem x8c (ns:LI) {i:Nat}(hi:i < ns.length):∃m,ns[ns.length - 1 - i]?=some m/\m∈ns:=by
 have z:ns.length - 1 - i < ns.length:=by lia
 exact ⟨ns[ns.length - 1 - i],t0e z,t3w z⟩
theorem x2k {ns:LI}:∀i,i≤ns.length->w1y ns pl i+stP ns i * lfI ns pl i=pl
 | 0,_=>by show 0+1 * pl=pl;lia
 | i+1,h=>by
  obtain ⟨m,hm,_⟩:=x8c ns (i:=i) (by lia);have ih:=x2k (ns:=ns) (pl:=pl) i (by lia);rw [y8x (by lia) hm];show w1y ns pl i+dgI ns pl i * stP ns i+stP ns i * m * (lfI ns pl i / _)=pl;have rg:=y3v (by lia) hm;unfold dgI;rw [rg];have e:=Int.mul_ediv_add_emod (lfI ns pl i) m;have e2:stP ns i * m * (lfI ns pl i / m)=stP ns i * (m * (lfI ns pl i / m)):=t6i ..;have e3:stP ns i * (m * (lfI ns pl i / m))+stP ns i * (lfI ns pl i % m)=stP ns i * lfI ns pl i:=by rw [← Int.mul_add,e]
  have e4:lfI ns pl i % m * stP ns i=stP ns i * (lfI ns pl i % m):=t5z ..;lia
theorem w9r {pl:Int}(h:z2x ns) (h0:0≤pl):∀i,i≤ns.length->0≤lfI ns pl i
 | 0,_=>h0
 | i+1,hi=>by
  obtain ⟨m,hm,mm⟩:=x8c ns (i:=i) (by lia);show 0≤lfI ns pl i / _;rw [y3v (by lia) hm];exact t9n (w9r h h0 i (by lia)) (h m mm).1
theorem v0v {ns:LI}(nz:∀n∈ns,n≠0) (h:z2x ns) {i:Nat}(hi:i < ns.length) (hm:ns[ns.length - 1 - i]?=some m):0≤dgI ns pl i/\dgI ns pl i < m:=by
 unfold dgI;rw [y3v hi hm];have mm:=t0i hm;have m0:=(h m mm).1;have mz:=nz m mm;exact ⟨t6j _ mz,t6k _ (by lia)⟩
theorem w1x {ns:LI}(nz:∀n∈ns,n≠0) (h:z2x ns):∀i,i≤ns.length->0≤w1y ns pl i
 | 0,_=>t5u _
 | i+1,hi=>by
  obtain ⟨m,hm,_⟩:=x8c ns (i:=i) (by lia);have a1:=w1x (pl:=pl) nz h i (by lia);have a2:=t6z (v0v (pl:=pl) nz h (by lia) hm).1 (w2i h i);show 0≤w1y ns pl i+_;lia
theorem w3q {pl:Int}(h:z2x ns) (h0:0≤pl) (h1:pl < z0e ns):w1y ns pl ns.length=pl:=by
 have nz:=y7f (ns:=ns) (by lia);have e:=x2k (ns:=ns) (pl:=pl) ns.length (t0n _);have t:=w1x (pl:=pl) nz h ns.length (t0n _);have l:=w9r h h0 ns.length (t0n _)
 have z:lfI ns pl ns.length=0:=by
  refine Decidable.byContradiction λ nl=>?_;have g:=t1p (show 1≤lfI ns pl ns.length by lia) (w2i h ns.length);rw [x2u] at g e;lia
 rw [z,Int.mul_zero] at e;lia
theorem v0w {ns:LI}{k:Nat}(hk:k < ns.length):(dgL ns pl ns.length).reverse[k]?=some (dgI ns pl (ns.length - 1 - k)):=by
 have l:(dgL ns pl ns.length).length=ns.length:=by rw [dgL,t0c,t1x]
 have z:ns.length - 1 - k < ns.length:=by lia
 rw [t4m (by rw [l];exact hk),l,dgL,t0q,t3g z];rfl
theorem x7h (ns:LI) (pl:Int):∀n,v1n (dgL ns pl n).reverse (stL ns n).reverse=w1y ns pl n
 | 0=>rfl
 | n+1=>by
  rw [x0p,y3n,t3o,t3o];show dgI ns pl n * stP ns n+v1n (dgL ns pl n).reverse (stL ns n).reverse=w1y ns pl n+dgI ns pl n * stP ns n;rw [x7h ns pl n,Int.add_comm]
theorem w5r {ns:LI}(nz:∀n∈ns,n≠0) (h:z2x ns):y0g ns (dgL ns pl ns.length).reverse:=by
 refine ⟨by rw [t5a,dgL,t0c,t1x],λ i m n hm hn=>?_⟩;have hi:=(t0g.mp hn).1;rw [v0w hi] at hm;cases hm;exact v0v nz h (by lia) (by rw [show ns.length - 1 - (ns.length - 1 - i)=i by lia];exact hn)
def w5s (ns:LI) (k:Nat):Int:=ns.getD k 0
def fit (ns:LI):Prop:=(∀n∈ns,0≤n/\n≤512)/\ns.length≤6/\1≤z0e (ns.map z1m)/\z0e (ns.map z1m)≤512
def v7o (H:Hp) (p:Addr) (w:String) (ms:LI):Prop:=∃q,H p=some (.tup [.str w,.ref q])/\H q=some (.tup (ms.map V.int))
def off (ns:LI) (side:Int):Prop:=side < 0\/(ns.length:Int)≤side
noncomputable def bad (ns:LI) (side first many step:Int):Prop:=first < 0\/many < 0\/step < 1\/(0 < many/\ns.getD side.toNat 0≤first+(many - 1) * step)
theorem y3c {ns:LI}{k:Nat}(h:k≤ns.length):y1p (ns.map V.int) none (some (k:Int))=(ns.take k).map V.int:=by
 unfold y1p;simp only [HT.sIx,z0j];rw [if_neg (by lia),s0b,t8u];congr 1;lia
theorem y3d {ns:LI}{k:Nat}(h:k≤ns.length):y1p (ns.map V.int) (some (k:Int)) none=(ns.drop k).map V.int:=by
 unfold y1p;simp only [HT.sIx,z0j];rw [if_neg (by lia),t8v,show min (k:Int).toNat ns.length=k by lia,t1o (by simp)]
theorem y1z (h:¬off ns side):∃k:Nat,side=k/\k < ns.length:=by
 unfold off at h;exact ⟨side.toNat,by lia,by lia⟩
theorem z4y {ns:LI}{k:Nat}(h:k < ns.length):atI (ns.map V.int) (k:Int)=some (.int (ns.getD k 0)):=z0f (by rw [t0q,t0e h,t0w,t0e h];rfl)
instance (ns:LI):Decidable (z6t ns):=by unfold z6t;infer_instance
theorem z3s (ns:LI) (k:Nat):y1p (ns.map V.int) none (some (k:Int))=(ns.take k).map V.int:=by
 unfold y1p;simp only [HT.sIx,z0j];rw [if_neg (by lia),s0b,s1n,← t8u];congr 1;by_cases c:k≤ns.length
 ·congr 1;lia
 ·rw [t1o (by lia),t1o (by lia)]
theorem z2t:∀(ns ms:LI),y8h (ns.map V.int) (ms.map V.int)=decide (ns=ms)
 | [],[]=>rfl
 | [],m::ms=>by simp [y8h]
 | n::ns,[]=>by simp [y8h]
 | n::ns,m::ms=>by
  by_cases e:n=m
  ·subst e;simp [y8h,eqV,z2t ns ms]
  ·simp [y8h,eqV,z2t ns ms,e]
def agr (x y:LI):Prop:=∀k:Nat,k < x.length->k < y.length->x[k]?=y[k]?
theorem w1t (x:LI):agr x x:=λ _ _ _=>rfl
theorem x0t (h:agr x y):agr y x:=λ k a b=>(h k b a).symm
theorem y4p {x y:LI}(h:x.length≤y.length):agr x y ↔ y.take x.length=x:=by
 constructor
 ·intro a;apply t8p;intro k;by_cases c:k < x.length
  ·rw [t2a c];exact (a k c (by lia)).symm
  ·rw [t2e (by rw [t0p];lia),t2e (by lia)]
 ·intro e k hx hy;have z:=t3p (λ l=>l[k]?) e;simp only [t2a hx] at z;exact z.symm
def z1t (x y:LI):Prop:=if y.length < x.length then x.take y.length=y else y.take x.length=x
def z0y (x y:LI):LI:=if y.length < x.length then x else y
theorem z8e (x y:LI):z1t x y ↔ agr x y:=by
 unfold z1t;split
 ·rename_i h;exact (y4p (by lia)).symm.trans ⟨x0t,x0t⟩
 ·rename_i h;exact (y4p (by lia)).symm
theorem v1a (h:agr x y) (l:x.length=y.length):x=y:=by
 have z:=(y4p (x:=x) (y:=y) (by lia)).mp h;rw [l,t1h] at z;exact z.symm
theorem x8g (h:agr x z) (h2:agr y z):agr (z0y x y) z:=by
 unfold z0y;split
 ·exact h
 ·exact h2
noncomputable def tups (H:Hp) (ps:List Addr) (L:LL):Prop:=ps.length=L.length/\∀(i:Nat) p m,ps[i]?=some p->L[i]?=some m->H p=some (.tup (m.map V.int))
theorem tups.at (h:tups H ps L) {i:Nat}(e:(ps.map V.ref)[i]?=some v):∃p m,v=.ref p/\L[i]?=some m/\m∈L/\H p=some (.tup (m.map V.int)):=by
 rw [t0q] at e
 cases q:ps[i]? with
 | none=>rw [q] at e;cases e
 | some p =>
  rw [q] at e;have hi:=(t0g.mp q).1;rw [h.1] at hi;have z:=t0e hi;exact ⟨p,L[i],(t1i e).symm,z,t3w hi,h.2 i p _ q z⟩
theorem tups.take (h:tups H ps L) (k:Nat):tups H (ps.take k) (L.take k):=by
 refine ⟨by rw [t0p,t0p,h.1],λ i p m a b=>?_⟩;have c:i < k:=by have:=(t0g.mp a).1;rw [t0p] at this;lia
 rw [t2a c] at a b;exact h.2 i p m a b
def sm (ns:LI):Prop:=∀n∈ns,0≤n/\n≤1000000
theorem y0w (h:sm ns):z2x ns:=λ n hn=>by have:=h n hn;lia
theorem w2r {v:Int}(h:sm ns) (h0:0≤v) (h1:v≤1000000):sm (ns.set k v):=λ n hn=>by
 rcases t3e hn with z | z
 ·exact h n z
 ·lia
def z2v (ns ms:LI) (side:Int):LI:=ns.set side.toNat (ns.getD side.toNat 0+ms.getD side.toNat 0)
theorem x7c {ns ms:LI}(l:ns.length=ms.length):ns.eraseIdx k=ms.eraseIdx k ↔ ∀i:Nat,i≠k->ns[i]?=ms[i]?:=by
 constructor
 ·intro e i ne;by_cases c:i < k
  ·have z:=t3p (λ l=>l[i]?) e;simp only [t3d,if_pos c] at z;exact z
  ·have z:=t3p (λ l=>l[i - 1]?) e;simp only [t3d,if_neg (show ¬i - 1 < k by lia),show i - 1+1=i by lia] at z;exact z
 ·intro h;apply t8p;intro i;rw [t3d,t3d];split
  ·exact h i (by lia)
  ·exact h (i+1) (by lia)
theorem w9y {n k:Nat}(h:k < n):ixN n (k:Int)=some k:=by unfold ixN;rw [if_pos (by lia)];simp;lia
theorem getD_mem {ns:LI}{k:Nat}(h:k < ns.length):ns.getD k 0∈ns:=by rw [t0w,t0e h];exact t3w h
theorem z4a (ns:LI) (k:Nat):y1p (ns.map V.int) (some (k:Int)) none=(ns.drop k).map V.int:=by
 unfold y1p;simp only [HT.sIx,z0j];rw [if_neg (by lia),t1o (by simp),← t8v];congr 1;by_cases c:k≤ns.length
 ·congr 1;lia
 ·rw [t9b (by lia),t9b (by lia)]
def atD (ns:LI) (p:Int):LI:=(dgL ns p ns.length).reverse
theorem z5j (ns:LI) (p:Int):(atD ns p).length=ns.length:=by simp [atD,dgL]
theorem x6e (ns:LI) (n p:Int):∀i,lfI (ns++[n]) p (i+1)=lfI ns (p / n) i
 | 0=>by
  show p / (ns++[n]).reverse.getD 0 1=p / n;rw [t3o];rfl
 | i+1=>by
  show lfI (ns++[n]) p (i+1) / (ns++[n]).reverse.getD (i+1) 1=lfI ns (p / n) i / ns.reverse.getD i 1;rw [x6e ns n p i,t3o];rfl
theorem w5q (ns:LI) (n p:Int) (i:Nat):dgI (ns++[n]) p (i+1)=dgI ns (p / n) i:=by
 unfold dgI;rw [x6e,t3o];rfl
theorem w1d (ns:LI) (n p:Int):dgI (ns++[n]) p 0=p % n:=by
 show p % (ns++[n]).reverse.getD 0 1=p % n;rw [t3o];rfl
theorem x0s (ns:LI) (n p:Int):atD (ns++[n]) p=atD ns (p / n)++[p % n]:=by
 unfold atD dgL;rw [t0o,t1z,t8z,t2t,t4s,w1d,t5i]
 congr 2
 exact s0l λ i _=>w5q ns n p i
theorem x7i {p B n:Int}(hn:0 < n):p / (B * n)=p / n / B:=by
 rw [t5z,Int.ediv_mul,if_neg (by lia),Int.add_zero]
theorem w1c {p B n:Int}(hn:0 < n):p % (B * n) / n=p / n % B:=by
 have e:p % (B * n)=p+n * (-(B * (p / (B * n)))):=by
  rw [Int.emod_def,s1d,Int.mul_neg]
  congr 2
  rw [← t6i,t5z n B]
 rw [e,Int.add_mul_ediv_left _ _ (by lia),Int.emod_def (p / n) B,← x7i hn,s1d]
theorem y3w (a:LI):∀b:LI,z0e (a++b)=z0e a * z0e b:=by
 induction a with
 | nil=>intro b;show z0e b=1 * z0e b;rw [t8t]
 | cons x a ih=>intro b;rw [t0k,z0x,z0x,ih,t6i]
theorem x8z {α:Type}{P:List α->Prop}(h0:P []) (h1:∀l x,P l->P (l++[x])) (l:List α):P l:=by
 have:∀l:List α,P l.reverse:=λ l=>by
  induction l with
  | nil=>exact h0
  | cons x l ih=>rw [t4s];exact h1 _ _ ih
 rw [← List.reverse_reverse l];exact this _
theorem w5v (a:LI) (b:LI):(∀n∈b,0 < n)->∀p:Int,atD (a++b) p=atD a (p / z0e b)++atD b (p % z0e b):=by
 refine x8z (P:=λ b=>(∀n∈b,0 < n)->∀p:Int,atD (a++b) p=atD a (p / z0e b)++atD b (p % z0e b)) ?_ ?_ b
 ·intro _ p;show atD (a++[]) p=atD a (p / 1)++[];rw [t0a,t0a,s1l]
 ·intro b n ih h p;have hn:0 < n:=h n (by simp);rw [← t3a,x0s,ih (λ m hm=>h m (by simp [hm])),x0s,z8b,x7i hn,w1c hn,t3a,Int.emod_emod_of_dvd p ⟨z0e b,t5z _ _⟩]
theorem z9z {ns:LI}(h:∀n∈ns,0 < n):0 < z0e ns:=by
 induction ns with
 | nil=>decide
 | cons x xs ih=>rw [z0x];exact Int.mul_pos (h x (t0t ..)) (ih λ n hn=>h n (t0d _ hn))
def w6i (ns:LI):LL:=(List.range (z0e ns).toNat).map λ p:Nat=>atD ns (p:Int)
theorem y8p (ns:LI):(w6i ns).length=(z0e ns).toNat:=by simp [w6i]
theorem x8f {i:Nat}(h:i < (z0e ns).toNat):(w6i ns)[i]?=some (atD ns (i:Int)):=by
 unfold w6i;rw [t0q,t3g h];rfl
def plH (ns ms:LI):Int:=v1n ms (stL ns ns.length).reverse
theorem w2y {p:Int}(h:z2x ns) (h0:0≤p) (h1:p < z0e ns):plH ns (atD ns p)=p:=by
 unfold plH atD;rw [x7h,w3q h h0 h1]
theorem w4u {p:Int}(h:z2x ns) (h0:0≤p) (h1:p < z0e ns):∀n∈ns,0 < n:=λ n hn=>by
 have a:=y7f (ns:=ns) (by lia) n hn;have b:=h n hn;lia
theorem z4c {p:Int}(h:z2x ns) (h0:0≤p) (h1:p < z0e ns):y0g ns (atD ns p):=w5r (λ n hn=>by have:=w4u h h0 h1 n hn;lia) h
theorem y8y (n:Int) (ns:LI) {j:Nat}(h:j≤ns.length):stP (n::ns) j=stP ns j:=by
 unfold stP;rw [t4s,t3x (by simpa using h)]
theorem y3o (n:Int) (ns:LI):(stL (n::ns) (n::ns).length).reverse=z0e ns::(stL ns ns.length).reverse:=by
 rw [t0h,y3n,t3o,y8y n ns (t0n _),x2u];show z0e ns::(stL (n::ns) ns.length).reverse=_
 congr 2
 unfold stL;exact s0l λ j hj=>y8y n ns (t3h (t6v.mp hj))
theorem y9u (n m:Int) (ns ms:LI):plH (n::ns) (m::ms)=m * z0e ns+plH ns ms:=by
 unfold plH;rw [y3o];show (List.zipWith _ (m::ms) (z0e ns::_)).sum=_;rw [List.zipWith_cons_cons,List.sum_cons];rfl
theorem x4n:∀ {ns ms:LI},y0g ns ms->0≤plH ns ms/\plH ns ms < z0e ns
 | [],[],_=>by decide
 | [],_::_,h=>by have:=h.1;simp at this
 | _::_,[],h=>by have:=h.1;simp at this
 | n::ns,m::ms,h=>by
  have g:y0g ns ms:=⟨by have:=h.1;simpa using this,λ i a b e1 e2=>h.2 (i+1) a b (by simpa using e1) (by simpa using e2)⟩;have ih:=x4n g;have m0:=h.2 0 m n rfl rfl;rw [y9u,z0x];have e:n * z0e ns=m * z0e ns+(n - m) * z0e ns:=by rw [← Int.add_mul];congr 1;lia
  have e2:z0e ns≤(n - m) * z0e ns:=by
   have:1 * z0e ns≤(n - m) * z0e ns:=t1s (by lia) (by lia);lia
  have e3:0≤m * z0e ns:=t6z m0.1 (by lia);lia
theorem x6v {n m:Int}(h:y0g ns ms) (h0:0≤m) (h1:m < n):y0g (n::ns) (m::ms):=⟨by simp [h.1],λ i a b e1 e2=>by
 cases i with
 | zero=>cases (t1i e1);cases (t1i e2);exact ⟨h0,h1⟩
 | succ i=>exact h.2 i a b (by simpa using e1) (by simpa using e2)⟩
def RwI (H:Hp) (a:Addr) (ns:LI):Prop:=H a=some (.lst (ns.map V.int))\/H a=some (.tup (ns.map V.int))
theorem RwI.same (h:RwI H a ns) (s:Same H H'):RwI H' a ns:=h.imp (s _ _) (s _ _)
noncomputable def TbAt (H:Hp) (t:Addr) (ns cs:LI):Prop:=∃a c,H t=some (.tup [.ref a,.ref c])/\H a=some (.tup (ns.map V.int))/\H c=some (.tup (cs.map V.int))
theorem TbAt.same (h:TbAt H t ns cs) (s:Same H H'):TbAt H' t ns cs:=let ⟨a,c,h1,h2,h3⟩:=h;⟨a,c,s _ _ h1,s _ _ h2,s _ _ h3⟩
noncomputable def TpsAt (H:Hp) (ps:List Addr) (L:LL):Prop:=ps.length=L.length/\∀(i:Nat) t,L[i]?=some t->∃p,ps[i]?=some p/\H p=some (.tup (t.map V.int))
theorem TpsAt.mono {H H':Hp}(h:TpsAt H ps L) (s:∀a xs,H a=some (.tup xs)->H' a=some (.tup xs)):TpsAt H' ps L:=⟨h.1,λ i t e=>let ⟨p,e1,g⟩:=h.2 i t e;⟨p,e1,s _ _ g⟩⟩
theorem TpsAt.snoc {t:LI}(h:TpsAt H ps L) (g:H q=some (.tup (t.map V.int))):TpsAt H (ps++[q]) (L++[t]):=by
 refine ⟨by simp [h.1],λ i u e=>?_⟩
 rcases Nat.lt_trichotomy i L.length with hi | hi | hi
 ·rw [t1b hi] at e;obtain ⟨p,e1,l⟩:=h.2 i u e;exact ⟨p,by rw [t1b (by rw [h.1];exact hi)];exact e1,l⟩
 ·subst hi;rw [t0u (t0n _),t2f] at e;cases (t1i e);exact ⟨q,by rw [t0u (by rw [h.1];exact t0n _),h.1,t2f];rfl,g⟩
 ·rw [t2e (by simp;lia)] at e;cases e
theorem y3g {r:LI}{i x:Int}(i0:0≤i) (h:r[i.toNat]?=some x):atI (r.map V.int) i=some (.int x):=by
 have z:=z0f (xs:=r.map V.int) (j:=i.toNat) (v:=.int x) (by rw [t0q,h];rfl)
 rwa [show ((i.toNat:Nat):Int)=i by lia] at z
noncomputable def w4v (n:Int):Int:=if n % 17=5 then [(-9223372036854775808:Int),9223372036854775807,-1,4611686018427387904].getD (n / 17 % 4).toNat 0 else (n+9223372036854775808) % 18446744073709551616 - 9223372036854775808
def z4j (T:Addr) (H H':Hp):Prop:=∀a o,a≠T->H a=some o->H' a=some o
noncomputable def z2w (P:Program) (w:World) (K:FG) (mg:SV) (base:Heap):Sp:=λ vs H Q _=>∃(sa fa:Addr) (ns:LI) (fn:Nat->Int),vs=[.ref sa,.ref fa]/\H sa=some (.tup (ns.map V.int))/\z2x ns/\ns.length≤63/\z0e ns≤512/\FnV H fa/\(∀(i:Nat) H1 p Q',(i:Int) < z0e ns->Same H H1->H1 p=some (.tup ((atD ns (i:Int)).map V.int))->(∀H2,Same H1 H2->Q' (.int (fn i)) H2)->w1u P w K mg base 6 fa [.ref p] H1 Q')/\∀H' p q,Same H H'->H' q=some (.tup (((List.range (z0e ns).toNat).map fn).map V.int))->H' p=some (.tup [.ref sa,.ref q])->Q (.ref p) H'
theorem z1e:∀ {ns:LI},(∀n∈ns,0≤n)->0≤z0e ns/\z0e ns≤z0e (ns.map z1m)
 | [],_=>by decide
 | n::ns,h=>by
  obtain ⟨i0,i1⟩:=z1e (ns:=ns) λ m hm=>h m (t0d _ hm);have n0:=h n t0t;rw [t2t,z0x,z0x];have o:n≤z1m n/\0≤z1m n:=by unfold z1m;split<;>lia
  exact ⟨t6z n0 i0,s0c o.1 i1 i0 o.2⟩
theorem z3y (s:Same (minC H cl) H'):Same H (resC H H' cl):=λ b o e=>by
 by_cases h:∃q∈cl,q.2=b
 ·obtain ⟨q,hq,rfl⟩:=h;rw [z5w hq];exact e
 ·have h':∀q∈cl,q.2≠b:=λ q hq z=>h ⟨q,hq,z⟩;rw [z2r h'];exact s _ _ (by rw [z2n h'];exact e)
theorem z1k (hc:CelAt H cl vcs) (h:H a=some (.tup xs)):minC H cl a=some (.tup xs):=by
 rw [z2n λ q hq z=>by obtain ⟨o,v,e⟩:=hc.mem hq;rw [z,h] at e;cases e];exact h
theorem fc {α:Type}{p:α->Prop}{a:α}{l:List α}(h:p a) (t:∀n∈l,p n):∀n∈a::l,p n:=λ n hn=>by
 cases hn with
 | head=>exact h
 | tail _ g=>exact t n g
theorem fc0 {α:Type}{p:α->Prop}:∀n∈([]:List α),p n:=λ _ h=>nomatch h
theorem z5i {H2 H3:Hp}{cl:LA}(fr:∀q∈cl,H2 q.2=none) (eq:∀b,(∀q∈cl,¬q.2=b)->H3 b=H2 b):Same H2 H3:=λ b o e=>by
 rw [eq b λ q hq z=>by rw [← z,fr q hq] at e;cases e];exact e
theorem z3r {H2 H3 H4:Hp}{cl:LA}(fr:∀q∈cl,H2 q.2=none) (eq:∀b,(∀q∈cl,¬q.2=b)->H3 b=H2 b) (s:Same H3 H4):Same H2 (minC H4 cl):=λ b o e=>by
 rw [z2n λ q hq z=>by rw [← z,fr q hq] at e;cases e];exact s _ _ (z5i fr eq _ _ e)
theorem z7s (h:TabOk H T pos qual) (e:H a=some (.tup xs)):¬a=T:=λ z=>by
 obtain ⟨ps,h1,_⟩:=h;rw [z,h1] at e;cases e
theorem z7a (hc:CelAt H cl vcs) (h:TbAt H t ns cs):TbAt (minC H cl) t ns cs:=let ⟨a,c,h1,h2,h3⟩:=h;⟨a,c,z1k hc h1,z1k hc h2,z1k hc h3⟩
theorem y1r {H H':Hp}{t T:Addr}(h:TbAt H t ns cs) (up:∀a xs,H a=some (.tup xs)->H' a=some (.tup xs)):TbAt H' t ns cs:=let ⟨a,c,h1,h2,h3⟩:=h;⟨a,c,up _ _ h1,up _ _ h2,up _ _ h3⟩
theorem w7r (h:z2x a) (g:z2x b):z2x (a++b):=λ n hn=>(t1n.mp hn).elim (h n) (g n)
theorem v0u {i a b:Int}(hb:0 < b) (i0:0≤i) (h:i < a * b):0≤i / b/\i / b < a:=⟨t9n i0 (by lia),Int.ediv_lt_of_lt_mul hb h⟩
def SmT (H H':Hp):Prop:=∀a o,(∀ps,o≠.tbl ps)->H a=some o->H' a=some o
theorem SmT.refl (H:Hp):SmT H H:=λ _ _ _ e=>e
theorem SmT.trans (h:SmT H H1) (g:SmT H1 H2):SmT H H2:=λ a o n e=>g a o n (h a o n e)
theorem SmT.of (h:Same H H'):SmT H H':=λ a o _ e=>h a o e
theorem SmT.tup (h:SmT H H')(e:H a=some (.tup xs)):H' a=some (.tup xs):=h a _ (λ _ z=>by cases z) e
theorem SmT.lst (h:SmT H H')(e:H a=some (.lst xs)):H' a=some (.lst xs):=h a _ (λ _ z=>by cases z) e
theorem SmT.tb (h:SmT H H')(e:TbAt H t ns cs):TbAt H' t ns cs:=let ⟨a,c,h1,h2,h3⟩:=e;⟨a,c,h.tup h1,h.tup h2,h.tup h3⟩
theorem SmT.ofP (t:TabOk H T pos qual) (h:z4j T H H'):SmT H H':=λ a o n e=>h a o (λ z=>by
 obtain ⟨ps,h1,_⟩:=t;rw [z,h1] at e
 exact n ps (t1i e).symm) e
theorem TabOk.other {T T2:Addr}(ne:T2≠T) (t:TabOk H T pos qual) (t2:TabOk H T2 pos2 qual2) (h:z4j T H H'):TabOk H' T2 pos2 qual2:=by
 obtain ⟨ps,h1,h2,h3⟩:=t2;refine ⟨ps,h _ _ ne h1,h2,h3.imp id λ ⟨c',e,g⟩=>⟨c',e,(SmT.ofP t h) _ _ (λ _ z=>by cases z) g⟩⟩
theorem x2n {ns:LI}(h:∀n∈ns,0≤n) (i:Nat):z0e (ns.take i)≤z0e (ns.map z1m):=by
 have a:=z1e (ns:=ns.take i) λ n hn=>h n (t4q hn);have e:ns.map z1m=(ns.take i).map z1m++(ns.drop i).map z1m:=by rw [← t0l,t3s]
 have b:1≤z0e ((ns.drop i).map z1m):=by
  have:=z9z (ns:=(ns.drop i).map z1m) λ n hn=>by
   obtain ⟨m,hm,rfl⟩:=t2j.mp hn;have:=h m (t4r hm);unfold z1m;split<;>lia
  lia
 rw [e,y3w];have:=t1p b (show 0≤z0e ((ns.take i).map z1m) by lia);lia
theorem z2s {ns:LI}{k:Nat}(hk:k < ns.length):ns[k]?=some (ns.getD k 0):=by rw [t0w,t0e hk];rfl
def z4u (n:Int):Int:=(n+9223372036854775808) % 18446744073709551616 - 9223372036854775808
def w6e (x y:Int):Int:=if y=0 then 0 else z4u (Int.fdiv x y)
def x1d (x y:Int):Int:=if y=0 then x else Int.fmod x y
noncomputable def z1g (w:Str) (x y:Int):Int :=
 if w="add" then z4u (x+y) else if w="sub" then z4u (x - y) else if w="mul" then z4u (x * y) else if w="quo" then w6e x y else if w="rest" then x1d x y
 else if w="max" then (if x < y then y else x) else if w="min" then (if y < x then y else x) else if w="less" then (if x < y then 1 else 0) else if w="like" then (if x=y then 1 else 0)
 else if w="and" then Builtin.bitAnd x y else if w="or" then Builtin.bitOr x y else Builtin.bitXor x y
theorem w6v (x y:Int):z1g "add" x y=(z4u (x+y)):=by unfold z1g;rw [if_pos rfl]
theorem w6p (x y:Int):z1g "sub" x y=(z4u (x - y)):=by unfold z1g;rw [if_neg (by decide +kernel),if_pos rfl]
theorem w6r (x y:Int):z1g "mul" x y=(z4u (x * y)):=by unfold z1g;rw [if_neg (by decide +kernel),if_neg (by decide +kernel),if_pos rfl]
theorem w6q (x y:Int):z1g "quo" x y=(w6e x y):=by unfold z1g;rw [if_neg (by decide +kernel),if_neg (by decide +kernel),if_neg (by decide +kernel),if_pos rfl]
theorem w3m (x y:Int):z1g "rest" x y=(x1d x y):=by unfold z1g;rw [if_neg (by decide +kernel),if_neg (by decide +kernel),if_neg (by decide +kernel),if_neg (by decide +kernel),if_pos rfl]
theorem w6t (x y:Int):z1g "max" x y=(if x < y then y else x):=by unfold z1g;rw [if_neg (by decide +kernel),if_neg (by decide +kernel),if_neg (by decide +kernel),if_neg (by decide +kernel),if_neg (by decide +kernel),if_pos rfl]
theorem w6s (x y:Int):z1g "min" x y=(if y < x then y else x):=by unfold z1g;rw [if_neg (by decide +kernel),if_neg (by decide +kernel),if_neg (by decide +kernel),if_neg (by decide +kernel),if_neg (by decide +kernel),if_neg (by decide +kernel),if_pos rfl]
theorem w3o (x y:Int):z1g "less" x y=(if x < y then 1 else 0):=by unfold z1g;rw [if_neg (by decide +kernel),if_neg (by decide +kernel),if_neg (by decide +kernel),if_neg (by decide +kernel),if_neg (by decide +kernel),if_neg (by decide +kernel),if_neg (by decide +kernel),if_pos rfl]
theorem w3n (x y:Int):z1g "like" x y=(if x=y then 1 else 0):=by unfold z1g;rw [if_neg (by decide +kernel),if_neg (by decide +kernel),if_neg (by decide +kernel),if_neg (by decide +kernel),if_neg (by decide +kernel),if_neg (by decide +kernel),if_neg (by decide +kernel),if_neg (by decide +kernel),if_pos rfl]
theorem w6u (x y:Int):z1g "and" x y=(Builtin.bitAnd x y):=by unfold z1g;rw [if_neg (by decide +kernel),if_neg (by decide +kernel),if_neg (by decide +kernel),if_neg (by decide +kernel),if_neg (by decide +kernel),if_neg (by decide +kernel),if_neg (by decide +kernel),if_neg (by decide +kernel),if_neg (by decide +kernel),if_pos rfl]
theorem v1t (x y:Int):z1g "or" x y=(Builtin.bitOr x y):=by unfold z1g;rw [if_neg (by decide +kernel),if_neg (by decide +kernel),if_neg (by decide +kernel),if_neg (by decide +kernel),if_neg (by decide +kernel),if_neg (by decide +kernel),if_neg (by decide +kernel),if_neg (by decide +kernel),if_neg (by decide +kernel),if_neg (by decide +kernel),if_pos rfl]
theorem w6o (x y:Int):z1g "xor" x y=(Builtin.bitXor x y):=by unfold z1g;rw [if_neg (by decide +kernel),if_neg (by decide +kernel),if_neg (by decide +kernel),if_neg (by decide +kernel),if_neg (by decide +kernel),if_neg (by decide +kernel),if_neg (by decide +kernel),if_neg (by decide +kernel),if_neg (by decide +kernel),if_neg (by decide +kernel),if_neg (by decide +kernel)]
abbrev tw:List Str:=["add","sub","mul","quo","rest","max","min","less","like","and","or","xor"]
def inB (x:Int):Prop:=-9223372036854775808≤x/\x < 9223372036854775808
theorem w9i (n:Int):inB (w4v n):=by
 unfold w4v inB;split
 ·have h:n / 17 % 4=0\/n / 17 % 4=1\/n / 17 % 4=2\/n / 17 % 4=3:=by lia
  rcases h with h | h | h | h<;>rw [h]<;>exact ⟨by decide,by decide⟩
 ·lia
def v5e (x:Int):Int:=if x < 0 then -x else x
noncomputable def z8h (w:Str) (x:Int):Int:=if w="neg" then z4u (-x) else if w="abs" then z4u (v5e x) else if w="sign" then (if x < 0 then -1 else if 0 < x then 1 else 0) else if x=0 then 1 else 0
def w6f:List Str:=["neg","abs","sign","not"]
def two12:List Str:=["add","sub","mul","quo","rest","max","min","less","like","and","or","xor"]
def x1z (ns cs ms:LI) (i:Nat):Int:=cs.getD (plH ns ((atD ms (i:Int)).take ns.length)).toNat 0
def z6h (ns cs ms:LI):LI:=(List.range (z0e ms).toNat).map (x1z ns cs ms)
theorem z6c (ns cs ms:LI):(z6h ns cs ms).length=(z0e ms).toNat:=by unfold z6h;rw [t0c,t1x]
theorem x6u (k:Nat) (g:y0g ns ms):y0g (ns.take k) (ms.take k):=by
 obtain ⟨l,g⟩:=g;refine ⟨by rw [t0p,t0p,l],λ i m n em en=>?_⟩;rw [s1e] at em en;split at em
 ·rename_i c;rw [if_pos c] at en;exact g i m n em en
 ·cases em
theorem y1f (h:z1t x y):(z0y x y).take x.length=x/\(z0y x y).take y.length=y:=by
 unfold z1t at h;unfold z0y;split at h
 ·rename_i c;rw [if_pos c];exact ⟨t1h,h⟩
 ·rename_i c;rw [if_neg c];exact ⟨h,t1h⟩
theorem x9u (x y:LI):z0y x y=x\/z0y x y=y:=by unfold z0y;split<;>simp
theorem z3n {P:LI->Prop}(hx:P x) (hy:P y):P (z0y x y):=(x9u x y).elim (λ e=>by rw [e];exact hx) (λ e=>by rw [e];exact hy)
theorem x0d {ns cs ms:LI}(h:∀c∈cs,inB c):∀x∈z6h ns cs ms,inB x:=λ x hx=>by
 unfold z6h at hx;obtain ⟨i,_,rfl⟩:=t2j.mp hx;unfold x1z;rw [t0w]
 cases e:cs[(plH ns ((atD ms (i:Int)).take ns.length)).toNat]? with
 | none=>exact ⟨by decide,by decide⟩
 | some c=>exact h c (t0i e)
def prC (w:Str) (ns cs ms ds P:LI):LI:=List.zipWith (z1g w) (z6h ns cs P) (z6h ms ds P)
noncomputable def pkC (ks es ns cs ms ds P:LI):LI:=(List.range (z0e P).toNat).map λ i=>if x1z ks es P i≠0 then x1z ns cs P i else x1z ms ds P i
theorem x6f {i:Nat}(h:(z6h ns cs ms)[i]?=some x):x=x1z ns cs ms i:=by
 unfold z6h at h;rw [t0q] at h;obtain ⟨j,hj,rfl⟩:=t3b.mp h;rw [t3g (by have:=(t0g.mp hj).1;rwa [t1x] at this)] at hj;cases hj;rfl
theorem x9p (h1:z1t ks ns) (h2:z1t (z0y ks ns) ms):(z0y (z0y ks ns) ms).take ks.length=ks/\(z0y (z0y ks ns) ms).take ns.length=ns/\(z0y (z0y ks ns) ms).take ms.length=ms:=by
 obtain ⟨a,b⟩:=y1f h1;obtain ⟨c,d⟩:=y1f h2;have l1:ks.length≤(z0y ks ns).length:=by unfold z0y;split<;>lia
 have l2:ns.length≤(z0y ks ns).length:=by unfold z0y;split<;>lia
 generalize z0y ks ns=Q at *;generalize z0y Q ms=P at *;refine ⟨?_,?_,d⟩
 ·have e:(P.take Q.length).take ks.length=P.take ks.length:=by rw [List.take_take,t7z l1]
  rw [← e,c,a]
 ·have e:(P.take Q.length).take ns.length=P.take ns.length:=by rw [List.take_take,t7z l2]
  rw [← e,c,b]
def OkT (ns cs:LI):Prop:=z2x ns/\¬z6t ns/\(cs.length:Int)=z0e ns/\∀c∈cs,inB c
theorem v3q (h:¬z6t ns):ns.length≤6:=by unfold z6t at h;lia
theorem v3o (hs:z2x ns) (h:¬z6t ns) (i:Nat):z0e (ns.take i)≤512:=t3t (x2n (λ n hn=>(hs n hn).1) i) (by unfold z6t at h;lia)
theorem v3p (hs:z2x ns) (h:¬z6t ns):z0e ns≤512:=by have:=v3o hs h ns.length;rwa [t1h] at this
noncomputable def v7h (H:Hp) (l:Addr) (n0 c0 n1 c1 n2 c2:LI):Prop:=∃a b c,H l=some (.lst [.ref a,.ref b,.ref c])/\TbAt H a n0 c0/\TbAt H b n1 c1/\TbAt H c n2 c2
theorem z3z (s:Same H H')(h:H l=none):Same H (upd H' l o):=λ a x e=>by
 have ne:a≠l:=λ z=>by rw [z,h] at e;cases e
 rw [z0u ne];exact s _ _ e
theorem z7y (s:Same H H')(h:H' l=none):H l=none:=by
 cases e:H l with
 | none=>rfl
 | some o=>rw [s _ _ e] at h;cases h
theorem x6g {ns cs ms:LI}(h:∀c∈cs,inB c):inB (x1z ns cs ms i):=by
 unfold x1z;rw [t0w]
 cases e:cs[(plH ns ((atD ms (i:Int)).take ns.length)).toNat]? with
 | none=>exact ⟨by decide,by decide⟩
 | some c=>exact h c (t0i e)
theorem OkT.l (o:OkT ns cs):ns.length≤20:=t2u (v3q o.2.1) (by decide)
theorem OkT.p (o:OkT ns cs):z0e ns≤512:=v3p o.1 o.2.1
theorem OkT.c (o:OkT ns cs):cs.length≤900:=by have:=o.p;have:=o.2.2.1;lia
def TbL (G:Hp) (ys:List V):Prop:=∀y∈ys,∃p ns cs,y=.ref p/\TbAt G p ns cs/\OkT ns cs
noncomputable def y9c (K:FG) (Ts:List Addr):Sp:=λ vs H Q _=>∃(a:Addr) (ns:LI),vs=[.ref a]/\SqL K H a (ns.map V.int)/\ns.length≤63/\(∀T∈Ts,H T=some (.tbl #[]))/\∀H',Q (.bl true) H'
abbrev fw:List Str:=["add","mul","max","min","and","or","xor"]
def isF (w:Str):Prop:=w∈fw
noncomputable def z4f (w:Str):Int:=if w="mul" then 1 else if w="max" then -9223372036854775808 else if w="min" then 9223372036854775807 else if w="and" then -1 else 0
theorem w9o:z4f "add"=0:=by unfold z4f;rw [if_neg (by decide +kernel),if_neg (by decide +kernel),if_neg (by decide +kernel),if_neg (by decide +kernel)]
theorem w9k:z4f "mul"=1:=by unfold z4f;rw [if_pos rfl]
theorem w9m:z4f "max"=-9223372036854775808:=by unfold z4f;rw [if_neg (by decide +kernel),if_pos rfl]
theorem w9l:z4f "min"=9223372036854775807:=by unfold z4f;rw [if_neg (by decide +kernel),if_neg (by decide +kernel),if_pos rfl]
theorem w9n:z4f "and"=-1:=by unfold z4f;rw [if_neg (by decide +kernel),if_neg (by decide +kernel),if_neg (by decide +kernel),if_pos rfl]
theorem v2m:z4f "or"=0:=by unfold z4f;rw [if_neg (by decide +kernel),if_neg (by decide +kernel),if_neg (by decide +kernel),if_neg (by decide +kernel)]
theorem w9j:z4f "xor"=0:=by unfold z4f;rw [if_neg (by decide +kernel),if_neg (by decide +kernel),if_neg (by decide +kernel),if_neg (by decide +kernel)]
noncomputable def kinds:List Str:=["in","num","count","each","pair","pick","turn","flip","cut","spread","lay","join","fetch","fold","run"]
def z0w (i:Nat):Str:=kinds.getD i ""
def z8u (fs:List (Str × Int)):LI:=fs.filterMap λ f=>if f.1=("step" : Str) then some f.2 else none
def z9a (i:Nat):LI:=z8u ((formsL.getD i ("",[])).2)
theorem w0y {i:Nat}(h:i < 15):formsL.lookup (z0w i)=some ((formsL.getD i ("",[])).2):=by
 have z:∀j:Fin 15,formsL.lookup (z0w j.val)=some ((formsL.getD j.val ("",[])).2):=by decide +kernel
 exact z ⟨i,h⟩
theorem y6g:((formsL.getD i ("",[])).2).length≤5:=by
 by_cases h:i < 15
 ·have z:∀j:Fin 15,((formsL.getD j.val ("",[])).2).length≤5:=by decide +kernel
  exact z ⟨i,h⟩
 ·rw [t0w,t2e (by simp [formsL];lia)];decide
theorem y2x (fs:List (Str × Int)):(z8u fs).length≤fs.length:=t8q ..
theorem y7g {fs:List (Str × Int)}{i:Nat}(h:fs[i]?=some f):z8u (fs.take (i+1))=z8u (fs.take i)++(if f.1=("step" : Str) then [f.2] else []):=by
 unfold z8u;rw [t1j,h,t7c]
 congr 1
 show List.filterMap _ [f]=_;split<;>simp [*]
def y3b (xs:List V) (ps:LI):List V:=ps.map λ p=>(atI xs p).getD .non
theorem w1r (i:Nat):(z9a i).length≤5:=t2u (y2x _) y6g
theorem w5u {xs:List V}{m:Int}(h0:0≤m) (h1:m < xs.length):∃v,atI xs m=some v:=by
 have z:=z0f (xs:=xs) (j:=m.toNat) (t0e (by lia));exact ⟨_,by rwa [show ((m.toNat:Nat):Int)=m by lia] at z⟩
theorem w5x:∀i:Fin 15,z9a i.val=[[],[],[],[2],[2,3],[1,2,3],[1],[1],[1],[1],[1],[1,2],[1,2],[2],[2]].getD i.val []:=by decide +kernel
theorem w5w {i:Nat}(h:i < 15):z9a i=[[],[],[],[2],[2,3],[1,2,3],[1],[1],[1],[1],[1],[1,2],[1,2],[2],[2]].getD i []:=w5x ⟨i,h⟩
noncomputable def AlAt (H:Hp):Nat->V->V->Prop
 | 0,_,_=>False
 | d+1,x,y=>(∃n,x=.int n/\y=.int n)\/(∃s,x=.str s/\y=.str s)\/∃a b xs ys,x=.ref a/\y=.ref b/\H a=some (.tup xs)/\H b=some (.tup ys)/\xs.length=ys.length/\xs.length≤1000/\∀(i:Nat) x y,xs[i]?=some x->ys[i]?=some y->AlAt H d x y
noncomputable def AlL (H:Hp) (d:Nat):List V->List V->Prop
 | [],[]=>True
 | x::xs,y::ys=>AlAt H d x y/\AlL H d xs ys
 | _,_=>False
theorem AlL.get:∀ {xs ys:List V},AlL H d xs ys->xs.length=ys.length/\∀(i:Nat) x y,xs[i]?=some x->ys[i]?=some y->AlAt H d x y
 | [],[],_=>⟨rfl,λ i x y e=>by simp at e⟩
 | [],_::_,h=>h.elim
 | _::_,[],h=>h.elim
 | x::xs,y::ys,h=>⟨by simp [h.2.get.1],λ i x' y' e1 e2=>by
  cases i with
  | zero=>cases e1;cases e2;exact h.1
  | succ i=>exact h.2.get.2 i x' y' e1 e2⟩
theorem AlAt.tup {H:Hp}(ha:H a=some (.tup xs)) (hb:H b=some (.tup ys)) (l:xs.length≤1000) (h:AlL H d xs ys):AlAt H (d+1) (.ref a) (.ref b)   := Or.inr (.inr ⟨a,b,xs,ys,rfl,rfl,ha,hb,h.get.1,l,h.get.2⟩)
def z6x (n:Nat) (os:LI):Prop:=os.Perm (upL n)
theorem up_mem {n:Nat}{x:Int}:x∈upL n ↔ 0≤x/\x < n:=by
 unfold upL;constructor
 ·intro h;obtain ⟨i,hi,rfl⟩:=t2j.mp h;have:=t6v.mp hi;lia
 ·intro h;exact t2j.mpr ⟨x.toNat,t6v.mpr (by lia),by lia⟩
theorem z7r (n:Nat):(upL n).length=n:=by simp [upL]
theorem v1r (n:Nat):(upL n).Pairwise (·≤·):=by
 unfold upL;rw [List.pairwise_map];exact List.Pairwise.imp (λ h=>by lia) (List.pairwise_lt_range (n:=n))
theorem y5h:∀ {l1 l2:LI},l1.Perm l2->l1.Pairwise (·≤·)->l2.Pairwise (·≤·)->l1=l2
 | [],l2,p,_,_=>(List.nil_perm.mp p).symm
 | a::l1,l2,p,h1,h2=>by
  cases l2 with
  | nil=>exact List.perm_nil.mp p
  | cons b l2 =>
   obtain ⟨a1,a2⟩:=t5d.mp h1;obtain ⟨b1,b2⟩:=t5d.mp h2
   have ab:a≤b:=by
    rcases t1a.mp (p.symm.subset (t0t ..)) with e | e
    ·lia
    ·exact a1 b e
   have ba:b≤a:=by
    rcases t1a.mp (p.subset (t0t ..)) with e | e
    ·lia
    ·exact b1 a e
   have e:a=b:=by lia
   subst e;rw [y5h (List.perm_cons a |>.mp p) a2 b2]
theorem y6x {os ss:LI}(p:ss.Perm os) (s:ss.Pairwise (·≤·)):ss=upL n ↔ z6x n os :=
 ⟨λ e=>p.symm.trans (by rw [e]),λ t=>y5h (p.trans t) s (v1r n)⟩
def z2u (ns os:LI):LI:=os.map λ k=>ns.getD k.toNat 0
theorem v0y {ns:LI}{o:Int}(h0:0≤o) (h1:o < ns.length):atI (ns.map V.int) o=some (.int (ns.getD o.toNat 0)):=by
 have z:=z4y (ns:=ns) (k:=o.toNat) (by lia)
 rwa [show ((o.toNat:Nat):Int)=o by lia] at z
def z7b (ns:LI) (k:Nat) (m:Int):LI:=ns.take k++[m]++ns.drop k
def w4t (ns:LI) (side:Int):Prop:=side < 0\/(ns.length:Int) < side
theorem y8d (ns:LI) (k:Nat) (m:Int):(z7b ns k m).length=ns.length+1:=by
 unfold z7b;simp only [t0o,t0p,t2d,t0h,t0j];lia
noncomputable def v7n (H:Hp) (v:Addr) (ns:LI) (st:Int) (ss:LI):Prop:=∃sa ta,H v=some (.tup [.ref sa,.int st,.ref ta])/\H sa=some (.tup (ns.map V.int))/\H ta=some (.tup (ss.map V.int))
theorem w3d {m:Int}(h:z2x ns) (h0:0≤m) (h1:m < 1000000):z2x (z7b ns k m):=λ n hn=>by
 unfold z7b at hn
 rcases t1n.mp hn with hn | hn
 ·rcases t1n.mp hn with hn | hn
  ·exact h n (t4q hn)
  ·cases t0v.mp hn;lia
 ·exact h n (t4r hn)
def Frz (H:Hp) (a:Addr) (os:LI):Prop:=∃o,H a=some (.frz o (.tup (os.map V.int)))/\o.dict=none
theorem Frz.same {os:LI}(h:Frz H a os) (s:Same H H'):Frz H' a os:=let ⟨o,e,d⟩:=h;⟨o,s _ _ e,d⟩
theorem Frz.sq {K:FG}{os:LI}(h:Frz H a os):SqT K H a (os.map V.int):=let ⟨o,e,_⟩:=h;.inl (.inr ⟨o,e⟩)
def smI (n:Int):Prop:=-18446744073709551616 < n/\n < 18446744073709551616
theorem y1o {ss:LI}{k:Nat}(h:k < ss.length):atI (ss.map V.int) (k:Int)=some (.int (ss.getD k 0)):=y3g (t6l k) (by rw [t1c];exact z2s h)
theorem z6q {ns:LI}{k:Nat}(h:k < ns.length):ns.getD k 0∈ns:=by rw [t0w,t0e h];exact t3w h
theorem z5c {n:Int}(h:0≤n):1≤z1m n:=by unfold z1m;split<;>lia
theorem x0a {n:Int}(h:0≤n):(if n > 1 then n else 1)=z1m n:=by unfold z1m;split<;>split<;>lia
theorem z8c {ns:LI}(h:∀n∈ns,0≤n):1≤z0e (ns.map z1m):=by
 induction ns with
 | nil=>decide
 | cons n ns ih =>
  rw [t2t,z0x];have a:=z5c (h n t0t);have b:=ih λ m hm=>h m (t0d _ hm);exact t3t (by decide) (s0c a b (by decide) (by lia))
inductive Dg where
 | turn (os:LI)
 | flip (side:Int)
 | cut (side f m g:Int)
 | spread (side m:Int)
 | lead (ms:LI)
 | inner (side:Int)
noncomputable def v7q (H:Hp) (p:Addr):Dg->Prop
 | .turn os=>∃b,H p=some (.tup [.str "turn",.ref b])/\H b=some (.tup (os.map V.int))/\os.length≤7
 | .flip side=>H p=some (.tup [.str "flip",.int side])
 | .cut side f m g=>H p=some (.tup [.str "cut",.int side,.int f,.int m,.int g])/\smI f/\smI g/\-100 < m/\m < 100000
 | .spread side m=>H p=some (.tup [.str "spread",.int side,.int m])/\-100 < m/\m < 1000000
 | .lead ms=>∃b,H p=some (.tup [.str "lead",.ref b])/\H b=some (.tup (ms.map V.int))/\ms.length≤10
 | .inner side=>H p=some (.tup [.str "inner",.int side])
theorem div_one {r d:Int}(h1:1≤d) (h2:d≤r):1≤r / d:=by
 have:=Int.ediv_le_ediv (a:=d) (b:=r) (c:=d) (by lia) h2;rw [Int.ediv_self (by lia)] at this;exact this
theorem x3q {ss:LI}{k:Nat}{x:Int}(kl:k < ss.length):ss.take k++[x]++ss.drop (k+1)=ss.set k x:=by
 rw [t6m,if_pos kl,t3a];rfl
theorem z2q (h:fit ns):z2x ns:=λ n hn=>by have:=h.1 n hn;exact ⟨this.1,by lia⟩
theorem z8i (h:fit ns):¬z6t ns:=λ b=>b.elim (λ z=>by have:=h.2.1;lia) (λ z=>by have:=h.2.2.2;lia)
theorem w6w {a:Int}{n:Nat}(h0:0≤a) (h:a < (n:Int)):a.toNat < n:=by lia
theorem w4z {cs:LI}{n:Nat}(h:cs.length=n):(List.range n).map (λ i=>cs.getD i 0)=cs:=by
 subst h;apply t8p;intro k;by_cases c:k < cs.length
 ·rw [t0q,t3g c];exact (z2s c).symm
 ·rw [t2e (by simp;lia),t2e (by lia)]
theorem z6n {a b:LI}(h:a.Perm b):z0e a=z0e b:=by
 induction h with
 | nil=>rfl
 | cons x _ ih=>rw [z0x,z0x,ih]
 | swap x y l=>rw [z0x,z0x,z0x,z0x,← t6i,← t6i,t5z x y]
 | trans _ _ h1 h2=>rw [h1,h2]
theorem y4u {ns os:LI}(t:z6x ns.length os):(z2u ns os).Perm ns:=by
 have e:(upL ns.length).map (λ k:Int=>ns.getD k.toNat 0)=ns:=by
  unfold upL;rw [t5i];exact w4z rfl
 have:=t.map (λ k:Int=>ns.getD k.toNat 0);rw [e] at this;exact this
inductive Stp where
 | inp (ms:LI)
 | num (n:Int)
 | count (ms:LI) (k:Int)
 | each (w:Str) (a:Nat)
 | pair (w:Str) (a b:Nat)
 | pick (a b c:Nat)
 | turn (a:Nat) (os:LI)
 | flip (a:Nat) (side:Int)
 | cut (a:Nat) (side f m g:Int)
 | spread (a:Nat) (side m:Int)
 | lay (a:Nat) (ms:LI)
 | join (a b:Nat) (side:Int)
 | fetch (a b:Nat)
 | fold (w:Str) (a:Nat) (side:Int)
 | run (w:Str) (a:Nat) (side:Int)
def Tp (H:Hp) (a:Addr) (ns:LI):Prop:=H a=some (.tup (ns.map V.int))
noncomputable def StpAt (H:Hp) (p:Addr):Stp->Prop
 | .inp ms=>∃b,H p=some (.tup [.str "in",.ref b])/\Tp H b ms
 | .num n=>H p=some (.tup [.str "num",.int n])
 | .count ms k=>∃b,H p=some (.tup [.str "count",.ref b,.int k])/\Tp H b ms
 | .each w a=>H p=some (.tup [.str "each",.str w,.int a])
 | .pair w a b=>H p=some (.tup [.str "pair",.str w,.int a,.int b])
 | .pick a b c=>H p=some (.tup [.str "pick",.int a,.int b,.int c])
 | .turn a os=>∃b,H p=some (.tup [.str "turn",.int a,.ref b])/\Frz H b os
 | .flip a side=>H p=some (.tup [.str "flip",.int a,.int side])
 | .cut a side f m g=>H p=some (.tup [.str "cut",.int a,.int side,.int f,.int m,.int g])
 | .spread a side m=>H p=some (.tup [.str "spread",.int a,.int side,.int m])
 | .lay a ms=>∃b,H p=some (.tup [.str "lay",.int a,.ref b])/\Tp H b ms
 | .join a b side=>H p=some (.tup [.str "join",.int a,.int b,.int side])
 | .fetch a b=>H p=some (.tup [.str "fetch",.int a,.int b])
 | .fold w a side=>H p=some (.tup [.str "fold",.str w,.int a,.int side])
 | .run w a side=>H p=some (.tup [.str "run",.str w,.int a,.int side])
theorem StpAt.same (s:Same H H'):∀ {d:Stp},StpAt H p d->StpAt H' p d
 | .inp _,⟨b,h1,h2⟩=>⟨b,s _ _ h1,s _ _ h2⟩
 | .num _,h=>s _ _ h
 | .count ..,⟨b,h1,h2⟩=>⟨b,s _ _ h1,s _ _ h2⟩
 | .each ..,h=>s _ _ h
 | .pair ..,h=>s _ _ h
 | .pick ..,h=>s _ _ h
 | .turn ..,⟨b,h1,h2⟩=>⟨b,s _ _ h1,h2.same s⟩
 | .flip ..,h=>s _ _ h
 | .cut ..,h=>s _ _ h
 | .spread ..,h=>s _ _ h
 | .lay ..,⟨b,h1,h2⟩=>⟨b,s _ _ h1,s _ _ h2⟩
 | .join ..,h=>s _ _ h
 | .fetch ..,h=>s _ _ h
 | .fold ..,h=>s _ _ h
 | .run ..,h=>s _ _ h
def z4z (mo:Int) (ns:LI):Prop:=(∀n∈ns,0≤n/\n≤mo)/\ns.length≤6/\1≤z0e (ns.map z1m)/\z0e (ns.map z1m)≤mo
def y0a (mo:Int):Prop:=2≤mo/\mo≤512
theorem z3a (h:z4z mo ns) (m:y0a mo):fit ns:=⟨λ n hn=>by have:=h.1 n hn;have:=m.2;lia,h.2.1,h.2.2.1,t3t h.2.2.2 m.2⟩
theorem y0h (m:y0a mo):z4z mo []:=⟨(λ n hn=>nomatch hn),by decide,by decide,by have:=m.1;show (1:Int)≤mo;lia⟩
theorem y1k {mo n:Int}(h:z4z mo ns) (l:ns.length < 6) (n0:0≤n) (hn:n≤mo / z0e (ns.map z1m)):z4z mo (ns++[n]):=by
 have p:=h.2.2.1;have e:z0e ((ns++[n]).map z1m)=z0e (ns.map z1m) * z1m n:=by rw [t0l];exact z8b _ _
 have o1:=z5c n0;have d1:1≤mo / z0e (ns.map z1m):=div_one p h.2.2.2;have le:mo / z0e (ns.map z1m)≤mo:=t7j _ (by have:=h.2.2.2;lia);have m2:z0e (ns.map z1m) * (mo / z0e (ns.map z1m))≤mo:=t9y (by lia);generalize mo / z0e (ns.map z1m)=q at *;have o2:z1m n≤q:=by unfold z1m;split<;>lia
 have m1:=t1p o2 (show 0≤z0e (ns.map z1m) by lia);refine ⟨λ k hk=>?_,by rw [t0o,t1z];lia,?_,?_⟩
 ·rcases t1n.mp hk with z | z
  ·exact h.1 k z
  ·cases t0v.mp z;lia
 ·rw [e];exact t3t (by decide) (s0c p o1 (by decide) (by lia))
 ·rw [e];lia
theorem w4j {ns ms:LI}(c:ms.length < ns.length):ns.take ms.length=ms.take ms.length ↔ z1t ns ms:=by
 unfold z1t;rw [if_pos c,t1h]
theorem w4k {ns ms:LI}(c:¬ms.length < ns.length):ns.take ns.length=ms.take ns.length ↔ z1t ns ms:=by
 unfold z1t;rw [if_neg c,t1h];exact ⟨Eq.symm,Eq.symm⟩
noncomputable def OkS (Ss:LL) (S:LI):Stp->Prop
 | .inp ms=>S=ms/\¬z6t ms
 | .num _=>S=[]
 | .count ms k=>S=ms/\¬z6t ms/\¬off ms k
 | .each w a=>Ss[a]?=some S/\w∈w6f
 | .pair w a b=>∃A B,Ss[a]?=some A/\Ss[b]?=some B/\w∈two12/\z1t A B/\S=z0y A B
 | .pick a b c=>∃A B C,Ss[a]?=some A/\Ss[b]?=some B/\Ss[c]?=some C/\z1t A B/\z1t (z0y A B) C/\S=z0y (z0y A B) C
 | .turn a os=>∃A,Ss[a]?=some A/\z6x A.length os/\S=z2u A os
 | .flip a side=>Ss[a]?=some S/\¬off S side
 | .cut a side f m g=>∃A,Ss[a]?=some A/\¬off A side/\¬bad A side f m g/\m≤512/\S=A.set side.toNat m
 | .spread a side m=>∃A,Ss[a]?=some A/\¬w4t A side/\¬m < 0/\m≤512/\¬z6t (z7b A side.toNat m)/\S=z7b A side.toNat m
 | .lay a ms=>∃A,Ss[a]?=some A/\¬z6t ms/\z0e A=z0e ms/\S=ms
 | .join a b side=>∃A B,Ss[a]?=some A/\Ss[b]?=some B/\A.length=B.length/\¬off A side/\A.eraseIdx side.toNat=B.eraseIdx side.toNat/\¬z6t (z2v A B side)/\S=z2v A B side
 | .fetch a b=>∃n r B,Ss[a]?=some (n::r)/\n≠0/\Ss[b]?=some B/\¬z6t (B++r)/\S=B++r
 | .fold w a side=>∃A,Ss[a]?=some A/\isF w/\¬off A side/\S=A.eraseIdx side.toNat
 | .run w a side=>Ss[a]?=some S/\isF w/\¬off S side
theorem w3w (k:Int) (h0:0≤k) (h1:k < 7):∃x:Int,atI [V.int 2,V.int 3,V.int 1,V.int 4,V.int 2,V.int 3,V.int 0] k=some (.int x)/\0≤x:=by
 obtain ⟨j,rfl⟩:∃j:Nat,k=j:=⟨k.toNat,by lia⟩
 match j,h1 with
 | 0,_=>exact ⟨_,rfl,by decide⟩
 | 1,_=>exact ⟨_,rfl,by decide⟩
 | 2,_=>exact ⟨_,rfl,by decide⟩
 | 3,_=>exact ⟨_,rfl,by decide⟩
 | 4,_=>exact ⟨_,rfl,by decide⟩
 | 5,_=>exact ⟨_,rfl,by decide⟩
 | 6,_=>exact ⟨_,rfl,by decide⟩
 | m+7,h1=>exact absurd (t7d.mp h1) (Nat.not_lt.mpr (Nat.le_add_left ..))
noncomputable def y3h (H:Hp) (r:Addr) (mo:Int) (Ss:LL):Prop:=∃p b s S,H r=some (.tup [.ref p,.ref b])/\StpAt H p s/\Tp H b S/\OkS Ss S s/\z4z mo S
theorem z4i (h:z4z mo ns):∀n∈ns,0≤n:=λ n hn=>(h.1 n hn).1
theorem w4n {n m:Int}(h:n≤m) (h1:1≤m):z1m n≤m:=by unfold z1m;split<;>lia
theorem w0l (h:z4z mo ns) (m:y0a mo):z4z mo [z0e ns]:=by
 have p:=z1e (z4i h);have b:=h.2.2.2;have o:=z5c p.1;have e:z0e ([z0e ns].map z1m)=z1m (z0e ns):=by show z0e [z1m (z0e ns)]=_;rw [z0x];exact s0e _
 refine ⟨λ n hn=>?_,t3u (t0x _),by rw [e];exact o,by rw [e];exact w4n (by lia) (by have:=m.1;lia)⟩;cases t0v.mp hn;lia
theorem x6i (h:z4z mo ns) (m:y0a mo) (l:ns.length < 6):z4z mo (1::ns):=by
 have e:z0e ((1::ns).map z1m)=z0e (ns.map z1m):=by rw [t2t,z0x];exact t8t _
 refine ⟨λ n hn=>?_,by rw [t0h];lia,by rw [e];exact h.2.2.1,by rw [e];exact h.2.2.2⟩
 rcases t1a.mp hn with z | z
 ·have:=m.1;lia
 ·exact h.1 n z
theorem w0j (h:z4z mo ns) (m:y0a mo) (c:z0e ns % 2=0):z4z mo [z0e ns / 2,2]/\z0e [z0e ns / 2,2]=z0e ns:=by
 have p:=z1e (z4i h);have b:=h.2.2.2;have m1:=m.1;have e:z0e ([z0e ns / 2,2].map z1m)=z1m (z0e ns / 2) * 2:=by show z0e [z1m (z0e ns / 2),2]=_;rw [z0x,z0x];show _ * (2 * 1)=_;rfl
 have e2:z0e [z0e ns / 2,2]=z0e ns / 2 * 2:=by rw [z0x,z0x];show _ * (2 * 1)=_;rfl
 generalize z0e ns=P at *;have o:1≤z1m (P / 2)/\z1m (P / 2) * 2≤mo:=by unfold z1m;split<;>lia
 refine ⟨⟨λ n hn=>?_,t3u (t3u (t0x _)),by rw [e];lia,by rw [e];exact o.2⟩,by rw [e2];lia⟩
 rcases t1a.mp hn with z | z
 ·lia
 ·cases t0v.mp z;lia
theorem w0k (h:z4z mo ns):z4z mo ns.reverse/\z0e ns.reverse=z0e ns:=by
 have p:=List.reverse_perm ns;have e:=z6n (p.map z1m);exact ⟨⟨λ n hn=>h.1 n (List.mem_reverse.mp hn),by rw [t5a];exact h.2.1,by rw [e];exact h.2.2.1,by rw [e];exact h.2.2.2⟩,z6n p⟩
theorem y8f (h:z4z mo ns) (m:y0a mo):z2x ns:=λ n hn=>by have:=h.1 n hn;have:=m.2;exact ⟨by lia,by lia⟩
noncomputable def y8a (ns:LI) (d:Int):LI:=if d % 4=1 then [z0e ns] else if d % 4=2/\ns.length < 6 then 1::ns else if d % 4=3/\z0e ns % 2=0 then [z0e ns / 2,2] else ns.reverse
theorem w5b (h:z4z mo ns) (m:y0a mo):z4z mo (y8a ns d)/\z0e (y8a ns d)=z0e ns:=by
 unfold y8a;by_cases c1:d % 4=1
 ·rw [if_pos c1];exact ⟨w0l h m,by rw [z0x];exact s0e _⟩
 rw [if_neg c1];by_cases c2:d % 4=2/\ns.length < 6
 ·rw [if_pos c2];exact ⟨x6i h m c2.2,by rw [z0x];exact t8t _⟩
 rw [if_neg c2];by_cases c3:d % 4=3/\z0e ns % 2=0
 ·rw [if_pos c3];exact w0j h m c3.2
 rw [if_neg c3];exact w0k h
def z9r (A B:LI) (k:Nat):LI:=if A.length=B.length/\A.eraseIdx k=B.eraseIdx k then z2v A B k else []
theorem w3l (i:Nat):upL (i+1)=upL i++[(i:Int)]:=by unfold upL;rw [t6h,t0l];rfl
theorem w0q {os:LI}(h:os.Perm (upL i)):(os.take j++(i:Int)::os.drop j).Perm (upL (i+1)):=by
 rw [w3l];refine List.Perm.trans List.perm_middle ?_;rw [t3s];exact (h.cons _).trans (t8e _ _).symm
theorem x7a {ns os:LI}(h:z4z mo ns) (t:z6x ns.length os):z4z mo (z2u ns os):=by
 have p:=y4u t;have e:=z6n (p.map z1m);exact ⟨λ n hn=>h.1 n (p.subset hn),by rw [p.length_eq];exact h.2.1,by rw [e];exact h.2.2.1,by rw [e];exact h.2.2.2⟩
noncomputable def y9b (K:FG):Sp:=λ vs H Q _=>∃(dl o:Addr) (kd mo d0 d1 d2:Int) (a:Nat) (A:LI) (Ss:LL),vs=[.int kd,.ref dl,.int (a:Int),.ref o,.int mo]/\H dl=some (.lst [.int d0,.int d1,.int d2])/\Tp H o A/\Ss[a]?=some A/\z4z mo A/\y0a mo/\∀H' r,Same H H'->y3h H' r mo Ss->Q (.ref r) H'
theorem x7b {A B:LI}(p:A.Perm B) (h:z4z mo B):z4z mo A:=by
 have e:=z6n (p.map z1m);exact ⟨λ n hn=>h.1 n (p.subset hn),by rw [p.length_eq];exact h.2.1,by rw [e];exact h.2.2.1,by rw [e];exact h.2.2.2⟩
theorem x0l {mo x:Int}(h:z4z mo A) (l:A.length < 6) (x0:0≤x) (x1:x≤mo / z0e (A.map z1m)):z4z mo (z7b A k x):=by
 refine x7b ?_ (y1k h l x0 x1);unfold z7b;rw [t3a];refine List.Perm.trans List.perm_middle ?_;show (x::(A.take k++A.drop k)).Perm _;rw [t3s];exact (t8e _ _).symm
theorem z3h (x:Int) (xs:LI):z0e ((x::xs).map z1m)=z1m x * z0e (xs.map z1m):=by rw [t2t];exact z0x _ _
theorem y7z {ns:LI}(h:∀n∈ns,0≤n):∀n∈ns,n≤z0e (ns.map z1m):=by
 induction ns with
 | nil=>exact λ n hn=>nomatch hn
 | cons x xs ih =>
  intro n hn;have hx:=h x (t0t ..);have ht:∀n∈xs,0≤n:=λ n hn=>h n (t0d _ hn);have p:=z8c ht;have o:=z5c hx;rw [z3h]
  rcases t1a.mp hn with e | hn
  ·rw [e];have le:x≤z1m x:=by unfold z1m;split<;>lia
   have:=t1p p (show 0≤z1m x by lia);lia
  ·have:=ih ht n hn;have:=t1s o (show 0≤z0e (xs.map z1m) by lia);lia
theorem y7e {ns:LI}(h:∀n∈ns,0≤n):∀ {k:Nat}{m:Int},0≤m->m≤ns.getD k 0->z0e ((ns.set k m).map z1m)≤z0e (ns.map z1m):=by
 induction ns with
 | nil=>intro k m _ _;rw [List.set_nil];exact t5u _
 | cons x xs ih =>
  intro k m m0 m1;have hx:=h x (t0t ..);have ht:∀n∈xs,0≤n:=λ n hn=>h n (t0d _ hn);have p:=z8c ht
  cases k with
  | zero =>
   have m1:m≤x:=m1;show z0e ((m::xs).map z1m)≤_;rw [z3h,z3h];exact t1s (by unfold z1m;split<;>split<;>lia) (by lia)
  | succ k =>
   have m1:m≤xs.getD k 0:=m1;show z0e ((x::xs.set k m).map z1m)≤_;rw [z3h,z3h];exact t1p (ih ht m0 m1) (by have:=z5c hx;lia)
theorem y3x {ns:LI}(h:∀n∈ns,0≤n):∀ {k:Nat},z0e ((ns.eraseIdx k).map z1m)≤z0e (ns.map z1m):=by
 induction ns with
 | nil=>intro k;rw [List.eraseIdx_nil];exact t5u _
 | cons x xs ih =>
  intro k;have hx:=h x (t0t ..);have ht:∀n∈xs,0≤n:=λ n hn=>h n (t0d _ hn);have p:=z8c ht
  cases k with
  | zero =>
   show z0e (xs.map z1m)≤_;rw [z3h];have:=t1s (z5c hx) (show 0≤z0e (xs.map z1m) by lia);lia
  | succ k =>
   show z0e ((x::xs.eraseIdx k).map z1m)≤_;rw [z3h,z3h];exact t1p (ih ht) (by have:=z5c hx;lia)
theorem y8g {mo:Int}{ns:LI}(nn:∀n∈ns,0≤n) (l:ns.length≤6) (w:z0e (ns.map z1m)≤mo):z4z mo ns:=⟨λ n hn=>⟨nn n hn,t3t (y7z nn n hn) w⟩,l,z8c nn,w⟩
theorem w1b {mo m:Int}(h:z4z mo A) (m0:0≤m) (m1:m≤A.getD k 0):z4z mo (A.set k m):=y8g (λ n hn=>by rcases t3e hn with z | z;exact z4i h n z;rw [z];exact m0) (by rw [t2y];exact h.2.1) (t3t (y7e (z4i h) m0 m1) h.2.2.2)
theorem x1u (h:z4z mo A):z4z mo (A.eraseIdx k):=y8g (λ n hn=>z4i h n (t8r hn)) (t2u (List.length_eraseIdx_le ..) h.2.1) (t3t (y3x (z4i h)) h.2.2.2)
theorem w1f {n f g e:Int}(n0:0≤n) (f0:0≤f) (g1:1≤g) (e0:0≤e):0≤(if (n - 1 - f).fdiv g+1 - e > 0 then (n - 1 - f).fdiv g+1 - e else 0)/\(if (n - 1 - f).fdiv g+1 - e > 0 then (n - 1 - f).fdiv g+1 - e else 0)≤n/\¬(0 < (if (n - 1 - f).fdiv g+1 - e > 0 then (n - 1 - f).fdiv g+1 - e else 0)/\n≤f+((if (n - 1 - f).fdiv g+1 - e > 0 then (n - 1 - f).fdiv g+1 - e else 0) - 1) * g):=by
 rw [t2r _ (by lia)];have q1:g * ((n - 1 - f) / g)≤n - 1 - f:=t9y (by lia);generalize (n - 1 - f) / g=q at *;split
 ·rename_i c;have a1:=t1s (show q+1 - e - 1≤q by lia) (show 0≤g by lia);rw [t5z q g] at a1;have a2:=t1p g1 (show 0≤q+1 - e - 1 by lia);generalize (q+1 - e - 1) * g=z at *;exact ⟨by lia,by lia,λ y=>by lia⟩
 ·exact ⟨by lia,n0,λ y=>by lia⟩
theorem x0u (A:LI):z1t A A:=(z8e A A).mpr (w1t A)
theorem x4s (h:z1t x y) (l:y.length≤x.length):z0y x y=x:=by
 unfold z0y;split
 ·rfl
 ·exact (v1a ((z8e x y).mp h) (by lia)).symm
theorem x4r {x y:LI}(l:x.length < y.length):z0y x y=y:=by unfold z0y;rw [if_neg (by lia)]
theorem x1i (h:z1t x z) (h2:z1t y z):z1t (z0y x y) z:=(z8e _ _).mpr (x8g ((z8e _ _).mp h) ((z8e _ _).mp h2))
theorem y3y {P:LI->Prop}(h:P x) (h2:P y):P (z0y x y):=by unfold z0y;split<;>assumption
noncomputable def TpsM (H:Hp) (ps:List Addr) (Ss:LL):Prop:=ps.length=Ss.length/\∀(i:Nat) (p:Addr),ps[i]?=some p->∃S,Ss[i]?=some S/\Tp H p S
theorem TpsM.same (h:TpsM H ps Ss) (s:Same H H'):TpsM H' ps Ss:=⟨h.1,λ i p e=>let ⟨S,a,b⟩:=h.2 i p e;⟨S,a,s _ _ b⟩⟩
theorem z6d (h:TpsM H ps Ss) {a:Nat}(l:a < Ss.length):∃p S,atI (ps.map V.ref) (a:Int)=some (.ref p)/\Ss[a]?=some S/\Tp H p S:=by
 have l':a < ps.length:=by rw [h.1];exact l
 obtain ⟨S,e,t⟩:=h.2 a _ (t0e l');exact ⟨_,S,z0f (by rw [t0q,t0e l'];rfl),e,t⟩
def Sds (mo:Int) (Ss:LL):Prop:=Ss.length≤40/\∀S∈Ss,z4z mo S
theorem y6w (ws:List Str) {k:Int}(h0:0≤k) (h1:k < (ws.length:Int)):∃w,atI (ws.map V.str) k=some (.str w)/\w∈ws:=by
 obtain ⟨j,rfl⟩:∃j:Nat,k=j:=⟨k.toNat,by lia⟩;have jl:j < ws.length:=t7d.mp h1;exact ⟨ws[j],z0f (by rw [t0q,t0e jl];rfl),t3w jl⟩
theorem y2b {k:Int}{n:Nat}(h:k∈upL n):∃a:Nat,k=a/\a < n:=⟨k.toNat,(t2m (up_mem.mp h).1).symm,by have:=up_mem.mp h;lia⟩
theorem v1s {a n:Nat}(h:a < n):(a:Int)∈upL n:=up_mem.mpr ⟨t6l _,t7d.mpr h⟩
theorem v4y {K:FG}{ps:List Addr}{Ss:LL}{g:TG}{te:TE}{Q:VK}{H:Hp}(h1:H a=some (.lst (ps.map V.ref))) (l:Ss.length≤1000) (ht:TpsM H ps Ss) (f:LI->LI) (cs:L2.St) (h0:z1s k js σ=none::cs)
  (hs:∀(p:Addr) (S:LI) (y:Option V) (G:Hp) (Rt:V->L2.St->Hp->Prop),S∈Ss->Same H G->Tp G p S->(∀G' r,Same G G'->Tp G' r (f S)->Rt (.ref r) (some (.ref p)::cs) G')->g (.ref p) (y::cs) G λ σ3 H3=>te σ3 H3 λ v H4=>Rt v σ3 H4)
  (hz:∀(qs:List Addr) (G:Hp) (p:Addr),Same H G->G p=none->TpsM G qs (Ss.map f)->Q (.ref p) (upd G p (.lst (qs.map V.ref)))):CompL K k js g te σ (.ref a) H Q:=by
 refine CompL.mk (xs:=ps.map V.ref) (.of h1) (λ i zs σ' G=>Same H G/\∃qs:List Addr,zs=qs.map V.ref/\i≤ps.length/\TpsM G qs ((Ss.take i).map f)/\∃y,σ'=y::cs) ⟨Same.refl _,[],rfl,t0x _,⟨rfl,λ i p e=>nomatch e⟩,none,h0⟩ (λ i zs σ' G _ h=>.of (h.1 _ _ h1)) (λ i x zs σ' G e h=>?_) (λ zs σ' G h p hp=>?_)
 ·obtain ⟨u,qs,rfl,i1,tq,y,rfl⟩:=h
  obtain ⟨p,rfl,hp⟩:∃p,x=.ref p/\ps[i]?=some p:=by
   rw [t0q] at e
   cases hx:ps[i]? with
   | none=>rw [hx] at e;cases e
   | some n=>rw [hx] at e;cases e;exact ⟨n,rfl,rfl⟩
  have il:=(t0g.mp hp).1;obtain ⟨S,eS,hS⟩:=ht.2 i p hp;have ql:qs.length=i:=by rw [tq.1,t0c,t0p,← ht.1];lia
  refine ⟨by rw [t0c,ql];exact z0n (by rw [ht.1] at il;lia),hs p S y G _ (t0i eS) u (u _ _ hS) λ G' r u' hr=>?_⟩;refine ⟨u.trans u',qs++[r],by rw [t0l];rfl,il,?_,_,rfl⟩;rw [t1j,eS,t0l];refine ⟨by rw [t0o,t0o,tq.1];rfl,λ j p' ej=>?_⟩;by_cases c:j < qs.length
  ·rw [t1b c] at ej;obtain ⟨S',a1,a2⟩:=tq.2 j p' ej;exact ⟨S',by rw [t1b (by rw [← tq.1];exact c)];exact a1,u' _ _ a2⟩
  ·have jl:=(t0g.mp ej).1;rw [t0o,t1z] at jl;have je:j=qs.length:=by lia
   rw [je,t0u (t0n _),t2f] at ej;cases ej;exact ⟨f S,by rw [je,tq.1,t0u (t0n _),t2f];rfl,hr⟩
 ·obtain ⟨u,qs,rfl,i1,tq,y,rfl⟩:=h;rw [t0c,ht.1,t1h] at tq;exact hz qs G p u hp tq
noncomputable def y5b:Sp:=λ vs H Q _=>∃(dl sl:Addr) (kd mo d0 d1 d2:Int) (ps:List Addr) (Ss:LL),vs=[.int kd,.ref dl,.ref sl]/\H dl=some (.lst [.int d0,.int d1,.int d2])/\H sl=some (.lst (ps.map V.ref))/\TpsM H ps Ss/\0 < Ss.length/\Sds mo Ss/\∀H' r,Same H H'->y3h H' r mo Ss->Q (.ref r) H'
noncomputable def w2m:Sp:=λ vs H Q _=>∃(dl sl:Addr) (kd mo d0 d1 d2:Int) (ps:List Addr) (Ss:LL),vs=[.int kd,.ref dl,.ref sl,.int mo]/\H dl=some (.lst [.int d0,.int d1,.int d2])/\H sl=some (.lst (ps.map V.ref))/\TpsM H ps Ss/\(∃S∈Ss,0 < S.length)/\11≤kd/\kd≤14/\Sds mo Ss/\y0a mo/\∀H' r,Same H H'->y3h H' r mo Ss->Q (.ref r) H'
noncomputable def x3b:Sp:=λ vs H Q _=>∃(sl:Addr) (cell mo:Int) (ps:List Addr) (Ss:LL),vs=[.int cell,.ref sl,.int mo]/\H sl=some (.lst (ps.map V.ref))/\TpsM H ps Ss/\Sds mo Ss/\y0a mo/\∀H' r,Same H H'->y3h H' r mo Ss->Q (.ref r) H'
@[irreducible] def lw12p:List (Str × Pos):=[("add",⟨479,17,479,22⟩),("sub",⟨479,24,479,29⟩),("mul",⟨479,31,479,36⟩),("quo",⟨479,38,479,43⟩),("rest",⟨479,45,479,51⟩),("max",⟨479,53,479,58⟩),("min",⟨479,60,479,65⟩),("less",⟨479,67,479,73⟩),("like",⟨479,75,479,81⟩),("and",⟨479,83,479,88⟩),("or",⟨479,90,479,94⟩),("xor",⟨479,96,479,101⟩)]
theorem v2o:(lw12p.map (·.1)).map V.str=two12.map V.str:=by unfold lw12p;rfl
theorem v2p:((lw12p.map (·.1)).map V.str).length=12:=by unfold lw12p;rfl
def lgS (i:Nat):Stmt:=(z1v (top 98)).getD i (.Pass ⟨0,0,0,0⟩)
def v6b:Stmt->Expr | .If t _ _ _=>t | _=>.Name "" ⟨0,0,0,0⟩
def v6c:Stmt->Stmt | .If _ (_::b::_) _ _=>b | s=>s
theorem v6d:z1v (top 98)=[lgS 0,lgS 1,lgS 2,lgS 3,lgS 4,lgS 5,.If (v6b (lgS 6)) [.Assign [.Name "words" ⟨479,8,479,13⟩] (.List (w7f lw12p) ⟨479,16,479,102⟩) ⟨479,8,479,102⟩,v6c (lgS 6)] [] ⟨478,4,480,57⟩,lgS 7,lgS 8,lgS 9]:=by kernel_rfl
theorem z8l {X:Cx}{K:FG}(hK:X.K=K):z4s X (.builtin "len") (λ xs H Q=>∃p ys,xs=[.ref p]/\(SqL K H p ys\/SqT K H p ys)/\Q (.int (ys.length:Nat)) H):=hK ▸ z9o
theorem x4v {X:Cx}{K:FG}(hK:X.K=K) (hu:X.A.units < cLine):OpR X (compareOp .NotEq) (v2c K):=hK ▸ y9z hu
theorem z8k {X:Cx}{K:FG}(hK:X.K=K):z4s X (.type "list") (λ xs H Q=>∃p ys,xs=[.ref p]/\(SqL K H p ys\/SqT K H p ys)/\∀l,H l=none->Q (.ref l) (upd H l (.lst ys))):=hK ▸ y6n
noncomputable def UpT (H H':Hp):Prop:=(∀a xs,H a=some (.tup xs)->H' a=some (.tup xs))/\∀a o x,H a=some (.frz o x)->H' a=some (.frz o x)
theorem Frz.up {os:LI}(h:Frz H a os) (s:UpT H H'):Frz H' a os:=let ⟨o,e,d⟩:=h;⟨o,s.2 _ _ _ e,d⟩
theorem z7g (s:Same H H'):UpT H H':=⟨λ _ _ e=>s _ _ e,λ _ _ _ e=>s _ _ e⟩
theorem UpT.trans (s:UpT H H') (t:UpT H' H2):UpT H H2:=⟨λ _ _ e=>t.1 _ _ (s.1 _ _ e),λ _ _ _ e=>t.2 _ _ _ (s.2 _ _ _ e)⟩
theorem z7q {H:Hp}(h:H l=some (.lst xs)):UpT H (upd H l (.lst ys)):=by
 refine ⟨λ a zs e=>?_,λ a o x e=>?_⟩ <;>
 ·have ne:a≠l:=λ z=>by rw [z,h] at e;cases e
  rw [z0u ne];exact e
theorem StpAt.up (s:UpT H H'):∀ {d:Stp},StpAt H p d->StpAt H' p d
 | .inp _,⟨b,h1,h2⟩=>⟨b,s.1 _ _ h1,s.1 _ _ h2⟩
 | .num _,h=>s.1 _ _ h
 | .count ..,⟨b,h1,h2⟩=>⟨b,s.1 _ _ h1,s.1 _ _ h2⟩
 | .each ..,h=>s.1 _ _ h
 | .pair ..,h=>s.1 _ _ h
 | .pick ..,h=>s.1 _ _ h
 | .turn ..,⟨b,h1,h2⟩=>⟨b,s.1 _ _ h1,h2.up s⟩
 | .flip ..,h=>s.1 _ _ h
 | .cut ..,h=>s.1 _ _ h
 | .spread ..,h=>s.1 _ _ h
 | .lay ..,⟨b,h1,h2⟩=>⟨b,s.1 _ _ h1,s.1 _ _ h2⟩
 | .join ..,h=>s.1 _ _ h
 | .fetch ..,h=>s.1 _ _ h
 | .fold ..,h=>s.1 _ _ h
 | .run ..,h=>s.1 _ _ h
theorem TpsM.up (h:TpsM H ps Ss) (s:UpT H H'):TpsM H' ps Ss:=⟨h.1,λ i p e=>let ⟨S,a,b⟩:=h.2 i p e;⟨S,a,s.1 _ _ b⟩⟩
theorem TpsM.snoc (h:TpsM H ps Ss) (hp:Tp H p S):TpsM H (ps++[p]) (Ss++[S]):=by
 refine ⟨by rw [t0o,t0o,h.1];rfl,λ j p' ej=>?_⟩;by_cases c:j < ps.length
 ·rw [t1b c] at ej;obtain ⟨S',a1,a2⟩:=h.2 j p' ej;exact ⟨S',by rw [t1b (by rw [← h.1];exact c)];exact a1,a2⟩
 ·have jl:=(t0g.mp ej).1;rw [t0o,t1z] at jl;have je:j=ps.length:=by lia
  rw [je,t0u (t0n _),t2f] at ej;cases ej;exact ⟨S,by rw [je,h.1,t0u (t0n _),t2f];rfl,hp⟩
noncomputable def StL (H:Hp) (qs:List Addr) (ds:List Stp):Prop:=qs.length=ds.length/\∀(i:Nat) (p:Addr),qs[i]?=some p->∃d,ds[i]?=some d/\StpAt H p d
theorem StL.up (h:StL H qs ds) (s:UpT H H'):StL H' qs ds:=⟨h.1,λ i p e=>let ⟨d,a,b⟩:=h.2 i p e;⟨d,a,b.up s⟩⟩
theorem StL.snoc (h:StL H qs ds) (hp:StpAt H p d):StL H (qs++[p]) (ds++[d]):=by
 refine ⟨by rw [t0o,t0o,h.1];rfl,λ j p' ej=>?_⟩;by_cases c:j < qs.length
 ·rw [t1b c] at ej;obtain ⟨S',a1,a2⟩:=h.2 j p' ej;exact ⟨S',by rw [t1b (by rw [← h.1];exact c)];exact a1,a2⟩
 ·have jl:=(t0g.mp ej).1;rw [t0o,t1z] at jl;have je:j=qs.length:=by lia
  rw [je,t0u (t0n _),t2f] at ej;cases ej;exact ⟨d,by rw [je,h.1,t0u (t0n _),t2f];rfl,hp⟩
noncomputable def z9s (mo:Int) (ds:List Stp) (Ss:LL):Prop:=ds.length=Ss.length/\(∀S∈Ss,z4z mo S)/\∀(i:Nat) (d:Stp) (S:LI),ds[i]?=some d->Ss[i]?=some S->OkS (Ss.take i) S d
theorem y6f (h:z9s mo ds Ss) (o:OkS Ss S d) (f:z4z mo S):z9s mo (ds++[d]) (Ss++[S]):=by
 refine ⟨by rw [t0o,t0o,h.1];rfl,λ T hT=>?_,λ i d' S' e1 e2=>?_⟩
 ·rcases t1n.mp hT with z | z
  ·exact h.2.1 T z
  ·cases t0v.mp z;exact f
 ·by_cases c:i < ds.length
  ·rw [t1b c] at e1;have c':i < Ss.length:=by rw [← h.1];exact c
   rw [t1b c'] at e2;rw [t3x (t3h c')];exact h.2.2 i d' S' e1 e2
  ·have jl:=(t0g.mp e1).1;rw [t0o,t1z] at jl;have je:i=ds.length:=by lia
   rw [je,t0u (t0n _),t2f] at e1;rw [je,h.1,t0u (t0n _),t2f] at e2;cases e1;cases e2;rw [je,h.1,t3x (t0n _),t1h];exact o
theorem x0j (mo:Int):z9s mo [] []:=⟨rfl,(λ _ h=>nomatch h),(λ _ _ _ h=>nomatch h)⟩
noncomputable def v3v (H:Hp) (r:Addr) (mo:Int) (ds:List Stp) (Ss:LL) (os:LI):Prop:=∃(st ot sl:Addr) (qs ps:List Addr),H r=some (.tup [.ref st,.ref ot,.ref sl])/\H st=some (.tup (qs.map V.ref))/\StL H qs ds/\H ot=some (.tup (os.map V.int))/\H sl=some (.lst (ps.map V.ref))/\TpsM H ps Ss/\z9s mo ds Ss/\0 < ds.length/\ds.length≤40/\0 < os.length/\os.length≤8/\∀o∈os,0≤o/\o < (ds.length:Int)
noncomputable def y2j:Sp:=λ vs H Q _=>∃(a:Addr) (cs:LI) (mo:Int),vs=[.ref a,.int mo]/\H a=some (.lst (cs.map V.int))/\cs.length≤40/\y0a mo/\∀H' r ds Ss os,Same H H'->v3v H' r mo ds Ss os->Q (.ref r) H'
theorem x8b (h:¬z9r A B k=[]):A.length=B.length/\A.eraseIdx k=B.eraseIdx k/\z9r A B k=z2v A B k:=by
 unfold z9r at h ⊢;split
 ·rename_i c;exact ⟨c.1,c.2,rfl⟩
 ·rename_i c;rw [if_neg c] at h;exact absurd rfl h
theorem w3e {ns:LI}{m:Int}(h:∀n∈ns,0≤n/\n≤m) (m0:0≤m) (k:Nat):0≤ns.getD k 0/\ns.getD k 0≤m:=by
 by_cases c:k < ns.length
 ·exact h _ (z6q c)
 ·rw [t0w,t2e (by lia)];exact ⟨t5u _,m0⟩
noncomputable def Md (kd:Int) (A:LI) (k:Nat) (Ss Ms:LL):Prop:=(kd=11/\Ms=Ss.map (λ B=>z9r A B k))\/(kd=12/\0 < A.getD 0 0/\Ms=Ss.map (λ B=>B++A.drop 1))\/(¬kd=11/\¬0 < A.getD 0 0/\Ms=[[]])
theorem w9q (h:Md kd A k Ss Ms) (l:Ss.length≤40):Ms.length≤40:=by
 rcases h with ⟨_,rfl⟩ | ⟨_,_,rfl⟩ | ⟨_,_,rfl⟩
 ·rw [t0c];exact l
 ·rw [t0c];exact l
 ·exact t3u (t0x _)
theorem v6a (h:Md kd A k Ss Ms) (fA:z4z mo A) (fS:∀S∈Ss,z4z mo S) (m:y0a mo):∀M∈Ms,∀n∈M,0≤n/\n≤1024:=by
 have m2:=m.2;have m1:=m.1
 rcases h with ⟨_,rfl⟩ | ⟨_,_,rfl⟩ | ⟨_,_,rfl⟩
 ·intro M hM n hn;obtain ⟨B,hB,rfl⟩:=t2j.mp hM;by_cases c:z9r A B k=[]
  ·rw [c] at hn;exact nomatch hn
  ·rw [(x8b c).2.2] at hn;unfold z2v at hn
   rcases t3e hn with z | z
   ·have:=fA.1 n z;lia
   ·have a1:=w3e fA.1 (show 0≤mo by lia) (k:Int).toNat
    have a2:=w3e (fS B hB).1 (show 0≤mo by lia) (k:Int).toNat
    lia
 ·intro M hM n hn;obtain ⟨B,hB,rfl⟩:=t2j.mp hM
  rcases t1n.mp hn with z | z
  ·have:=(fS B hB).1 n z;lia
  ·have:=fA.1 n (t4r z);lia
 ·intro M hM n hn;cases t0v.mp hM;exact nomatch hn
theorem x3r {M:LI}(h:∀n∈M,0≤n/\n≤1024):z2x M:=λ n hn=>by have:=h n hn;exact ⟨this.1,by lia⟩
theorem w7o (k:Int) (h0:0≤k) (h1:k < 6):∃x:Int,atI [V.int 1,V.int 2,V.int 3,V.int 2,V.int 1,V.int 8] k=some (.int x)/\1≤x/\x≤8:=by
 obtain ⟨j,rfl⟩:∃j:Nat,k=j:=⟨k.toNat,by lia⟩
 match j,h1 with
 | 0,_=>exact ⟨_,rfl,by decide,by decide⟩
 | 1,_=>exact ⟨_,rfl,by decide,by decide⟩
 | 2,_=>exact ⟨_,rfl,by decide,by decide⟩
 | 3,_=>exact ⟨_,rfl,by decide,by decide⟩
 | 4,_=>exact ⟨_,rfl,by decide,by decide⟩
 | 5,_=>exact ⟨_,rfl,by decide,by decide⟩
 | m+6,h1=>exact absurd (t7d.mp h1) (Nat.not_lt.mpr (Nat.le_add_left ..))
theorem v2n {M:LI}(m:y0a mo) (l:M.length≤6) (w:z0e (M.map z1m)≤mo):¬z6t M:=λ z=>z.elim (by lia) (by have:=m.2;lia)
theorem w5a {Ss:LL}{M:Int}(h:M∈Ss.map (λ S=>(S.length:Int))) (h0:0 < M):∃S∈Ss,0 < S.length:=by
 obtain ⟨S,hS,rfl⟩:=t2j.mp h;exact ⟨S,hS,by lia⟩
theorem x9v {os:LI}{n:Nat}(h:∀o∈os,0≤o/\o < (n:Int)) (n0:0 < n):∀o∈os.set j ((n:Int) - 1),0≤o/\o < (n:Int):=λ o ho=>by
 rcases t3e ho with z | z
 ·exact h o z
 ·lia
noncomputable def kdN:Stp->Nat
 | .inp ..=>0 | .num ..=>1 | .count ..=>2 | .each ..=>3 | .pair ..=>4 | .pick ..=>5 | .turn ..=>6 | .flip ..=>7 | .cut ..=>8 | .spread ..=>9 | .lay ..=>10 | .join ..=>11 | .fetch ..=>12 | .fold ..=>13 | .run ..=>14
theorem z2m (d:Stp):kdN d < 15:=by cases d<;>exact t1q rfl
noncomputable def z4g:Stp->List Nat
 | .inp ..=>[] | .num ..=>[] | .count ..=>[]
 | .each _ a=>[a] | .pair _ a b=>[a,b] | .pick a b c=>[a,b,c]
 | .turn a _=>[a] | .flip a _=>[a] | .cut a ..=>[a] | .spread a ..=>[a] | .lay a _=>[a]
 | .join a b _=>[a,b] | .fetch a b=>[a,b] | .fold _ a _=>[a] | .run _ a _=>[a]
theorem x0f:∀i j:Fin 15,z0w i.val=z0w j.val->i=j:=by decide +kernel
theorem y6d {i:Nat}(j:Nat) (hi:i < 15) (hj:j < 15) (ne:¬i=j):¬V.str (z0w i)=V.str (z0w j):=λ z=>ne (t3p Fin.val (x0f ⟨i,hi⟩ ⟨j,hj⟩ (V.str.inj z)))
theorem z2k {i:Nat}(j:Nat) (hi:i < 15) (hj:j < 15) (ne:¬i=j):¬z0w i=z0w j:=λ z=>ne (t3p Fin.val (x0f ⟨i,hi⟩ ⟨j,hj⟩ z))
def nmV (ns:List Nat):List V:=ns.map λ a=>V.int ((a:Nat):Int)
theorem z3l (h:StpAt H p d):∃xs,H p=some (.tup xs)/\xs[0]?=some (.str (z0w (kdN d)))/\(∀q∈z9a (kdN d),0≤q/\q < (xs.length:Int))/\y3b xs (z9a (kdN d))=nmV (z4g d):=by
 rw [w5w (z2m d)]
 cases d with
 | inp ms=>obtain ⟨b,h,_⟩:=h;exact ⟨_,h,rfl,t1q rfl,rfl⟩
 | num n=>exact ⟨_,h,rfl,t1q rfl,rfl⟩
 | count ms k=>obtain ⟨b,h,_⟩:=h;exact ⟨_,h,rfl,t1q rfl,rfl⟩
 | each w a=>exact ⟨_,h,rfl,t1q rfl,rfl⟩
 | pair w a b=>exact ⟨_,h,rfl,t1q rfl,rfl⟩
 | pick a b c=>exact ⟨_,h,rfl,t1q rfl,rfl⟩
 | turn a os=>obtain ⟨b,h,_⟩:=h;exact ⟨_,h,rfl,t1q rfl,rfl⟩
 | flip a s=>exact ⟨_,h,rfl,t1q rfl,rfl⟩
 | cut a s f m g=>exact ⟨_,h,rfl,t1q rfl,rfl⟩
 | spread a s m=>exact ⟨_,h,rfl,t1q rfl,rfl⟩
 | lay a ms=>obtain ⟨b,h,_⟩:=h;exact ⟨_,h,rfl,t1q rfl,rfl⟩
 | join a b s=>exact ⟨_,h,rfl,t1q rfl,rfl⟩
 | fetch a b=>exact ⟨_,h,rfl,t1q rfl,rfl⟩
 | fold w a s=>exact ⟨_,h,rfl,t1q rfl,rfl⟩
 | run w a s=>exact ⟨_,h,rfl,t1q rfl,rfl⟩
def w1v:Stp->Prop
 | .each w _=>w∈w6f | .pair w _ _=>w∈two12 | .fold w _ _=>isF w | .run w _ _=>isF w | _=>True
theorem w4s (h:OkS Ss S d):w1v d:=by
 cases d with
 | each w a=>exact h.2
 | pair w a b=>obtain ⟨A,B,_,_,z,_⟩:=h;exact z
 | fold w a s=>obtain ⟨A,_,z,_⟩:=h;exact z
 | run w a s=>exact h.2.1
 | _=>trivial
theorem y4g (h:OkS Ss S d):∀a∈z4g d,a < Ss.length:=by
 have g:∀ {a:Nat}{A:LI},Ss[a]?=some A->a < Ss.length:=λ e=>(t0g.mp e).1;intro x hx
 cases d with
 | inp ms=>exact nomatch hx
 | num n=>exact nomatch hx
 | count ms k=>exact nomatch hx
 | each w a=>cases t0v.mp hx;exact g h.1
 | pair w a b =>
  obtain ⟨A,B,e1,e2,_⟩:=h
  rcases t1a.mp hx with z | z
  ·rw [z];exact g e1
  ·cases t0v.mp z;exact g e2
 | pick a b c =>
  obtain ⟨A,B,C,e1,e2,e3,_⟩:=h
  rcases t1a.mp hx with z | z
  ·rw [z];exact g e1
  rcases t1a.mp z with z | z
  ·rw [z];exact g e2
  ·cases t0v.mp z;exact g e3
 | turn a os=>obtain ⟨A,e1,_⟩:=h;cases t0v.mp hx;exact g e1
 | flip a s=>cases t0v.mp hx;exact g h.1
 | cut a s f m gg=>obtain ⟨A,e1,_⟩:=h;cases t0v.mp hx;exact g e1
 | spread a s m=>obtain ⟨A,e1,_⟩:=h;cases t0v.mp hx;exact g e1
 | lay a ms=>obtain ⟨A,e1,_⟩:=h;cases t0v.mp hx;exact g e1
 | join a b s =>
  obtain ⟨A,B,e1,e2,_⟩:=h
  rcases t1a.mp hx with z | z
  ·rw [z];exact g e1
  ·cases t0v.mp z;exact g e2
 | fetch a b =>
  obtain ⟨n,r,B,e1,_,e2,_⟩:=h
  rcases t1a.mp hx with z | z
  ·rw [z];exact g e1
  ·cases t0v.mp z;exact g e2
 | fold w a s=>obtain ⟨A,e1,_⟩:=h;cases t0v.mp hx;exact g e1
 | run w a s=>cases t0v.mp hx;exact g h.1
theorem y4o (d:Stp):(z4g d).length≤3:=by cases d<;>exact Nat.le_of_sub_eq_zero rfl
theorem inv_at:(kdN d=0->∃ms,d=.inp ms)/\(kdN d=2->∃ms k,d=.count ms k)/\(kdN d=3->∃w a,d=.each w a)/\(kdN d=4->∃w a b,d=.pair w a b)/\(kdN d=6->∃a os,d=.turn a os)/\(kdN d=7->∃a s,d=.flip a s)/\(kdN d=8->∃a s f m g,d=.cut a s f m g)/\(kdN d=9->∃a s m,d=.spread a s m)/\(kdN d=10->∃a ms,d=.lay a ms)/\(kdN d=11->∃a b s,d=.join a b s)/\(kdN d=12->∃a b,d=.fetch a b)/\(kdN d=13->∃w a s,d=.fold w a s)/\(kdN d=14->∃w a s,d=.run w a s):=by
 cases d<;>refine ⟨?_,?_,?_,?_,?_,?_,?_,?_,?_,?_,?_,?_,?_⟩<;>intro c<;>first | exact absurd c (t5e rfl) | exact ⟨_,rfl⟩ | exact ⟨_,_,rfl⟩ | exact ⟨_,_,_,rfl⟩ | exact ⟨_,_,_,_,_,rfl⟩
def w2q:Sp:=λ vs H Q _=>∃(p:Addr) (d:Stp),vs=[.ref p]/\StpAt H p d/\w1v d/\∀H',Same H H'->Q .non H'
noncomputable def x3h:Sp:=λ vs H Q _=>∃(p:Addr) (d:Stp) (S:LI) (Ss:LL),vs=[.ref p]/\StpAt H p d/\kdN d < 3/\OkS Ss S d/\fit S/\∀H' r,Same H H'->Tp H' r S->Q (.ref r) H'
noncomputable def v4o:Sp:=λ vs H Q _=>∃(p o:Addr) (d:Stp) (S A:LI) (Ss:LL) (a:Nat),vs=[.ref p,.ref o]/\StpAt H p d/\z4g d=[a]/\Ss[a]?=some A/\Tp H o A/\fit A/\OkS Ss S d/\fit S/\∀H' r,Same H H'->Tp H' r S->Q (.ref r) H'
noncomputable def x2x:Sp:=λ vs H Q _=>∃(p s:Addr) (d:Stp) (S:LI) (Ss:LL) (ps:List Addr),vs=[.ref p,.ref s]/\StpAt H p d/\(H s=some (.lst (ps.map V.ref))\/H s=some (.tup (ps.map V.ref)))/\TpsM H ps Ss/\(∀T∈Ss,fit T)/\OkS Ss S d/\fit S/\∀H' r,Same H H'->Tp H' r S->Q (.ref r) H'
noncomputable def UsAt (G:Hp) (us:List Addr) (ns:List Nat) (Ss:LL):Prop:=us.length=ns.length/\∀(i a:Nat),ns[i]?=some a->∃u A,us[i]?=some u/\Ss[a]?=some A/\Tp G u A
theorem UsAt.same (h:UsAt G us ns Ss) (s:Same G G'):UsAt G' us ns Ss:=⟨h.1,λ i a e=>let ⟨u,A,e1,e2,e3⟩:=h.2 i a e;⟨u,A,e1,e2,s _ _ e3⟩⟩
theorem y1q (h:UsAt G us ns Ss) (i:Nat) (e:ns[i]?=some a) (eA:Ss[a]?=some A):∃u,atI (us.map V.ref) (i:Int)=some (.ref u)/\Tp G u A:=by
 obtain ⟨u,A',e1,e2,e3⟩:=h.2 i a e;cases e2.symm.trans eA;exact ⟨u,z0f (by rw [t0q,e1];rfl),e3⟩
theorem w3k {a:Nat}(h:UsAt G us ns Ss) (eA:Ss[a]?=some A) (hu:Tp G u A):UsAt G (us++[u]) (ns++[a]) Ss:=by
 refine ⟨by rw [t0o,t0o,h.1];rfl,λ i b e=>?_⟩;by_cases c:i < ns.length
 ·rw [t1b c] at e;obtain ⟨v,B,e1,e2,e3⟩:=h.2 i b e;exact ⟨v,B,by rw [t1b (by rw [h.1];exact c)];exact e1,e2,e3⟩
 ·have jl:=(t0g.mp e).1;rw [t0o,t1z] at jl;have je:i=ns.length:=by lia
  rw [je,t0u (t0n _),t2f] at e;cases e;exact ⟨u,A,by rw [je,← h.1,t0u (t0n _),t2f];rfl,eA,hu⟩
theorem w4w {i:Nat}(e:(nmV ns)[i]?=some x):∃a:Nat,x=.int (a:Int)/\ns[i]?=some a:=by
 unfold nmV at e;rw [t0q] at e
 cases hx:ns[i]? with
 | none=>rw [hx] at e;cases e
 | some n=>rw [hx] at e;cases e;exact ⟨n,rfl,rfl⟩
theorem x5t (ns:List Nat):(nmV ns).length=ns.length:=t0c ..
theorem v3s (h:(z4g d).length=0):kdN d < 3:=by
 cases d<;>first | exact t1q rfl | exact absurd h (Nat.succ_ne_zero _)
theorem v3r (h:(z4g d).length=1):∃a,z4g d=[a]:=by
 match z4g d,h with
 | [a],_=>exact ⟨a,rfl⟩
noncomputable def w2j:Sp:=λ vs H Q _=>∃(p s:Addr) (d:Stp) (S:LI) (Ss:LL) (ps:List Addr),vs=[.ref p,.ref s]/\StpAt H p d/\H s=some (.lst (ps.map V.ref))/\TpsM H ps Ss/\(∀T∈Ss,fit T)/\Ss.length < 40/\OkS Ss S d/\fit S/\∀H' r t,Same H H'->H' r=some (.tup [.ref t,.non])->Tp H' t S->Q (.ref r) H'
def rep (n:Nat):List Bool:=List.replicate n false
theorem y9t (n:Nat):(rep (n+1)).map V.bl=(rep n).map V.bl++[V.bl false]:=by unfold rep;rw [List.replicate_succ',t0l];rfl
theorem x4d (n:Nat):(rep n).length=n:=t5h ..
theorem x4e (n:Nat):(rep n).any id=false:=by
 unfold rep;rw [List.any_eq_false];intro x hx;rw [List.eq_of_mem_replicate hx];exact t1e
noncomputable def x8i (H:Hp) (r:Addr) (ds:List Stp) (os:LI):Prop:=∃(st ot:Addr) (qs:List Addr),H r=some (.tup [.ref st,.ref ot])/\H st=some (.tup (qs.map V.ref))/\StL H qs ds/\H ot=some (.tup (os.map V.int))
noncomputable def x1y (mo:Int) (ds:List Stp) (Ss:LL) (os:LI):Prop:=y0a mo/\z9s mo ds Ss/\0 < ds.length/\ds.length≤40/\0 < os.length/\os.length≤8/\∀o∈os,0≤o/\o < (ds.length:Int)
noncomputable def x2y:Sp:=λ vs H Q _=>∃(r:Addr) (ds:List Stp) (Ss:LL) (os:LI) (mo:Int),vs=[.ref r]/\x8i H r ds os/\x1y mo ds Ss os/\∀H' r' t ps,Same H H'->H' r'=some (.tup [.ref t,.non])->H' t=some (.tup (ps.map V.ref))->TpsM H' ps Ss->Q (.ref r') H'
noncomputable def y5f:Sp:=λ vs H Q _=>∃(r:Addr) (ds:List Stp) (Ss:LL) (os:LI) (mo:Int),vs=[.ref r]/\x8i H r ds os/\x1y mo ds Ss os/\∀H' t ps,Same H H'->H' t=some (.tup (ps.map V.ref))->TpsM H' ps Ss->Q (.ref t) H'
theorem TpsM.snocT {Ss:LL}(h:TpsM H ps (Ss.take i)) (e:Ss[i]?=some S) (hp:Tp H p S):TpsM H (ps++[p]) (Ss.take (i+1)):=by
 rw [t1j,e];exact h.snoc hp
theorem x0k (h:z9s mo ds Ss) (m:y0a mo):∀T∈Ss,fit T:=λ T hT=>z3a (h.2.1 T hT) m
theorem y6h (h:fit A):sm A:=λ n hn=>by have:=h.1 n hn;exact ⟨by lia,by lia⟩
theorem v3m (ns:LI):∃ms:LI,y1p (ns.map V.int) (some 1) (some 41)=ms.map V.int/\ms.length≤40:=by
 refine ⟨(ns.drop (min 1 ns.length)).take (min 41 ns.length - min 1 ns.length),?_,?_⟩
 ·unfold y1p;simp only [HT.sIx,z0j];rw [if_neg (by lia),if_neg (by lia),t8u,t8v];rfl
 ·rw [t0p,t2d];lia
theorem TpsM.take (h:TpsM H ps Ss) (k:Nat):TpsM H (ps.take k) (Ss.take k):=by
 refine ⟨by rw [t0p,t0p,h.1],λ i p e=>?_⟩;by_cases c:i < k
 ·rw [t2a c] at e;obtain ⟨S,a,b⟩:=h.2 i p e;exact ⟨S,by rw [t2a c];exact a,b⟩
 ·rw [t2e (by rw [t0p];lia)] at e;cases e
theorem x1s (k:Nat) (g:y0g ns ms):y0g (ns.eraseIdx k) (ms.eraseIdx k):=by
 obtain ⟨l,g⟩:=g;refine ⟨by rw [t5n,t5n,l],λ i m n em en=>?_⟩;rw [t3d] at em en;split at em
 ·rename_i c;rw [if_pos c] at en;exact g i m n em en
 ·rename_i c;rw [if_neg c] at en;exact g (i+1) m n em en
theorem x6p {ns:LI}{k:Nat}(h:k≤ns.length):(z7b ns k m).eraseIdx k=ns:=by
 unfold z7b;rw [t3a,List.eraseIdx_append_of_length_le (by rw [t0p];lia),t0p,t7z h,t2f];show ns.take k++ns.drop k=ns;exact t3s _ _
theorem y0f {ns ms at_:LI}{k:Nat}{y w:Int}(g:y0g ns at_) (l:ms.length=ns.length) (e:∀j,j≠k->ms[j]?=ns[j]?) (hw:ms[k]?=some w) (h0:0≤y) (h1:y < w):y0g ms (at_.set k y):=by
 refine ⟨by rw [t2y,l];exact g.1,λ i m n em en=>?_⟩;by_cases c:i=k
 ·subst c;have il:=(t0g.mp em).1;rw [t2y] at il;rw [t3m il] at em;rw [hw] at en;cases em;cases en;exact ⟨h0,h1⟩
 ·rw [t4p (λ z=>c z.symm)] at em;rw [e i c] at en;exact g.2 i m n em en
theorem y5z (w:Str):inB (z4f w):=by
 unfold z4f inB
 repeat' split
 all_goals lia
theorem v0p {w:Str}(h:w∈fw):w∈tw:=by
 simp only [fw,tw,t1a,t1l,t3f] at *
 rcases h with h | h | h | h | h | h | h<;>simp [h]
theorem y1v (x:Int) {y:Int}(hy:y < 0):y < Int.fmod x y/\Int.fmod x y≤0:=by
 have h1:Int.fmod x y=-(Int.fmod (-x) (-y)):=by
  rw [Int.fmod_def,Int.fmod_def,Int.neg_fdiv_neg,Int.neg_mul];lia
 have h2:=t1m (-x) (show 0 < -y by lia);have h3:=t2c (-x) (show 0 < -y by lia);lia
theorem x1t (x:Int) {y:Int}(hy:y≠0):(0 < y->0≤Int.fmod x y/\Int.fmod x y < y)/\(y < 0->y < Int.fmod x y/\Int.fmod x y≤0) :=
 ⟨λ h=>⟨t1m x h,t2c x h⟩,λ h=>y1v x h⟩
theorem z7c (n:Int):inB (z4u n):=by unfold z4u inB;lia
theorem w8k:inB (w6e x y):=by
 unfold w6e;split
 ·exact ⟨by decide,by decide⟩
 ·exact z7c _
theorem w3y (hx:inB x) (hy:inB y):inB (x1d x y):=by
 unfold x1d;unfold inB at *;split
 ·exact hx
 ·rename_i h;have r:=x1t x h
  rcases (show 0 < y\/y < 0 by lia) with p | p
  ·have:=r.1 p;lia
  ·have:=r.2 p;lia
section
variable {band:Int->Int->Int}
variable (hv:∀x y,band x y=2 * band (x / 2) (y / 2)+(if x % 2=1/\y % 2=1 then 1 else 0))
include hv
theorem x4f (h00:band 0 0=0) (h01:band 0 (-1)=0) (h10:band (-1) 0=0) (h11:band (-1) (-1)=-1) (n:Nat):∀x y:Int,-2 ^ n≤x->x < 2 ^ n->-2 ^ n≤y->y < 2 ^ n ->
  (-2 ^ n≤band x y/\band x y < 2 ^ n)/\(-2 ^ n≤x+y - band x y/\x+y - band x y < 2 ^ n)/\(-2 ^ n≤x+y - 2 * band x y/\x+y - 2 * band x y < 2 ^ n):=by
 induction n with
 | zero =>
  intro x y a b c d;simp at a b c d;have hx:x=0\/x=-1:=by lia
  have hy:y=0\/y=-1:=by lia
  rcases hx with hx | hx<;>rcases hy with hy | hy<;>subst hx<;>subst hy<;>simp [h00,h01,h10,h11]
 | succ n ih =>
  intro x y a b c d;rw [Int.pow_succ] at *;have h:=ih (x / 2) (y / 2) (by lia) (by lia) (by lia) (by lia);have e:=hv x y;split at e<;>lia
end
theorem y0c {w:Str}(hw:w∈(["max","min","less","like"]:List Str)) (hx:inB x) (hy:inB y):w∈tw/\inB (z1g w x y):=by
 simp only [t1a,t1l,t3f] at hw;unfold inB at *
 rcases hw with rfl | rfl | rfl | rfl
 ·refine ⟨by simp [tw],?_⟩;rw [w6t];split<;>lia
 ·refine ⟨by simp [tw],?_⟩;rw [w6s];split<;>lia
 ·refine ⟨by simp [tw],?_⟩;rw [w3o];split<;>lia
 ·refine ⟨by simp [tw],?_⟩;rw [w3n];split<;>lia
theorem y8n (hx:inB x) (hy:inB y):inB (Builtin.bitAnd x y)/\inB (Builtin.bitOr x y)/\inB (Builtin.bitXor x y):=by
 have h:=x4f W.kbt_halves (by decide) (by decide) (by decide) (by decide) 63 x y;unfold inB at *;rw [bitOr_and,bitXor_and];have e:(2:Int) ^ 63=9223372036854775808:=by decide
 rw [e] at h;exact h hx.1 (by lia) hy.1 (by lia)
theorem y3j {w:Str}(hw:w∈tw) (hx:inB x) (hy:inB y):inB (z1g w x y):=by
 simp only [tw,t1a,t1l,t3f] at hw
 rcases hw with rfl | rfl | rfl | rfl | rfl | rfl | rfl | rfl | rfl | rfl | rfl | rfl
 ·rw [w6v];exact z7c _
 ·rw [w6p];exact z7c _
 ·rw [w6r];exact z7c _
 ·rw [w6q];exact w8k
 ·rw [w3m];exact w3y hx hy
 ·exact (y0c (by simp) hx hy).2
 ·exact (y0c (by simp) hx hy).2
 ·exact (y0c (by simp) hx hy).2
 ·exact (y0c (by simp) hx hy).2
 ·rw [w6u];exact (y8n hx hy).1
 ·rw [v1t];exact (y8n hx hy).2.1
 ·rw [w6o];exact (y8n hx hy).2.2
theorem y8e {A:LI}{k:Nat}(hk:k≤A.length) (i:Nat):(z7b A k y)[i]?=if i < k then A[i]? else if i=k then some y else A[i - 1]?:=by
 unfold z7b;have tl:(A.take k).length=k:=by rw [t0p];lia
 split
 ·rename_i h;rw [t3a,t1b (by lia),s1e,if_pos h]
 ·rename_i h;rw [t3a,t0u (by lia),tl];split
  ·rename_i e;subst e;rw [t2f];rfl
  ·rename_i e;obtain ⟨m,hm⟩:∃m,i - k=m+1:=⟨i - k - 1,by lia⟩;rw [hm];show (A.drop k)[m]?=_;rw [List.getElem?_drop];congr 1;lia
theorem w0v {ns A:LI}{k:Nat}{y:Int}(hk:k < ns.length) (g:y0g (ns.eraseIdx k) A) (h0:0≤y) (h1:y < ns.getD k 0):y0g ns (z7b A k y):=by
 obtain ⟨l,g⟩:=g;have el:(ns.eraseIdx k).length=ns.length - 1:=by rw [t5n,if_pos hk]
 have kl:k≤A.length:=by lia
 refine ⟨by rw [y8d];lia,λ i m n em en=>?_⟩;rw [y8e kl] at em;split at em
 ·rename_i c;exact g i m n em (by rw [t3d,if_pos c];exact en)
 ·split at em
  ·rename_i c e;subst e;cases em;rw [z2s hk] at en;cases en;exact ⟨h0,h1⟩
  ·rename_i c e;refine g (i - 1) m n em ?_;rw [t3d,if_neg (by lia),show i - 1+1=i by lia];exact en
theorem z9n:∀ {ns:LI}{k:Nat},(∀n∈ns,0≤n)->z0e ((ns.eraseIdx k).map z1m)≤z0e (ns.map z1m)
 | [],_,_=>by simp
 | n::ns,0,h=>by
  have n0:=h n t0t;have p:=z1e λ m hm=>h m (t0d _ hm);show z0e (ns.map z1m)≤_;rw [t2t,z0x];have:1 * z0e (ns.map z1m)≤z1m n * z0e (ns.map z1m):=t1s (by unfold z1m;split<;>lia) (by lia);lia
 | n::ns,k+1,h=>by
  have n0:=h n t0t;have ih:=z9n (ns:=ns) (k:=k) (λ m hm=>h m (t0d _ hm));show z0e ((n::ns.eraseIdx k).map z1m)≤_;rw [t2t,t2t,z0x,z0x];exact t1p ih (by unfold z1m;split<;>lia)
theorem w2h:∀ {ns:LI}{k:Nat},k < ns.length->(stL ns ns.length).reverse[k]?=some (z0e (ns.drop (k+1)))
 | [],_,h=>by simp at h
 | n::ns,0,_=>by rw [y3o];rfl
 | n::ns,k+1,h=>by rw [y3o];exact w2h (ns:=ns) (k:=k) (by simpa using h)
noncomputable def y6u (w:Str) (b st n:Int) (cs:LI):Nat->LI
 | 0=>[]
 | j+1=>y6u w b st n cs j++[z1g w (if (j:Int) / st % n=0 then b else (y6u w b st n cs j).getD ((j:Int) - st).toNat 0) (cs.getD j 0)]
theorem y7c (w:Str) (b st n:Int) (cs:LI):∀j,(y6u w b st n cs j).length=j
 | 0=>rfl
 | j+1=>by show (_++[_]).length=_;rw [t0o,y7c w b st n cs j];rfl
theorem x4c {w:Str}{b st n:Int}{cs:LI}(hw:w∈fw) (hb:inB b) (hc:∀c∈cs,inB c):∀ {j:Nat},j≤cs.length->∀c∈y6u w b st n cs j,inB c
 | 0,_,c,h=>nomatch h
 | j+1,hj,c,h=>by
  have ih:=x4c (b:=b) (st:=st) (n:=n) hw hb hc (j:=j) (by lia)
  rcases t1n.mp h with h | h
  ·exact ih c h
  ·cases t0v.mp h;refine y3j (v0p hw) ?_ (hc _ (getD_mem (by lia)));split
   ·exact hb
   ·by_cases l:((j:Int) - st).toNat < (y6u w b st n cs j).length
    ·exact ih _ (getD_mem l)
    ·rw [t0w,t2e (by lia)];exact ⟨by decide,by decide⟩
noncomputable def w5n (w:Str) (b:Int) (ns cs:LI) (k:Nat) (A:LI):Nat->Int
 | 0=>b
 | j+1=>z1g w (w5n w b ns cs k A j) (cs.getD (plH ns (z7b A k (j:Int))).toNat 0)
theorem x6z {w:Str}{ns cs A:LI}(hw:w∈fw) (hb:inB b) (hc:∀c∈cs,inB c):∀j,inB (w5n w b ns cs k A j)
 | 0=>hb
 | j+1=>by
  refine y3j (v0p hw) (x6z hw hb hc j) ?_;by_cases l:(plH ns (z7b A k (j:Int))).toNat < cs.length
  ·exact hc _ (getD_mem l)
  ·rw [t0w,t2e (by lia)];exact ⟨by decide,by decide⟩
noncomputable def v0r (w:Str) (ns cs:LI) (k:Nat):LI:=(List.range (z0e (ns.eraseIdx k)).toNat).map λ i:Nat=>w5n w (z4f w) ns cs k (atD (ns.eraseIdx k) (i:Int)) (ns.getD k 0).toNat
def w2v (w:Str) (ns cs:LI) (k:Nat):LI:=y6u w (z4f w) (z0e (ns.drop (k+1))) (ns.getD k 0) cs cs.length
theorem z8s:∀ {ns:LI}{k:Nat}{v:Int},(∀n∈ns,0≤n)->0≤v->v≤ns.getD k 0->z0e ((ns.set k v).map z1m)≤z0e (ns.map z1m)
 | [],_,_,_,_,_=>by simp
 | n::ns,0,v,h,h0,h1=>by
  have n0:=h n t0t;have h1:v≤n:=h1;show z0e ((v::ns).map z1m)≤_;rw [t2t,t2t,z0x,z0x];have p:=z1e λ m hm=>h m (t0d _ hm);exact t1s (by unfold z1m;split<;>split<;>lia) (by lia)
 | n::ns,k+1,v,h,h0,h1=>by
  have n0:=h n t0t;have ih:=z8s (ns:=ns) (k:=k) (λ m hm=>h m (t0d _ hm)) h0 h1;show z0e ((n::ns.set k v).map z1m)≤_;rw [t2t,t2t,z0x,z0x];exact t1p ih (by unfold z1m;split<;>lia)
noncomputable def w0o (ns cs ms ds:LI) (k:Nat) (at_:LI):Int:=if at_.getD k 0 < ns.getD k 0 then cs.getD (plH ns at_).toNat 0 else ds.getD (plH ms (at_.set k (at_.getD k 0 - ns.getD k 0))).toNat 0
def w6c (ns cs:LI) (k:Nat) (m:Int) (i:Nat):Int:=cs.getD (plH ns ((atD (z7b ns k m) (i:Int)).eraseIdx k)).toNat 0
theorem y8r {os:LI}(t:z6x n os):os.length=n:=by rw [t.length_eq,z7r]
theorem y6y {os:LI}(t:z6x n os) {s:Nat}(h:s < n):(s:Int)∈os:=t.mem_iff.mpr (up_mem.mpr (by lia))
def y4s (os A:LI):LI:=(List.range os.length).map λ s:Nat=>A.getD (os.idxOf (s:Int)) 0
theorem w0u {ns os A:LI}(t:z6x ns.length os) (g:y0g (z2u ns os) A):y0g ns (y4s os A):=by
 have ol:=y8r t;have tl:(z2u ns os).length=os.length:=t0c ..;refine ⟨by unfold y4s;rw [t0c,t1x,ol],λ i m n em en=>?_⟩;have il:=(t0g.mp en).1;have xl:=t6a.mpr (y6y t il);unfold y4s at em;rw [t0q,t3g (by lia)] at em
 have e2:(z2u ns os)[os.idxOf (i:Int)]?=some n:=by
  unfold z2u;rw [t0q,t0e xl,s1f xl];show some (ns.getD ((i:Int)).toNat 0)=_;rw [t1c,t0w,en];rfl
 have al:=g.1;exact g.2 (os.idxOf (i:Int)) m n (by rw [z2s (by lia)];exact em) e2
noncomputable def y7x (ns cs S:LI) (F:LI->LI):LI:=(List.range (z0e S).toNat).map λ i:Nat=>cs.getD (plH ns (F (atD S (i:Int)))).toNat 0
def y4m (ns:LI) (k:Nat) (A:LI):LI:=A.set k (ns.getD k 0 - 1 - A.getD k 0)
def w1h (k:Nat) (f g:Int) (A:LI):LI:=A.set k (f+A.getD k 0 * g)
theorem x6y {ns A:LI}{k:Nat}(hk:k < ns.length) (g:y0g ns A):y0g ns (y4m ns k A):=by
 have al:=g.1;have ab:=g.2 k _ _ (z2s (by lia)) (z2s hk);exact y0f g rfl (λ _ _=>rfl) (z2s hk) (by lia) (by lia)
theorem w1g {ns A:LI}{k:Nat}(hk:k < ns.length) (nb:¬bad ns k f m s) (g:y0g (ns.set k m) A):y0g ns (w1h k f s A):=by
 unfold bad at nb;simp only [t1c] at nb;have al:=g.1;rw [t2y] at al;have ab:=g.2 k _ _ (z2s (by lia)) (t3m hk);have z1:A.getD k 0 * s≤(m - 1) * s:=t1s (by lia) (by lia);have z2:0≤A.getD k 0 * s:=t6z ab.1 (by lia);exact y0f g (t2y ..).symm (λ j hj=>by rw [t4p (λ z=>hj z.symm)]) (z2s hk) (by lia) (by lia)
theorem x0q {ns:LI}(h0:0≤ns.getD k 0) (nb:¬bad ns k f m s):0≤m/\m≤ns.getD k 0:=by
 unfold bad at nb;simp only [t1c] at nb;by_cases c:0 < m
 ·have z1:(m - 1) * 1≤(m - 1) * s:=t1p (by lia) (by lia);lia
 ·lia
noncomputable def v6w (what:Int) (ns os:LI) (side f m g:Int) (S:LI) (F:LI->LI):Prop:=(what=0/\z6x ns.length os/\S=z2u ns os/\F=y4s os)\/(what=1/\¬off ns side/\S=ns/\F=y4m ns side.toNat)\/(what=2/\¬off ns side/\¬bad ns side f m g/\S=ns.set side.toNat m/\F=w1h side.toNat f g)
theorem v0t {ns os:LI}(hm:sm ns) (h:v6w what ns os side f m g S F):sm S/\S.length=ns.length/\z0e (S.map z1m)≤z0e (ns.map z1m):=by
 rcases h with ⟨_,t,rfl,rfl⟩ | ⟨_,o,rfl,rfl⟩ | ⟨_,o,b,rfl,rfl⟩
 ·have p:=y4u t;exact ⟨λ n hn=>hm n (p.subset hn),p.length_eq,Int.le_of_eq (z6n (p.map z1m))⟩
 ·exact ⟨hm,rfl,t5u _⟩
 ·obtain ⟨k,rfl,hk⟩:=y1z o;have nk:=hm _ (getD_mem hk);obtain ⟨c0,c1⟩:=x0q (k:=k) nk.1 b;simp only [t1c];exact ⟨w2r hm c0 (by lia),t2y ..,z8s (λ n hn=>(hm n hn).1) c0 c1⟩
theorem w4y (hc:CelAt H cl vcs) (h:H a=some (.lst xs)):minC H cl a=some (.lst xs):=by
 rw [z2n λ q hq z=>by obtain ⟨o,v,e⟩:=hc.mem hq;rw [z,h] at e;cases e];exact h
noncomputable def w5p (n:Int) (r cs ds:LI) (i:Nat):Int:=cs.getD ((ds.getD ((i:Int) / z0e r).toNat 0) % n * z0e r+(i:Int) % z0e r).toNat 0
def v6y (ns:LI) (side:Int):LI:=(List.range (z0e ns).toNat).map λ i:Nat=>(atD ns (i:Int)).getD side.toNat 0
theorem w7q:z2x []:=λ m hm=>nomatch hm
theorem w5t:¬z6t []:=by unfold z6t;decide
def TabsL (l:List (Addr × Pos × Str)) (H:Hp):Prop:=∀x∈l,TabOk H x.1 x.2.1 x.2.2
theorem TabsL.same (h:TabsL l H) (s:Same H H'):TabsL l H':=λ x hx=>(h x hx).same s
theorem TabsL.step {T:Addr}{pos:Pos}{qual:Str}(h:TabsL l H) (nd:(l.map λ x=>x.1).Nodup) (m:(T,pos,qual)∈l) (s:z4j T H H') (t:TabOk H' T pos qual):TabsL l H':=λ x hx=>by
 by_cases c:x=(T,pos,qual)
 ·subst c;exact t
 ·have ne:x.1≠T:=λ z=>c (by
   have:x=(T,pos,qual):=by
    obtain ⟨i,hi,e1⟩:=s0m hx;obtain ⟨j,hj,e2⟩:=s0m m
    have e3:(l.map λ x=>x.1)[i]?=(l.map λ x=>x.1)[j]?:=by
     rw [t0q,t0q,t0e hi,t0e hj,e1,e2];show some x.1=some T;rw [z]
    have ij:=(List.getElem?_inj (by rw [t0c];exact hi) nd).mp e3;subst ij;exact e1.symm.trans e2
   exact this)
  exact TabOk.other ne (h _ m) (h x hx) s
theorem TabsL.smT {T:Addr}{pos:Pos}{qual:Str}(h:TabsL l H) (m:(T,pos,qual)∈l) (s:z4j T H H'):SmT H H':=SmT.ofP (h _ m) s
noncomputable def T9 (TD TL TE TC TT TP TU TS TJ:Addr):List (Addr × Pos × Str):=[(TD,⟨299,4,303,21⟩,"fold.<locals>.number_at"),(TL,⟨319,46,319,80⟩,"lead.<locals>.<lambda>"),(TE,⟨340,4,342,47⟩,"fetch.<locals>.number_at"),(TC,⟨345,48,345,67⟩,"counted.<locals>.<lambda>"),(TT,⟨350,27,350,90⟩,"turn.<locals>.<lambda>"),(TP,⟨353,27,353,100⟩,"flip.<locals>.<lambda>"),(TU,⟨356,27,356,97⟩,"cut.<locals>.<lambda>"),(TS,⟨359,27,359,72⟩,"spread.<locals>.<lambda>"),(TJ,⟨366,4,369,70⟩,"join.<locals>.number_at")]
theorem x6w (h:isF w):w∈two12:=(show ∀x∈fw,x∈two12 by decide +kernel) w h
theorem z9y (s:Same H H'):z4j T H H':=λ a o _ e=>s a o e
theorem z5v (s:z4j T H H1) (r:z4j T H1 H2):z4j T H H2:=λ a o n e=>r a o n (s a o n e)
theorem TabsL.both {T:Addr}{pos:Pos}{qual:Str}(h:TabsL l H) (nd:(l.map λ x=>x.1).Nodup) (m:(T,pos,qual)∈l) (s:z4j T H H') (t:TabOk H' T pos qual):SmT H H'/\TabsL l H':=⟨h.smT m s,h.step nd m s t⟩
abbrev Tb:=List Int × LI
def gT (Ts:List Tb) (a:Nat):Tb:=Ts.getD a ([],[])
theorem z3w {Ts:List Tb}{a:Nat}(h:Ts[a]?=some A):gT Ts a=A:=by unfold gT;rw [t0w,h];rfl
def TbG (mo:Int) (T:Tb):Prop:=z4z mo T.1/\(T.2.length:Int)=z0e T.1/\∀c∈T.2,inB c
noncomputable def TbsL (H:Hp) (ts:List Addr) (Ts:List Tb):Prop:=ts.length=Ts.length/\∀(i:Nat) (p:Addr),ts[i]?=some p->∃T:Tb,Ts[i]?=some T/\TbAt H p T.1 T.2
noncomputable def y3l (Ts:List Tb):Stp->LI
 | .inp _=>[]
 | .num n=>[z4u n]
 | .count ms k=>v6y ms k
 | .each w a=>(gT Ts a).2.map (z8h w)
 | .pair w a b=>prC w (gT Ts a).1 (gT Ts a).2 (gT Ts b).1 (gT Ts b).2 (z0y (gT Ts a).1 (gT Ts b).1)
 | .pick a b c=>pkC (gT Ts a).1 (gT Ts a).2 (gT Ts b).1 (gT Ts b).2 (gT Ts c).1 (gT Ts c).2 (z0y (z0y (gT Ts a).1 (gT Ts b).1) (gT Ts c).1)
 | .turn a os=>y7x (gT Ts a).1 (gT Ts a).2 (z2u (gT Ts a).1 os) (y4s os)
 | .flip a s=>y7x (gT Ts a).1 (gT Ts a).2 (gT Ts a).1 (y4m (gT Ts a).1 s.toNat)
 | .cut a s f m g=>y7x (gT Ts a).1 (gT Ts a).2 ((gT Ts a).1.set s.toNat m) (w1h s.toNat f g)
 | .spread a s m=>(List.range (z0e (z7b (gT Ts a).1 s.toNat m)).toNat).map (w6c (gT Ts a).1 (gT Ts a).2 s.toNat m)
 | .lay a _=>(gT Ts a).2
 | .join a b s=>(List.range (z0e (z2v (gT Ts a).1 (gT Ts b).1 s)).toNat).map λ i:Nat=>w0o (gT Ts a).1 (gT Ts a).2 (gT Ts b).1 (gT Ts b).2 s.toNat (atD (z2v (gT Ts a).1 (gT Ts b).1 s) (i:Int))
 | .fetch a b=>(List.range (z0e ((gT Ts b).1++(gT Ts a).1.tail)).toNat).map (w5p ((gT Ts a).1.headD 0) (gT Ts a).1.tail (gT Ts a).2 (gT Ts b).2)
 | .fold w a s=>v0r w (gT Ts a).1 (gT Ts a).2 s.toNat
 | .run w a s=>w2v w (gT Ts a).1 (gT Ts a).2 s.toNat
theorem z5e {cs:LI}(h:∀c∈cs,inB c) (i:Nat):inB (cs.getD i 0):=by
 rw [t0w]
 cases e:cs[i]? with
 | none=>exact ⟨by decide,by decide⟩
 | some c=>exact h c (t0i e)
theorem x9x (w:Str) (x:Int):inB (z8h w x):=by
 unfold z8h;split
 ·exact z7c _
 ·split
  ·exact z7c _
  ·split
   ·split
    ·exact ⟨by decide,by decide⟩
    ·split<;>exact ⟨by decide,by decide⟩
   ·split<;>exact ⟨by decide,by decide⟩
theorem y3u (fs:z4z mo S) {f:Nat->Int}(h:∀i:Nat,(i:Int) < z0e S->inB (f i)):TbG mo (S,(List.range (z0e S).toNat).map f):=by
 have p0:=z8t (z4i fs);refine ⟨fs,by show (((List.range (z0e S).toNat).map f).length:Int)=z0e S;rw [t0c,t1x];lia,λ c hc=>?_⟩;obtain ⟨i,hi,rfl⟩:=t2j.mp hc;exact h i (by have:=t6v.mp hi;lia)
theorem z2e {Ts:List Tb}{a:Nat}(h:(Ts.map (·.1))[a]?=some A):∃C,Ts[a]?=some (A,C):=by
 rw [t0q] at h;obtain ⟨T,e,rfl⟩:=t3b.mp h;exact ⟨T.2,e⟩
theorem w6n {w:Str}(h:w∈two12):w∈tw:=(show ∀x∈two12,x∈tw by decide +kernel) w h
theorem x2o {Ts:List Tb}(hG:∀T∈Ts,TbG mo T) (m:y0a mo) (ok:OkS (Ts.map (·.1)) S d) (fs:z4z mo S) (ni:∀ms,d≠.inp ms):TbG mo (S,y3l Ts d):=by
 have gm:∀ {a:Nat}{T:Tb},Ts[a]?=some T->TbG mo T:=λ e=>hG _ (t0i e)
 cases d with
 | inp ms=>exact absurd rfl (ni ms)
 | num n=>cases ok;exact ⟨fs,rfl,λ c hc=>by cases t0v.mp hc;exact z7c _⟩
 | count ms k =>
  obtain ⟨rfl,_,_⟩:=ok;refine y3u fs λ i hi=>?_;have g:=z4c (y8f fs m) (t6l i) hi
  have b:∀c∈atD S (i:Int),inB c:=λ c hc=>by
   obtain ⟨j,hj⟩:=t9z hc;have jl:=(t0g.mp hj).1;have jS:j < S.length:=by rw [← g.1];exact jl
   have z:=g.2 j c S[j] hj (t0e jS);have y:=fs.1 S[j] (t3w jS);have:=m.2;exact ⟨by lia,by lia⟩
  exact z5e b _
 | each w a =>
  obtain ⟨C,e⟩:=z2e ok.1;have g:=gm e;show TbG mo (S,(gT Ts a).2.map (z8h w));rw [z3w e];exact ⟨fs,by show ((C.map (z8h w)).length:Int)=_;rw [t0c];exact g.2.1,λ c hc=>by obtain ⟨x,_,rfl⟩:=t2j.mp hc;exact x9x _ _⟩
 | pair w a b =>
  obtain ⟨A,B,ea,eb,hw,po,rfl⟩:=ok;obtain ⟨C,e⟩:=z2e ea;obtain ⟨C',e'⟩:=z2e eb;have p0:=z8t (z4i fs);show TbG mo (_,prC w (gT Ts a).1 (gT Ts a).2 (gT Ts b).1 (gT Ts b).2 (z0y (gT Ts a).1 (gT Ts b).1));rw [z3w e,z3w e'];refine ⟨fs,by show ((prC w A C B C' (z0y A B)).length:Int)=z0e (z0y A B);unfold prC;rw [t8a,z6c,z6c,t4x];lia,λ c hc=>?_⟩;obtain ⟨i,hi⟩:=t9z hc;have hi:(List.zipWith (z1g w) (z6h A C (z0y A B)) (z6h B C' (z0y A B)))[i]?=some c:=hi;rw [t7e] at hi
  cases e1:(z6h A C (z0y A B))[i]? with
  | none=>rw [e1] at hi;cases hi
  | some x =>
   cases e2:(z6h B C' (z0y A B))[i]? with
   | none=>rw [e1,e2] at hi;cases hi
   | some y =>
    rw [e1,e2] at hi;cases hi;exact y3j (w6n hw) (x0d (gm e).2.2 x (t0i e1)) (x0d (gm e').2.2 y (t0i e2))
 | pick a b c =>
  obtain ⟨A,B,C,ea,eb,ec,po,po2,rfl⟩:=ok;obtain ⟨A',e⟩:=z2e ea;obtain ⟨B',e'⟩:=z2e eb;obtain ⟨C',e2⟩:=z2e ec;show TbG mo (_,pkC (gT Ts a).1 (gT Ts a).2 (gT Ts b).1 (gT Ts b).2 (gT Ts c).1 (gT Ts c).2 (z0y (z0y (gT Ts a).1 (gT Ts b).1) (gT Ts c).1));rw [z3w e,z3w e',z3w e2];refine y3u fs λ i hi=>?_;split
  ·exact x6g (gm e').2.2
  ·exact x6g (gm e2).2.2
 | turn a os =>
  obtain ⟨A,ea,tk,rfl⟩:=ok;obtain ⟨C,e⟩:=z2e ea;show TbG mo (_,y7x (gT Ts a).1 (gT Ts a).2 (z2u (gT Ts a).1 os) (y4s os));rw [z3w e];exact y3u fs λ i hi=>z5e (gm e).2.2 _
 | flip a s =>
  obtain ⟨C,e⟩:=z2e ok.1;show TbG mo (_,y7x (gT Ts a).1 (gT Ts a).2 (gT Ts a).1 (y4m (gT Ts a).1 s.toNat));rw [z3w e];exact y3u fs λ i hi=>z5e (gm e).2.2 _
 | cut a s f m' g =>
  obtain ⟨A,ea,_,_,_,rfl⟩:=ok;obtain ⟨C,e⟩:=z2e ea;show TbG mo (_,y7x (gT Ts a).1 (gT Ts a).2 ((gT Ts a).1.set s.toNat m') (w1h s.toNat f g));rw [z3w e];exact y3u fs λ i hi=>z5e (gm e).2.2 _
 | spread a s m' =>
  obtain ⟨A,ea,_,_,_,_,rfl⟩:=ok;obtain ⟨C,e⟩:=z2e ea;show TbG mo (_,(List.range (z0e (z7b (gT Ts a).1 s.toNat m')).toNat).map (w6c (gT Ts a).1 (gT Ts a).2 s.toNat m'));rw [z3w e];exact y3u fs λ i hi=>z5e (gm e).2.2 _
 | lay a ms =>
  obtain ⟨A,ea,_,pe,rfl⟩:=ok;obtain ⟨C,e⟩:=z2e ea;show TbG mo (_,(gT Ts a).2);rw [z3w e];exact ⟨fs,(gm e).2.1.trans pe,(gm e).2.2⟩
 | join a b s =>
  obtain ⟨A,B,ea,eb,_,_,_,_,rfl⟩:=ok;obtain ⟨C,e⟩:=z2e ea;obtain ⟨C',e'⟩:=z2e eb;show TbG mo (_,(List.range (z0e (z2v (gT Ts a).1 (gT Ts b).1 s)).toNat).map λ i:Nat=>w0o (gT Ts a).1 (gT Ts a).2 (gT Ts b).1 (gT Ts b).2 s.toNat (atD (z2v (gT Ts a).1 (gT Ts b).1 s) (i:Int)));rw [z3w e,z3w e'];refine y3u fs λ i hi=>?_;unfold w0o;split
  ·exact z5e (gm e).2.2 _
  ·exact z5e (gm e').2.2 _
 | fetch a b =>
  obtain ⟨n,r,B,ea,_,eb,_,rfl⟩:=ok;obtain ⟨C,e⟩:=z2e ea;obtain ⟨C',e'⟩:=z2e eb;show TbG mo (_,(List.range (z0e ((gT Ts b).1++(gT Ts a).1.tail)).toNat).map (w5p ((gT Ts a).1.headD 0) (gT Ts a).1.tail (gT Ts a).2 (gT Ts b).2));rw [z3w e,z3w e'];exact y3u fs λ i hi=>z5e (gm e).2.2 _
 | fold w a s =>
  obtain ⟨A,ea,hw,_,rfl⟩:=ok;obtain ⟨C,e⟩:=z2e ea;show TbG mo (_,v0r w (gT Ts a).1 (gT Ts a).2 s.toNat);rw [z3w e];exact y3u fs λ i hi=>x6z hw (y5z _) (gm e).2.2 _
 | run w a s =>
  obtain ⟨ea,hw,_⟩:=ok;obtain ⟨C,e⟩:=z2e ea;show TbG mo (_,w2v w (gT Ts a).1 (gT Ts a).2 s.toNat);rw [z3w e];exact ⟨fs,by show ((w2v w S C s.toNat).length:Int)=z0e S;unfold w2v;rw [y7c];exact (gm e).2.1,x4c hw (y5z _) (gm e).2.2 (t0n _)⟩
noncomputable def w7i (TD TL TE TC TT TP TU TS TJ:Addr):Sp:=λ vs H Q _=>∃(p o:Addr) (d:Stp) (S:LI) (A:Tb) (Ts:List Tb) (a:Nat) (mo:Int),vs=[.ref p,.ref o]/\StpAt H p d/\z4g d=[a]/\Ts[a]?=some A/\TbAt H o A.1 A.2/\TbG mo A/\y0a mo/\OkS (Ts.map (·.1)) S d/\z4z mo S/\TabsL (T9 TD TL TE TC TT TP TU TS TJ) H/\∀H' r,SmT H H'->TabsL (T9 TD TL TE TC TT TP TU TS TJ) H'->TbAt H' r S (y3l Ts d)->Q (.ref r) H'
noncomputable def w2k (TD TL TE TC TT TP TU TS TJ:Addr):Sp:=λ vs H Q _=>∃(p tl:Addr) (d:Stp) (S:LI) (Ts:List Tb) (ts:List Addr) (mo:Int),vs=[.ref p,.ref tl]/\StpAt H p d/\(∀ms,d≠.inp ms)/\(H tl=some (.lst (ts.map V.ref))\/H tl=some (.tup (ts.map V.ref)))/\TbsL H ts Ts/\(∀T∈Ts,TbG mo T)/\y0a mo/\OkS (Ts.map (·.1)) S d/\z4z mo S/\TabsL (T9 TD TL TE TC TT TP TU TS TJ) H/\∀H' r,SmT H H'->TabsL (T9 TD TL TE TC TT TP TU TS TJ) H'->TbAt H' r S (y3l Ts d)->Q (.ref r) H'
theorem y8s {a:Nat}(h:TbsL H ts Ts) (e:Ts[a]?=some A):∃t,ts[a]?=some t/\TbAt H t A.1 A.2:=by
 have al:=(t0g.mp e).1;have tl:a < ts.length:=by rw [h.1];exact al
 obtain ⟨T,e1,h1⟩:=h.2 a _ (t0e tl);rw [e] at e1;cases e1;exact ⟨_,t0e tl,h1⟩
theorem TbsL.sm (h:TbsL H ts Ts) (s:SmT H H'):TbsL H' ts Ts:=⟨h.1,λ i p e=>let ⟨T,e1,h1⟩:=h.2 i p e;⟨T,e1,s.tb h1⟩⟩
def v1k:Stp->Option (LI)
 | .inp ms=>some ms
 | _=>none
def z5o (ds:List Stp):LL:=ds.filterMap v1k
theorem z4r {ds:List Stp}{i:Nat}(e:ds[i]?=some d):z5o (ds.take (i+1))=z5o (ds.take i)++(v1k d).toList:=by
 unfold z5o;rw [t1j,e,t7c];cases h:v1k d<;>simp [h]
theorem y6e:kdN d=0->∃ms,d=.inp ms:=by
 cases d with
 | inp ms=>exact λ _=>⟨ms,rfl⟩
 | _=>exact λ h=>absurd h (t5e rfl)
theorem x0h (h:¬kdN d=0):v1k d=none:=by
 cases d with
 | inp ms=>exact absurd rfl h
 | _=>rfl
theorem x0i (ds:List Stp):(z5o ds).length≤ds.length:=t8q _ _
theorem y1c {ps:List Addr}{i:Nat}(e:(ps.map V.ref)[i]?=some x):∃p,x=.ref p/\ps[i]?=some p:=by
 rw [t0q] at e;obtain ⟨p,h,rfl⟩:=t3b.mp e;exact ⟨p,rfl,h⟩
theorem w5z (t:TpsM H ps Ss) (u:TpsM H qs Ss) (h1:H a=some (.lst (ps.map V.ref))) (h2:H b=some (.lst (qs.map V.ref))):AlkV H 9 (.ref a) (.ref b):=by
 refine .inr ⟨a,b,_,_,rfl,rfl,.inl ⟨h1,h2⟩,by rw [t0c,t0c,t.1,u.1],λ i z w e1 e2=>?_⟩;obtain ⟨p,rfl,hp⟩:=y1c e1;obtain ⟨o,rfl,ho⟩:=y1c e2;obtain ⟨S,eS,hS⟩:=t.2 i p hp;obtain ⟨S',eS',hS'⟩:=u.2 i o ho;cases eS.symm.trans eS';exact AlkV.tup hS hS' (z1i _)
noncomputable def w7k:Sp:=λ vs H Q _=>∃(r it:Addr) (ds:List Stp) (Ss:LL) (os:LI) (mo:Int) (is:List Addr) (Is:List Tb),vs=[.ref r,.ref it]/\x8i H r ds os/\x1y mo ds Ss os/\H it=some (.tup (is.map V.ref))/\TbsL H is Is/\Is.map (·.1)=z5o ds/\∀H' t,Same H H'->Q (.ref t) H'
noncomputable def z3b (ds:List Stp) (Ss:LL) (Is:List Tb):Nat->List Tb
 | 0=>[]
 | i+1=>z3b ds Ss Is i++[match ds[i]? with
  | some (.inp _)=>Is.getD (z5o (ds.take i)).length ([],[])
  | some d=>(Ss.getD i [],y3l (z3b ds Ss Is i) d)
  | none=>([],[])]
theorem z6y (ds:List Stp) (Ss:LL) (Is:List Tb):∀i,(z3b ds Ss Is i).length=i
 | 0=>rfl
 | i+1=>by unfold z3b;rw [t0o,z6y ds Ss Is i];rfl
theorem x2m {ds:List Stp}{Is:List Tb}{i:Nat}(e:ds[i]?=some (.inp ms)) (h:Is[(z5o (ds.take i)).length]?=some T):z3b ds Ss Is (i+1)=z3b ds Ss Is i++[T]:=by
 conv=>lhs;unfold z3b
 rw [e];show _++[Is.getD (z5o (ds.take i)).length ([],[])]=_;rw [t0w,h];rfl
theorem x2l {ds:List Stp}{Ss:LL}{i:Nat}(e:ds[i]?=some d) (ni:∀ms,d≠.inp ms) (h:Ss[i]?=some S):z3b ds Ss Is (i+1)=z3b ds Ss Is i++[(S,y3l (z3b ds Ss Is i) d)]:=by
 conv=>lhs;unfold z3b
 rw [e]
 cases d with
 | inp ms=>exact absurd rfl (ni ms)
 | _=>show _++[(Ss.getD i [],_)]=_;rw [t0w,h];rfl
theorem x6q {ds:List Stp}{i:Nat}(e:ds[i]?=some (.inp ms)):(z5o ds)[(z5o (ds.take i)).length]?=some ms:=by
 have il:=(t0g.mp e).1;have h1:z5o ds=z5o (ds.take (i+1))++z5o (ds.drop (i+1)):=by unfold z5o;rw [← t7c,t3s]
 rw [h1,z4r e,t3a,t0u (t0n _),t2f];rfl
theorem y3k {Is:List Tb}(m:y0a mo) (gl:z9s mo ds Ss) (eI:Is.map (·.1)=z5o ds) (gI:∀T∈Is,TbG mo T):∀i,i≤ds.length->(z3b ds Ss Is i).map (·.1)=Ss.take i/\∀T∈z3b ds Ss Is i,TbG mo T
 | 0,_=>⟨rfl,λ _ h=>nomatch h⟩
 | i+1,hi=>by
  obtain ⟨h1,h2⟩:=y3k m gl eI gI i (by lia);have e:ds[i]?=some ds[i]:=t0e hi;have iS:i < Ss.length:=by rw [← gl.1];exact hi
  have eS:Ss[i]?=some Ss[i]:=t0e iS;generalize ds[i]=d at e;generalize Ss[i]=S at eS;have ok:=gl.2.2 i d S e eS;have fs:=gl.2.1 S (t0i eS);by_cases c:kdN d=0
  ·obtain ⟨ms,rfl⟩:=y6e c;have a:=x6q e;rw [← eI,t0q] at a;obtain ⟨T,eT,rfl⟩:=t3b.mp a;have z:=ok.1;rw [x2m e eT];refine ⟨by rw [t0l,h1,t1j,eS,z];rfl,λ T' hT=>?_⟩
   rcases t1n.mp hT with y | y
   ·exact h2 T' y
   ·cases t0v.mp y;exact gI _ (t0i eT)
  ·have ni:∀ms,d≠.inp ms:=λ ms z=>c (by rw [z];rfl);rw [x2l e ni eS];refine ⟨by rw [t0l,h1,t1j,eS];rfl,λ T' hT=>?_⟩
   rcases t1n.mp hT with y | y
   ·exact h2 T' y
   ·cases t0v.mp y;exact x2o h2 m (by rw [h1];exact ok) fs ni
theorem y6z (ds:List Stp) (Ss:LL) (Is:List Tb) (i:Nat):∀j,(z3b ds Ss Is (i+j)).take i=z3b ds Ss Is i
 | 0=>by rw [Nat.add_zero];exact t1o (by rw [z6y];exact t0n _)
 | j+1=>by
  have h:=y6z ds Ss Is i j;rw [← Nat.add_assoc]
  conv=>lhs;unfold z3b
  rw [t3x (by rw [z6y];lia)];exact h
theorem TbAt.up (h:TbAt H t ns cs) (s:UpT H H'):TbAt H' t ns cs:=let ⟨a,c,h1,h2,h3⟩:=h;⟨a,c,s.1 _ _ h1,s.1 _ _ h2,s.1 _ _ h3⟩
theorem TbsL.up (h:TbsL H ts Ts) (s:UpT H H'):TbsL H' ts Ts:=⟨h.1,λ i p e=>let ⟨T,e1,h1⟩:=h.2 i p e;⟨T,e1,h1.up s⟩⟩
theorem TbsL.snoc {T:Tb}(h:TbsL H ts Ts) (ht:TbAt H t T.1 T.2):TbsL H (ts++[t]) (Ts++[T]):=by
 refine ⟨by rw [t0o,t0o,h.1];rfl,λ i p e=>?_⟩;by_cases c:i < ts.length
 ·rw [t1b c] at e;obtain ⟨T',e1,h1⟩:=h.2 i p e;exact ⟨T',by rw [t1b (by rw [← h.1];exact c)];exact e1,h1⟩
 ·have jl:=(t0g.mp e).1;rw [t0o,t1z] at jl;have je:i=ts.length:=by lia
  subst je;rw [t0u (t0n _),t2f] at e;cases e;exact ⟨T,by rw [h.1,t0u (t0n _),t2f];rfl,ht⟩
theorem y3r (s:SmT H G)(h:H l=none):SmT H (upd G l o):=λ a x n e=>by
 have ne:a≠l:=λ z=>by rw [z,h] at e;cases e
 rw [z0u ne];exact s a x n e
theorem y0x (s:SmT H G):UpT H G:=⟨λ _ _ e=>s.tup e,λ _ _ _ e=>s _ _ (λ _ z=>by cases z) e⟩
theorem TabsL.put (h:TabsL l H) (e:H a=some (.lst xs)):TabsL l (upd H a (.lst ys)):=λ x hx=>by
 obtain ⟨ps,h1,h2,h3⟩:=h x hx;have n1:x.1≠a:=λ z=>by rw [z,e] at h1;cases h1
 refine ⟨ps,by rw [z0u n1];exact h1,h2,h3.imp_right λ ⟨c',e1,e2⟩=>⟨c',e1,?_⟩⟩;have n2:c'≠a:=λ z=>by rw [z,e] at e2;cases e2
 rw [z0u n2];exact e2
noncomputable def v2a (TD TL TE TC TT TP TU TS TJ:Addr):Sp:=λ vs H Q _=>∃(r it:Addr) (ds:List Stp) (Ss:LL) (os:LI) (mo:Int) (is:List Addr) (Is:List Tb),vs=[.ref r,.ref it]/\x8i H r ds os/\x1y mo ds Ss os/\H it=some (.tup (is.map V.ref))/\TbsL H is Is/\Is.map (·.1)=z5o ds/\(∀T∈Is,TbG mo T)/\TabsL (T9 TD TL TE TC TT TP TU TS TJ) H/\∀H' t ts,SmT H H'->TabsL (T9 TD TL TE TC TT TP TU TS TJ) H'->H' t=some (.tup (ts.map V.ref))->TbsL H' ts (z3b ds Ss Is ds.length)->Q (.ref t) H'
noncomputable def v5g (H:Hp) (as:List Addr) (Ts:List Tb) (os:LI):Prop:=as.length=os.length/\∀(k:Nat) (o:Int) (a:Addr),os[k]?=some o->as[k]?=some a->∃T,Ts[o.toNat]?=some T/\TbAt H a T.1 T.2
noncomputable def v1z (TD TL TE TC TT TP TU TS TJ:Addr):Sp:=λ vs H Q _=>∃(r it:Addr) (ds:List Stp) (Ss:LL) (os:LI) (mo:Int) (is:List Addr) (Is:List Tb),vs=[.ref r,.ref it]/\x8i H r ds os/\x1y mo ds Ss os/\H it=some (.tup (is.map V.ref))/\TbsL H is Is/\Is.map (·.1)=z5o ds/\(∀T∈Is,TbG mo T)/\TabsL (T9 TD TL TE TC TT TP TU TS TJ) H/\∀H' t as,SmT H H'->TabsL (T9 TD TL TE TC TT TP TU TS TJ) H'->H' t=some (.tup (as.map V.ref))->v5g H' as (z3b ds Ss Is ds.length) os->Q (.ref t) H'
noncomputable def x3d (K:FG):Sp:=λ vs H Q _=>∃(a st:Addr) (cs:LI) (qs:List Addr) (ds:List Stp) (Ss:LL) (mo:Int),vs=[.ref a,.ref st]/\SqL K H a (cs.map V.int)/\cs.length≤63/\H st=some (.tup (qs.map V.ref))/\StL H qs ds/\z9s mo ds Ss/\y0a mo/\ds.length≤40/\∀H' it is Is,Same H H'->H' it=some (.tup (is.map V.ref))->TbsL H' is Is->Is.map (·.1)=z5o ds->(∀T∈Is,TbG mo T)->Q (.ref it) H'
noncomputable def z9u:Sp:=λ vs H Q _=>∃(f s:Addr) (S C:LI),vs=[.ref f,.ref s]/\TbAt H f S C/\Tp H s S/\fit S/\(C.length:Int)=z0e S/\(∀c∈C,inB c)/\Q (.bl true) H
theorem w3h (h1:TbAt H a ns cs) (h2:TbAt H b ns cs):AlkV H 9 (.ref a) (.ref b):=by
 obtain ⟨a1,c1,e1,e2,e3⟩:=h1;obtain ⟨a2,c2,f1,f2,f3⟩:=h2;refine .inr ⟨a,b,_,_,rfl,rfl,.inr ⟨e1,f1⟩,rfl,λ i z w g1 g2=>?_⟩
 match i with
 | 0=>cases g1;cases g2;exact AlkV.tup e2 f2 (z1i _)
 | 1=>cases g1;cases g2;exact AlkV.tup e3 f3 (z1i _)
 | j+2=>cases g1
theorem TbsL.take (h:TbsL H ts Ts) (k:Nat):TbsL H (ts.take k) (Ts.take k):=by
 refine ⟨by rw [t0p,t0p,h.1],λ i p e=>?_⟩;have il:=(t0g.mp e).1;have ik:i < k:=by rw [t0p] at il;lia
 rw [t2a ik] at e;rw [t2a ik];exact h.2 i p e
theorem w1z {k n:Nat}(h:k < n):(z3b ds Ss Is n)[k]?=(z3b ds Ss Is (k+1))[k]?:=by
 obtain ⟨j,rfl⟩:∃j,n=k+1+j:=⟨n - (k+1),by lia⟩;rw [← y6z ds Ss Is (k+1) j,t2a (t3v k)]
theorem x1a {ds:List Stp}{Is:List Tb}{k:Nat}(e:ds[k]?=some (.inp ms)) (h:Is[(z5o (ds.take k)).length]?=some T):(z3b ds Ss Is ds.length)[k]?=some T:=by
 rw [w1z (t0g.mp e).1,x2m e h,t0u (by rw [z6y];exact t0n _),z6y,t2f];rfl
theorem x0z {ds:List Stp}{Ss:LL}{k:Nat}(e:ds[k]?=some d) (ni:∀ms,d≠.inp ms) (h:Ss[k]?=some S):(z3b ds Ss Is ds.length)[k]?=some (S,y3l (z3b ds Ss Is k) d):=by
 rw [w1z (t0g.mp e).1,x2l e ni h,t0u (by rw [z6y];exact t0n _),z6y,t2f];rfl
theorem v5c {ps:List Addr}{o:Int}(h0:0≤o) (h:ps[o.toNat]?=some p):atI (ps.map V.ref) o=some (.ref p):=by
 have z:=z0f (xs:=ps.map V.ref) (j:=o.toNat) (v:=.ref p) (by rw [t0q,h];rfl)
 rwa [t2m h0] at z
theorem x2j {k:Nat}(h:TpsM H ps Ss) (e:Ss[k]?=some S):∃p,ps[k]?=some p/\Tp H p S:=by
 have kl:=(t0g.mp e).1;have kp:k < ps.length:=by rw [h.1];exact kl
 obtain ⟨S',e',t⟩:=h.2 k _ (t0e kp);cases e'.symm.trans e;exact ⟨_,t0e kp,t⟩
theorem v0x {ps:List Addr}{k:Nat}(h:ps[k]?=some p):atI (ps.map V.ref) (k:Int)=some (.ref p):=z0f (by rw [t0q,h];rfl)
noncomputable def x3f (T:Addr):Sp:=λ vs H Q _=>∃(w:Str) (t:Addr) (ns cs:LI) (side:Int),vs=[.str w,.ref t,.int side]/\TbAt H t ns cs/\sm ns/\ns.length≤20/\z0e (ns.map z1m)≤512/\(cs.length:Int)=z0e ns/\(∀c∈cs,inB c)/\TabOk H T ⟨299,4,303,21⟩ "fold.<locals>.number_at" /\ isF w/\¬off ns side/\∀H' p,z4j T H H'->TabOk H' T ⟨299,4,303,21⟩ "fold.<locals>.number_at" -> TbAt H' p (ns.eraseIdx side.toNat) (v0r w ns cs side.toNat)->Q (.ref p) H'
noncomputable def w2l:Sp:=λ vs H Q _=>∃(w:Str) (t:Addr) (ns cs:LI) (side:Int),vs=[.str w,.ref t,.int side]/\TbAt H t ns cs/\sm ns/\ns.length≤20/\z0e (ns.map z1m)≤512/\(cs.length:Int)=z0e ns/\(∀c∈cs,inB c)/\isF w/\¬off ns side/\∀H' p,Same H H'->TbAt H' p ns (w2v w ns cs side.toNat)->Q (.ref p) H'
noncomputable def z8p (T:Addr):Sp:=λ vs H Q _=>∃(t b:Addr) (ns cs ms:LI),vs=[.ref t,.ref b]/\TbAt H t ns cs/\H b=some (.tup (ms.map V.int))/\z2x ns/\z2x ms/\ns.length≤20/\ms.length≤20/\(cs.length:Int)=z0e ns/\z0e ms≤512/\TabOk H T ⟨319,46,319,80⟩ "lead.<locals>.<lambda>" /\ ms.take ns.length=ns/\∀H' p,z4j T H H'->TabOk H' T ⟨319,46,319,80⟩ "lead.<locals>.<lambda>" -> TbAt H' p ms (z6h ns cs ms)->Q (.ref p) H'
noncomputable def x3j:Sp:=λ vs H Q _=>∃(w:Str) (t:Addr) (ns cs:LI),vs=[.str w,.ref t]/\TbAt H t ns cs/\cs.length≤900/\w∈w6f/\∀H' p,Same H H'->TbAt H' p ns (cs.map (z8h w))->Q (.ref p) H'
noncomputable def x3a (T:Addr):Sp:=λ vs H Q _=>∃(w:Str) (t u:Addr) (ns cs ms ds:LI),vs=[.str w,.ref t,.ref u]/\TbAt H t ns cs/\TbAt H u ms ds/\z2x ns/\z2x ms/\ns.length≤20/\ms.length≤20/\(cs.length:Int)=z0e ns/\(ds.length:Int)=z0e ms/\z0e ns≤512/\z0e ms≤512/\(∀c∈cs,inB c)/\(∀c∈ds,inB c)/\TabOk H T ⟨319,46,319,80⟩ "lead.<locals>.<lambda>" /\ w∈two12/\z1t ns ms/\∀H' p,z4j T H H'->TabOk H' T ⟨319,46,319,80⟩ "lead.<locals>.<lambda>" -> TbAt H' p (z0y ns ms) (prC w ns cs ms ds (z0y ns ms))->Q (.ref p) H'
noncomputable def x2z (T:Addr):Sp:=λ vs H Q _=>∃(m t u:Addr) (ks es ns cs ms ds:LI),vs=[.ref m,.ref t,.ref u]/\TbAt H m ks es/\TbAt H t ns cs/\TbAt H u ms ds/\z2x ks/\z2x ns/\z2x ms/\ks.length≤20/\ns.length≤20/\ms.length≤20/\(es.length:Int)=z0e ks/\(cs.length:Int)=z0e ns/\(ds.length:Int)=z0e ms/\z0e ks≤512/\z0e ns≤512/\z0e ms≤512/\TabOk H T ⟨319,46,319,80⟩ "lead.<locals>.<lambda>" /\ z1t ks ns/\z1t (z0y ks ns) ms/\∀H' p,z4j T H H'->TabOk H' T ⟨319,46,319,80⟩ "lead.<locals>.<lambda>" -> TbAt H' p (z0y (z0y ks ns) ms) (pkC ks es ns cs ms ds (z0y (z0y ks ns) ms))->Q (.ref p) H'
noncomputable def y5e (T:Addr):Sp:=λ vs H Q _=>∃(a:Addr) (ns:LI) (side:Int),vs=[.ref a,.int side]/\H a=some (.tup (ns.map V.int))/\z2x ns/\ns.length≤20/\TabOk H T ⟨345,48,345,67⟩ "counted.<locals>.<lambda>" /\ ¬z6t ns/\¬off ns side/\∀H' p q,z4j T H H'->TabOk H' T ⟨345,48,345,67⟩ "counted.<locals>.<lambda>" -> H' q=some (.tup (((List.range (z0e ns).toNat).map λ i:Nat=>(atD ns (i:Int)).getD side.toNat 0).map V.int))->H' p=some (.tup [.ref a,.ref q])->Q (.ref p) H'
noncomputable def x2w (T:Addr):Sp:=λ vs H Q _=>∃(t b:Addr) (ns cs os:LI),vs=[.ref t,.ref b]/\TbAt H t ns cs/\Frz H b os/\sm ns/\ns.length≤20/\os.length≤20/\z0e (ns.map z1m)≤512/\(cs.length:Int)=z0e ns/\TabOk H T ⟨350,27,350,90⟩ "turn.<locals>.<lambda>" /\ z6x ns.length os/\∀H' p,z4j T H H'->TabOk H' T ⟨350,27,350,90⟩ "turn.<locals>.<lambda>" -> TbAt H' p (z2u ns os) (y7x ns cs (z2u ns os) (y4s os))->Q (.ref p) H'
noncomputable def x3g (T:Addr):Sp:=λ vs H Q _=>∃(t:Addr) (ns cs:LI) (side:Int),vs=[.ref t,.int side]/\TbAt H t ns cs/\sm ns/\ns.length≤20/\z0e (ns.map z1m)≤512/\(cs.length:Int)=z0e ns/\TabOk H T ⟨353,27,353,100⟩ "flip.<locals>.<lambda>" /\ ¬off ns side/\∀H' p,z4j T H H'->TabOk H' T ⟨353,27,353,100⟩ "flip.<locals>.<lambda>" -> TbAt H' p ns (y7x ns cs ns (y4m ns side.toNat))->Q (.ref p) H'
noncomputable def w2o (T:Addr):Sp:=λ vs H Q _=>∃(t:Addr) (ns cs:LI) (side f m g:Int),vs=[.ref t,.int side,.int f,.int m,.int g]/\TbAt H t ns cs/\sm ns/\ns.length≤20/\z0e (ns.map z1m)≤512/\(cs.length:Int)=z0e ns/\-100 < m/\m < 1000000/\TabOk H T ⟨356,27,356,97⟩ "cut.<locals>.<lambda>" /\ ¬off ns side/\¬bad ns side f m g/\∀H' p,z4j T H H'->TabOk H' T ⟨356,27,356,97⟩ "cut.<locals>.<lambda>" -> TbAt H' p (ns.set side.toNat m) (y7x ns cs (ns.set side.toNat m) (w1h side.toNat f g))->Q (.ref p) H'
noncomputable def y4z (T:Addr):Sp:=λ vs H Q _=>∃(t:Addr) (ns cs:LI) (side many:Int),vs=[.ref t,.int side,.int many]/\TbAt H t ns cs/\z2x ns/\ns.length≤20/\(cs.length:Int)=z0e ns/\many < 1000000/\TabOk H T ⟨359,27,359,72⟩ "spread.<locals>.<lambda>" /\ ¬w4t ns side/\¬many < 0/\¬z6t (z7b ns side.toNat many)/\∀H' p,z4j T H H'->TabOk H' T ⟨359,27,359,72⟩ "spread.<locals>.<lambda>" -> TbAt H' p (z7b ns side.toNat many) ((List.range (z0e (z7b ns side.toNat many)).toNat).map (w6c ns cs side.toNat many))->Q (.ref p) H'
noncomputable def w2n:Sp:=λ vs H Q _=>∃(t b:Addr) (ns cs ms:LI),vs=[.ref t,.ref b]/\TbAt H t ns cs/\H b=some (.tup (ms.map V.int))/\z2x ns/\z2x ms/\ms.length≤20/\¬z6t ms/\z0e ns=z0e ms/\∀H' p,Same H H'->TbAt H' p ms cs->Q (.ref p) H'
noncomputable def x3e (T:Addr):Sp:=λ vs H Q _=>∃(t o:Addr) (ns cs ms ds:LI) (side:Int),vs=[.ref t,.ref o,.int side]/\TbAt H t ns cs/\TbAt H o ms ds/\sm ns/\sm ms/\ns.length≤20/\(cs.length:Int)=z0e ns/\(ds.length:Int)=z0e ms/\TabOk H T ⟨366,4,369,70⟩ "join.<locals>.number_at" /\ ns.length=ms.length/\¬off ns side/\ns.eraseIdx side.toNat=ms.eraseIdx side.toNat/\¬z6t (z2v ns ms side)/\∀H' p,z4j T H H'->TabOk H' T ⟨366,4,369,70⟩ "join.<locals>.number_at" -> TbAt H' p (z2v ns ms side) ((List.range (z0e (z2v ns ms side)).toNat).map λ i:Nat=>w0o ns cs ms ds side.toNat (atD (z2v ns ms side) (i:Int)))->Q (.ref p) H'
noncomputable def x3i (T:Addr):Sp:=λ vs H Q _=>∃(t o:Addr) (n:Int) (r cs ms ds:LI),vs=[.ref t,.ref o]/\TbAt H t (n::r) cs/\TbAt H o ms ds/\z2x (n::r)/\z2x ms/\r.length < 20/\ms.length≤20/\(cs.length:Int)=z0e (n::r)/\(ds.length:Int)=z0e ms/\TabOk H T ⟨340,4,342,47⟩ "fetch.<locals>.number_at" /\ n≠0/\¬z6t (ms++r)/\∀H' p,z4j T H H'->TabOk H' T ⟨340,4,342,47⟩ "fetch.<locals>.number_at" -> TbAt H' p (ms++r) ((List.range (z0e (ms++r)).toNat).map (w5p n r cs ds))->Q (.ref p) H'
abbrev y8u:Stmt:=top 12
def z4v:Sp:=λ vs H Q _=>∃n:Int,vs=[.int n]/\Q (.int (z4u n)) H
abbrev x2v:Stmt:=top 13
def y8z:Sp:=λ vs H Q _=>∃n:Int,vs=[.int n]/\Q (.int (if n < 0 then -1 else if 0 < n then 1 else 0)) H
abbrev y4x:Stmt:=top 14
def y2i:Sp:=λ vs H Q _=>∃x y:Int,vs=[.int x,.int y]/\inB x/\inB y/\Q (.int (w6e x y)) H
abbrev y2h:Stmt:=top 15
def y0q:Sp:=λ vs H Q _=>∃x y:Int,vs=[.int x,.int y]/\Q (.int (x1d x y)) H
abbrev w7m:Stmt:=top 16
def y9a:Sp:=λ vs H Q _=>∃(w:Str) (x:Int),vs=[.str w,.int x]/\w∈w6f/\Q (.int (z8h w x)) H
abbrev w2g:Stmt:=top 17
def z8n:Sp:=λ vs H Q _=>∃(w:Str) (x y:Int),vs=[.str w,.int x,.int y]/\inB x/\inB y/\w∈two12/\Q (.int (z1g w x y)) H
abbrev y9e:Stmt:=top 18
def z7t:Sp:=λ vs H Q _=>∃(w:Str),vs=[.str w]/\isF w/\∀H',Same H H'->Q (.int (z4f w)) H'
abbrev y2v:Stmt:=top 23
noncomputable def y0s:Sp:=λ vs H Q _=>∃i:Nat,i < 15/\vs=[.str (z0w i)]/\∀H' p,Same H H'->H' p=some (.lst ((z9a i).map V.int))->Q (.ref p) H'
abbrev x3v:Stmt:=top 24
noncomputable def z9v:Sp:=λ vs H Q _=>∃(a:Addr) (i:Nat) (xs:List V),i < 15/\vs=[.ref a]/\H a=some (.tup xs)/\xs[0]?=some (.str (z0w i))/\(∀p∈z9a i,0≤p/\p < xs.length)/\∀H' p,Same H H'->H' p=some (.tup (y3b xs (z9a i)))->Q (.ref p) H'
abbrev x3w:Stmt:=top 28
noncomputable def z7u:Sp:=λ vs H Q _=>∃(a:Addr) (ns:LI),vs=[.ref a]/\(H a=some (.lst (ns.map V.int))\/H a=some (.tup (ns.map V.int)))/\z2x ns/\Q (.int (z0e ns)) H
abbrev y9n:Stmt:=top 29
noncomputable def y5g:Sp:=λ vs H Q _=>∃(a:Addr) (ns:LI),vs=[.ref a]/\H a=some (.tup (ns.map V.int))/\z2x ns/\ns.length≤63/\∀H',Same H H'->Q (.int (z0e (ns.map z1m))) H'
abbrev y9r:Stmt:=top 30
noncomputable def z4d:Sp:=λ vs H Q _=>∃(a:Addr) (ns:LI),vs=[.ref a]/\H a=some (.tup (ns.map V.int))/\z2x ns/\ns.length≤63/\¬z6t ns/\∀H',Same H H'->Q (.ref a) H'
abbrev y2e:Stmt:=top 31
noncomputable def z7d:Sp:=λ vs H Q _=>∃(a:Addr) (ns:LI),vs=[.ref a]/\H a=some (.tup (ns.map V.int))/\z2x ns/\ns.length≤63/\∀H' p,Same H H'->H' p=some (.tup ((stL ns ns.length).reverse.map V.int))->Q (.ref p) H'
abbrev y9d:Stmt:=top 32
noncomputable def y5a:Sp:=λ vs H Q _=>∃(a b:Addr) (ns ms:LI),vs=[.ref a,.ref b]/\H a=some (.tup (ns.map V.int))/\H b=some (.tup (ms.map V.int))/\z2x ns/\ns.length≤63/\y0g ns ms/\∀H',Same H H'->Q (.int (v1n ms (stL ns ns.length).reverse)) H'
abbrev w7s:Stmt:=top 33
noncomputable def w2p:Sp:=λ vs H Q _=>∃(a:Addr) (ns:LI) (pl:Int),vs=[.ref a,.int pl]/\H a=some (.tup (ns.map V.int))/\z2x ns/\ns.length≤63/\0≤pl/\pl < z0e ns/\∀H' p,Same H H'->H' p=some (.tup ((dgL ns pl ns.length).reverse.map V.int))->Q (.ref p) H'
abbrev w2t:Stmt:=top 34
noncomputable def x3l:Sp:=λ vs H Q _=>∃(a:Addr) (ns:LI),vs=[.ref a]/\H a=some (.tup (ns.map V.int))/\z2x ns/\ns.length≤63/\z0e ns≤512/\∀H' l ps,Same H H'->H' l=some (.lst (ps.map V.ref))->TpsAt H' ps (w6i ns)->Q (.ref l) H'
abbrev y2u:Stmt:=top 35
noncomputable def z3v:Sp:=λ vs H Q _=>∃(a:Addr) (ns:LI) (k:Nat) (m:Int),vs=[.ref a,.int k,.int m]/\H a=some (.tup (ns.map V.int))/\ns.length≤63/\k < ns.length/\∀H' p,Same H H'->H' p=some (.tup ((ns.set k m).map V.int))->Q (.ref p) H'
abbrev y9s:Stmt:=top 36
noncomputable def y0t:Sp:=λ vs H Q _=>∃(a:Addr) (ns:LI) (k:Nat) (m:Int),vs=[.ref a,.int k,.int m]/\H a=some (.tup (ns.map V.int))/\ns.length≤63/\∀H' p,Same H H'->H' p=some (.tup ((z7b ns k m).map V.int))->Q (.ref p) H'
abbrev y2t:Stmt:=top 37
noncomputable def z5u:Sp:=λ vs H Q _=>∃(a:Addr) (ns:LI) (k:Nat),vs=[.ref a,.int k]/\H a=some (.tup (ns.map V.int))/\ns.length≤63/\k < ns.length/\∀H' p,Same H H'->H' p=some (.tup ((ns.eraseIdx k).map V.int))->Q (.ref p) H'
abbrev y9p:Stmt:=top 39
noncomputable def z4w:Sp:=λ vs H Q _=>∃(a:Addr) (ns:LI) (side:Int),vs=[.ref a,.int side]/\H a=some (.tup (ns.map V.int))/\¬off ns side/\Q .non H
abbrev z9c:Stmt:=top 40
noncomputable def z5p:Sp:=λ vs H Q _=>∃(a b:Addr) (ns os:LI),vs=[.ref a,.ref b]/\H a=some (.tup (ns.map V.int))/\Frz H b os/\ns.length≤20/\os.length≤20/\z6x ns.length os/\∀H' p,Same H H'->H' p=some (.tup ((z2u ns os).map V.int))->Q (.ref p) H'
abbrev z7v:Stmt:=top 41
noncomputable def z3x:Sp:=λ vs H Q _=>∃(a:Addr) (ns:LI) (side:Int),vs=[.ref a,.int side]/\H a=some (.tup (ns.map V.int))/\¬off ns side/\Q (.ref a) H
abbrev y5p:Stmt:=top 42
noncomputable def z8r:Sp:=λ vs H Q _=>∃(a:Addr) (ns:LI) (side first many step:Int),vs=[.ref a,.int side,.int first,.int many,.int step]/\H a=some (.tup (ns.map V.int))/\ns.length≤63/\-100 < many/\many < 1000000/\¬off ns side/\¬bad ns side first many step/\∀H' p,Same H H'->H' p=some (.tup ((ns.set side.toNat many).map V.int))->Q (.ref p) H'
abbrev z9d:Stmt:=top 43
noncomputable def z5q:Sp:=λ vs H Q _=>∃(a:Addr) (ns:LI) (side many:Int),vs=[.ref a,.int side,.int many]/\H a=some (.tup (ns.map V.int))/\z2x ns/\ns.length≤20/\many < 1000000/\¬w4t ns side/\¬many < 0/\¬z6t (z7b ns side.toNat many)/\∀H' p,Same H H'->H' p=some (.tup ((z7b ns side.toNat many).map V.int))->Q (.ref p) H'
abbrev y2s:Stmt:=top 44
noncomputable def z7f:Sp:=λ vs H Q _=>∃(a b:Addr) (ns ms:LI),vs=[.ref a,.ref b]/\H a=some (.tup (ns.map V.int))/\H b=some (.tup (ms.map V.int))/\z2x ns/\z2x ms/\ms.length≤20/\¬z6t ms/\z0e ns=z0e ms/\∀H',Same H H'->Q (.ref b) H'
abbrev z9i:Stmt:=top 45
noncomputable def z5s:Sp:=λ vs H Q _=>∃(a b:Addr) (ns ms:LI) (side:Int),vs=[.ref a,.ref b,.int side]/\H a=some (.tup (ns.map V.int))/\H b=some (.tup (ms.map V.int))/\sm ns/\sm ms/\ns.length≤20/\ns.length=ms.length/\¬off ns side/\ns.eraseIdx side.toNat=ms.eraseIdx side.toNat/\¬z6t (z2v ns ms side)/\∀H' p,Same H H'->H' p=some (.tup ((z2v ns ms side).map V.int))->Q (.ref p) H'
abbrev y5j:Stmt:=top 46
noncomputable def z8o:Sp:=λ vs H Q _=>∃(a b:Addr) (ns ms:LI),vs=[.ref a,.ref b]/\H a=some (.tup (ns.map V.int))/\H b=some (.tup (ms.map V.int))/\ms.take ns.length=ns/\∀H',Same H H'->Q (.ref b) H'
abbrev z9h:Stmt:=top 47
noncomputable def z4n:Sp:=λ vs H Q _=>∃(a b:Addr) (ns ms:LI),vs=[.ref a,.ref b]/\H a=some (.tup (ns.map V.int))/\H b=some (.tup (ms.map V.int))/\z1t ns ms/\∀H' p,Same H H'->H' p=some (.tup ((z0y ns ms).map V.int))->Q (.ref p) H'
abbrev z9g:Stmt:=top 48
noncomputable def z5r:Sp:=λ vs H Q _=>∃(a b c:Addr) (ns ms ks:LI),vs=[.ref a,.ref b,.ref c]/\H a=some (.tup (ns.map V.int))/\H b=some (.tup (ms.map V.int))/\H c=some (.tup (ks.map V.int))/\z1t ns ms/\z1t (z0y ns ms) ks/\∀H' p,Same H H'->H' p=some (.tup ((z0y (z0y ns ms) ks).map V.int))->Q (.ref p) H'
abbrev z7w:Stmt:=top 49
noncomputable def z5g:Sp:=λ vs H Q _=>∃(a b:Addr) (n:Int) (r ms:LI),vs=[.ref a,.ref b]/\H a=some (.tup ((n::r).map V.int))/\H b=some (.tup (ms.map V.int))/\z2x (n::r)/\z2x ms/\r.length < 20/\ms.length≤20/\n≠0/\¬z6t (ms++r)/\∀H' p,Same H H'->H' p=some (.tup ((ms++r).map V.int))->Q (.ref p) H'
abbrev z9j:Stmt:=top 50
noncomputable def z5t:Sp:=λ vs H Q _=>∃(a:Addr) (ns:LI) (side:Int),vs=[.ref a,.int side]/\H a=some (.tup (ns.map V.int))/\ns.length≤63/\¬off ns side/\∀H' p,Same H H'->H' p=some (.tup ((ns.eraseIdx side.toNat).map V.int))->Q (.ref p) H'
abbrev z7x:Stmt:=top 51
noncomputable def z5h:Sp:=λ vs H Q _=>∃(a:Addr) (ns:LI) (side:Int),vs=[.ref a,.int side]/\H a=some (.tup (ns.map V.int))/\z2x ns/\ns.length≤20/\¬z6t ns/\¬off ns side/\∀H',Same H H'->Q (.ref a) H'
abbrev y9o:Stmt:=top 53
abbrev y1b:Stmt:=top 54
abbrev y0v:Stmt:=top 55
abbrev y2g:Stmt:=top 56
abbrev y4w:Stmt:=top 57
abbrev z9e:Stmt:=top 58
abbrev y9m:Stmt:=top 59
abbrev y8v:Stmt:=top 61
noncomputable def y4y:Sp:=λ vs H Q _=>∃(a c:Addr) (ns cs:LI),vs=[.ref a,.ref c]/\H a=some (.tup (ns.map V.int))/\RwI H c cs/\z2x ns/\ns.length≤63/\cs.length≤900/\¬z6t ns/\(cs.length:Int)=z0e ns/\∀H' p,Same H H'->TbAt H' p ns (cs.map z4u)->Q (.ref p) H'
abbrev y8w:Stmt:=top 62
abbrev w2s:Stmt:=top 63
def x3k:Sp:=λ vs H Q _=>∃n:Int,vs=[.int n]/\∀H' p,Same H H'->TbAt H' p [] [z4u n]->Q (.ref p) H'
abbrev x3t:Stmt:=top 64
noncomputable def z4o:Sp:=λ vs H Q _=>∃(ta b:Addr) (ns cs ms:LI),vs=[.ref ta,.ref b]/\TbAt H ta ns cs/\H b=some (.tup (ms.map V.int))/\z2x ns/\ns.length≤63/\y0g ns ms/\(cs.length:Int)=z0e ns/\∀H',Same H H'->Q (.int (cs.getD (plH ns ms).toNat 0)) H'
abbrev x9e:Stmt:=top 66
abbrev v4n:Stmt:=top 67
abbrev x9a:Stmt:=top 69
abbrev w7p:Stmt:=top 70
abbrev w7l:Stmt:=top 71
abbrev w7j:Stmt:=top 72
abbrev y9l:Stmt:=top 73
abbrev z9x:Stmt:=top 74
abbrev x8x:Stmt:=top 76
abbrev x9f:Stmt:=top 77
abbrev v1h:Stmt:=top 78
abbrev y3p:Stmt:=top 79
abbrev v4p:Stmt:=top 80
abbrev x9b:Stmt:=top 81
abbrev y0u:Stmt:=top 83
abbrev y2f:Stmt:=top 84
abbrev z6z:Stmt:=top 85
abbrev y2w:Stmt:=top 86
abbrev y9q:Stmt:=top 87
abbrev y5k:Stmt:=top 89
def z8q:Sp:=λ vs H Q _=>∃(n:Int),vs=[.int n]/\Q (.bl true) H
abbrev y2r:Stmt:=top 90
noncomputable def y0r:FG->Sp:=λ K=>λ vs H Q _=>∃(a:Addr) (ns:LI) (k:Nat),vs=[.ref a,.int k]/\SqL K H a (ns.map V.int)/\Q (.int (w5s ns k)) H
abbrev y0z:Stmt:=top 91
noncomputable def z9f:Sp:=λ vs H Q _=>∃(a b:Addr) (ns:LI),vs=[.ref a,.ref b]/\H a=some (.tup (ns.map V.int))/\RwI H b ns/\ns.length≤512/\Q (.bl true) H
abbrev y9h:Stmt:=top 92
noncomputable def z6k:Sp:=λ vs H Q _=>∃(a:Addr) (ns:LI),vs=[.ref a]/\(H a=some (.lst (ns.map V.int))\/H a=some (.tup (ns.map V.int)))/\z2x ns/\Q (.int (z0e ns)) H
abbrev y9f:Stmt:=top 93
noncomputable def z6j:Sp:=λ vs H Q _=>∃(a:Addr) (ns:LI),vs=[.ref a]/\Tp H a ns/\z2x ns/\ns.length≤500/\∀H',Same H H'->Q (.int (z0e (ns.map z1m))) H'
abbrev y2o:Stmt:=top 94
def z7e:Sp:=λ vs H Q _=>∃n:Int,vs=[.int n]/\∀H',Same H H'->Q (.int (w4v n)) H'
abbrev y2n:Stmt:=top 95
noncomputable def z3c:Sp:=λ vs H Q _=>∃(a:Addr) (ks:LI) (d:Int),vs=[.ref a,.int d]/\H a=some (.lst (ks.map V.int))/\0 < ks.length/\∀k∈ks,Q (.int k) H
abbrev y5n:Stmt:=top 96
noncomputable def y2k:Sp:=λ vs H Q _=>∃(kd n cell mo:Int),vs=[.int kd,.int n,.int cell,.int mo]/\y0a mo/\∀H' r,Same H H'->(∀Ss,y3h H' r mo Ss)->Q (.ref r) H'
abbrev x3n:Stmt:=top 97
noncomputable def y3q:Sp:=λ vs H Q _=>∃(a b:Addr) (ns ms:LI),vs=[.ref a,.ref b]/\Tp H a ns/\Tp H b ms/\∀H' b,Same H H'->(b=true ↔ z1t ns ms)->Q (.bl b) H'
abbrev y2p:Stmt:=top 98
abbrev y9i:Stmt:=top 99
noncomputable def y5c:Sp:=λ vs H Q _=>∃(a:Addr) (ns:LI) (d mo:Int),vs=[.ref a,.int d]/\Tp H a ns/\z4z mo ns/\y0a mo/\∀H' p,Same H H'->Tp H' p (y8a ns d)->Q (.ref p) H'
abbrev y5m:Stmt:=top 100
abbrev y9j:Stmt:=top 101
noncomputable def y5d:Sp:=λ vs H Q _=>∃(a b:Addr) (A B:LI) (k:Nat),vs=[.ref a,.ref b,.int (k:Int)]/\Tp H a A/\Tp H b B/\k < A.length/\A.length≤6/\B.length≤6/\∀H' p,Same H H'->Tp H' p (z9r A B k)->Q (.ref p) H'
abbrev x3m:Stmt:=top 102
abbrev y9g:Stmt:=top 103
abbrev y0y:Stmt:=top 104
abbrev y2q:Stmt:=top 105
abbrev y5l:Stmt:=top 106
abbrev v2b:Stmt:=top 107
theorem z2o {α β:Type _}{f:α->β}{a:α}{l:List α}:List.map f (a::l)=f a::List.map f l:=rfl
theorem z2p {α β:Type _}{f:α->β}:List.map f []=[]:=rfl
theorem hid {P:Prop}(h:∀G:Prop,(P->G)->G):P:=h P id
theorem scq (s:Scope) (P L:List Str) (h:s.kind=.function/\s.isCoroutine=false/\s.isGenerator=false/\(P++L).Nodup/\(P++L).take P.length=P/\(∀x∈P,s.names.lookup x=some .local\/s.names.lookup x=some .cell)/\∀y∈s.names,y.2≠.free:=by decide +kernel):FnScope (P++L) P s:=⟨h.1,h.2.1,h.2.2.1,h.2.2.2.1,h.2.2.2.2.1,h.2.2.2.2.2.1,h.2.2.2.2.2.2⟩
section
variable {α β γ δ ε ζ η θ:Type}{p0 p1 p2 p3 p4:Addr}{i0 i1 i2 i3 i4:Int}{s0 s1 s2 s3 s4:Str}
theorem v6p {B:Addr->Addr->α->β->Prop}:(∃x0 x1 y0 y1,[V.ref p0,V.ref p1]=[.ref x0,.ref x1]/\B x0 x1 y0 y1)=(∃y0 y1,B p0 p1 y0 y1):=by simp [t2o]
theorem v6o {B:Addr->α->Int->Prop}:(∃x0 y0 x1,[V.ref p0,V.int i1]=[.ref x0,.int x1]/\B x0 y0 x1)=(∃y0,B p0 y0 i1):=by simp [t2o]
theorem v6n {B:Addr->α->Prop}:(∃x0 y0,[V.ref p0]=[.ref x0]/\B x0 y0)=(∃y0,B p0 y0):=by simp [t2o]
theorem v6m {B:Str->Addr->α->β->Int->Prop}:(∃x0 x1 y0 y1 x2,[V.str s0,V.ref p1,V.int i2]=[.str x0,.ref x1,.int x2]/\B x0 x1 y0 y1 x2)=(∃y0 y1,B s0 p1 y0 y1 i2):=by simp [t2o]
theorem v6l {B:Addr->Addr->α->β->γ->Prop}:(∃x0 x1 y0 y1 y2,[V.ref p0,V.ref p1]=[.ref x0,.ref x1]/\B x0 x1 y0 y1 y2)=(∃y0 y1 y2,B p0 p1 y0 y1 y2):=by simp [t2o]
theorem v6k {B:Str->Addr->α->β->Prop}:(∃x0 x1 y0 y1,[V.str s0,V.ref p1]=[.str x0,.ref x1]/\B x0 x1 y0 y1)=(∃y0 y1,B s0 p1 y0 y1):=by simp [t2o]
theorem v6j {B:Str->Addr->Addr->α->β->γ->δ->Prop}:(∃x0 x1 x2 y0 y1 y2 y3,[V.str s0,V.ref p1,V.ref p2]=[.str x0,.ref x1,.ref x2]/\B x0 x1 x2 y0 y1 y2 y3)=(∃y0 y1 y2 y3,B s0 p1 p2 y0 y1 y2 y3):=by simp [t2o]
theorem v6i {B:Addr->Addr->Addr->α->β->γ->δ->ε->ζ->Prop}:(∃x0 x1 x2 y0 y1 y2 y3 y4 y5,[V.ref p0,V.ref p1,V.ref p2]=[.ref x0,.ref x1,.ref x2]/\B x0 x1 x2 y0 y1 y2 y3 y4 y5)=(∃y0 y1 y2 y3 y4 y5,B p0 p1 p2 y0 y1 y2 y3 y4 y5):=by simp [t2o]
theorem v6h {B:Addr->α->β->Int->Prop}:(∃x0 y0 y1 x1,[V.ref p0,V.int i1]=[.ref x0,.int x1]/\B x0 y0 y1 x1)=(∃y0 y1,B p0 y0 y1 i1):=by simp [t2o]
theorem v6g {B:Addr->α->β->Int->Int->Int->Int->Prop}:(∃x0 y0 y1 x1 x2 x3 x4,[V.ref p0,V.int i1,V.int i2,V.int i3,V.int i4]=[.ref x0,.int x1,.int x2,.int x3,.int x4]/\B x0 y0 y1 x1 x2 x3 x4)=(∃y0 y1,B p0 y0 y1 i1 i2 i3 i4):=by simp [t2o]
theorem v3k {B:Addr->α->β->Int->Int->Prop}:(∃x0 y0 y1 x1 x2,[V.ref p0,V.int i1,V.int i2]=[.ref x0,.int x1,.int x2]/\B x0 y0 y1 x1 x2)=(∃y0 y1,B p0 y0 y1 i1 i2):=by simp [t2o]
theorem v3j {B:Addr->Addr->α->β->γ->δ->Int->Prop}:(∃x0 x1 y0 y1 y2 y3 x2,[V.ref p0,V.ref p1,V.int i2]=[.ref x0,.ref x1,.int x2]/\B x0 x1 y0 y1 y2 y3 x2)=(∃y0 y1 y2 y3,B p0 p1 y0 y1 y2 y3 i2):=by simp [t2o]
theorem v3i {B:Addr->Addr->α->β->γ->δ->ε->Prop}:(∃x0 x1 y0 y1 y2 y3 y4,[V.ref p0,V.ref p1]=[.ref x0,.ref x1]/\B x0 x1 y0 y1 y2 y3 y4)=(∃y0 y1 y2 y3 y4,B p0 p1 y0 y1 y2 y3 y4):=by simp [t2o]
theorem v3h {B:Str->Int->Prop}:(∃x0 x1,[V.str s0,V.int i1]=[.str x0,.int x1]/\B x0 x1)=B s0 i1:=by simp [t2o]
theorem v3g {B:Str->Int->Int->Prop}:(∃x0 x1 x2,[V.str s0,V.int i1,V.int i2]=[.str x0,.int x1,.int x2]/\B x0 x1 x2)=B s0 i1 i2:=by simp [t2o]
theorem v3f {B:Str->Prop}:(∃x0,[V.str s0]=[.str x0]/\B x0)=B s0:=by simp [t2o]
theorem v3e {B:Addr->α->Nat->Int->Prop}:(∃x0 y0 x1 x2,[V.ref p0,V.int i1,V.int i2]=[.ref x0,.int (x1:Nat),.int x2]/\B x0 y0 x1 x2)=(∃y0 x1,i1=(x1:Nat)/\B p0 y0 x1 i2):=by simp [t2o]
theorem v3d {B:Addr->α->Nat->Prop}:(∃x0 y0 x1,[V.ref p0,V.int i1]=[.ref x0,.int (x1:Nat)]/\B x0 y0 x1)=(∃y0 x1,i1=(x1:Nat)/\B p0 y0 x1):=by simp [t2o]
theorem v3c {B:Addr->α->Int->Int->Int->Int->Prop}:(∃x0 y0 x1 x2 x3 x4,[V.ref p0,V.int i1,V.int i2,V.int i3,V.int i4]=[.ref x0,.int x1,.int x2,.int x3,.int x4]/\B x0 y0 x1 x2 x3 x4)=(∃y0,B p0 y0 i1 i2 i3 i4):=by simp [t2o]
theorem v3b {B:Addr->α->Int->Int->Prop}:(∃x0 y0 x1 x2,[V.ref p0,V.int i1,V.int i2]=[.ref x0,.int x1,.int x2]/\B x0 y0 x1 x2)=(∃y0,B p0 y0 i1 i2):=by simp [t2o]
theorem v3a {B:Addr->Addr->α->β->Int->Prop}:(∃x0 x1 y0 y1 x2,[V.ref p0,V.ref p1,V.int i2]=[.ref x0,.ref x1,.int x2]/\B x0 x1 y0 y1 x2)=(∃y0 y1,B p0 p1 y0 y1 i2):=by simp [t2o]
theorem v2z {B:Addr->Addr->Addr->α->β->γ->Prop}:(∃x0 x1 x2 y0 y1 y2,[V.ref p0,V.ref p1,V.ref p2]=[.ref x0,.ref x1,.ref x2]/\B x0 x1 x2 y0 y1 y2)=(∃y0 y1 y2,B p0 p1 p2 y0 y1 y2):=by simp [t2o]
theorem v2y {B:Int->Prop}:(∃x0,[V.int i0]=[.int x0]/\B x0)=B i0:=by simp [t2o]
theorem v2x {B:Addr->Addr->α->Prop}:(∃x0 x1 y0,[V.ref p0,V.ref p1]=[.ref x0,.ref x1]/\B x0 x1 y0)=(∃y0,B p0 p1 y0):=by simp [t2o]
theorem v2w {B:Int->Int->Int->Int->Prop}:(∃x0 x1 x2 x3,[V.int i0,V.int i1,V.int i2,V.int i3]=[.int x0,.int x1,.int x2,.int x3]/\B x0 x1 x2 x3)=B i0 i1 i2 i3:=by simp [t2o]
theorem v2v {B:Addr->α->Int->β->Prop}:(∃x0 y0 x1 y1,[V.ref p0,V.int i1]=[.ref x0,.int x1]/\B x0 y0 x1 y1)=(∃y0 y1,B p0 y0 i1 y1):=by simp [t2o]
end
set_option hygiene false
local macro_rules | `(tactic| wp_walk using $xs:term,*)=>`(tactic| simp only [↓v1v,↓v1u,↓exB,↓exI,↓exS,↓exR,↓v6s,↓v6r,↓v6t,↓exC,↓v6q,↓v6u,↓w8f,↓v2f,↓w8h,↓w8b,↓w8g,↓w8a,↓x8w,↓x2s,↓v0g,↓v0e,↓w5c,↓w5e,↓x2r,↓v6p,↓v6o,↓v6n,↓v6m,↓v6l,↓v6k,↓v6j,↓v6i,↓v6h,↓v6g,↓v3k,↓v3j,↓v3i,↓v3h,↓v3g,↓v3f,↓v3e,↓v3d,↓v3c,↓v3b,↓v3a,↓v2z,↓v2y,↓v2x,↓v2w,↓v2v,↓v3z,↓x4g,↓v4k,↓w7b,↓w8c,↓x7p,↓v0n,↓v4u,↓v4s,↓w5k,↓w1l,↓v1x,↓x7w,↓x7y,↓w3t,↓v4h,↓w7d,↓v4j,↓w5m,↓x4h,↓x7o,↓v4i,↓v2e,↓x7s,↓x7q,↓v2d,↓x7n,↓w7z,v0h,v0f,w5f,w5d,↓tBM,tyV,↓v5t,↓y8t,↓w7x,↓v1w,↓x7v,↓x7x,↓w1n,↓x7t,↓v4a,↓v2c,↓v4r,↓x2p,↓w8j,↓v4x,↓w5i,↓w5h,↓w1j,↓w8i,↓w7w,↓tSl,↓x2q,↓w6y,↓w7y,↓v4z,↓v4t,↓v1y,↓w3s,x8u,↓tC,↓tOp,↓tUn,rI,rI0,↓rU,rEq_ex,rNe_ex,↓x8v,↓tB,↓v4f,↓v4m,↓tOr,↓w7e,↓v4e,↓w6z,↓tIf,x2t,↓tCB,↓w7a,↓y7a,↓w2c,↓v4g,↓v4d,↓w2f,↓z6w,↓w7c,↓w2a,↓v4v,↓v5r,↓CMul,↓v5s,↓v1f,L2.start,x3u,↓w5l,↓w5j,↓w1a,↓w1m,↓w1k,↓x7r,z0t,w1e,v0a,v0b,v0c,v0d,w9z,tyS,↓v4l,↓v0m,↓v0o,↓v5a,↓v4w,↓w8e,↓w8d,inV,z3f,z0d,HO.lst.injEq,HO.tup.injEq,s0v,List.any_nil,t7o,List.all_nil,Bool.or_false,Bool.and_self,Bool.and_true,Bool.or_eq_true,beq_iff_eq,V.int.injEq,V.bl.injEq,V.str.injEq,V.ref.injEq,V.ty.injEq,z2o,z2p,t0h,t0j,t0k,t0m,List.getElem?_cons_zero,List.getElem?_cons_succ,t8m,exists_eq_left',exists_eq_left,exists_and_left,List.cons.injEq,and_true,true_and,t2o,decide_eq_true_eq,t5f,t5g,List.replicate,t2f,s1c,Nat.reduceAdd,Nat.reduceSub,Int.reduceLT,Int.reduceLE,Int.reduceNeg,Int.reduceSub,Int.reduceAdd,Int.reducePow,Int.reduceToNat,na2,v5z,Nat.reducePow,Nat.reduceLT,t7u,s0t,Bool.not_true,Bool.not_false,t8h,t1a,t1l,eq_self,true_or,or_true,t3f,false_or,String.reduceEq,Option.isSome_some,ne_eq,t8s,not_true_eq_false,Bool.not_eq_true',decide_eq_false_iff_not,Bool.true_eq_false,$[↓$xs:term],*,$[$xs:term],*])
local macro_rules | `(tactic| wp_walk)=>`(tactic| wp_walk using y6t,z9t,eqV) | `(tactic| tbr_iter $a)=>`(tactic| wp_walk using y6t,z9t,eqV,$a) | `(tactic| ktr_call $a $b)=>`(tactic| wp_walk using y6t,z9t,eqV,$a,$b) | `(tactic| cell_end $a $b $c)=>`(tactic| wp_walk using y6t,z9t,eqV,$a,$b,$c) | `(tactic| kpf_say $a $b $c $d)=>`(tactic| wp_walk using y6t,z9t,eqV,$a,$b,$c,$d) | `(tactic| ktn_end $j)=>`(tactic| (refine z9w $j ?_ (λ R hR=>?_);rotate_left))
set_option hygiene true
structure Gl (K:FG) (x:Str) (st:Stmt) (f:Addr) (fd:FuncData):Prop where
 F:Fun K x x st f fd
 a:W.nsIn K mainGlobals x=some (some (.ref f))
structure GlT (K:FG) (x:Str) (st:Stmt) (f:Addr) (fd:FuncData) (c T:Addr):Prop extends Gl K x st f fd where
 hc:fd.code=.ref c
 tb:W.tabIn K x=some (c,T)
def Gx (K:FG) (x:Str) (st:Stmt):Prop:=∃f fd,Gl K x st f fd
section
variable {K:FG}{x:Str}{st:Stmt}{f:Addr}{oc:Value}{od an:OA}{osl:AV}{kV doc pm cdv ct:Value}
theorem gl_ex (a:W.nsIn K mainGlobals x=some (some (.ref f))) (l:K.lookup f=some ⟨oc,od,.func (W.fnOf x x (z2f st) (z1v st) (z0h st) .none kV doc pm an cdv ct),osl⟩) (c:W.codeIn K cdv x=true) (k:W.keepIn K (.ref f)=true):Gx K x st:=⟨_,_,w3f l c k,a⟩
theorem gx_int (h:W.nsIn K mainGlobals x=some (some (.int i t))):∃t,W.nsIn K mainGlobals x=some (some (.int i t)):=⟨_,h⟩
theorem glt_ex {oc2:Value}{od2:OA}{sl2:AV}(a:W.nsIn K mainGlobals x=some (some (.ref f))) (l:K.lookup f=some ⟨oc,od,.func (W.fnOf x x (z2f st) (z1v st) (z0h st) .none kV doc pm an (.ref c) ct),osl⟩) (q:W.codeIn K (.ref c) x=true) (k:W.keepIn K (.ref f)=true) (h4:K.lookup c=some ⟨oc2,od2,.fields vs,sl2⟩) (h5:vs[11]?=some (.ref T)):∃f fd c,GlT K x st f fd c T:=⟨_,_,_,⟨w3f l q k,a⟩,rfl,x8s a l rfl h4 h5⟩
end
structure Sv (P:Program) (w:World) (K:FG) (TD TL TE TC TT TP TU TS TJ:Addr):Prop where
 g0:Gx K "wrapped" y8u
 g1:Gx K "sign_of" x2v
 g2:Gx K "quotient" y4x
 g3:Gx K "remainder" y2h
 g4:Gx K "once" w7m
 g5:Gx K "twice" w2g
 g6:Gx K "neutral" y9e
 g7:Gx K "arg_places" y2v
 g8:Gx K "args_of" x3v
 g9:Gx K "amount" x3w
 g10:Gx K "breadth" y9n
 g11:Gx K "allowed" y9r
 g12:Gx K "strides_of" y2e
 g13:Gx K "place_of" y9d
 g14:Gx K "at_of" w7s
 g15:Gx K "all_at" w2t
 g16:Gx K "changed_at" y2u
 g17:Gx K "added_at" y9s
 g18:Gx K "dropped_at" y2t
 g19:Gx K "ask_side" y9p
 g20:Gx K "turned_sides" z9c
 g21:Gx K "flipped_sides" z7v
 g22:Gx K "cut_sides" y5p
 g23:Gx K "spread_sides" z9d
 g24:Gx K "laid_sides" y2s
 g25:Gx K "joined_sides" z9i
 g26:Gx K "led_sides" y5j
 g27:Gx K "paired_sides" z9h
 g28:Gx K "picked_sides" z9g
 g29:Gx K "fetched_sides" z7w
 g30:Gx K "folded_sides" z9j
 g31:Gx K "counted_sides" z7x
 g32:Gx K "ask_word" y9o
 g33:Gx K "first_sides" y1b
 g34:Gx K "moved_sides" y0v
 g35:Gx K "step_sides" y2g
 g36:Gx K "step_told" y4w
 g37:Gx K "program_told" z9e
 g38:Gx K "checked" y9m
 g39:Gx K "table_of" y8v
 g40:Gx K "table_by" y8w
 g41:Gx K "alone" w2s
 g42:Gx K "cell_at" x3t
 g44:Gx K "run" v4n
 g46:Gx K "each" w7p
 g47:Gx K "pair" w7l
 g48:Gx K "pick" w7j
 g55:Gx K "lay" v4p
 g57:Gx K "moved_table" y0u
 g58:Gx K "step_table" y2f
 g59:Gx K "inputs_checked" z6z
 g60:Gx K "all_tables" y2w
 g61:Gx K "answers" y9q
 g62:Gx K "_law_whole" y5k
 g63:Gx K "_law_cell_at" y2r
 g64:Gx K "_law_is_sides" y0z
 g65:Gx K "_law_size" y9h
 g66:Gx K "_law_wide" y9f
 g67:Gx K "_law_number" y2o
 g68:Gx K "_law_recent" y2n
 g69:Gx K "_law_begun" y5n
 g70:Gx K "_law_led" x3n
 g71:Gx K "_law_lifted" y2p
 g72:Gx K "_law_laid" y9i
 g73:Gx K "_law_moved" y5m
 g74:Gx K "_law_both" y9j
 g75:Gx K "_law_met" x3m
 g76:Gx K "_law_step" y9g
 g77:Gx K "_law_program" y0y
 g78:Gx K "_law_inputs" y2q
 g79:Gx K "_law_table" y5l
 g80:Gx K "law" v2b
 g43:∃f fd c,GlT K "fold" x9e f fd c TD
 g45:∃f fd c,GlT K "lead" x9a f fd c TL
 g49:∃f fd c,GlT K "fetch" y9l f fd c TE
 g50:∃f fd c,GlT K "counted" z9x f fd c TC
 g51:∃f fd c,GlT K "turn" x8x f fd c TT
 g52:∃f fd c,GlT K "flip" x9f f fd c TP
 g53:∃f fd c,GlT K "cut" v1h f fd c TU
 g54:∃f fd c,GlT K "spread" y3p f fd c TS
 g56:∃f fd c,GlT K "join" x9b f fd c TJ
 babs:W.nsIn K mainGlobals "abs"=some none
 bmax:W.nsIn K mainGlobals "max"=some none
 bmin:W.nsIn K mainGlobals "min"=some none
 btuple:W.nsIn K mainGlobals "tuple"=some none
 blen:W.nsIn K mainGlobals "len"=some none
 breversed:W.nsIn K mainGlobals "reversed"=some none
 bzip:W.nsIn K mainGlobals "zip"=some none
 bsum:W.nsIn K mainGlobals "sum"=some none
 brange:W.nsIn K mainGlobals "range"=some none
 bsorted:W.nsIn K mainGlobals "sorted"=some none
 blist:W.nsIn K mainGlobals "list"=some none
 bany:W.nsIn K mainGlobals "any"=some none
 benumerate:W.nsIn K mainGlobals "enumerate"=some none
 bisinstance:W.nsIn K mainGlobals "isinstance"=some none
 bint:W.nsIn K mainGlobals "int"=some none
 bbool:W.nsIn K mainGlobals "bool"=some none
 qLOW:∃t,W.nsIn K mainGlobals "LOW"=some (some (.int (-9223372036854775808) t))
 qHIGH:∃t,W.nsIn K mainGlobals "HIGH"=some (some (.int 9223372036854775807 t))
 qMOST_SIDES:∃t,W.nsIn K mainGlobals "MOST_SIDES"=some (some (.int 6 t))
 qMOST_BREADTH:∃t,W.nsIn K mainGlobals "MOST_BREADTH"=some (some (.int 512 t))
 qMOST_STEPS:∃t,W.nsIn K mainGlobals "MOST_STEPS"=some (some (.int 40 t))
 qMOST_OUTS:∃t,W.nsIn K mainGlobals "MOST_OUTS"=some (some (.int 8 t))
 qPT:∃d,W.nsIn K mainGlobals "PARTS"=some (some (.ref d))/\y8q P w K d
 nd9:((T9 TD TL TE TC TT TP TU TS TJ).map λ x=>x.1).Nodup
structure Ev (P:Program) (w:World) (K:FG) (mg:SV) (base:Heap) (TD TL TE TC TT TP TU TS TJ:Addr):Prop extends Sv P w K TD TL TE TC TT TP TU TS TJ where
 m:∀ {x:Str}{v:Option Value},W.nsIn K mainGlobals x=some v->mg x=v
 t43:∃f fd c,GlT K "fold" x9e f fd c TD/\TabF base mg c TD
 t45:∃f fd c,GlT K "lead" x9a f fd c TL/\TabF base mg c TL
 t49:∃f fd c,GlT K "fetch" y9l f fd c TE/\TabF base mg c TE
 t50:∃f fd c,GlT K "counted" z9x f fd c TC/\TabF base mg c TC
 t51:∃f fd c,GlT K "turn" x8x f fd c TT/\TabF base mg c TT
 t52:∃f fd c,GlT K "flip" x9f f fd c TP/\TabF base mg c TP
 t53:∃f fd c,GlT K "cut" v1h f fd c TU/\TabF base mg c TU
 t54:∃f fd c,GlT K "spread" y3p f fd c TS/\TabF base mg c TS
 t56:∃f fd c,GlT K "join" x9b f fd c TJ/\TabF base mg c TJ
section
variable {K:FG}{x:Str}{st:Stmt}{f:Addr}{fd:FuncData}
theorem Gl.b1 {p0:Str}(g:Gl K x st f fd) (b:∀(kV doc pm:Value) (an:OA) (cdv ct:Value) (u0:Value),bindArgs (W.fnOf x x (z2f st) (z1v st) (z0h st) .none kV doc pm an cdv ct) ⟨[u0],[]⟩=pure [(p0,u0)]:=by intros;rfl):Binds K fd [p0] []:=g.F.binds λ kV doc pm an cdv ct us hl=>by
 match us,hl with
 | [u0],_=>exact b kV doc pm an cdv ct u0
theorem Gl.b2 {p0 p1:Str}(g:Gl K x st f fd) (b:∀(kV doc pm:Value) (an:OA) (cdv ct:Value) (u0 u1:Value),bindArgs (W.fnOf x x (z2f st) (z1v st) (z0h st) .none kV doc pm an cdv ct) ⟨[u0,u1],[]⟩=pure [(p0,u0),(p1,u1)]:=by intros;rfl):Binds K fd [p0,p1] []:=g.F.binds λ kV doc pm an cdv ct us hl=>by
 match us,hl with
 | [u0,u1],_=>exact b kV doc pm an cdv ct u0 u1
theorem Gl.b3 {p0 p1 p2:Str}(g:Gl K x st f fd) (b:∀(kV doc pm:Value) (an:OA) (cdv ct:Value) (u0 u1 u2:Value),bindArgs (W.fnOf x x (z2f st) (z1v st) (z0h st) .none kV doc pm an cdv ct) ⟨[u0,u1,u2],[]⟩=pure [(p0,u0),(p1,u1),(p2,u2)]:=by intros;rfl):Binds K fd [p0,p1,p2] []:=g.F.binds λ kV doc pm an cdv ct us hl=>by
 match us,hl with
 | [u0,u1,u2],_=>exact b kV doc pm an cdv ct u0 u1 u2
theorem Gl.b4 {p0 p1 p2 p3:Str}(g:Gl K x st f fd) (b:∀(kV doc pm:Value) (an:OA) (cdv ct:Value) (u0 u1 u2 u3:Value),bindArgs (W.fnOf x x (z2f st) (z1v st) (z0h st) .none kV doc pm an cdv ct) ⟨[u0,u1,u2,u3],[]⟩=pure [(p0,u0),(p1,u1),(p2,u2),(p3,u3)]:=by intros;rfl):Binds K fd [p0,p1,p2,p3] []:=g.F.binds λ kV doc pm an cdv ct us hl=>by
 match us,hl with
 | [u0,u1,u2,u3],_=>exact b kV doc pm an cdv ct u0 u1 u2 u3
theorem Gl.b5 {p0 p1 p2 p3 p4:Str}(g:Gl K x st f fd) (b:∀(kV doc pm:Value) (an:OA) (cdv ct:Value) (u0 u1 u2 u3 u4:Value),bindArgs (W.fnOf x x (z2f st) (z1v st) (z0h st) .none kV doc pm an cdv ct) ⟨[u0,u1,u2,u3,u4],[]⟩=pure [(p0,u0),(p1,u1),(p2,u2),(p3,u3),(p4,u4)]:=by intros;rfl):Binds K fd [p0,p1,p2,p3,p4] []:=g.F.binds λ kV doc pm an cdv ct us hl=>by
 match us,hl with
 | [u0,u1,u2,u3,u4],_=>exact b kV doc pm an cdv ct u0 u1 u2 u3 u4
end
section
variable {P:Program}{w:World}{K:FG}{mg:SV}{base:Heap}{TD TL TE TC TT TP TU TS TJ:Addr}(Z0:Ev P w K mg base TD TL TE TC TT TP TU TS TJ)
noncomputable def Cl (_:Ev P w K mg base TD TL TE TC TT TP TU TS TJ):List Prop:=let c:=Cr P w K mg base CX0;let d:=Cr P w K mg base (CX1 P w);[c 1 "wrapped" ["n"] z4v,c 1 "sign_of" ["x"] y8z,c 2 "quotient" ["x","y"] y2i,c 1 "remainder" ["x","y"] y0q,c 2 "once" ["word","x"] y9a,c 3 "twice" ["word","x","y"] z8n,c 1 "neutral" ["word"] z7t,c 1 "arg_places" ["form"] y0s,c 2 "args_of" ["step"] z9v,c 1 "amount" ["sides"] z7u,c 2 "breadth" ["sides"] y5g,c 3 "allowed" ["sides"] z4d,c 1 "strides_of" ["sides"] z7d,c 2 "place_of" ["sides","at"] y5a,c 2 "at_of" ["sides","place"] w2p,c 3 "all_at" ["sides"] x3l,c 1 "changed_at" ["row","k","number"] z3v,c 1 "added_at" ["row","k","number"] y0t,c 1 "dropped_at" ["row","k"] z5u,c 1 "ask_side" ["sides","side"] z4w,c 1 "turned_sides" ["sides","order"] z5p,c 2 "flipped_sides" ["sides","side"] z3x,c 2 "cut_sides" ["sides","side","first","many","step"] z8r,c 4 "spread_sides" ["sides","side","many"] z5q,c 4 "laid_sides" ["sides","others"] z7f,c 4 "joined_sides" ["sides","others","side"] z5s,c 1 "led_sides" ["sides","others"] z8o,c 2 "paired_sides" ["sides","others"] z4n,c 3 "picked_sides" ["marks","sides","others"] z5r,c 4 "fetched_sides" ["sides","others"] z5g,c 2 "folded_sides" ["sides","side"] z5t,c 4 "counted_sides" ["sides","side"] z5h,c 4 "ask_word" ["step"] w2q,c 5 "first_sides" ["step"] x3h,c 5 "moved_sides" ["step","sides"] v4o,c 6 "step_sides" ["step","sides"] x2x,c 7 "step_told" ["step","sides"] w2j,c 8 "program_told" ["program"] x2y,c 9 "checked" ["program"] y5f,c 4 "table_of" ["sides","cells"] y4y,c 7 "table_by" ["sides","number_at"] (z2w P w K mg base),c 5 "alone" ["n"] x3k,c 3 "cell_at" ["tab","at"] z4o,c 8 "fold" ["word","tab","side"] (x3f TD),c 4 "run" ["word","tab","side"] w2l,c 8 "lead" ["tab","sides"] (z8p TL),c 4 "each" ["word","tab"] x3j,c 9 "pair" ["word","tab","other"] (x3a TL),c 9 "pick" ["marks","tab","other"] (x2z TL),c 8 "fetch" ["tab","other"] (x3i TE),c 8 "counted" ["sides","side"] (y5e TC),c 8 "turn" ["tab","order"] (x2w TT),c 8 "flip" ["tab","side"] (x3g TP),c 8 "cut" ["tab","side","first","many","step"] (w2o TU),c 8 "spread" ["tab","side","many"] (y4z TS),c 5 "lay" ["tab","sides"] w2n,c 8 "join" ["tab","other","side"] (x3e TJ),c 10 "moved_table" ["step","tab"] (w7i TD TL TE TC TT TP TU TS TJ),c 11 "step_table" ["step","tabs"] (w2k TD TL TE TC TT TP TU TS TJ),c 12 "inputs_checked" ["program","inputs"] w7k,c 13 "all_tables" ["program","inputs"] (v2a TD TL TE TC TT TP TU TS TJ),c 14 "answers" ["program","inputs"] (v1z TD TL TE TC TT TP TU TS TJ),c 1 "_law_whole" ["found"] z8q,c 1 "_law_cell_at" ["script","k"] (y0r K),c 2 "_law_is_sides" ["found","due"] z9f,c 1 "_law_size" ["sides"] z6k,c 2 "_law_wide" ["sides"] z6j,c 1 "_law_number" ["n"] z7e,c 1 "_law_recent" ["pool","d"] z3c,c 3 "_law_begun" ["kind","n","cell","most"] y2k,c 1 "_law_led" ["one","other"] y3q,c 2 "_law_lifted" ["kind","d","sides"] y5b,c 2 "_law_laid" ["own","d"] y5c,c 3 "_law_moved" ["kind","d","a","own","most"] (y9b K),c 1 "_law_both" ["own","other","side"] y5d,c 3 "_law_met" ["kind","d","sides","most"] w2m,c 4 "_law_step" ["cell","sides","most"] x3b,c 5 "_law_program" ["cells","most"] y2j,c 3 "_law_inputs" ["cells","steps"] (x3d K),c 3 "_law_table" ["found","sides"] z9u]
def Cs (i:Nat):Prop:=∀j,j < i->ca (Cl Z0) j
variable {Z0}
theorem cc (C:Cs Z0 i) (j:Nat) (h:j < i:=by decide):ca (Cl Z0) j:=C j h
theorem stp (C:Cs Z0 i) (h:ca (Cl Z0) i):Cs Z0 (i+1):=λ j hj=>if e:j=i then e ▸ h else C j (by lia)
variable (Z0)
include Z0
theorem Ev.zabs:mg "abs"=none:=Z0.m Z0.babs
theorem Ev.zmax:mg "max"=none:=Z0.m Z0.bmax
theorem Ev.zmin:mg "min"=none:=Z0.m Z0.bmin
theorem Ev.ztuple:mg "tuple"=none:=Z0.m Z0.btuple
theorem Ev.zlen:mg "len"=none:=Z0.m Z0.blen
theorem Ev.zreversed:mg "reversed"=none:=Z0.m Z0.breversed
theorem Ev.zzip:mg "zip"=none:=Z0.m Z0.bzip
theorem Ev.zsum:mg "sum"=none:=Z0.m Z0.bsum
theorem Ev.zrange:mg "range"=none:=Z0.m Z0.brange
theorem Ev.zsorted:mg "sorted"=none:=Z0.m Z0.bsorted
theorem Ev.zlist:mg "list"=none:=Z0.m Z0.blist
theorem Ev.zany:mg "any"=none:=Z0.m Z0.bany
theorem Ev.zenumerate:mg "enumerate"=none:=Z0.m Z0.benumerate
theorem Ev.zisinstance:mg "isinstance"=none:=Z0.m Z0.bisinstance
theorem Ev.zint:mg "int"=none:=Z0.m Z0.bint
theorem Ev.zbool:mg "bool"=none:=Z0.m Z0.bbool
theorem Ev.gLOW:∃t,mg "LOW"=some (.int (-9223372036854775808) t):=Z0.qLOW.imp λ _ h=>Z0.m h
theorem Ev.gHIGH:∃t,mg "HIGH"=some (.int 9223372036854775807 t):=Z0.qHIGH.imp λ _ h=>Z0.m h
theorem Ev.gMOST_SIDES:∃t,mg "MOST_SIDES"=some (.int 6 t):=Z0.qMOST_SIDES.imp λ _ h=>Z0.m h
theorem Ev.gMOST_BREADTH:∃t,mg "MOST_BREADTH"=some (.int 512 t):=Z0.qMOST_BREADTH.imp λ _ h=>Z0.m h
theorem Ev.gMOST_STEPS:∃t,mg "MOST_STEPS"=some (.int 40 t):=Z0.qMOST_STEPS.imp λ _ h=>Z0.m h
theorem Ev.gMOST_OUTS:∃t,mg "MOST_OUTS"=some (.int 8 t):=Z0.qMOST_OUTS.imp λ _ h=>Z0.m h
theorem Ev.pt:∃d,mg "PARTS"=some (.ref d)/\y8q P w K d:=Z0.qPT.imp λ _ h=>⟨Z0.m h.1,h.2⟩
theorem kz1 {st:Stmt}{p0:Str}(g:Gx K x st) (ok:∀f fd,Fun K x x st f fd->FnOk P w K mg base CX k f fd [p0] sp) (b:∀(kV doc pm:Value) (an:OA) (cdv ct:Value) (u0:Value),bindArgs (W.fnOf x x (z2f st) (z1v st) (z0h st) .none kV doc pm an cdv ct) ⟨[u0],[]⟩=pure [(p0,u0)]:=by intros;rfl):Cr P w K mg base CX k x [p0] sp:=λ n hn=>by
 obtain ⟨f,fd,g⟩:=g;exact (Callee.mk' g.F (Z0.m g.a) (g.b1 b) (ok f fd g.F)).mono hn
theorem kz2 {st:Stmt}{p0 p1:Str}(g:Gx K x st) (ok:∀f fd,Fun K x x st f fd->FnOk P w K mg base CX k f fd [p0,p1] sp) (b:∀(kV doc pm:Value) (an:OA) (cdv ct:Value) (u0 u1:Value),bindArgs (W.fnOf x x (z2f st) (z1v st) (z0h st) .none kV doc pm an cdv ct) ⟨[u0,u1],[]⟩=pure [(p0,u0),(p1,u1)]:=by intros;rfl):Cr P w K mg base CX k x [p0,p1] sp:=λ n hn=>by
 obtain ⟨f,fd,g⟩:=g;exact (Callee.mk' g.F (Z0.m g.a) (g.b2 b) (ok f fd g.F)).mono hn
theorem w9s {st:Stmt}{p0 p1:Str}(g:∃f fd c,GlT K x st f fd c T/\TabF base mg c T) (ok:∀f fd c,Fun K x x st f fd->fd.code=.ref c->TabF base mg c T->FnOk P w K mg base CX k f fd [p0,p1] sp) (b:∀(kV doc pm:Value) (an:OA) (cdv ct:Value) (u0 u1:Value),bindArgs (W.fnOf x x (z2f st) (z1v st) (z0h st) .none kV doc pm an cdv ct) ⟨[u0,u1],[]⟩=pure [(p0,u0),(p1,u1)]:=by intros;rfl):Cr P w K mg base CX k x [p0,p1] sp:=λ n hn=>by
 obtain ⟨f,fd,c,g,t⟩:=g;exact (Callee.mk' g.F (Z0.m g.a) (g.toGl.b2 b) (ok f fd c g.F g.hc t)).mono hn
theorem kz3 {st:Stmt}{p0 p1 p2:Str}(g:Gx K x st) (ok:∀f fd,Fun K x x st f fd->FnOk P w K mg base CX k f fd [p0,p1,p2] sp) (b:∀(kV doc pm:Value) (an:OA) (cdv ct:Value) (u0 u1 u2:Value),bindArgs (W.fnOf x x (z2f st) (z1v st) (z0h st) .none kV doc pm an cdv ct) ⟨[u0,u1,u2],[]⟩=pure [(p0,u0),(p1,u1),(p2,u2)]:=by intros;rfl):Cr P w K mg base CX k x [p0,p1,p2] sp:=λ n hn=>by
 obtain ⟨f,fd,g⟩:=g;exact (Callee.mk' g.F (Z0.m g.a) (g.b3 b) (ok f fd g.F)).mono hn
theorem v2s {st:Stmt}{p0 p1 p2:Str}(g:∃f fd c,GlT K x st f fd c T/\TabF base mg c T) (ok:∀f fd c,Fun K x x st f fd->fd.code=.ref c->TabF base mg c T->FnOk P w K mg base CX k f fd [p0,p1,p2] sp) (b:∀(kV doc pm:Value) (an:OA) (cdv ct:Value) (u0 u1 u2:Value),bindArgs (W.fnOf x x (z2f st) (z1v st) (z0h st) .none kV doc pm an cdv ct) ⟨[u0,u1,u2],[]⟩=pure [(p0,u0),(p1,u1),(p2,u2)]:=by intros;rfl):Cr P w K mg base CX k x [p0,p1,p2] sp:=λ n hn=>by
 obtain ⟨f,fd,c,g,t⟩:=g;exact (Callee.mk' g.F (Z0.m g.a) (g.toGl.b3 b) (ok f fd c g.F g.hc t)).mono hn
theorem kz4 {st:Stmt}{p0 p1 p2 p3:Str}(g:Gx K x st) (ok:∀f fd,Fun K x x st f fd->FnOk P w K mg base CX k f fd [p0,p1,p2,p3] sp) (b:∀(kV doc pm:Value) (an:OA) (cdv ct:Value) (u0 u1 u2 u3:Value),bindArgs (W.fnOf x x (z2f st) (z1v st) (z0h st) .none kV doc pm an cdv ct) ⟨[u0,u1,u2,u3],[]⟩=pure [(p0,u0),(p1,u1),(p2,u2),(p3,u3)]:=by intros;rfl):Cr P w K mg base CX k x [p0,p1,p2,p3] sp:=λ n hn=>by
 obtain ⟨f,fd,g⟩:=g;exact (Callee.mk' g.F (Z0.m g.a) (g.b4 b) (ok f fd g.F)).mono hn
theorem kz5 {st:Stmt}{p0 p1 p2 p3 p4:Str}(g:Gx K x st) (ok:∀f fd,Fun K x x st f fd->FnOk P w K mg base CX k f fd [p0,p1,p2,p3,p4] sp) (b:∀(kV doc pm:Value) (an:OA) (cdv ct:Value) (u0 u1 u2 u3 u4:Value),bindArgs (W.fnOf x x (z2f st) (z1v st) (z0h st) .none kV doc pm an cdv ct) ⟨[u0,u1,u2,u3,u4],[]⟩=pure [(p0,u0),(p1,u1),(p2,u2),(p3,u3),(p4,u4)]:=by intros;rfl):Cr P w K mg base CX k x [p0,p1,p2,p3,p4] sp:=λ n hn=>by
 obtain ⟨f,fd,g⟩:=g;exact (Callee.mk' g.F (Z0.m g.a) (g.b5 b) (ok f fd g.F)).mono hn
theorem v6e {st:Stmt}{p0 p1 p2 p3 p4:Str}(g:∃f fd c,GlT K x st f fd c T/\TabF base mg c T) (ok:∀f fd c,Fun K x x st f fd->fd.code=.ref c->TabF base mg c T->FnOk P w K mg base CX k f fd [p0,p1,p2,p3,p4] sp) (b:∀(kV doc pm:Value) (an:OA) (cdv ct:Value) (u0 u1 u2 u3 u4:Value),bindArgs (W.fnOf x x (z2f st) (z1v st) (z0h st) .none kV doc pm an cdv ct) ⟨[u0,u1,u2,u3,u4],[]⟩=pure [(p0,u0),(p1,u1),(p2,u2),(p3,u3),(p4,u4)]:=by intros;rfl):Cr P w K mg base CX k x [p0,p1,p2,p3,p4] sp:=λ n hn=>by
 obtain ⟨f,fd,c,g,t⟩:=g;exact (Callee.mk' g.F (Z0.m g.a) (g.toGl.b5 b) (ok f fd c g.F g.hc t)).mono hn
omit Z0 in
@[elab_as_elim] theorem el1 {α0:Type}{f:α0->List V}{B:α0->Prop}{G:List V->Prop}(vs:List V) (h:∃x0,vs=f x0/\B x0) (k:∀x0,B x0->G (f x0)):G vs:=by
 obtain ⟨x0,rfl,h⟩:=h;exact k _ h
omit Z0 in
@[elab_as_elim] theorem el2 {α0 α1:Type}{f:α0->α1->List V}{B:α0->α1->Prop}{G:List V->Prop}(vs:List V) (h:∃x0 x1,vs=f x0 x1/\B x0 x1) (k:∀x0 x1,B x0 x1->G (f x0 x1)):G vs:=by
 obtain ⟨x0,x1,rfl,h⟩:=h;exact k _ _ h
omit Z0 in
@[elab_as_elim] theorem el3 {α0 α1 α2:Type}{f:α0->α1->α2->List V}{B:α0->α1->α2->Prop}{G:List V->Prop}(vs:List V) (h:∃x0 x1 x2,vs=f x0 x1 x2/\B x0 x1 x2) (k:∀x0 x1 x2,B x0 x1 x2->G (f x0 x1 x2)):G vs:=by
 obtain ⟨x0,x1,x2,rfl,h⟩:=h;exact k _ _ _ h
omit Z0 in
@[elab_as_elim] theorem el4 {α0 α1 α2 α3:Type}{f:α0->α1->α2->α3->List V}{B:α0->α1->α2->α3->Prop}{G:List V->Prop}(vs:List V) (h:∃x0 x1 x2 x3,vs=f x0 x1 x2 x3/\B x0 x1 x2 x3) (k:∀x0 x1 x2 x3,B x0 x1 x2 x3->G (f x0 x1 x2 x3)):G vs:=by
 obtain ⟨x0,x1,x2,x3,rfl,h⟩:=h;exact k _ _ _ _ h
omit Z0 in
@[elab_as_elim] theorem el5 {α0 α1 α2 α3 α4:Type}{f:α0->α1->α2->α3->α4->List V}{B:α0->α1->α2->α3->α4->Prop}{G:List V->Prop}(vs:List V) (h:∃x0 x1 x2 x3 x4,vs=f x0 x1 x2 x3 x4/\B x0 x1 x2 x3 x4) (k:∀x0 x1 x2 x3 x4,B x0 x1 x2 x3 x4->G (f x0 x1 x2 x3 x4)):G vs:=by
 obtain ⟨x0,x1,x2,x3,x4,rfl,h⟩:=h;exact k _ _ _ _ _ h
omit Z0 in
@[elab_as_elim] theorem el6 {α0 α1 α2 α3 α4 α5:Type}{f:α0->α1->α2->α3->α4->α5->List V}{B:α0->α1->α2->α3->α4->α5->Prop}{G:List V->Prop}(vs:List V) (h:∃x0 x1 x2 x3 x4 x5,vs=f x0 x1 x2 x3 x4 x5/\B x0 x1 x2 x3 x4 x5) (k:∀x0 x1 x2 x3 x4 x5,B x0 x1 x2 x3 x4 x5->G (f x0 x1 x2 x3 x4 x5)):G vs:=by
 obtain ⟨x0,x1,x2,x3,x4,x5,rfl,h⟩:=h;exact k _ _ _ _ _ _ h
omit Z0 in
@[elab_as_elim] theorem el7 {α0 α1 α2 α3 α4 α5 α6:Type}{f:α0->α1->α2->α3->α4->α5->α6->List V}{B:α0->α1->α2->α3->α4->α5->α6->Prop}{G:List V->Prop}(vs:List V) (h:∃x0 x1 x2 x3 x4 x5 x6,vs=f x0 x1 x2 x3 x4 x5 x6/\B x0 x1 x2 x3 x4 x5 x6) (k:∀x0 x1 x2 x3 x4 x5 x6,B x0 x1 x2 x3 x4 x5 x6->G (f x0 x1 x2 x3 x4 x5 x6)):G vs:=by
 obtain ⟨x0,x1,x2,x3,x4,x5,x6,rfl,h⟩:=h;exact k _ _ _ _ _ _ _ h
omit Z0 in
@[elab_as_elim] theorem el9 {α0 α1 α2 α3 α4 α5 α6 α7 α8:Type}{f:α0->α1->α2->α3->α4->α5->α6->α7->α8->List V}{B:α0->α1->α2->α3->α4->α5->α6->α7->α8->Prop}{G:List V->Prop}(vs:List V) (h:∃x0 x1 x2 x3 x4 x5 x6 x7 x8,vs=f x0 x1 x2 x3 x4 x5 x6 x7 x8/\B x0 x1 x2 x3 x4 x5 x6 x7 x8) (k:∀x0 x1 x2 x3 x4 x5 x6 x7 x8,B x0 x1 x2 x3 x4 x5 x6 x7 x8->G (f x0 x1 x2 x3 x4 x5 x6 x7 x8)):G vs:=by
 obtain ⟨x0,x1,x2,x3,x4,x5,x6,x7,x8,rfl,h⟩:=h;exact k _ _ _ _ _ _ _ _ _ h
omit Z0 in
@[elab_as_elim] theorem v5b {α0 α1 α2 α3 α4 α5 α6 α7 α8 α9:Type}{f:α0->α1->α2->α3->α4->α5->α6->α7->α8->α9->List V}{B:α0->α1->α2->α3->α4->α5->α6->α7->α8->α9->Prop}{G:List V->Prop}(vs:List V) (h:∃x0 x1 x2 x3 x4 x5 x6 x7 x8 x9,vs=f x0 x1 x2 x3 x4 x5 x6 x7 x8 x9/\B x0 x1 x2 x3 x4 x5 x6 x7 x8 x9) (k:∀x0 x1 x2 x3 x4 x5 x6 x7 x8 x9,B x0 x1 x2 x3 x4 x5 x6 x7 x8 x9->G (f x0 x1 x2 x3 x4 x5 x6 x7 x8 x9)):G vs:=by
 obtain ⟨x0,x1,x2,x3,x4,x5,x6,x7,x8,x9,rfl,h⟩:=h;exact k _ _ _ _ _ _ _ _ _ _ h
omit Z0 in
theorem an2 {p0 p1 G:Prop}(h:p0/\p1) (k:p0->p1->G):G:=k h.1 h.2
omit Z0 in
theorem an3 {p0 p1 p2 G:Prop}(h:p0/\p1/\p2) (k:p0->p1->p2->G):G:=k h.1 h.2.1 h.2.2
omit Z0 in
theorem an4 {p0 p1 p2 p3 G:Prop}(h:p0/\p1/\p2/\p3) (k:p0->p1->p2->p3->G):G:=k h.1 h.2.1 h.2.2.1 h.2.2.2
omit Z0 in
theorem an5 {p0 p1 p2 p3 p4 G:Prop}(h:p0/\p1/\p2/\p3/\p4) (k:p0->p1->p2->p3->p4->G):G:=k h.1 h.2.1 h.2.2.1 h.2.2.2.1 h.2.2.2.2
omit Z0 in
theorem an6 {p0 p1 p2 p3 p4 p5 G:Prop}(h:p0/\p1/\p2/\p3/\p4/\p5) (k:p0->p1->p2->p3->p4->p5->G):G:=k h.1 h.2.1 h.2.2.1 h.2.2.2.1 h.2.2.2.2.1 h.2.2.2.2.2
omit Z0 in
theorem an7 {p0 p1 p2 p3 p4 p5 p6 G:Prop}(h:p0/\p1/\p2/\p3/\p4/\p5/\p6) (k:p0->p1->p2->p3->p4->p5->p6->G):G:=k h.1 h.2.1 h.2.2.1 h.2.2.2.1 h.2.2.2.2.1 h.2.2.2.2.2.1 h.2.2.2.2.2.2
omit Z0 in
theorem an8 {p0 p1 p2 p3 p4 p5 p6 p7 G:Prop}(h:p0/\p1/\p2/\p3/\p4/\p5/\p6/\p7) (k:p0->p1->p2->p3->p4->p5->p6->p7->G):G:=k h.1 h.2.1 h.2.2.1 h.2.2.2.1 h.2.2.2.2.1 h.2.2.2.2.2.1 h.2.2.2.2.2.2.1 h.2.2.2.2.2.2.2
omit Z0 in
theorem an9 {p0 p1 p2 p3 p4 p5 p6 p7 p8 G:Prop}(h:p0/\p1/\p2/\p3/\p4/\p5/\p6/\p7/\p8) (k:p0->p1->p2->p3->p4->p5->p6->p7->p8->G):G:=k h.1 h.2.1 h.2.2.1 h.2.2.2.1 h.2.2.2.2.1 h.2.2.2.2.2.1 h.2.2.2.2.2.2.1 h.2.2.2.2.2.2.2.1 h.2.2.2.2.2.2.2.2
omit Z0 in
theorem v0z {p0 p1 p2 p3 p4 p5 p6 p7 p8 p9 G:Prop}(h:p0/\p1/\p2/\p3/\p4/\p5/\p6/\p7/\p8/\p9) (k:p0->p1->p2->p3->p4->p5->p6->p7->p8->p9->G):G:=k h.1 h.2.1 h.2.2.1 h.2.2.2.1 h.2.2.2.2.1 h.2.2.2.2.2.1 h.2.2.2.2.2.2.1 h.2.2.2.2.2.2.2.1 h.2.2.2.2.2.2.2.2.1 h.2.2.2.2.2.2.2.2.2
omit Z0 in
theorem v5d {p0 p1 p2 p3 p4 p5 p6 p7 p8 p9 p10 G:Prop}(h:p0/\p1/\p2/\p3/\p4/\p5/\p6/\p7/\p8/\p9/\p10) (k:p0->p1->p2->p3->p4->p5->p6->p7->p8->p9->p10->G):G:=k h.1 h.2.1 h.2.2.1 h.2.2.2.1 h.2.2.2.2.1 h.2.2.2.2.2.1 h.2.2.2.2.2.2.1 h.2.2.2.2.2.2.2.1 h.2.2.2.2.2.2.2.2.1 h.2.2.2.2.2.2.2.2.2.1 h.2.2.2.2.2.2.2.2.2.2
omit Z0 in
theorem v7e {p0 p1 p2 p3 p4 p5 p6 p7 p8 p9 p10 p11 G:Prop}(h:p0/\p1/\p2/\p3/\p4/\p5/\p6/\p7/\p8/\p9/\p10/\p11) (k:p0->p1->p2->p3->p4->p5->p6->p7->p8->p9->p10->p11->G):G:=k h.1 h.2.1 h.2.2.1 h.2.2.2.1 h.2.2.2.2.1 h.2.2.2.2.2.1 h.2.2.2.2.2.2.1 h.2.2.2.2.2.2.2.1 h.2.2.2.2.2.2.2.2.1 h.2.2.2.2.2.2.2.2.2.1 h.2.2.2.2.2.2.2.2.2.2.1 h.2.2.2.2.2.2.2.2.2.2.2
omit Z0 in
theorem v7d {p0 p1 p2 p3 p4 p5 p6 p7 p8 p9 p10 p11 p12 G:Prop}(h:p0/\p1/\p2/\p3/\p4/\p5/\p6/\p7/\p8/\p9/\p10/\p11/\p12) (k:p0->p1->p2->p3->p4->p5->p6->p7->p8->p9->p10->p11->p12->G):G:=k h.1 h.2.1 h.2.2.1 h.2.2.2.1 h.2.2.2.2.1 h.2.2.2.2.2.1 h.2.2.2.2.2.2.1 h.2.2.2.2.2.2.2.1 h.2.2.2.2.2.2.2.2.1 h.2.2.2.2.2.2.2.2.2.1 h.2.2.2.2.2.2.2.2.2.2.1 h.2.2.2.2.2.2.2.2.2.2.2.1 h.2.2.2.2.2.2.2.2.2.2.2.2
omit Z0 in
theorem v7c {p0 p1 p2 p3 p4 p5 p6 p7 p8 p9 p10 p11 p12 p13 p14 p15 G:Prop}(h:p0/\p1/\p2/\p3/\p4/\p5/\p6/\p7/\p8/\p9/\p10/\p11/\p12/\p13/\p14/\p15) (k:p0->p1->p2->p3->p4->p5->p6->p7->p8->p9->p10->p11->p12->p13->p14->p15->G):G:=k h.1 h.2.1 h.2.2.1 h.2.2.2.1 h.2.2.2.2.1 h.2.2.2.2.2.1 h.2.2.2.2.2.2.1 h.2.2.2.2.2.2.2.1 h.2.2.2.2.2.2.2.2.1 h.2.2.2.2.2.2.2.2.2.1 h.2.2.2.2.2.2.2.2.2.2.1 h.2.2.2.2.2.2.2.2.2.2.2.1 h.2.2.2.2.2.2.2.2.2.2.2.2.1 h.2.2.2.2.2.2.2.2.2.2.2.2.2.1 h.2.2.2.2.2.2.2.2.2.2.2.2.2.2.1 h.2.2.2.2.2.2.2.2.2.2.2.2.2.2.2
omit Z0 in
theorem v7b {p0 p1 p2 p3 p4 p5 p6 p7 p8 p9 p10 p11 p12 p13 p14 p15 p16 p17 p18 G:Prop}(h:p0/\p1/\p2/\p3/\p4/\p5/\p6/\p7/\p8/\p9/\p10/\p11/\p12/\p13/\p14/\p15/\p16/\p17/\p18) (k:p0->p1->p2->p3->p4->p5->p6->p7->p8->p9->p10->p11->p12->p13->p14->p15->p16->p17->p18->G):G:=k h.1 h.2.1 h.2.2.1 h.2.2.2.1 h.2.2.2.2.1 h.2.2.2.2.2.1 h.2.2.2.2.2.2.1 h.2.2.2.2.2.2.2.1 h.2.2.2.2.2.2.2.2.1 h.2.2.2.2.2.2.2.2.2.1 h.2.2.2.2.2.2.2.2.2.2.1 h.2.2.2.2.2.2.2.2.2.2.2.1 h.2.2.2.2.2.2.2.2.2.2.2.2.1 h.2.2.2.2.2.2.2.2.2.2.2.2.2.1 h.2.2.2.2.2.2.2.2.2.2.2.2.2.2.1 h.2.2.2.2.2.2.2.2.2.2.2.2.2.2.2.1 h.2.2.2.2.2.2.2.2.2.2.2.2.2.2.2.2.1 h.2.2.2.2.2.2.2.2.2.2.2.2.2.2.2.2.2.1 h.2.2.2.2.2.2.2.2.2.2.2.2.2.2.2.2.2.2
noncomputable abbrev x9d (kd:Int) (n:Int) (cell:Int) (mo:Int) (p:Addr) (pt:Int) (r:L2.St):L2.St:=some (.int kd)::some (.int n)::some (.int cell)::some (.int mo)::some (.ref p)::some (.int pt)::r
noncomputable abbrev x9c (kd:Int) (dl:Addr) (sl:Addr) (ev:Addr) (a:Int) (r:L2.St):L2.St:=some (.int kd)::some (.ref dl)::some (.ref sl)::some (.ref ev)::some (.int a)::r
noncomputable abbrev y9k (kd:Int) (dl:Addr) (a:Int) (o:Addr) (mo:Int) (r:L2.St):L2.St:=some (.int kd)::some (.ref dl)::some (.int a)::some (.ref o)::some (.int mo)::none::none::none::r
noncomputable abbrev x3p (kd:Int) (dl:Addr) (sl:Addr) (mo:Int) (si:Addr) (a:Int) (pa:Addr) (k:Int) (r:L2.St):L2.St:=some (.int kd)::some (.ref dl)::some (.ref sl)::some (.int mo)::some (.ref si)::some (.int a)::some (.ref pa)::some (.int k)::r
noncomputable abbrev w6d (cell:Int) (sl:Addr) (mo:Int) (n:Int) (kd:Int) (r:L2.St):L2.St:=some (.int cell)::some (.ref sl)::some (.int mo)::some (.int n)::some (.int kd)::r
noncomputable abbrev x3o (ca:Addr) (mo:Int) (st:Addr) (sl:Addr) (r:L2.St):L2.St:=some (.ref ca)::some (.int mo)::some (.ref st)::some (.ref sl)::r
noncomputable abbrev x1c (a:Addr) (st:Addr) (ot:Addr) (sl:Addr) (it:Addr) (fo:Addr) (r:L2.St):L2.St:=some (.ref a)::some (.ref st)::some (.ref ot)::some (.ref sl)::some (.ref it)::some (.ref fo)::r
theorem x4z (Y0:Cs Z0 0):ca (Cl Z0) 0:=kz1 Z0 Z0.g0 λ f fd F=>by
 have sc:=scq (z0h y8u) ["n"] [];obtain ⟨tLOW,gLOW⟩:=Z0.gLOW;kt_k
 ·obtain ⟨n,rfl,_⟩:=h;rfl
 obtain ⟨n,rfl,q⟩:=h;refine ⟨_,(z1b (z0m z2g (z0m z2d (z0m z4e (pv 0) (z6p (v:=.int (-9223372036854775808)) (by rfl) gLOW ⟨_,rfl⟩)) (z0m z8f z0c z0c)) (z6p (v:=.int (-9223372036854775808)) (by rfl) gLOW ⟨_,rfl⟩))),?_⟩
 (try dsimp only [z0t]);simp only [L2.start,t0h,t0j,List.replicate,t0k,t0m,Nat.reduceSub,Nat.reduceAdd,z2o,z2p]
 ktr_call z0b t0a;have e:(n - -9223372036854775808) % 18446744073709551616 + -9223372036854775808=z4u n:=by unfold z4u;lia
 rw [e];exact q
theorem x9z (Y0:Cs Z0 1):ca (Cl Z0) 1:=kz1 Z0 Z0.g1 λ f fd F=>by
 have sc:=scq (z0h x2v) ["x"] [];kt_k
 ·obtain ⟨n,rfl,_⟩:=h;rfl
 obtain ⟨n,rfl,q⟩:=h;refine ⟨_,(z1q (z1f z6a (pv 0) z0c) (z1b (x1f y2c z0c)) (z1b (z4p (z1f z8w (pv 0) z0c) z0c z0c))),?_⟩
 (try dsimp only [z0t]);simp only [L2.start,t0h,t0j,List.replicate,t0k,t0m,Nat.reduceSub,Nat.reduceAdd,z2o,z2p]
 ktr_call z0b t0a
 repeat' split
 all_goals (simp_all;done)
theorem x1k (Y0:Cs Z0 2):ca (Cl Z0) 2:=kz2 Z0 Z0.g2 λ f fd F=>by
 have sc:=scq (z0h y4x) ["x","y"] [];kt_k
 ·obtain ⟨x,y,rfl,_⟩:=h;rfl
 obtain ⟨x,y,rfl,hx,hy,q⟩:=h;refine ⟨_,(z1q (z1f z0z (pv 1) z0c) (z1b z0c) (z1b (z1d (cc Y0 0) hr z0l (z1o (z0m z6b (pv 0) (pv 1)))))),?_⟩
 (try dsimp only [z0t]);simp only [L2.start,t0h,t0j,List.replicate,t0k,t0m,Nat.reduceSub,Nat.reduceAdd,z2o,z2p]
 cell_end z0b t0a z4v;unfold w6e at q;by_cases h:y=0
 ·rw [if_pos h];rw [if_pos h] at q;exact q
 ·rw [if_neg h];rw [if_neg h] at q;unfold inB at hy;exact ⟨h,by lia,by lia,q⟩
theorem y7m (Y0:Cs Z0 3):ca (Cl Z0) 3:=kz2 Z0 Z0.g3 λ f fd F=>by
 have sc:=scq (z0h y2h) ["x","y"] [];kt_k
 ·obtain ⟨x,y,rfl,_⟩:=h;rfl
 obtain ⟨x,y,rfl,q⟩:=h;refine ⟨_,(z1b (z4p (z1f z0z (pv 1) z0c) (pv 0) (z0m z2l (pv 0) (pv 1)))),?_⟩
 (try dsimp only [z0t]);simp only [L2.start,t0h,t0j,List.replicate,t0k,t0m,Nat.reduceSub,Nat.reduceAdd,z2o,z2p]
 ktr_call z0b t0a;unfold x1d at q;by_cases h:y=0
 ·rw [if_pos h];rw [if_pos h] at q;exact q
 ·rw [if_neg h];rw [if_neg h] at q;exact ⟨h,q⟩
theorem w9b (Y0:Cs Z0 4):ca (Cl Z0) 4:=kz2 Z0 Z0.g4 λ f fd F=>by
 have sc:=scq (z0h w7m) ["word","x"] [];kt_k
 ·exact el2 vs h λ _ _ _=>rfl
 refine el2 vs h λ wd x h=>an2 h λ hw q=>?_;refine ⟨_,(z1q (z1f z0z (pv 0) z0p) (z1b (z1d (cc Y0 0) hr z0l (z1o (x1f y2c (pv 1))))) (z1q (z1f z0z (pv 0) z0p) (z1b (z1d (cc Y0 0) hr z0l (z1o (z7o w1q Z0.zabs boot_abs (z1o (pv 1)))))) (z1q (z1f z0z (pv 0) z0p) (z1b (z1d (cc Y0 1) hr z0l (z1o (pv 1)))) (z1q (z1f z0z (pv 0) z0p) (z1b (z4p (z1f z0z (pv 1) z0c) z0c z0c)) (z0q z1n))))),?_⟩
 (try dsimp only [z0t]);simp only [L2.start,t0h,t0j,List.replicate,t0k,t0m,Nat.reduceSub,Nat.reduceAdd,z2o,z2p]
 kpf_say z0b t0a z4v y8z;unfold z8h v5e at q;by_cases c0:wd=Str.ofString "neg"
 ·rw [if_pos c0] at q ⊢;exact q
 rw [if_neg c0] at q ⊢;by_cases c1:wd=Str.ofString "abs"
 ·rw [if_pos c1] at q ⊢;exact q
 rw [if_neg c1] at q ⊢;by_cases c2:wd=Str.ofString "sign"
 ·rw [if_pos c2] at q ⊢;exact q
 rw [if_neg c2] at q ⊢;by_cases c3:wd=Str.ofString "not"
 ·rw [if_pos c3];split<;>(split at q<;>first | exact q | contradiction)
 simp only [w6f,t1a,t1l,t3f] at hw;exact absurd hw (by simp only [c0,c1,c2,c3,or_self,t8s])
theorem w4o (Y0:Cs Z0 5):ca (Cl Z0) 5:=kz3 Z0 Z0.g5 λ f fd F=>by
 have sc:=scq (z0h w2g) ["word","x","y"] [];kt_k
 ·exact el3 vs h λ _ _ _ _=>rfl
 refine el3 vs h λ wd x y h=>an4 h λ hx hy hw q=>?_;refine ⟨_,(z1q (z1f z0z (pv 0) z0p) (z1b (z1d (cc Y0 0) hr z0l (z1o (z0m z2g (pv 1) (pv 2))))) (z1q (z1f z0z (pv 0) z0p) (z1b (z1d (cc Y0 0) hr z0l (z1o (z0m z4e (pv 1) (pv 2))))) (z1q (z1f z0z (pv 0) z0p) (z1b (z1d (cc Y0 0) hr z0l (z1o (z0m z5b (pv 1) (pv 2))))) (z1q (z1f z0z (pv 0) z0p) (z1b (z1d (cc Y0 2) hr z0l (z0v (pv 1) (pv 2)))) (z1q (z1f z0z (pv 0) z0p) (z1b (z1d (cc Y0 3) hr z0l (z0v (pv 1) (pv 2)))) (z1q (z1f z0z (pv 0) z0p) (z1b (z7o (z6r rfl) Z0.zmax t9q (z0v (pv 1) (pv 2)))) (z1q (z1f z0z (pv 0) z0p) (z1b (z7o (z4x rfl) Z0.zmin t9r (z0v (pv 1) (pv 2)))) (z1q (z1f z0z (pv 0) z0p) (z1b (z4p (z1f z6a (pv 1) (pv 2)) z0c z0c)) (z1q (z1f z0z (pv 0) z0p) (z1b (z4p (z1f z0z (pv 1) (pv 2)) z0c z0c)) (z1q (z1f z0z (pv 0) z0p) (z1b (z0m w8w (pv 1) (pv 2))) (z1q (z1f z0z (pv 0) z0p) (z1b (z0m v2h (pv 1) (pv 2))) (z1q (z1f z0z (pv 0) z0p) (z1b (z0m w8u (pv 1) (pv 2))) (z0q z1n))))))))))))),?_⟩
 (try dsimp only [z0t]);simp only [L2.start,t0h,t0j,List.replicate,t0k,t0m,Nat.reduceSub,Nat.reduceAdd,z2o,z2p]
 wp_walk using y6t,z9t,eqV,z0b,t0a,z4v,y2i,y0q;unfold z1g at q
 have hm:(-18446744073709551616 < x/\x < 18446744073709551616\/-18446744073709551616 < y/\y < 18446744073709551616):=by
  unfold inB at hx;lia
 by_cases c0:wd=Str.ofString "add"
 ·rw [if_pos c0];rw [if_pos c0] at q;exact q
 rw [if_neg c0] at q ⊢;by_cases c1:wd=Str.ofString "sub"
 ·rw [if_pos c1];rw [if_pos c1] at q;exact q
 rw [if_neg c1] at q ⊢;by_cases c2:wd=Str.ofString "mul"
 ·rw [if_pos c2];rw [if_pos c2] at q;exact ⟨hm,q⟩
 rw [if_neg c2] at q ⊢;by_cases c3:wd=Str.ofString "quo"
 ·rw [if_pos c3];rw [if_pos c3] at q;exact ⟨hx,hy,q⟩
 rw [if_neg c3] at q ⊢;by_cases c4:wd=Str.ofString "rest"
 ·rw [if_pos c4];rw [if_pos c4] at q;exact q
 rw [if_neg c4] at q ⊢;by_cases c5:wd=Str.ofString "max"
 ·rw [if_pos c5];rw [if_pos c5] at q;exact q
 rw [if_neg c5] at q ⊢;by_cases c6:wd=Str.ofString "min"
 ·rw [if_pos c6];rw [if_pos c6] at q;exact q
 rw [if_neg c6] at q ⊢;by_cases c7:wd=Str.ofString "less"
 ·rw [if_pos c7];rw [if_pos c7] at q;split<;>(split at q<;>first | exact q | contradiction)
 rw [if_neg c7] at q ⊢;by_cases c8:wd=Str.ofString "like"
 ·rw [if_pos c8];rw [if_pos c8] at q;split<;>(split at q<;>first | exact q | contradiction)
 rw [if_neg c8] at q ⊢;by_cases c9:wd=Str.ofString "and"
 ·rw [if_pos c9];rw [if_pos c9] at q;exact q
 rw [if_neg c9] at q ⊢;by_cases c10:wd=Str.ofString "or"
 ·rw [if_pos c10];rw [if_pos c10] at q;exact q
 rw [if_neg c10] at q ⊢;by_cases c11:wd=Str.ofString "xor"
 ·rw [if_pos c11];exact q
 simp only [two12,t1a,t1l,t3f] at hw;exact absurd hw (by simp only [c0,c1,c2,c3,c4,c5,c6,c7,c8,c9,c10,c11,or_self,t8s])
theorem x5d (Y0:Cs Z0 6):ca (Cl Z0) 6:=kz1 Z0 Z0.g6 λ f fd F=>by
 have sc:=scq (z0h y9e) ["word"] [];obtain ⟨tLOW,gLOW⟩:=Z0.gLOW;obtain ⟨tHIGH,gHIGH⟩:=Z0.gHIGH;kt_k
 ·exact el1 vs h λ _ _=>rfl
 refine el1 vs h λ wd h=>an2 h λ hw q1=>?_;refine ⟨_,(z1q (y7d w3b (pv 0) (z0r (z0i z0p (z0v z0p z0p))) rfl) (z1b z0c) (z1q (z1f z0z (pv 0) z0p) (z1b z0c) (z1q (z1f z0z (pv 0) z0p) (z1b (z6p (v:=.int (-9223372036854775808)) (by rfl) gLOW ⟨_,rfl⟩)) (z1q (z1f z0z (pv 0) z0p) (z1b (z6p (v:=.int 9223372036854775807) (by rfl) gHIGH ⟨_,rfl⟩)) (z1q (z1f z0z (pv 0) z0p) (z1b (x1f y2c z0c)) (z0q z1n)))))),?_⟩
 (try dsimp only [z0t]);simp only [L2.start,t0h,t0j,List.replicate,t0k,t0m,Nat.reduceSub,Nat.reduceAdd,z2o,z2p]
 ktr_call z0b t0a;refine ⟨smd,λ p hp=>?_⟩;have q:=q1 _ (z0a hp (.tup [V.str "add",V.str "or",V.str "xor"]));by_cases t:Str.ofString "add"=wd\/Str.ofString "or"=wd\/Str.ofString "xor"=wd
 ·rw [if_pos t]
  rcases t with t | t | t<;>subst t
  ·rw [w9o] at q;exact q
  ·rw [v2m] at q;exact q
  ·rw [w9j] at q;exact q
 rw [if_neg t];by_cases c0:wd=Str.ofString "mul"
 ·rw [if_pos c0];subst c0;rw [w9k] at q;exact q
 rw [if_neg c0];by_cases c1:wd=Str.ofString "max"
 ·rw [if_pos c1];subst c1;rw [w9m] at q;exact q
 rw [if_neg c1];by_cases c2:wd=Str.ofString "min"
 ·rw [if_pos c2];subst c2;rw [w9l] at q;exact q
 rw [if_neg c2];by_cases c3:wd=Str.ofString "and"
 ·rw [if_pos c3];subst c3;rw [w9n] at q;exact q
 unfold isF at hw;simp only [fw,t1a,t1l,t3f] at hw
 rcases hw with z | z | z | z | z | z | z
 ·exact absurd (.inl z.symm) t
 ·exact absurd z c0
 ·exact absurd z c1
 ·exact absurd z c2
 ·exact absurd z c3
 ·exact absurd (.inr (.inl z.symm)) t
 ·exact absurd (.inr (.inr z.symm)) t
theorem y7v (Y0:Cs Z0 7):ca (Cl Z0) 7:=kz1 Z0 Z0.g7 λ f fd F=>by
 have sc:=scq (z0h y2v) ["form"] [];obtain ⟨dPARTS,gPARTS,kvs,TK,TF⟩:=Z0.pt;kt_k
 ·obtain ⟨i,_,rfl,_⟩:=h;rfl
 obtain ⟨i,hi,rfl,q⟩:=h;refine ⟨_,(z1b (x4q (own:=["kind","place"]) rfl (z4m (w4g (by rfl) gPARTS TK (pv 0) (λ _ _=>rfl))) (by decide) (by decide) rfl (by decide) (λ _ _ _ _=>(w4f (K:=K) (n:=2) rfl (z9l rfl (z1x (z6l 0 ["kind","place"]) (z1x (z6l 1 ["kind","place"]) z6o))))) (λ _ _ _ _=>(pv 1)) (λ _ _ _ _=>(z1f z0z (pv 0) z0p)))),?_⟩
 (try dsimp only [z0t]);simp only [L2.start,t0h,t0j,List.replicate,t0k,t0m,Nat.reduceSub,Nat.reduceAdd,z2o,z2p]
 ktr_call z0b t0a;kd_p;obtain ⟨a,xs,e1,e2,e3⟩:=y3a TF (w0y hi);refine gz ?_;clear gz Gz;refine ⟨a,e1,?_⟩;have lf:=y6g (i:=i);unfold z9a at q;generalize (formsL.getD i ("",[])).snd=fs at *;obtain ⟨l3,at3⟩:=x0g e3;refine CompTI.mk (xs:=xs) e2.sq (λ j ys σ H'=>H'=H/\ys=(z8u (fs.take j)).map V.int/\∃y0 y1,σ=[y0,y1]) ⟨rfl,rfl,_,_,rfl⟩ (λ j ys σ H' hj h=>⟨e2.sq,?_⟩) (λ j x ys σ H' e h=>?_) (λ ys σ H' h p hp=>?_)
 ·rw [h.2.1,t0c];have:=y2x (fs.take j);have:=s0n j fs;exact z0n (by lia)
 ·kd_p;obtain ⟨rfl,rfl,y0,y1,rfl⟩:=h;obtain ⟨f,b,ef,rfl,kb⟩:=at3 e;refine gz ?_;clear gz Gz;have pl:=y7g ef;ktr_call z0b t0a;refine ⟨_,kb.sq,rfl,_,_,rfl,_,_,rfl,rfl,?_⟩;rw [pl];by_cases c:f.1=("step" : Str)
  ·kpf_say z0b t0a (if_pos c) t0l;exact ⟨_,rfl⟩
  ·kpf_say z0b t0a (if_neg c) t0a;exact ⟨_,rfl⟩
 ·kd_p;obtain ⟨rfl,rfl,y0,y1,rfl⟩:=h;refine gz ?_;clear gz Gz;rw [l3,t1h];exact q _ _ (z0a hp _) z0d
theorem w0d (Y0:Cs Z0 8):ca (Cl Z0) 8:=kz1 Z0 Z0.g8 λ f fd F=>by
 have sc:=scq (z0h x3v) ["step"] [];kt_k
 ·obtain ⟨a,i,xs,_,rfl,_⟩:=h;rfl
 obtain ⟨a,i,xs,hi,rfl,ha,h0,hp,q⟩:=h;refine ⟨_,(z1b (z7z z1a Z0.ztuple t2g (z1o (z3d (own:=["place"]) (fv:=["step"]) (js:=[0]) rfl (z4h (z1d (cc Y0 7) hr z0l (z1o (z0s z0g (pv 0) z0c)))) rfl (by decide) rfl (by decide) (by kcj_m) (z2y (by rfl)) rfl (y6v (by kcf_m)) (λ _ _ _ _=>(z6l 0 ["place","step"])) (λ _ _ _ _=>(z0s z0g (pv 1) (pv 0))))))),?_⟩
 (try dsimp only [z0t]);simp only [L2.start,t0h,t0j,List.replicate,t0k,t0m,Nat.reduceSub,Nat.reduceAdd,z2o,z2p]
 cell_end z0b t0a y0s;refine ⟨xs,ha,_,z0f h0,i,hi,rfl,λ H1 p1 s1 h1=>?_⟩;refine CompL.mk (xs:=(z9a i).map V.int) (.of h1) (λ j ys σ H'=>H'=H1/\ys=(y3b xs (z9a i)).take j/\∃y0,σ=[y0,some (.ref a)]) ⟨rfl,rfl,_,rfl⟩ (λ j ys σ H' _ h=>by rw [h.1];exact .of h1) (λ j x ys σ H' e h=>?_) (λ ys σ H' h p hp2=>?_)
 ·kd_p;obtain ⟨rfl,rfl,y0,rfl⟩:=h;obtain ⟨m,hm,rfl⟩:=v0l e;obtain ⟨p0,p1⟩:=hp m (t0i hm);refine gz ?_;clear gz Gz;have ge:=w1r i;have jl:j < (z9a i).length:=(t0g.mp hm).1;refine ⟨by have:=s0n j (y3b xs (z9a i));exact z0n (by lia),?_⟩;ktr_call z0b t0a;obtain ⟨v,hv⟩:∃v,atI xs m=some v:=w5u p0 p1;refine ⟨_,s1 _ _ ha,_,hv,?_⟩;refine ⟨?_,_,rfl⟩;rw [t1j]
  congr 1
  unfold y3b;rw [t0q,hm];show [v]=[(atI xs m).getD .non];rw [hv];rfl
 ·obtain ⟨rfl,rfl,y0,rfl⟩:=h;rw [t1o (by unfold y3b;simp)];refine ⟨p,rfl,_,.inl ⟨.of z0d,λ l hl=>q _ _ (s1.trans ((z0a hp2 _).trans (z0a hl _))) z0d⟩⟩
theorem w0e (Y0:Cs Z0 9):ca (Cl Z0) 9:=kz1 Z0 Z0.g9 λ f fd F=>by
 have sc:=scq (z0h x3w) ["sides"] ["product","side"];kt_k
 ·obtain ⟨a,ns,rfl,_⟩:=h;rfl
 obtain ⟨a,ns,rfl,ha | ha,hs,q⟩:=h
 ·refine ⟨_,(z1u 1 sc.nd z0c (z0o (z3g t1u rfl (z4h (pv 0)) (z9p 2 sc.nd) (z0q (y4r 1 sc.nd (z0m z5b (pv 1) (pv 2))))) (z1b (pv 1)))),?_⟩
  (try dsimp only [z0t]);simp only [L2.start,t0h,t0j,List.replicate,t0k,t0m,Nat.reduceSub,Nat.reduceAdd,z2o,z2p]
  ktr_call z0b t0a;refine LoopL.mk (xs:=ns.map V.int) (.of ha) (λ i σ H'=>H'=H/\∃y,σ=[some (.ref a),some (.int (z0e (ns.take i))),y]) ⟨rfl,_,rfl⟩ (λ i σ H' _ h=>by rw [h.1];exact .of ha) (λ i x σ H' e h=>?_) (λ σ H' h=>?_)
  ·obtain ⟨h1,y,rfl⟩:=h;subst h1;obtain ⟨m,rfl,hm,m0,m1⟩:=y5o hs e;ktr_call z0b t0a;rw [y1e hm];exact ⟨.inr ⟨by lia,by lia⟩,rfl,_,rfl⟩
  ·obtain ⟨h1,y,rfl⟩:=h;subst h1;ktr_call z0b t0a;rw [z0j,t1h];exact q
 ·refine ⟨_,(z1u 1 sc.nd z0c (z0o (z3g t1u rfl (z4m (pv 0)) (z9p 2 sc.nd) (z0q (y4r 1 sc.nd (z0m z5b (pv 1) (pv 2))))) (z1b (pv 1)))),?_⟩
  (try dsimp only [z0t]);simp only [L2.start,t0h,t0j,List.replicate,t0k,t0m,Nat.reduceSub,Nat.reduceAdd,z2o,z2p]
  ktr_call z0b t0a;refine LoopT.mk (xs:=ns.map V.int) (.of ha) (λ i σ H'=>H'=H/\∃y,σ=[some (.ref a),some (.int (z0e (ns.take i))),y]) ⟨rfl,_,rfl⟩ (λ i σ H' _ h=>by rw [h.1];exact .of ha) (λ i x σ H' e h=>?_) (λ σ H' h=>?_)
  ·obtain ⟨h1,y,rfl⟩:=h;subst h1;obtain ⟨m,rfl,hm,m0,m1⟩:=y5o hs e;ktr_call z0b t0a;rw [y1e hm];exact ⟨.inr ⟨by lia,by lia⟩,rfl,_,rfl⟩
  ·obtain ⟨h1,y,rfl⟩:=h;subst h1;ktr_call z0b t0a;rw [z0j,t1h];exact q
theorem x5l (Y0:Cs Z0 10):ca (Cl Z0) 10:=kz1 Z0 Z0.g10 λ f fd F=>by
 have sc:=scq (z0h y9n) ["sides"] [];kt_k
 ·exact el2 vs h λ _ _ _=>rfl
 refine el2 vs h λ a ns h=>an4 h λ ha hs h63 q=>?_;refine ⟨_,(z1b (z1d (cc Y0 9) hr z0l (z1o (z5y (own:=["side"]) rfl (z4m (pv 0)) (by decide) (by decide) rfl (by decide) (λ _ _ _ _=>(z6l 0 ["side"])) (λ _ _ _ _=>(z4p (z1f z8g (pv 0) z0c) (pv 0) z0c)))))),?_⟩
 (try dsimp only [z0t]);simp only [L2.start,t0h,t0j,List.replicate,t0k,t0m,Nat.reduceSub,Nat.reduceAdd,z2o,z2p]
 ktr_call z0b t0a;refine CompT.mk (xs:=ns.map V.int) (.of ha) (λ i ys σ H'=>H'=H/\ys=((ns.take i).map z1m).map V.int/\∃y,σ=[y]) ⟨rfl,rfl,_,rfl⟩ (λ i ys σ H' _ h=>by rw [h.1];exact .of ha) (λ i x ys σ H' e h=>?_) (λ ys σ H' h p hp=>?_)
 ·obtain ⟨h1,h2,y,rfl⟩:=h;subst h1 h2;kd_p;obtain ⟨m,rfl,hm,m0,m1⟩:=y5o hs e;refine gz ?_;clear gz Gz
  have e1:((ns.take (i+1)).map z1m).map V.int=((ns.take i).map z1m).map V.int++[V.int (z1m m)]:=by
   rw [t1j,hm,t0l,t0l];rfl
  have e2:(((ns.take i).map z1m).map V.int).length < sizeLine:=by
   rw [t0c,t0c,t0p];exact z0n (by lia)
  cell_end z0b t0a e1;refine ⟨e2,?_⟩;unfold z1m;by_cases m2:m=0
  ·simp [m2]
  ·simp [m2]
 ·obtain ⟨h1,h2,y,rfl⟩:=h;subst h1 h2;rw [z0j,t1h];exact ⟨p,_,rfl,.inl z0d,w3c hs,q _ (z0a hp _)⟩
theorem x5p (Y0:Cs Z0 11):ca (Cl Z0) 11:=kz1 Z0 Z0.g11 λ f fd F=>by
 have sc:=scq (z0h y9r) ["sides"] [];obtain ⟨tMOST_SIDES,gMOST_SIDES⟩:=Z0.gMOST_SIDES;obtain ⟨tMOST_BREADTH,gMOST_BREADTH⟩:=Z0.gMOST_BREADTH;kt_k
 ·exact el2 vs h λ _ _ _=>rfl
 refine el2 vs h λ a ns h=>an5 h λ ha hs h63 nb q=>?_;refine ⟨_,(z1q (z1f z8w (z3k Z0.zlen (pv 0)) (z6p (v:=.int 6) (by rfl) gMOST_SIDES ⟨_,rfl⟩)) (z0q z1n) (z1q (z1f z8w (z1d (cc Y0 10) hr z0l (z1o (pv 0))) (z6p (v:=.int 512) (by rfl) gMOST_BREADTH ⟨_,rfl⟩)) (z0q z1n) (z1b (pv 0)))),?_⟩
 (try dsimp only [z0t]);simp only [L2.start,t0h,t0j,List.replicate,t0k,t0m,Nat.reduceSub,Nat.reduceAdd,z2o,z2p]
 cell_end z0b t0a y5g;unfold z6t at nb;refine ⟨_,.inr (.of ha),?_⟩;rw [z0j,if_neg (by lia)];refine ⟨ns,ha,hs,h63,λ H1 s1=>?_⟩;rw [if_neg (by lia)];exact q _ s1
theorem y7j (Y0:Cs Z0 12):ca (Cl Z0) 12:=kz1 Z0 Z0.g12 λ f fd F=>by
 have sc:=scq (z0h y2e) ["sides"] ["strides","stride","side"];kt_k
 ·exact el2 vs h λ _ _ _=>rfl
 refine el2 vs h λ a ns h=>an4 h λ ha hs h63 q=>?_;refine ⟨_,(z1u 1 sc.nd (z3i z1j) (z1u 2 sc.nd z0c (z0o (z3g t1u rfl (x4o (by rfl) Z0.zreversed (pv 0)) (z9p 3 sc.nd) (z0o (z1l (z5l (pv 1) (pv 2))) (z0q (y4r 2 sc.nd (z0m z5b (pv 2) (pv 3)))))) (z1b (y5s rfl (by rfl) (by rfl) Z0.ztuple Z0.zreversed (pv 1)))))),?_⟩
 (try dsimp only [z0t]);simp only [L2.start,t0h,t0j,List.replicate,t0k,t0m,Nat.reduceSub,Nat.reduceAdd,z2o,z2p]
 ktr_call z0b t0a;refine ⟨smd,λ p hp=>?_⟩;refine LoopV.mk (xs:=ns.map V.int) (.of (z0a hp _ _ _ ha)) (λ i σ H'=>Same H H'/\H' p=some (.lst ((stL ns i).map V.int))/\∃y,σ=[some (.ref a),some (.ref p),some (.int (stP ns i)),y]) ⟨z0a hp _,z0d,_,rfl⟩ (λ i σ H' _ h=>.of (h.1 _ _ ha)) (λ i x σ H' hi e h=>?_) (λ σ H' h=>?_)
 ·kd_p;obtain ⟨h1,h2,y,rfl⟩:=h;obtain ⟨m,rfl,hm,m0,m1⟩:=y5o hs e;refine gz ?_;clear gz Gz;rw [z0j] at hi hm
  have sm:((stL ns i).map V.int).length < sizeLine:=by
   rw [t0c,stL,t0c,t1x];exact z0n (by lia)
  have s2:Same H (upd H' p (.lst (((stL ns i).map V.int)++[V.int (stP ns i)]))):=λ b o e=>by
   have nb:b≠p:=λ z=>by rw [z,hp] at e;cases e
   rw [z0u nb];exact h1 b o e
  ktr_call z0b t0a;rw [y8x hi hm,y3n,t0l];refine ⟨⟨_,h2⟩,_,h2,sm,.inr ⟨by lia,by lia⟩,s2,rfl,?_⟩;exact ⟨rfl,_,rfl⟩
 ·obtain ⟨h1,h2,y,rfl⟩:=h;rw [z0j] at h2;ktr_call z0b t0a;refine ⟨_,.of h2,λ p2 hp2=>?_⟩;rw [← t7k];exact q _ _ (h1.trans (z0a hp2 _)) z0d
theorem x5c (Y0:Cs Z0 13):ca (Cl Z0) 13:=kz2 Z0 Z0.g13 λ f fd F=>by
 have sc:=scq (z0h y9d) ["sides","at"] ["side","coordinate"];kt_k
 ·exact el4 vs h λ _ _ _ _ _=>rfl
 refine el4 vs h λ a b ns ms h=>an6 h λ ha hb hs h63 g q2=>?_;refine ⟨_,(z1q (z1f z8g (z3k Z0.zlen (pv 1)) (z3k Z0.zlen (pv 0))) (z0q z1n) (z0o (z3g t1u rfl (y9w (by rfl) Z0.zzip (z0v (pv 0) (pv 1))) (z7i (n:=2) (z9l rfl (z1x (z9p 2 sc.nd) (z1x (z9p 3 sc.nd) z6o)))) (z0q (z9q (PW.pt (z5a (z1f z6a (pv 3) z0c) (z3m (z1f y7i (pv 3) (pv 2))))) (z0q z1n) z5x))) (z1b (z7o (y6l rfl) Z0.zsum boot_sum (z1o (z5y (own:=["coordinate","stride"]) rfl (y9w (by rfl) Z0.zzip (z0v (pv 1) (z1d (cc Y0 12) hr z0l (z1o (pv 0))))) (by decide) (by decide) rfl (by decide) (λ _ _ _ _=>(z7i (n:=2) (z9l rfl (z1x (z6l 0 ["coordinate","stride"]) (z1x (z6l 1 ["coordinate","stride"]) z6o))))) (λ _ _ _ _=>(z0m z5b (pv 0) (pv 1))))))))),?_⟩
 (try dsimp only [z0t]);simp only [L2.start,t0h,t0j,List.replicate,t0k,t0m,Nat.reduceSub,Nat.reduceAdd,z2o,z2p]
 ktr_call z0b t0a;have hl:=g.1;refine ⟨_,.inr (.of hb),_,.inr (.of ha),?_⟩;rw [z0j,z0j,if_neg (by lia)];refine LoopZ.mk (xs:=ns.map V.int) (ys:=ms.map V.int) ns.length (by rw [z0j,z0j,hl,t4x]) (.of ha) (.of hb) (λ i σ H'=>Same H H'/\∃y2 y3,σ=[some (.ref a),some (.ref b),y2,y3]) ⟨Same.refl _,_,_,rfl⟩ (λ i σ H' _ h=>⟨.of (h.1 _ _ ha),.of (h.1 _ _ hb)⟩) (λ i x y σ H' T hi ex ey h hT=>?_) (λ σ H' h=>?_)
 ·kd_p;obtain ⟨h1,y2,y3,rfl⟩:=h;obtain ⟨n,rfl,hn⟩:=z3q ex;obtain ⟨m,rfl,hm⟩:=z3q ey;refine gz ?_;clear gz Gz;have b:=g.2 i m n hm hn;ktr_call z0b t0a;rw [if_neg (by lia),if_neg (by lia)];exact ⟨h1.trans (z0a hT _),_,rfl⟩
 ·obtain ⟨h1,y2,y3,rfl⟩:=h;cell_end z0b t0a z7d;refine ⟨ns,h1 _ _ ha,hs,h63,λ H1 p s1 hp=>?_⟩;have hb1:=s1 _ _ (h1 _ _ hb);have lz:(List.zipWith (λ a b=>a * b) ms (stL ns ns.length).reverse).length=ns.length:=by rw [t8a,t5a,stL,t0c,t1x,hl,t4x]
  refine CompZ.mk (xs:=ms.map V.int) (ys:=(stL ns ns.length).reverse.map V.int) ns.length (by rw [z0j,w7h,hl,t4x]) (.of hb1) (.of hp) (λ i zs σ H'=>Same H1 H'/\zs=((List.zipWith (λ a b=>a * b) ms (stL ns ns.length).reverse).take i).map V.int/\∃y z,σ=[y,z]) ⟨Same.refl _,rfl,_,_,rfl⟩ (λ i zs σ H' _ h=>⟨.of (h.1 _ _ hb1),.of (h.1 _ _ hp)⟩) (λ i x y zs σ H' T hi ex ey h hT=>?_) (λ zs σ H' h q hq=>?_) (λ i zs σ H' h=>?_)
  ·kd_p;obtain ⟨h3,rfl,y4,y5,rfl⟩:=h;obtain ⟨m,rfl,hm⟩:=z3q ex;obtain ⟨t,rfl,ht⟩:=z3q ey;obtain ⟨n,hn⟩:∃n,ns[i]?=some n:=⟨ns[i],t0e hi⟩;refine gz ?_;clear gz Gz;have mb:=g.2 i m n hm hn;have nb:=hs n (t0i hn);have ez:(List.zipWith (λ a b=>a * b) ms (stL ns ns.length).reverse)[i]?=some (m * t):=by rw [t7e,hm,ht]
   have et:((List.zipWith (λ a b=>a * b) ms (stL ns ns.length).reverse).take (i+1)).map V.int=((List.zipWith (λ a b=>a * b) ms (stL ns ns.length).reverse).take i).map V.int++[V.int (m * t)]:=by
    rw [t1j,ez,t0l];rfl
   have sm:(((List.zipWith (λ a b=>a * b) ms (stL ns ns.length).reverse).take i).map V.int).length < sizeLine:=by rw [t0c,t0p];exact z0n (by lia)
   refine ⟨sm,?_⟩;cell_end z0b t0a et;exact ⟨.inl ⟨by lia,by lia⟩,h3.trans (z0a hT _),_,rfl⟩
  ·kd_p;obtain ⟨h3,rfl,y4,y5,rfl⟩:=h;refine gz ?_;clear gz Gz;rw [t1o (by lia)];exact ⟨q,rfl,_,.of z0d,q2 _ ((h1.trans s1).trans (h3.trans (z0a hq _)))⟩
  ·obtain ⟨h3,rfl,_⟩:=h;rw [t0c,t0p];exact z0n (by lia)
theorem w9h (Y0:Cs Z0 14):ca (Cl Z0) 14:=kz2 Z0 Z0.g14 λ f fd F=>by
 have sc:=scq (z0h w7s) ["sides","place"] ["at","left","side"];kt_k
 ·exact el3 vs h λ _ _ _ _=>rfl
 refine el3 vs h λ a ns pl h=>an6 h λ ha hs h63 p0 p1 q2=>?_;refine ⟨_,(z1q (PW.pt (z5a (z1f z6a (pv 1) z0c) (z3m (z1f y7i (pv 1) (z1d (cc Y0 9) hr z0l (z1o (pv 0))))))) (z0q z1n) (z1u 2 sc.nd (z3i z1j) (z1u 3 sc.nd (pv 1) (z0o (z3g t1u rfl (x4o (by rfl) Z0.zreversed (pv 0)) (z9p 4 sc.nd) (z0o (z1l (z5l (pv 2) (z0m z2d (pv 3) (pv 4)))) (z0q (y4r 3 sc.nd (z0m z6b (pv 3) (pv 4)))))) (z1b (y5s rfl (by rfl) (by rfl) Z0.ztuple Z0.zreversed (pv 2))))))),?_⟩
 (try dsimp only [z0t]);simp only [L2.start,t0h,t0j,List.replicate,t0k,t0m,Nat.reduceSub,Nat.reduceAdd,z2o,z2p]
 cell_end z0b t0a z7u;rw [if_neg (by lia)];refine ⟨ns,.inr ha,hs,?_⟩;rw [if_neg (by lia)];have nz:=y7f (ns:=ns) (by lia);refine ⟨smd,λ p hp=>?_⟩;refine LoopV.mk (xs:=ns.map V.int) (.of (z0a hp _ _ _ ha)) (λ i σ H'=>Same H H'/\H' p=some (.lst ((dgL ns pl i).map V.int))/\∃y,σ=[some (.ref a),some (.int pl),some (.ref p),some (.int (lfI ns pl i)),y]) ⟨z0a hp _,z0d,_,rfl⟩ (λ i σ H' _ h=>.of (h.1 _ _ ha)) (λ i x σ H' hi e h=>?_) (λ σ H' h=>?_)
 ·kd_p;obtain ⟨h1,h2,y,rfl⟩:=h;obtain ⟨m,rfl,hm,m0,m1⟩:=y5o hs e;refine gz ?_;clear gz Gz;rw [z0j] at hi hm;have mz:=nz m (t0i hm);have rg:=y3v hi hm
  have sm:((dgL ns pl i).map V.int).length < sizeLine:=by
   rw [t0c,dgL,t0c,t1x];exact z0n (by lia)
  have d1:dgI ns pl i=lfI ns pl i % m:=by unfold dgI;rw [rg]
  have l1:lfI ns pl (i+1)=lfI ns pl i / m:=by show lfI ns pl i / _=_;rw [rg]
  have fd:(lfI ns pl i).fdiv m=lfI ns pl i / m:=t2r _ m0
  have s2:Same H (upd H' p (.lst (((dgL ns pl i).map V.int)++[V.int (lfI ns pl i % m)]))):=λ b o e=>by
   have nb:b≠p:=λ z=>by rw [z,hp] at e;cases e
   rw [z0u nb];exact h1 b o e
  ktr_call z0b t0a;rw [l1,x0p,t0l,d1,fd];exact ⟨⟨_,h2⟩,by lia,_,h2,sm,mz,by lia,by lia,s2,rfl,rfl,_,rfl⟩
 ·obtain ⟨h1,h2,y,rfl⟩:=h;rw [z0j] at h2;ktr_call z0b t0a;refine ⟨_,.of h2,λ p2 hp2=>?_⟩;rw [← t7k];exact q2 _ _ (h1.trans (z0a hp2 _)) z0d
theorem w4r (Y0:Cs Z0 15):ca (Cl Z0) 15:=kz1 Z0 Z0.g15 λ f fd F=>by
 have sc:=scq (z0h w2t) ["sides"] [];kt_k
 ·exact el2 vs h λ _ _ _=>rfl
 refine el2 vs h λ a ns h=>an5 h λ ha hs h63 h512 q=>?_;refine ⟨_,(z1b (z3d (own:=["place"]) (fv:=["sides"]) (js:=[0]) rfl (z2j (by rfl) Z0.zrange (z1o (z1d (cc Y0 9) hr z0l (z1o (pv 0))))) rfl (by decide) rfl (by decide) (by kcj_m) (z2y (by rfl)) rfl (y6v (by kcf_m)) (λ _ _ _ _=>(z6l 0 ["place","sides"])) (λ _ _ _ _=>(z1d (cc Y0 14) hr z0l (z0v (pv 1) (pv 0)))))),?_⟩;have pn:=z8t λ n hn=>(hs n hn).1;cell_end z0b t0a z7u;refine ⟨ns,.inr ha,hs,by lia,by lia,?_⟩;refine CompR.mk (λ j ys σ G=>∃ps:List Addr,Same H G/\ys=ps.map V.ref/\TpsAt G ps ((w6i ns).take j)/\∃y,σ=[y,some (.ref a)]) ⟨[],Same.refl _,rfl,⟨rfl,λ i t e=>by simp at e⟩,_,rfl⟩ (λ j ys σ G hj h=>?_) (λ ys σ G h p hp=>?_)
 ·kd_p;obtain ⟨ps,sG,rfl,tp,y,rfl⟩:=h;refine gz ?_;clear gz Gz;have pl:=tp.1;rw [t0p,y8p] at pl;refine ⟨by rw [t0c];exact z0n (by lia),?_⟩;cell_end z0b t0a w2p;refine ⟨ns,sG _ _ ha,hs,h63,by lia,by lia,λ H1 p s1 hp=>⟨sG.trans s1,ps++[p],by rw [t0l];rfl,?_,_,rfl⟩⟩;rw [t1j,x8f (by lia)];refine (tp.mono λ b xs e=>s1 _ _ e).snoc ?_;rw [hp,show (0:Int)+(j:Int)=(j:Int) by lia];rfl
 ·kd_p;obtain ⟨ps,sG,rfl,tp,y,rfl⟩:=h;refine gz ?_;clear gz Gz;rw [t1o (by rw [y8p];lia)] at tp;exact q _ p ps (sG.trans (z0a hp _)) z0d (tp.mono λ b xs e=>z0a hp _ _ _ e)
theorem y7u (Y0:Cs Z0 16):ca (Cl Z0) 16:=kz3 Z0 Z0.g16 λ f fd F=>by
 have sc:=scq (z0h y2u) ["row","k","number"] [];kt_k
 ·exact el4 vs h λ _ _ _ _ _=>rfl
 refine el4 vs h λ a ns k m h=>an4 h λ ha h63 hk q=>?_;refine ⟨_,(z1b (z0m z2h (z0m z2h (z1h y1a (pv 0) z1r (z1p (pv 1))) (z0r (z1o (pv 2)))) (z1h y1a (pv 0) (z1p (z0m z2g (pv 1) z0c)) z1r))),?_⟩
 (try dsimp only [z0t]);simp only [L2.start,t0h,t0j,List.replicate,t0k,t0m,Nat.reduceSub,Nat.reduceAdd,z2o,z2p]
 ktr_call z0b t0a;refine ⟨_,ha,?_,λ r1 H1 s1 hr1=>⟨smd,λ p hp=>⟨_,z0a hp _ _ _ hr1,?_,λ r2 H2 s2 hr2=>⟨_,s2 _ _ (z0a hp _ _ _ (s1 _ _ ha)),?_,λ r3 H3 s3 hr3=>⟨_,s3 _ _ hr2,_,hr3,?_,λ r4 H4 s4 hr4=>?_⟩⟩⟩⟩⟩
 ·rw [z0j];intro z;have z2:=z.2;simp only [HT.sIx] at z2;rw [if_neg (by lia)] at z2;lia
 ·rw [y3c (by lia),z0j];exact small (by rw [t0p];lia)
 ·rw [z0j];intro z;have z1:=z.1;simp only [HT.sIx] at z1;rw [if_neg (by lia)] at z1;lia
 ·rw [show (k:Int)+1=((k+1:Nat):Int) by lia,y3c (by lia),y3d (by lia)];simp only [t0o,t0c,t0p,t2d,t0h,t0j];exact small (by lia)
 rw [show (k:Int)+1=((k+1:Nat):Int) by lia,y3c (by lia),y3d (by lia)] at hr4;refine q _ _ (s1.trans ((z0a hp _).trans (s2.trans (s3.trans s4)))) ?_;rw [hr4,t6m,if_pos hk,t3a,t0l,z2o];rfl
theorem x5q (Y0:Cs Z0 17):ca (Cl Z0) 17:=kz3 Z0 Z0.g17 λ f fd F=>by
 have sc:=scq (z0h y9s) ["row","k","number"] [];kt_k
 ·exact el4 vs h λ _ _ _ _ _=>rfl
 refine el4 vs h λ a ns k m h=>an3 h λ ha h63 q=>?_;refine ⟨_,(z1b (z0m z2h (z0m z2h (z1h z1y (pv 0) z1r (z1p (pv 1))) (z0r (z1o (pv 2)))) (z1h z1y (pv 0) (z1p (pv 1)) z1r))),?_⟩
 (try dsimp only [z0t]);simp only [L2.start,t0h,t0j,List.replicate,t0k,t0m,Nat.reduceSub,Nat.reduceAdd,z2o,z2p]
 ktr_call z0b t0a;refine ⟨_,ha,λ r1 H1 s1 hr1=>⟨smd,λ p hp=>⟨_,z0a hp _ _ _ hr1,?_,λ r2 H2 s2 hr2=>⟨_,s2 _ _ (z0a hp _ _ _ (s1 _ _ ha)),λ r3 H3 s3 hr3=>⟨_,s3 _ _ hr2,_,hr3,?_,λ r4 H4 s4 hr4=>?_⟩⟩⟩⟩⟩
 ·rw [z3s,z0j];exact small (by rw [t0p];lia)
 ·rw [z3s,z4a];simp only [t0o,t0c,t0p,t2d,t0h,t0j];exact small (by lia)
 rw [z3s,z4a] at hr4;refine q _ _ (s1.trans ((z0a hp _).trans (s2.trans (s3.trans s4)))) ?_;rw [hr4];unfold z7b;rw [t0l,t0l];rfl
theorem y7t (Y0:Cs Z0 18):ca (Cl Z0) 18:=kz2 Z0 Z0.g18 λ f fd F=>by
 have sc:=scq (z0h y2t) ["row","k"] [];kt_k
 ·exact el3 vs h λ _ _ _ _=>rfl
 refine el3 vs h λ a ns k h=>an4 h λ ha h63 hk q=>?_;refine ⟨_,(z1b (z0m z2h (z1h y1a (pv 0) z1r (z1p (pv 1))) (z1h y1a (pv 0) (z1p (z0m z2g (pv 1) z0c)) z1r))),?_⟩
 (try dsimp only [z0t]);simp only [L2.start,t0h,t0j,List.replicate,t0k,t0m,Nat.reduceSub,Nat.reduceAdd,z2o,z2p]
 ktr_call z0b t0a;refine ⟨_,ha,?_,λ r1 H1 s1 hr1=>⟨_,s1 _ _ ha,?_,λ r3 H3 s3 hr3=>⟨_,s3 _ _ hr1,_,hr3,?_,λ r4 H4 s4 hr4=>?_⟩⟩⟩
 ·rw [z0j];intro z;have z2:=z.2;simp only [HT.sIx] at z2;rw [if_neg (by lia)] at z2;lia
 ·rw [z0j];intro z;have z1:=z.1;simp only [HT.sIx] at z1;rw [if_neg (by lia)] at z1;lia
 ·rw [show (k:Int)+1=((k+1:Nat):Int) by lia,y3c (by lia),y3d (by lia)];simp only [t0c,t0p,t2d];exact small (by lia)
 rw [show (k:Int)+1=((k+1:Nat):Int) by lia,y3c (by lia),y3d (by lia)] at hr4;refine q _ _ (s1.trans (s3.trans s4)) ?_;rw [hr4,t4u,t0l]
theorem x5n (Y0:Cs Z0 19):ca (Cl Z0) 19:=kz2 Z0 Z0.g19 λ f fd F=>by
 have sc:=scq (z0h y9p) ["sides","side"] [];kt_k
 ·exact el3 vs h λ _ _ _ _=>rfl
 refine el3 vs h λ a ns side h=>an3 h λ ha no q=>?_;refine ⟨_,(z0q (z9q (PW.pt (z5a (z1f z6a (pv 1) z0c) (z3m (z1f y7i (pv 1) (z3k Z0.zlen (pv 0)))))) (z0q z1n) z5x)),?_⟩
 (try dsimp only [z0t]);simp only [L2.start,t0h,t0j,List.replicate,t0k,t0m,Nat.reduceSub,Nat.reduceAdd,z2o,z2p]
 ktr_call z0b t0a;unfold off at no;rw [if_neg (by lia)];refine ⟨_,.inr (.of ha),?_⟩;rw [z0j,if_neg (by lia)];exact q
theorem y3z (Y0:Cs Z0 20):ca (Cl Z0) 20:=kz2 Z0 Z0.g20 λ f fd F=>by
 have sc:=scq (z0h z9c) ["sides","order"] [];kt_k
 ·exact el4 vs h λ _ _ _ _ _=>rfl
 refine el4 vs h λ a b ns os h=>an6 h λ ha hb h20 h21 tk q2=>?_;refine ⟨_,(z1q (z1f (w8v hr.units0) (z7o y6m Z0.zsorted boot_sorted (z1o (pv 1))) (z7z (z6s rfl) Z0.zlist s1g (z1o (z7z z7m Z0.zrange s1j (z1o (z3k Z0.zlen (pv 0))))))) (z0q z1n) (z1b (z7z z1a Z0.ztuple t2g (z1o (z3d (own:=["side"]) (fv:=["sides"]) (js:=[0]) rfl (z4m (pv 1)) rfl (by decide) rfl (by decide) (by kcj_m) (z2y (by rfl)) rfl (y6v (by kcf_m)) (λ _ _ _ _=>(z6l 0 ["side","sides"])) (λ _ _ _ _=>(z0s z0g (pv 1) (pv 0)))))))),?_⟩
 (try dsimp only [z0t]);simp only [L2.start,t0h,t0j,List.replicate,t0k,t0m,Nat.reduceSub,Nat.reduceAdd,z2o,z2p]
 ktr_call z0b t0a;refine ⟨os,.inr hb.sq,by lia,λ ss pm pw l1 hl1=>⟨_,.inr (.of (z0a hl1 _ _ _ ha)),λ r hr=>⟨ns.length,by rw [z0j];rfl,by lia,λ l2 hl2=>?_⟩⟩⟩;have t1:=z0a hl1 (.lst (ss.map V.int));have t2:=t1.trans (z0a hr (.rng 0 (((ns.map V.int).length:Nat):Int)));have t3:=t2.trans (z0a hl2 (.lst ((upL ns.length).map V.int)));refine ⟨_,.of (z0a hl2 _ _ _ (z0a hr _ _ _ z0d)),_,.of z0d,z1i _,z1i _,?_⟩;rw [z2t];have c:=(y6x (n:=ns.length) pm pw).mpr tk;rw [t4n c,if_neg (by decide)];have ha3:=t3 _ _ ha;have hb3:=hb.same t3;generalize upd (upd (upd H l1 (HO.lst (List.map V.int ss))) r (HO.rng 0 (((ns.map V.int).length:Nat):Int))) l2 (HO.lst (List.map V.int (upL ns.length)))=H3 at *;refine CompT.mk (xs:=os.map V.int) hb3.sq (λ i ys σ H'=>H'=H3/\i≤os.length/\ys=(z2u ns (os.take i)).map V.int/\∃y,σ=[y,some (.ref a)]) ⟨rfl,t0x _,rfl,_,rfl⟩ (λ i ys σ H' _ h=>by rw [h.1];exact hb3.sq) (λ i x ys σ H' e h=>?_) (λ ys σ H' h p hp=>?_)
 ·kd_p;obtain ⟨rfl,hi,rfl,y,rfl⟩:=h;obtain ⟨o,rfl,ho⟩:=z3q e;refine gz ?_;clear gz Gz;have il:=(t0g.mp ho).1;have om:=up_mem.mp (tk.subset (t0i ho))
  have e1:(z2u ns (os.take (i+1))).map V.int=(z2u ns (os.take i)).map V.int++[V.int (ns.getD o.toNat 0)]:=by
   unfold z2u;rw [t1j,ho,t0l,t0l];rfl
  have sm:((z2u ns (os.take i)).map V.int).length < sizeLine:=by unfold z2u;rw [t0c,t0c,t0p];exact z0n (by lia)
  cell_end z0b t0a e1;exact ⟨sm,_,ha3,_,v0y om.1 om.2,il,rfl,_,rfl⟩
 ·kd_p;obtain ⟨rfl,hi,rfl,y,rfl⟩:=h;refine gz ?_;clear gz Gz;rw [z0j,t1h];exact ⟨p,rfl,_,.inl ⟨.of z0d,λ l hl=>q2 _ _ (t3.trans ((z0a hp _).trans (z0a hl _))) z0d⟩⟩
theorem y1s (Y0:Cs Z0 21):ca (Cl Z0) 21:=kz2 Z0 Z0.g21 λ f fd F=>by
 have sc:=scq (z0h z7v) ["sides","side"] [];kt_k
 ·exact el3 vs h λ _ _ _ _=>rfl
 refine el3 vs h λ a ns side h=>an3 h λ ha no q=>?_;refine ⟨_,(z0o (z1l (z1d (cc Y0 19) hr z0l (z0v (pv 0) (pv 1)))) (z1b (pv 0))),?_⟩
 (try dsimp only [z0t]);simp only [L2.start,t0h,t0j,List.replicate,t0k,t0m,Nat.reduceSub,Nat.reduceAdd,z2o,z2p]
 cell_end z0b t0a z4w;exact ⟨ns,ha,no,q⟩
theorem x1q (Y0:Cs Z0 22):ca (Cl Z0) 22:=kz5 Z0 Z0.g22 λ f fd F=>by
 have sc:=scq (z0h y5p) ["sides","side","first","many","step"] [];kt_k
 ·exact el6 vs h λ _ _ _ _ _ _ _=>rfl
 refine el6 vs h λ a ns side first many step h=>an7 h λ ha h63 m0 m1 no nb q=>?_
 refine ⟨_,(z0o (z1l (z1d (cc Y0 19) hr z0l (z0v (pv 0) (pv 1)))) (z1q (PW.pt (z5a (z1f z6a (pv 2) z0c) (z5a (z1f z6a (pv 3) z0c) (z3m (z1f z6a (pv 4) z0c))))) (z0q z1n) (z1q (PW.pt (y1d (z1f z8w (pv 3) z0c) (z7h (z1f y7i (z0m z2g (pv 2) (z0m z5b (z0m z4e (pv 3) z0c) (pv 4))) (z0s z0g (pv 0) (pv 1)))))) (z0q z1n) (z1b (z1d (cc Y0 16) hr z0l (z0i (pv 0) (z0v (pv 1) (pv 3)))))))),?_⟩
 (try dsimp only [z0t]);simp only [L2.start,t0h,t0j,List.replicate,t0k,t0m,Nat.reduceSub,Nat.reduceAdd,z2o,z2p]
 kpf_say z0b t0a z4w z3v;refine ⟨ns,ha,no,?_⟩;obtain ⟨k,rfl,hk⟩:=y1z no;unfold bad at nb;simp only [t1c] at nb q;rw [if_neg (λ z=>nb (.inl z)),if_neg (λ z=>nb (.inr (.inl z))),if_neg (λ z=>nb (.inr (.inr (.inl z))))];split
 ·rename_i c4;refine ⟨.inl ⟨by lia,by lia⟩,_,ha,_,z4y hk,_,rfl,?_⟩;rw [if_neg (λ z=>nb (.inr (.inr (.inr ⟨c4,z⟩))))];exact ⟨ns,k,rfl,ha,h63,hk,q⟩
 ·exact ⟨ns,k,rfl,ha,h63,hk,q⟩
theorem y4a (Y0:Cs Z0 23):ca (Cl Z0) 23:=kz3 Z0 Z0.g23 λ f fd F=>by
 have sc:=scq (z0h z9d) ["sides","side","many"] [];kt_k
 ·exact el4 vs h λ _ _ _ _ _=>rfl
 refine el4 vs h λ a ns side many h=>an8 h λ ha hs h20 hm no nn nb q=>?_;refine ⟨_,(z1q (PW.pt (z5a (z1f z6a (pv 1) z0c) (z3m (z1f z8w (pv 1) (z3k Z0.zlen (pv 0)))))) (z0q z1n) (z1q (z1f z6a (pv 2) z0c) (z0q z1n) (z1b (z1d (cc Y0 11) hr z0l (z1o (z1d (cc Y0 17) hr z0l (z0i (pv 0) (z0v (pv 1) (pv 2))))))))),?_⟩
 (try dsimp only [z0t]);simp only [L2.start,t0h,t0j,List.replicate,t0k,t0m,Nat.reduceSub,Nat.reduceAdd,z2o,z2p]
 kpf_say z0b t0a y0t z4d;unfold w4t at no;rw [if_neg (by lia)];refine ⟨_,.inr (.of ha),?_⟩;rw [z0j,if_neg (by lia),if_neg nn];obtain ⟨k,rfl⟩:∃k:Nat,side=k:=⟨side.toNat,by lia⟩;exact ⟨ns,k,rfl,ha,by lia,λ H1 p s1 hp=>⟨_,hp,w3d hs (by lia) hm,by rw [y8d];lia,nb,λ H2 s2=>q _ _ (s1.trans s2) (s2 _ _ hp)⟩⟩
theorem y7s (Y0:Cs Z0 24):ca (Cl Z0) 24:=kz2 Z0 Z0.g24 λ f fd F=>by
 have sc:=scq (z0h y2s) ["sides","others"] [];kt_k
 ·exact el4 vs h λ _ _ _ _ _=>rfl
 refine el4 vs h λ a b ns ms h=>an8 h λ ha hb hn hm hl nb e q=>?_;refine ⟨_,(z0o (z1l (z1d (cc Y0 11) hr z0l (z1o (pv 1)))) (z1q (z1f z8g (z1d (cc Y0 9) hr z0l (z1o (pv 0))) (z1d (cc Y0 9) hr z0l (z1o (pv 1)))) (z0q z1n) (z1b (pv 1)))),?_⟩
 (try dsimp only [z0t]);simp only [L2.start,t0h,t0j,List.replicate,t0k,t0m,Nat.reduceSub,Nat.reduceAdd,z2o,z2p]
 kpf_say z0b t0a z4d z7u;refine ⟨ms,hb,hm,by lia,nb,λ H1 s1=>⟨ns,.inr (s1 _ _ ha),hn,ms,.inr (s1 _ _ hb),hm,?_⟩⟩;rw [if_neg (λ z=>z e)];exact q _ s1
theorem y4e (Y0:Cs Z0 25):ca (Cl Z0) 25:=kz3 Z0 Z0.g25 λ f fd F=>by
 have sc:=scq (z0h z9i) ["sides","others","side"] [];kt_k
 ·exact el5 vs h λ _ _ _ _ _ _=>rfl
 refine el5 vs h λ a b ns ms side h=>v0z h λ ha hb hn hm hl le no c nb q=>?_;refine ⟨_,(z1q (z1f z8g (z3k Z0.zlen (pv 0)) (z3k Z0.zlen (pv 1))) (z0q z1n) (z0o (z1l (z1d (cc Y0 19) hr z0l (z0v (pv 0) (pv 2)))) (z1q (z1f (y9z hr.units0) (z1d (cc Y0 18) hr z0l (z0v (pv 0) (pv 2))) (z1d (cc Y0 18) hr z0l (z0v (pv 1) (pv 2)))) (z0q z1n) (z1b (z1d (cc Y0 11) hr z0l (z1o (z1d (cc Y0 16) hr z0l (z0i (pv 0) (z0v (pv 2) (z0m z2g (z0s z0g (pv 0) (pv 2)) (z0s z0g (pv 1) (pv 2)))))))))))),?_⟩
 (try dsimp only [z0t]);simp only [L2.start,t0h,t0j,List.replicate,t0k,t0m,Nat.reduceSub,Nat.reduceAdd,z2o,z2p]
 wp_walk using y6t,z9t,eqV,z0b,t0a,z4w,z5u,z4d,z3v;refine ⟨_,.inr (.of ha),_,.inr (.of hb),?_⟩;rw [z0j,z0j,if_neg (by lia)];refine ⟨ns,ha,no,?_⟩;obtain ⟨k,rfl,hk⟩:=y1z no;simp only [t1c] at c;refine ⟨ns,k,rfl,ha,by lia,hk,λ H1 p1 s1 h1=>⟨ms,k,rfl,s1 _ _ hb,by lia,by lia,λ H2 p2 s2 h2=>⟨_,.of (s2 _ _ h1),_,.of h2,z1i _,z1i _,?_⟩⟩⟩;rw [z2t,if_neg (by simp [c])];have s12:=s1.trans s2;have n1:=hn _ (getD_mem hk);have n2:=hm _ (getD_mem (ns:=ms) (k:=k) (by lia));refine ⟨_,s12 _ _ ha,_,z4y hk,_,s12 _ _ hb,_,z4y (ns:=ms) (by lia),_,rfl,_,rfl,ns,k,rfl,s12 _ _ ha,by lia,hk,λ H3 p3 s3 h3=>?_⟩
 exact ⟨_,h3,λ n hn'=>by
  rcases t3e hn' with z | z
  ·exact y0w hn n z
  ·lia,by rw [t2y];lia,nb,λ H4 s4=>q _ _ (s12.trans (s3.trans s4)) (s4 _ _ h3)⟩
theorem x1l (Y0:Cs Z0 26):ca (Cl Z0) 26:=kz2 Z0 Z0.g26 λ f fd F=>by
 have sc:=scq (z0h y5j) ["sides","others"] [];kt_k
 ·exact el4 vs h λ _ _ _ _ _=>rfl
 refine el4 vs h λ a b ns ms h=>an4 h λ ha hb c q=>?_;refine ⟨_,(z1q (z1f (y9z hr.units0) (z1h z1y (pv 1) z1r (z1p (z3k Z0.zlen (pv 0)))) (pv 0)) (z0q z1n) (z1b (pv 1))),?_⟩
 (try dsimp only [z0t]);simp only [L2.start,t0h,t0j,List.replicate,t0k,t0m,Nat.reduceSub,Nat.reduceAdd,z2o,z2p]
 ktr_call z0b t0a;refine ⟨_,.inr (.of ha),_,hb,λ r H1 s1 hr1=>?_⟩;rw [z0j,z3s] at hr1;refine ⟨_,.of hr1,_,.of (s1 _ _ ha),z1i _,z1i _,?_⟩;rw [z2t,if_neg (by simp [c])];exact q _ s1
theorem y4d (Y0:Cs Z0 27):ca (Cl Z0) 27:=kz2 Z0 Z0.g27 λ f fd F=>by
 have sc:=scq (z0h z9h) ["sides","others"] [];kt_k
 ·exact el4 vs h λ _ _ _ _ _=>rfl
 refine el4 vs h λ a b ns ms h=>an4 h λ ha hb po q=>?_;refine ⟨_,(z1q (z1f z8w (z3k Z0.zlen (pv 0)) (z3k Z0.zlen (pv 1))) (z1b (z1d (cc Y0 26) hr z0l (z0v (pv 1) (pv 0)))) (z1b (z1d (cc Y0 26) hr z0l (z0v (pv 0) (pv 1))))),?_⟩
 (try dsimp only [z0t]);simp only [L2.start,t0h,t0j,List.replicate,t0k,t0m,Nat.reduceSub,Nat.reduceAdd,z2o,z2p]
 cell_end z0b t0a z8o;refine ⟨_,.inr (.of ha),_,.inr (.of hb),?_⟩;rw [z0j,z0j];unfold z1t at po;unfold z0y at q;by_cases c:ms.length < ns.length
 ·rw [if_pos (by lia)];simp only [if_pos c] at po q;exact ⟨ms,hb,ns,ha,po,λ H1 s1=>q _ _ s1 (s1 _ _ ha)⟩
 ·rw [if_neg (by lia)];simp only [if_neg c] at po q;exact ⟨ns,ha,ms,hb,po,λ H1 s1=>q _ _ s1 (s1 _ _ hb)⟩
theorem y4c (Y0:Cs Z0 28):ca (Cl Z0) 28:=kz3 Z0 Z0.g28 λ f fd F=>by
 have sc:=scq (z0h z9g) ["marks","sides","others"] [];kt_k
 ·exact el6 vs h λ _ _ _ _ _ _ _=>rfl
 refine el6 vs h λ a b c ns ms ks h=>an6 h λ ha hb hc o1 o2 q=>?_;refine ⟨_,(z1b (z1d (cc Y0 27) hr z0l (z0v (z1d (cc Y0 27) hr z0l (z0v (pv 0) (pv 1))) (pv 2)))),?_⟩
 (try dsimp only [z0t]);simp only [L2.start,t0h,t0j,List.replicate,t0k,t0m,Nat.reduceSub,Nat.reduceAdd,z2o,z2p]
 cell_end z0b t0a z4n;exact ⟨ns,ha,ms,hb,o1,λ H1 p s1 hp=>⟨_,hp,ks,s1 _ _ hc,o2,λ H2 p2 s2 hp2=>q _ _ (s1.trans s2) hp2⟩⟩
theorem y1t (Y0:Cs Z0 29):ca (Cl Z0) 29:=kz2 Z0 Z0.g29 λ f fd F=>by
 have sc:=scq (z0h z7w) ["sides","others"] [];kt_k
 ·exact el5 vs h λ _ _ _ _ _ _=>rfl
 refine el5 vs h λ a b n r ms h=>an9 h λ ha hb hn hm hl hk n0 nb q=>?_;refine ⟨_,(z1q (z1f z0z (z3k Z0.zlen (pv 0)) z0c) (z0q z1n) (z1q (z1f z0z (z0s z0g (pv 0) z0c) z0c) (z0q z1n) (z1b (z1d (cc Y0 11) hr z0l (z1o (z0m z2h (pv 1) (z1h z1y (pv 0) (z1p z0c) z1r))))))),?_⟩
 (try dsimp only [z0t]);simp only [L2.start,t0h,t0j,List.replicate,t0k,t0m,Nat.reduceSub,Nat.reduceAdd,z2o,z2p]
 cell_end z0b t0a z4d;refine ⟨_,.inr (.of ha),?_⟩;rw [z0j,if_neg (by simp;lia)];refine ⟨_,ha,_,z0f (j:=0) rfl,rfl,?_⟩;rw [if_neg (by simp [n0])];have cut:y1p ((n::r).map V.int) (some 1) none=r.map V.int:=y3d (ns:=n::r) (k:=1) (by simp);refine ⟨_,ha,λ r1 H1 s1 hr1=>⟨_,s1 _ _ hb,_,hr1,?_,λ r2 H2 s2 hr2=>?_⟩⟩
 ·rw [cut,z0j,z0j];exact small (by lia)
 rw [cut,← t0l] at hr2;exact ⟨ms++r,hr2,λ m hm'=>(t1n.mp hm').elim (hm m) (λ z=>hn m (t0d _ z)),by rw [t0o];lia,nb,λ H3 s3=>q _ _ ((s1.trans s2).trans s3) (s3 _ _ hr2)⟩
theorem y4f (Y0:Cs Z0 30):ca (Cl Z0) 30:=kz2 Z0 Z0.g30 λ f fd F=>by
 have sc:=scq (z0h z9j) ["sides","side"] [];kt_k
 ·exact el3 vs h λ _ _ _ _=>rfl
 refine el3 vs h λ a ns side h=>an4 h λ ha h63 no q=>?_;refine ⟨_,(z0o (z1l (z1d (cc Y0 19) hr z0l (z0v (pv 0) (pv 1)))) (z1b (z1d (cc Y0 18) hr z0l (z0v (pv 0) (pv 1))))),?_⟩
 (try dsimp only [z0t]);simp only [L2.start,t0h,t0j,List.replicate,t0k,t0m,Nat.reduceSub,Nat.reduceAdd,z2o,z2p]
 kpf_say z0b t0a z4w z5u;refine ⟨ns,ha,no,?_⟩;obtain ⟨k,rfl,hk⟩:=y1z no;exact ⟨ns,k,rfl,ha,h63,hk,q⟩
theorem y1u (Y0:Cs Z0 31):ca (Cl Z0) 31:=kz2 Z0 Z0.g31 λ f fd F=>by
 have sc:=scq (z0h z7x) ["sides","side"] [];kt_k
 ·exact el3 vs h λ _ _ _ _=>rfl
 refine el3 vs h λ a ns side h=>an6 h λ ha hn hl nb no q=>?_;refine ⟨_,(z0o (z1l (z1d (cc Y0 11) hr z0l (z1o (pv 0)))) (z0o (z1l (z1d (cc Y0 19) hr z0l (z0v (pv 0) (pv 1)))) (z1b (pv 0)))),?_⟩
 (try dsimp only [z0t]);simp only [L2.start,t0h,t0j,List.replicate,t0k,t0m,Nat.reduceSub,Nat.reduceAdd,z2o,z2p]
 kpf_say z0b t0a z4d z4w;exact ⟨ns,ha,hn,by lia,nb,λ H1 s1=>⟨ns,s1 _ _ ha,no,q _ s1⟩⟩
theorem x5m (Y0:Cs Z0 32):ca (Cl Z0) 32:=kz1 Z0 Z0.g32 λ f fd F=>by
 have sc:=scq (z0h y9o) ["step"] [];kt_k
 ·exact el2 vs h λ _ _ _=>rfl
 refine el2 vs h λ p d h=>an3 h λ hst ok q=>?_;refine ⟨_,(z1q (z1f z0z (z0s z0g (pv 0) z0c) z0p) (z0q (z1l (z1d (cc Y0 4) hr z0l (z0v (z0s z0g (pv 0) z0c) z0c)))) (z1q (z1f z0z (z0s z0g (pv 0) z0c) z0p) (z0q (z1l (z1d (cc Y0 5) hr z0l (z0i (z0s z0g (pv 0) z0c) (z0v z0c z0c))))) (z0q (z9q (y7d w3b (z0s z0g (pv 0) z0c) (z0r (z0v z0p z0p)) rfl) (z0q (z1l (z1d (cc Y0 6) hr z0l (z1o (z0s z0g (pv 0) z0c))))) z5x)))),?_⟩
 (try dsimp only [z0t]);simp only [L2.start,t0h,t0j,List.replicate,t0k,t0m,Nat.reduceSub,Nat.reduceAdd,z2o,z2p]
 kd_p;obtain ⟨xs,hp,h0,_,_⟩:=z3l hst;refine gz ?_;clear gz Gz;ktn_end (λ σ G=>G=H/\σ=[some (.ref p)])
 ·cell_end z0b t0a y9a;by_cases c:kdN d=3
  ·obtain ⟨w,a,rfl⟩:=inv_at.2.2.1 c;refine ⟨_,hst,_,z0f (j:=0) rfl,rfl,?_⟩;rw [if_pos rfl];exact ⟨_,hst,_,z0f (j:=1) rfl,w,rfl,ok,hR _ _ ⟨rfl,rfl⟩⟩
  ·refine ⟨_,hp,_,z0f (j:=0) h0,rfl,?_⟩;rw [if_neg (show ¬V.str (z0w (kdN d))=V.str "each" from y6d 3 (z2m d) (by decide) c)];exact hR _ _ ⟨rfl,rfl⟩
 rintro σ1 G1 ⟨rfl,rfl⟩;ktn_end (λ σ G=>G=G1/\σ=[some (.ref p)])
 ·cell_end z0b t0a z8n;by_cases c:kdN d=4
  ·obtain ⟨w,a,b,rfl⟩:=inv_at.2.2.2.1 c;refine ⟨_,hst,_,z0f (j:=0) rfl,rfl,?_⟩;rw [if_pos rfl];exact ⟨_,hst,_,z0f (j:=1) rfl,w,rfl,⟨by decide,by decide⟩,⟨by decide,by decide⟩,ok,hR _ _ ⟨rfl,rfl⟩⟩
  ·refine ⟨_,hp,_,z0f (j:=0) h0,rfl,?_⟩;rw [if_neg (show ¬V.str (z0w (kdN d))=V.str "pair" from y6d 4 (z2m d) (by decide) c)];exact hR _ _ ⟨rfl,rfl⟩
 rintro σ2 G2 ⟨rfl,rfl⟩;cell_end z0b t0a z7t;refine ⟨_,hp,_,z0f (j:=0) h0,smd,λ t ht=>⟨rfl,?_⟩⟩;by_cases c13:kdN d=13
 ·rw [if_pos (.inl (show (Str.ofString "fold" == z0w (kdN d))=true by rw [c13];decide +kernel))];obtain ⟨w,a,sd,rfl⟩:=inv_at.2.2.2.2.2.2.2.2.2.2.2.1 c13;exact ⟨_,z0a ht _ _ _ hst,_,z0f (j:=1) rfl,w,rfl,ok,λ G u=>q _ ((z0a ht _).trans u)⟩
 by_cases c14:kdN d=14
 ·rw [if_pos (.inr (show (Str.ofString "run" == z0w (kdN d))=true by rw [c14];decide +kernel))];obtain ⟨w,a,sd,rfl⟩:=inv_at.2.2.2.2.2.2.2.2.2.2.2.2 c14;exact ⟨_,z0a ht _ _ _ hst,_,z0f (j:=1) rfl,w,rfl,ok,λ G u=>q _ ((z0a ht _).trans u)⟩
 rw [if_neg (λ z=>z.elim (λ z=>z2k 13 (z2m d) (by decide) c13 (t7v (show (Str.ofString "fold" == z0w (kdN d))=true from z)).symm) (λ z=>z2k 14 (z2m d) (by decide) c14 (t7v (show (Str.ofString "run" == z0w (kdN d))=true from z)).symm))];exact q _ (z0a ht _)
theorem y5y (Y0:Cs Z0 33):ca (Cl Z0) 33:=kz1 Z0 Z0.g33 λ f fd F=>by
 have sc:=scq (z0h y1b) ["step"] [];kt_k
 ·exact el4 vs h λ _ _ _ _ _=>rfl
 refine el4 vs h λ p d S Ss h=>an5 h λ hst k3 ok fs q=>?_;refine ⟨_,(z1q (z1f z0z (z0s z0g (pv 0) z0c) z0p) (z1b (z1d (cc Y0 11) hr z0l (z1o (z0s z0g (pv 0) z0c)))) (z1q (z1f z0z (z0s z0g (pv 0) z0c) z0p) (z1b (z1d (cc Y0 31) hr z0l (z0v (z0s z0g (pv 0) z0c) (z0s z0g (pv 0) z0c)))) (z1b (z0r z1j)))),?_⟩
 (try dsimp only [z0t]);simp only [L2.start,t0h,t0j,List.replicate,t0k,t0m,Nat.reduceSub,Nat.reduceAdd,z2o,z2p]
 kd_p;obtain ⟨xs,hp,h0,_,_⟩:=z3l hst;refine gz ?_;clear gz Gz;have sd:=z2q fs;have s6:=fs.2.1;ktn_end (λ σ G=>G=H/\¬kdN d=0/\σ=[some (.ref p)])
 ·cell_end z0b t0a z4d;by_cases c:kdN d=0
  ·kd_p;obtain ⟨ms,rfl⟩:=inv_at.1 c;obtain ⟨b,hp,hb⟩:=hst;obtain ⟨rfl,nb⟩:=ok;refine gz ?_;clear gz Gz;refine ⟨_,hp,_,z0f (j:=0) rfl,rfl,?_⟩;rw [if_pos rfl];exact ⟨_,hp,_,z0f (j:=1) rfl,b,rfl,S,hb,sd,by lia,nb,λ G u=>q _ b u (u _ _ hb)⟩
  ·refine ⟨_,hp,_,z0f (j:=0) h0,rfl,?_⟩;rw [if_neg (show ¬V.str (z0w (kdN d))=V.str "in" from y6d 0 (z2m d) (by decide) c)];exact hR _ _ ⟨rfl,c,rfl⟩
 rintro σ1 G1 ⟨rfl,c0,rfl⟩;ktn_end (λ σ G=>G=G1/\¬kdN d=2/\σ=[some (.ref p)])
 ·cell_end z0b t0a z5h;by_cases c:kdN d=2
  ·kd_p;obtain ⟨ms,k,rfl⟩:=inv_at.2.1 c;obtain ⟨b,hp,hb⟩:=hst;obtain ⟨rfl,nb,no⟩:=ok;refine gz ?_;clear gz Gz;refine ⟨_,hp,_,z0f (j:=0) rfl,rfl,?_⟩;rw [if_pos rfl];exact ⟨_,hp,_,z0f (j:=1) rfl,_,hp,_,z0f (j:=2) rfl,b,rfl,S,k,rfl,hb,sd,by lia,nb,no,λ G u=>q _ b u (u _ _ hb)⟩
  ·refine ⟨_,hp,_,z0f (j:=0) h0,rfl,?_⟩;rw [if_neg (show ¬V.str (z0w (kdN d))=V.str "count" from y6d 2 (z2m d) (by decide) c)];exact hR _ _ ⟨rfl,c,rfl⟩
 rintro σ2 G2 ⟨rfl,c2,rfl⟩
 have e:S=[]:=by
  cases d with
  | num n=>exact ok
  | inp ms=>exact absurd rfl c0
  | count ms k=>exact absurd rfl c2
  | _=>exact absurd k3 (t5e rfl)
 ktr_call z0b t0a;exact ⟨t0x _,λ p0 hp0=>q _ p0 (z0a hp0 _) (by rw [e];exact z0d)⟩
theorem y5v (Y0:Cs Z0 34):ca (Cl Z0) 34:=kz2 Z0 Z0.g34 λ f fd F=>by
 have sc:=scq (z0h y0v) ["step","sides"] ["form"];kt_k
 ·exact el7 vs h λ _ _ _ _ _ _ _ _=>rfl
 refine el7 vs h λ p o d S A Ss a h=>an8 h λ hst ha ea ho fA ok fs q=>?_;refine ⟨_,(z1u 2 sc.nd (z0s z0g (pv 0) z0c) (z1q (z1f z0z (pv 2) z0p) (z1b (z1d (cc Y0 20) hr z0l (z0v (pv 1) (z0s z0g (pv 0) z0c)))) (z1q (z1f z0z (pv 2) z0p) (z1b (z1d (cc Y0 21) hr z0l (z0v (pv 1) (z0s z0g (pv 0) z0c)))) (z1q (z1f z0z (pv 2) z0p) (z1b (z1d (cc Y0 22) hr z0l (z0i (pv 1) (z0i (z0s z0g (pv 0) z0c) (z0i (z0s z0g (pv 0) z0c) (z0v (z0s z0g (pv 0) z0c) (z0s z0g (pv 0) z0c))))))) (z1q (z1f z0z (pv 2) z0p) (z1b (z1d (cc Y0 23) hr z0l (z0i (pv 1) (z0v (z0s z0g (pv 0) z0c) (z0s z0g (pv 0) z0c))))) (z1q (z1f z0z (pv 2) z0p) (z1b (z1d (cc Y0 24) hr z0l (z0v (pv 1) (z0s z0g (pv 0) z0c)))) (z1q (z1f z0z (pv 2) z0p) (z1b (z1d (cc Y0 30) hr z0l (z0v (pv 1) (z0s z0g (pv 0) z0c)))) (z1q (z1f z0z (pv 2) z0p) (z1b (z1d (cc Y0 21) hr z0l (z0v (pv 1) (z0s z0g (pv 0) z0c)))) (z1b (pv 1)))))))))),?_⟩
 (try dsimp only [z0t]);simp only [L2.start,t0h,t0j,List.replicate,t0k,t0m,Nat.reduceSub,Nat.reduceAdd,z2o,z2p]
 kd_p;obtain ⟨xs,hp,h0,_,_⟩:=z3l hst;refine gz ?_;clear gz Gz;have sd:=z2q fs;have sdA:=z2q fA;have s6:=fs.2.1;have a6:=fA.2.1;ktn_end (λ σ G=>G=H/\σ=[some (.ref p),some (.ref o),some (.str (z0w (kdN d)))])
 ·ktr_call z0b t0a;exact ⟨_,hp,_,z0f (j:=0) h0,hR _ _ ⟨rfl,rfl⟩⟩
 rintro σ0 G0 ⟨rfl,rfl⟩;ktn_end (λ σ G=>G=G0/\¬kdN d=6/\σ=[some (.ref p),some (.ref o),some (.str (z0w (kdN d)))])
 ·cell_end z0b t0a z5p;by_cases c:kdN d=6;rotate_left
  ·rw [if_neg (show ¬z0w (kdN d)=Str.ofString "turn" from z2k 6 (z2m d) (by decide) c)];exact hR _ _ ⟨rfl,c,rfl⟩
  rw [if_pos (show z0w (kdN d)=Str.ofString "turn" by rw [c];rfl)];obtain ⟨a',os,rfl⟩:=inv_at.2.2.2.2.1 c;cases ha;obtain ⟨A',ea',tk,rfl⟩:=ok;cases ea'.symm.trans ea;obtain ⟨b,hp,hb⟩:=hst;exact ⟨_,hp,_,z0f (j:=2) rfl,b,rfl,A,ho,os,hb,by lia,by rw [tk.length_eq,z7r];lia,tk,λ G r u h=>q _ r u h⟩
 rintro σ6 G6 ⟨rfl,c6,rfl⟩;ktn_end (λ σ G=>G=G6/\¬kdN d=7/\σ=[some (.ref p),some (.ref o),some (.str (z0w (kdN d)))])
 ·cell_end z0b t0a z3x;by_cases c:kdN d=7;rotate_left
  ·rw [if_neg (show ¬z0w (kdN d)=Str.ofString "flip" from z2k 7 (z2m d) (by decide) c)];exact hR _ _ ⟨rfl,c,rfl⟩
  rw [if_pos (show z0w (kdN d)=Str.ofString "flip" by rw [c];rfl)];obtain ⟨a',s,rfl⟩:=inv_at.2.2.2.2.2.1 c;cases ha;obtain ⟨ea',no⟩:=ok;cases ea'.symm.trans ea;exact ⟨_,hst,_,z0f (j:=2) rfl,S,s,rfl,ho,no,q _ o (Same.refl _) ho⟩
 rintro σ7 G7 ⟨rfl,c7,rfl⟩;ktn_end (λ σ G=>G=G7/\¬kdN d=8/\σ=[some (.ref p),some (.ref o),some (.str (z0w (kdN d)))])
 ·cell_end z0b t0a z8r;by_cases c:kdN d=8;rotate_left
  ·rw [if_neg (show ¬z0w (kdN d)=Str.ofString "cut" from z2k 8 (z2m d) (by decide) c)];exact hR _ _ ⟨rfl,c,rfl⟩
  rw [if_pos (show z0w (kdN d)=Str.ofString "cut" by rw [c];rfl)];kd_p;obtain ⟨a',s,f,m,g,rfl⟩:=inv_at.2.2.2.2.2.2.1 c;refine gz ?_;clear gz Gz;cases ha;kd_p;obtain ⟨A',ea',no,nb,m5,rfl⟩:=ok;refine gz ?_;clear gz Gz;cases ea'.symm.trans ea;exact ⟨_,hst,_,z0f (j:=2) rfl,_,hst,_,z0f (j:=3) rfl,_,hst,_,z0f (j:=4) rfl,_,hst,_,z0f (j:=5) rfl,A,s,rfl,f,rfl,m,rfl,g,rfl,ho,by lia,by unfold bad at nb;lia,by lia,no,nb,λ G r u h=>q _ r u h⟩
 rintro σ8 G8 ⟨rfl,c8,rfl⟩;ktn_end (λ σ G=>G=G8/\¬kdN d=9/\σ=[some (.ref p),some (.ref o),some (.str (z0w (kdN d)))])
 ·cell_end z0b t0a z5q;by_cases c:kdN d=9;rotate_left
  ·rw [if_neg (show ¬z0w (kdN d)=Str.ofString "spread" from z2k 9 (z2m d) (by decide) c)];exact hR _ _ ⟨rfl,c,rfl⟩
  rw [if_pos (show z0w (kdN d)=Str.ofString "spread" by rw [c];rfl)];obtain ⟨a',s,m,rfl⟩:=inv_at.2.2.2.2.2.2.2.1 c;cases ha;kd_p;obtain ⟨A',ea',no,nm,m5,nb,rfl⟩:=ok;refine gz ?_;clear gz Gz;cases ea'.symm.trans ea;exact ⟨_,hst,_,z0f (j:=2) rfl,_,hst,_,z0f (j:=3) rfl,A,s,rfl,m,rfl,ho,sdA,by lia,by lia,no,nm,nb,λ G r u h=>q _ r u h⟩
 rintro σ9 G9 ⟨rfl,c9,rfl⟩;ktn_end (λ σ G=>G=G9/\¬kdN d=10/\σ=[some (.ref p),some (.ref o),some (.str (z0w (kdN d)))])
 ·cell_end z0b t0a z7f;by_cases c:kdN d=10;rotate_left
  ·rw [if_neg (show ¬z0w (kdN d)=Str.ofString "lay" from z2k 10 (z2m d) (by decide) c)];exact hR _ _ ⟨rfl,c,rfl⟩
  rw [if_pos (show z0w (kdN d)=Str.ofString "lay" by rw [c];rfl)];obtain ⟨a',ms,rfl⟩:=inv_at.2.2.2.2.2.2.2.2.1 c;cases ha;kd_p;obtain ⟨A',ea',nb,pe,rfl⟩:=ok;refine gz ?_;clear gz Gz;cases ea'.symm.trans ea;obtain ⟨b,hp,hb⟩:=hst;exact ⟨_,hp,_,z0f (j:=2) rfl,b,rfl,A,ho,S,hb,sdA,sd,by lia,nb,pe,λ G u=>q _ b u (u _ _ hb)⟩
 rintro σ10 G10 ⟨rfl,c10,rfl⟩;ktn_end (λ σ G=>G=G10/\¬kdN d=13/\σ=[some (.ref p),some (.ref o),some (.str (z0w (kdN d)))])
 ·cell_end z0b t0a z5t;by_cases c:kdN d=13;rotate_left
  ·rw [if_neg (show ¬z0w (kdN d)=Str.ofString "fold" from z2k 13 (z2m d) (by decide) c)];exact hR _ _ ⟨rfl,c,rfl⟩
  rw [if_pos (show z0w (kdN d)=Str.ofString "fold" by rw [c];rfl)];obtain ⟨w,a',s,rfl⟩:=inv_at.2.2.2.2.2.2.2.2.2.2.2.1 c;cases ha;kd_p;obtain ⟨A',ea',_,no,rfl⟩:=ok;refine gz ?_;clear gz Gz;cases ea'.symm.trans ea;exact ⟨_,hst,_,z0f (j:=3) rfl,A,s,rfl,ho,by lia,no,λ G r u h=>q _ r u h⟩
 rintro σ13 G13 ⟨rfl,c13,rfl⟩;ktn_end (λ σ G=>G=G13/\¬kdN d=14/\σ=[some (.ref p),some (.ref o),some (.str (z0w (kdN d)))])
 ·cell_end z0b t0a z3x;by_cases c:kdN d=14;rotate_left
  ·rw [if_neg (show ¬z0w (kdN d)=Str.ofString "run" from z2k 14 (z2m d) (by decide) c)];exact hR _ _ ⟨rfl,c,rfl⟩
  rw [if_pos (show z0w (kdN d)=Str.ofString "run" by rw [c];rfl)];obtain ⟨w,a',s,rfl⟩:=inv_at.2.2.2.2.2.2.2.2.2.2.2.2 c;cases ha;obtain ⟨ea',_,no⟩:=ok;cases ea'.symm.trans ea;exact ⟨_,hst,_,z0f (j:=3) rfl,S,s,rfl,ho,no,q _ o (Same.refl _) ho⟩
 rintro σ14 G14 ⟨rfl,c14,rfl⟩
 have e:S=A:=by
  cases d with
  | each w a'=>cases ha;obtain ⟨ea',_⟩:=ok;cases ea'.symm.trans ea;rfl
  | turn=>exact absurd rfl c6
  | flip=>exact absurd rfl c7
  | cut=>exact absurd rfl c8
  | spread=>exact absurd rfl c9
  | lay=>exact absurd rfl c10
  | fold=>exact absurd rfl c13
  | run=>exact absurd rfl c14
  | _=>cases ha
 ktr_call z0b t0a;exact q _ o (Same.refl _) (by rw [e];exact ho)
theorem y7l (Y0:Cs Z0 35):ca (Cl Z0) 35:=kz2 Z0 Z0.g35 λ f fd F=>by
 have sc:=scq (z0h y2g) ["step","sides"] ["used","form"];kt_k
 ·exact el6 vs h λ _ _ _ _ _ _ _=>rfl
 refine el6 vs h λ p s d S Ss ps h=>an7 h λ hst hs ht fS ok fs q=>?_;refine ⟨_,(z0o (z1l (z1d (cc Y0 32) hr z0l (z1o (pv 0)))) (z0o (x4j (own:=["number"]) (fv:=["sides"]) (js:=[1]) sc.nd (i:=2) rfl (by first | exact Or.inl rfl | exact Or.inr rfl) (by first | exact Or.inl rfl | exact Or.inr rfl) rfl (z4m (z1d (cc Y0 8) hr z0l (z1o (pv 0)))) rfl (by decide) rfl (by decide) (by kcj_m) (z2y (by rfl)) rfl (y6v (by kcf_m)) (λ _ _ _ _=>(z6l 0 ["number","sides"])) (λ _ _ _ _=>(z0s y8b (pv 1) (pv 0)))) (z1u 3 sc.nd (z0s z0g (pv 0) z0c) (z1q (z1f z0z (z3k Z0.zlen (pv 2)) z0c) (z1b (z1d (cc Y0 33) hr z0l (z1o (pv 0)))) (z1q (z1f z0z (z3k Z0.zlen (pv 2)) z0c) (z1b (z1d (cc Y0 34) hr z0l (z0v (pv 0) (z0s z0k (pv 2) z0c)))) (z1q (z1f z0z (pv 3) z0p) (z1b (z1d (cc Y0 27) hr z0l (z0v (z0s z0k (pv 2) z0c) (z0s z0k (pv 2) z0c)))) (z1q (z1f z0z (pv 3) z0p) (z1b (z1d (cc Y0 25) hr z0l (z0i (z0s z0k (pv 2) z0c) (z0v (z0s z0k (pv 2) z0c) (z0s z0g (pv 0) z0c))))) (z1q (z1f z0z (pv 3) z0p) (z1b (z1d (cc Y0 29) hr z0l (z0v (z0s z0k (pv 2) z0c) (z0s z0k (pv 2) z0c)))) (z1b (z1d (cc Y0 28) hr z0l (z0i (z0s z0k (pv 2) z0c) (z0v (z0s z0k (pv 2) z0c) (z0s z0k (pv 2) z0c))))))))))))),?_⟩
 (try dsimp only [z0t]);simp only [L2.start,t0h,t0j,List.replicate,t0k,t0m,Nat.reduceSub,Nat.reduceAdd,z2o,z2p]
 kd_p;obtain ⟨xs,hp,h0,hq,hg⟩:=z3l hst;refine gz ?_;clear gz Gz;have al:=y4g ok;ktn_end (λ σ G=>Same H G/\σ=[some (.ref p),some (.ref s),none,none])
 ·cell_end z0b t0a w2q;exact ⟨d,hst,w4s ok,λ G u=>hR _ _ ⟨u,rfl⟩⟩
 rintro σ1 G1 ⟨s1,rfl⟩;ktn_end (λ σ G=>Same G1 G/\∃ul us,G ul=some (.lst (us.map V.ref))/\UsAt G us (z4g d) Ss/\σ=[some (.ref p),some (.ref s),some (.ref ul),none])
 ·cell_end z0b t0a z9v;refine ⟨p,kdN d,z2m d,rfl,xs,s1 _ _ hp,h0,hq,λ G2 t u2 h2=>?_⟩;rw [hg] at h2;have hs2:G2 s=some (.lst (ps.map V.ref))\/G2 s=some (.tup (ps.map V.ref)):=hs.imp (λ z=>(s1.trans u2) _ _ z) (λ z=>(s1.trans u2) _ _ z);have ht2:=ht.same (s1.trans u2);refine CompT.mk (xs:=nmV (z4g d)) (.of h2) (λ i ys σ G=>G=G2/\∃us:List Addr,ys=us.map V.ref/\i≤(z4g d).length/\UsAt G us ((z4g d).take i) Ss/\∃y,σ=[y,some (.ref s)]) ⟨rfl,[],rfl,t0x _,⟨rfl,λ i a e=>nomatch e⟩,_,rfl⟩ (λ i ys σ G _ h=>by rw [h.1];exact .of h2) (λ i x ys σ G e h=>?_) (λ ys σ G h p1 hp1=>?_)
  ·kd_p;obtain ⟨rfl,us,rfl,hi,hu,y,rfl⟩:=h;obtain ⟨a,rfl,ea⟩:=w4w e;have il:=(t0g.mp ea).1;have a3:=y4o d;obtain ⟨pk,A,ek,eA,hA⟩:=z6d ht2 (al a (t0i ea));refine gz ?_;clear gz Gz;refine ⟨by rw [t0c,hu.1,t0p];exact z0n (by lia),?_⟩;have us2:=w3k hu eA hA;rw [show (z4g d).take i++[a]=(z4g d).take (i+1) by rw [t1j,ea];rfl] at us2;ktr_call z0b t0a;exact ⟨_,hs2,_,ek,us++[pk],by rw [t0l];rfl,il,us2,_,rfl⟩
  ·kd_p;obtain ⟨rfl,us,rfl,hi,hu,y,rfl⟩:=h;refine gz ?_;clear gz Gz;rw [x5t,t1h] at hu;exact hR _ _ ⟨u2.trans (z0a hp1 _),p1,us,z0d,hu.same (z0a hp1 _),rfl⟩
 rintro σ2 G2 hz9;kd_p;obtain ⟨s2,ul,us,hul,hu,rfl⟩:=hz9;refine gz ?_;clear gz Gz;have t2:=s1.trans s2;have hst2:=hst.same t2;have hp2:=t2 _ _ hp;ktn_end (λ σ G=>G=G2/\σ=[some (.ref p),some (.ref s),some (.ref ul),some (.str (z0w (kdN d)))])
 ·ktr_call z0b t0a;exact ⟨_,hp2,_,z0f (j:=0) h0,hR _ _ ⟨rfl,rfl⟩⟩
 rintro σ3 G3 ⟨rfl,rfl⟩;ktn_end (λ σ G=>G=G3/\¬(z4g d).length=0/\σ=[some (.ref p),some (.ref s),some (.ref ul),some (.str (z0w (kdN d)))])
 ·cell_end z0b t0a x3h;refine ⟨_,.inl (.of hul),?_⟩;rw [t0c,hu.1];split
  ·exact ⟨d,hst2,v3s (by lia),S,Ss,ok,fs,λ G r u h=>q _ r (t2.trans u) h⟩
  ·exact hR _ _ ⟨rfl,by lia,rfl⟩
 rintro σ4 G4 ⟨rfl,n0,rfl⟩;ktn_end (λ σ G=>G=G4/\¬(z4g d).length=1/\σ=[some (.ref p),some (.ref s),some (.ref ul),some (.str (z0w (kdN d)))])
 ·cell_end z0b t0a v4o;refine ⟨_,.inl (.of hul),?_⟩;rw [t0c,hu.1];split
  ·obtain ⟨a,ea⟩:=v3r (d:=d) (by lia);obtain ⟨u0,A,e0,eA,hA⟩:=hu.2 0 a (by rw [ea];rfl);obtain ⟨u1,e1,h1⟩:=y1q hu 0 (by rw [ea];rfl) eA;exact ⟨_,hul,_,e1,u1,rfl,d,hst2,S,A,Ss,a,ea,eA,h1,fS A (t0i eA),ok,fs,λ G r u h=>q _ r (t2.trans u) h⟩
  ·exact hR _ _ ⟨rfl,by lia,rfl⟩
 rintro σ5 G5 ⟨rfl,n1,rfl⟩;ktn_end (λ σ G=>G=G5/\¬kdN d=4/\σ=[some (.ref p),some (.ref s),some (.ref ul),some (.str (z0w (kdN d)))])
 ·cell_end z0b t0a z4n;by_cases c:kdN d=4;rotate_left
  ·rw [if_neg (show ¬z0w (kdN d)=Str.ofString "pair" from z2k 4 (z2m d) (by decide) c)];exact hR _ _ ⟨rfl,c,rfl⟩
  rw [if_pos (show z0w (kdN d)=Str.ofString "pair" by rw [c];rfl)];kd_p;obtain ⟨w,a,b,rfl⟩:=inv_at.2.2.2.1 c;obtain ⟨A,B,eA,eB,_,pk,rfl⟩:=ok;obtain ⟨u0,e0,hA⟩:=y1q hu 0 rfl eA;obtain ⟨u1,e1,hB⟩:=y1q hu 1 rfl eB;refine gz ?_;clear gz Gz;exact ⟨_,hul,_,e0,_,hul,_,e1,u0,rfl,u1,rfl,A,hA,B,hB,pk,λ G r u h=>q _ r (t2.trans u) h⟩
 rintro σ6 G6 ⟨rfl,n4,rfl⟩;ktn_end (λ σ G=>G=G6/\¬kdN d=11/\σ=[some (.ref p),some (.ref s),some (.ref ul),some (.str (z0w (kdN d)))])
 ·cell_end z0b t0a z5s;by_cases c:kdN d=11;rotate_left
  ·rw [if_neg (show ¬z0w (kdN d)=Str.ofString "join" from z2k 11 (z2m d) (by decide) c)];exact hR _ _ ⟨rfl,c,rfl⟩
  rw [if_pos (show z0w (kdN d)=Str.ofString "join" by rw [c];rfl)];kd_p;obtain ⟨a,b,sd,rfl⟩:=inv_at.2.2.2.2.2.2.2.2.2.1 c;obtain ⟨A,B,eA,eB,j1,j2,j3,j4,rfl⟩:=ok;obtain ⟨u0,e0,hA⟩:=y1q hu 0 rfl eA;obtain ⟨u1,e1,hB⟩:=y1q hu 1 rfl eB;refine gz ?_;clear gz Gz;have fA:=fS A (t0i eA);have fB:=fS B (t0i eB);exact ⟨_,hul,_,e0,_,hul,_,e1,_,hst2,_,z0f (j:=3) rfl,u0,rfl,u1,rfl,A,B,sd,rfl,hA,hB,y6h fA,y6h fB,by have:=fA.2.1;lia,j1,j2,j3,j4,λ G r u h=>q _ r (t2.trans u) h⟩
 rintro σ7 G7 ⟨rfl,n11,rfl⟩;ktn_end (λ σ G=>G=G7/\¬kdN d=12/\σ=[some (.ref p),some (.ref s),some (.ref ul),some (.str (z0w (kdN d)))])
 ·cell_end z0b t0a z5g;by_cases c:kdN d=12;rotate_left
  ·rw [if_neg (show ¬z0w (kdN d)=Str.ofString "fetch" from z2k 12 (z2m d) (by decide) c)];exact hR _ _ ⟨rfl,c,rfl⟩
  rw [if_pos (show z0w (kdN d)=Str.ofString "fetch" by rw [c];rfl)];kd_p;obtain ⟨a,b,rfl⟩:=inv_at.2.2.2.2.2.2.2.2.2.2.1 c;obtain ⟨n,r,B,eA,nz,eB,nb,rfl⟩:=ok;obtain ⟨u0,e0,hA⟩:=y1q hu 0 rfl eA;obtain ⟨u1,e1,hB⟩:=y1q hu 1 rfl eB;refine gz ?_;clear gz Gz;have fA:=fS _ (t0i eA);have fB:=fS B (t0i eB);exact ⟨_,hul,_,e0,_,hul,_,e1,u0,rfl,u1,rfl,n,r,hA,B,hB,z2q fA,z2q fB,t1d (Nat.lt_of_succ_le fA.2.1) (by decide),by have:=fB.2.1;lia,nz,nb,λ G x u h=>q _ x (t2.trans u) h⟩
 rintro σ8 G8 ⟨rfl,n12,rfl⟩
 obtain ⟨a,b,c,rfl⟩:∃a b c,d=.pick a b c:=by
  cases d with
  | pick a b c=>exact ⟨a,b,c,rfl⟩
  | pair=>exact absurd rfl n4
  | join=>exact absurd rfl n11
  | fetch=>exact absurd rfl n12
  | inp=>exact absurd rfl n0
  | num=>exact absurd rfl n0
  | count=>exact absurd rfl n0
  | _=>exact absurd rfl n1
 kd_p;obtain ⟨A,B,C,eA,eB,eC,p1,p2,rfl⟩:=ok;obtain ⟨u0,e0,hA⟩:=y1q hu 0 rfl eA;obtain ⟨u1,e1,hB⟩:=y1q hu 1 rfl eB;obtain ⟨u2,e2,hC⟩:=y1q hu 2 rfl eC;refine gz ?_;clear gz Gz;cell_end z0b t0a z5r;exact ⟨_,hul,_,e0,_,hul,_,e1,_,hul,_,e2,u0,rfl,u1,rfl,u2,rfl,A,hA,B,hB,C,hC,p1,p2,λ G r u h=>q _ r (t2.trans u) h⟩
theorem x1j (Y0:Cs Z0 36):ca (Cl Z0) 36:=kz2 Z0 Z0.g36 λ f fd F=>by
 have sc:=scq (z0h y4w) ["step","sides"] ["k"];obtain ⟨tMOST_STEPS,gMOST_STEPS⟩:=Z0.gMOST_STEPS;kt_k
 ·exact el6 vs h λ _ _ _ _ _ _ _=>rfl
 refine el6 vs h λ p s d S Ss ps h=>an8 h λ hst hs ht fS l40 ok fs q=>?_;refine ⟨_,(z1u 2 sc.nd (z3k Z0.zlen (pv 1)) (z1q (z1f y7i (pv 2) (z6p (v:=.int 40) (by rfl) gMOST_STEPS ⟨_,rfl⟩)) (z1b (z0r (z0v y2y z0p))) (z1q (z4l (z7o (y6p rfl) Z0.zany boot_any (z1o (z3d (own:=["number"]) (fv:=["k"]) (js:=[2]) rfl (z4m (z1d (cc Y0 8) hr z0l (z1o (pv 0)))) rfl (by decide) rfl (by decide) (by kcj_m) (z2y (by rfl)) rfl (y6v (by kcf_m)) (λ _ _ _ _=>(z6l 0 ["number","k"])) (λ _ _ _ _=>(w8n (z7j z6a (pv 0) z0c (z9m _)) (x4p (z7j y7i (pv 0) (pv 1) (z9m _))))))))) (z1b (z0r (z0v y2y z0p))) (z0q (w4c (λ xe pn=>(z1b (z0r (z0v (z1d (cc Y0 35) hr z0l (z0v (pv 0) (pv 1))) y2y))))))))),?_⟩
 (try dsimp only [z0t]);simp only [L2.start,t0h,t0j,List.replicate,t0k,t0m,Nat.reduceSub,Nat.reduceAdd,z2o,z2p]
 kd_p;obtain ⟨xs,hp,h0,hq,hg⟩:=z3l hst;refine gz ?_;clear gz Gz;have al:=y4g ok;ktn_end (λ σ G=>G=H/\σ=[some (.ref p),some (.ref s),some (.int (Ss.length:Int))])
 ·ktr_call z0b t0a;refine ⟨_,.inl (.of hs),?_⟩;rw [t0c,ht.1];exact hR _ _ ⟨rfl,rfl⟩
 rintro σ1 G1 ⟨rfl,rfl⟩;ktn_end (λ σ G=>G=G1/\σ=[some (.ref p),some (.ref s),some (.int (Ss.length:Int))])
 ·ktr_call z0b t0a;rw [if_neg (by lia)];exact hR _ _ ⟨rfl,rfl⟩
 rintro σ2 G2 ⟨rfl,rfl⟩;ktn_end (λ σ G=>Same G2 G/\σ=[some (.ref p),some (.ref s),some (.int (Ss.length:Int))])
 ·cell_end z0b t0a z9v;refine ⟨p,kdN d,z2m d,rfl,xs,hp,h0,hq,λ G3 t u3 h3=>?_⟩;rw [hg] at h3;refine CompT.mk (xs:=nmV (z4g d)) (.of h3) (λ i ys σ G=>G=G3/\i≤(z4g d).length/\ys=(rep i).map V.bl/\∃y,σ=[y,some (.int (Ss.length:Int))]) ⟨rfl,t0x _,rfl,_,rfl⟩ (λ i ys σ G _ h=>by rw [h.1];exact .of h3) (λ i x ys σ G e h=>?_) (λ ys σ G h p1 hp1=>?_)
  ·kd_p;obtain ⟨rfl,hi,rfl,y,rfl⟩:=h;obtain ⟨a,rfl,ea⟩:=w4w e;refine gz ?_;clear gz Gz;have il:=(t0g.mp ea).1;have a3:=y4o d;have aS:=al a (t0i ea);refine ⟨by rw [t0c,x4d];exact z0n (by lia),?_⟩;ktr_call z0b t0a;rw [if_neg (by lia),t2n (show ¬(Ss.length:Int)≤(a:Int) by lia)];exact ⟨il,(y9t i).symm,_,rfl⟩
  ·kd_p;obtain ⟨rfl,hi,rfl,y,rfl⟩:=h;refine gz ?_;clear gz Gz;rw [x5t];refine ⟨_,rfl,_,.of z0d,?_⟩;rw [x4e,if_neg t1e];exact hR _ _ ⟨u3.trans (z0a hp1 _),rfl⟩
 rintro σ3 G3 ⟨s3,rfl⟩;cell_end z0b t0a x2x;exact ⟨d,hst.same s3,S,Ss,ps,.inl (s3 _ _ hs),ht.same s3,fS,ok,fs,λ G r u h=>⟨smd,λ p1 hp1=>q _ p1 r (s3.trans (u.trans (z0a hp1 _))) z0d (z0a hp1 _ _ _ h)⟩⟩
theorem y4b (Y0:Cs Z0 37):ca (Cl Z0) 37:=kz1 Z0 Z0.g37 λ f fd F=>by
 have sc:=scq (z0h z9e) ["program"] ["steps","outs","sides","step","told"];obtain ⟨tMOST_OUTS,gMOST_OUTS⟩:=Z0.gMOST_OUTS;kt_k
 ·obtain ⟨r,ds,Ss,os,mo,rfl,_⟩:=h;rfl
 obtain ⟨r,ds,Ss,os,mo,rfl,⟨st,ot,qs,hr0,hst,sl,hot⟩,⟨hmo,gd,d0,d40,o0,o8,ob⟩,q⟩:=h;refine ⟨_,(z1u 1 sc.nd (z0s z0g (pv 0) z0c) (z1u 2 sc.nd (z0s z0g (pv 0) z0c) (z1u 3 sc.nd (z3i z1j) (z0o (z3g t1u rfl (z4m (pv 1)) (z9p 4 sc.nd) (z1u 5 sc.nd (z1d (cc Y0 36) hr z0l (z0v (pv 4) (pv 3))) (z1q (z1f x4u (z0s z0g (pv 5) z0c) y2y) (z1b (z0r (z0v (z7z z1a Z0.ztuple t2g (z1o (pv 3))) (z0r (z0v (z3k Z0.zlen (pv 3)) (z0s z0g (pv 5) z0c)))))) (z0q (z1l (z5l (pv 3) (z0s z0g (pv 5) z0c))))))) (z1q (PW.pt (z5a (z6f (x9n x9w x9w z0c (z3k Z0.zlen (pv 2)) (z6p (v:=.int 8) (by rfl) gMOST_OUTS ⟨_,rfl⟩))) (z3m (z4l (z7o (y6p rfl) Z0.zany boot_any (z1o (z3d (own:=["out"]) (fv:=["steps"]) (js:=[1]) rfl (z4m (pv 2)) rfl (by decide) rfl (by decide) (by kcj_m) (z2y (by rfl)) rfl (y6v (by kcf_m)) (λ _ _ _ _=>(z6l 0 ["out","steps"])) (λ _ _ _ _=>(w8n (z7j z6a (pv 0) z0c (z9m _)) (x4p (z7j y7i (pv 0) (z7o ((z8l (K:=K) rfl)) Z0.zlen t6y (z1o (pv 1))) (z9m _)))))))))))) (z1b (z0r (z0v (z7z z1a Z0.ztuple t2g (z1o (pv 3))) (z0r (z0v (z7o ((z8l (K:=K) rfl)) Z0.zlen t6y (z1o (pv 1))) z0p))))) (z1b (z0r (z0v (z7z z1a Z0.ztuple t2g (z1o (pv 3))) y2y)))))))),?_⟩
 (try dsimp only [z0t]);simp only [L2.start,t0h,t0j,List.replicate,t0k,t0m,Nat.reduceSub,Nat.reduceAdd,z2o,z2p]
 ktn_end (λ σ G=>G=H/\σ=[some (.ref r),some (.ref st),none,none,none,none])
 ·ktr_call z0b t0a;exact ⟨_,hr0,_,z0f (j:=0) rfl,hR _ _ ⟨rfl,rfl⟩⟩
 rintro σ1 G1 ⟨rfl,rfl⟩;ktn_end (λ σ G=>G=G1/\σ=[some (.ref r),some (.ref st),some (.ref ot),none,none,none])
 ·ktr_call z0b t0a;exact ⟨_,hr0,_,z0f (j:=1) rfl,hR _ _ ⟨rfl,rfl⟩⟩
 rintro σ2 G2 ⟨rfl,rfl⟩;ktn_end (λ σ G=>∃sd,Same G2 G/\G2 sd=none/\G sd=some (.lst [])/\σ=[some (.ref r),some (.ref st),some (.ref ot),some (.ref sd),none,none])
 ·ktr_call z0b t0a;exact ⟨t0x _,λ l hl=>hR _ _ ⟨l,z0a hl _,hl,z0d,rfl⟩⟩
 rintro σ3 G3 hz9;kd_p;obtain ⟨sd,s3,sd0,hsd,rfl⟩:=hz9;refine gz ?_;clear gz Gz;ktn_end (λ σ G=>∃(ps:List Addr) (y4 y5:Option V),Same G2 G/\G sd=some (.lst (ps.map V.ref))/\TpsM G ps Ss/\σ=[some (.ref r),some (.ref st),some (.ref ot),some (.ref sd),y4,y5])
 ·wp_walk using z0b,eqV,t0a;obtain ⟨J,hJ⟩:∃J:Nat->L2.St->Hp->Prop,J=(λ i σ G=>∃(ps:List Addr) (y4 y5:Option V),Same G2 G/\G sd=some (.lst (ps.map V.ref))/\TpsM G ps (Ss.take i)/\σ=[some (.ref r),some (.ref st),some (.ref ot),some (.ref sd),y4,y5]):=⟨_,rfl⟩;refine LoopT.mk (xs:=qs.map V.ref) (.of (s3 _ _ hst)) J (by rw [hJ];exact ⟨[],_,_,s3,hsd,⟨rfl,λ i p e=>nomatch e⟩,rfl⟩) (λ i σ G _ h=>by rw [hJ] at h;obtain ⟨_,_,_,s,_⟩:=h;exact .of (s _ _ hst)) (λ i x σ G0 e h=>?_) (λ σ G h=>?_);rotate_left
  ·rw [hJ] at h;kd_p;obtain ⟨ps,y4,y5,s,h1,h2,rfl⟩:=h;refine gz ?_;clear gz Gz;rw [t0c,sl.1,gd.1,t1h] at h2;exact hR _ _ ⟨ps,_,_,s,h1,h2,rfl⟩
  clear hR;rw [hJ] at h;kd_p;obtain ⟨ps,y4,y5,s,h1,h2,rfl⟩:=h;refine gz ?_;clear gz Gz
  obtain ⟨p,rfl,hp⟩:∃p,x=.ref p/\qs[i]?=some p:=by
   rw [t0q] at e
   cases hx:qs[i]? with
   | none=>rw [hx] at e;cases e
   | some n=>rw [hx] at e;cases e;exact ⟨n,rfl,rfl⟩
  obtain ⟨d,ed,hd⟩:=sl.2 i p hp;have il:i < Ss.length:=by rw [← gd.1];exact (t0g.mp ed).1
  have eS:=t0e il;have i40:i < 40:=by rw [← gd.1] at il;lia
  have pl:ps.length=i:=by rw [h2.1,t0p];lia
  generalize Ss[i]=S at eS;have ok:=gd.2.2 i d S ed eS;have ft:=x0k gd hmo;simp only [z6w,t5g,t5f];ktn_end (λ σ G=>Same G0 G/\∃r' t,G r'=some (.tup [.ref t,.non])/\Tp G t S/\σ=[some (.ref r),some (.ref st),some (.ref ot),some (.ref sd),some (.ref p),some (.ref r')])
  ·cell_end z0b t0a w2j;exact ⟨d,hd.same s,S,Ss.take i,ps,h1,h2,λ T hT=>ft T (t4q hT),by rw [t0p];lia,ok,ft S (t0i eS),λ G r' t u e1 e2=>hR _ _ ⟨u,r',t,e1,e2,rfl⟩⟩
  rintro σ1' G1' hz9;kd_p;obtain ⟨u1,r',t,e1,e2,rfl⟩:=hz9;refine gz ?_;clear gz Gz;ktn_end (λ σ G=>G=G1'/\σ=[some (.ref r),some (.ref st),some (.ref ot),some (.ref sd),some (.ref p),some (.ref r')])
  ·ktr_call z0b t0a;exact ⟨_,e1,_,z0f (j:=1) rfl,hR _ _ ⟨rfl,rfl⟩⟩
  rintro σ2' G2' ⟨rfl,rfl⟩;ktr_call z0b t0a;refine ⟨⟨_,u1 _ _ h1⟩,_,e1,_,z0f (j:=0) rfl,_,u1 _ _ h1,by rw [t0c,pl];exact z0n (by lia),?_⟩;have up:=z7q (ys:=ps.map V.ref++[V.ref t]) (u1 _ _ h1);rw [hJ];exact ⟨ps++[t],_,_,z3z (s.trans u1) sd0,by rw [z0d,t0l];rfl,(h2.up ((z7g u1).trans up)).snocT eS (up.1 _ _ e2),rfl⟩
 rintro σ4 G4 hz9;kd_p;obtain ⟨ps,y4,y5,s4,h1,h2,rfl⟩:=hz9;refine gz ?_;clear gz Gz;ktn_end (λ σ G=>Same G4 G/\σ=[some (.ref r),some (.ref st),some (.ref ot),some (.ref sd),y4,y5])
 ·ktr_call z0b t0a;refine ⟨_,.inr (.of (s4 _ _ hot)),?_⟩;rw [z0j,if_pos (by lia),if_neg (by lia)];refine CompT.mk (xs:=os.map V.int) (.of (s4 _ _ hot)) (λ i ys σ G=>G=G4/\i≤os.length/\ys=(rep i).map V.bl/\∃y,σ=[y,some (.ref st)]) ⟨rfl,t0x _,rfl,_,rfl⟩ (λ i ys σ G _ h=>by rw [h.1];exact .of (s4 _ _ hot)) (λ i x ys σ G e h=>?_) (λ ys σ G h p1 hp1=>?_)
  ·kd_p;obtain ⟨rfl,hi,rfl,y,rfl⟩:=h;obtain ⟨o,rfl,eo⟩:=z3q e;refine gz ?_;clear gz Gz;have il:=(t0g.mp eo).1;have oo:=ob o (t0i eo);refine ⟨by rw [t0c,x4d];exact z0n (by lia),?_⟩;ktr_call z0b t0a;rw [if_neg (by lia)];refine ⟨_,.inr (.of (s4 _ _ hst)),?_⟩;rw [t0c,sl.1,t2n (show ¬(ds.length:Int)≤o by lia)];exact ⟨il,(y9t i).symm,_,rfl⟩
  ·kd_p;obtain ⟨rfl,hi,rfl,y,rfl⟩:=h;refine gz ?_;clear gz Gz;rw [z0j];refine ⟨_,rfl,_,.of z0d,?_⟩;rw [x4e,if_neg t1e];exact hR _ _ ⟨z0a hp1 _,rfl⟩
 rintro σ5 G5 ⟨s5,rfl⟩;ktr_call z0b t0a;exact ⟨_,.inl ⟨.of (s5 _ _ h1),λ t1 ht1=>⟨smd,λ p hp=>q _ p t1 ps (s4.trans (s5.trans ((z0a ht1 _).trans (z0a hp _)))) z0d (z0a hp _ _ _ z0d) (h2.same (s5.trans ((z0a ht1 _).trans (z0a hp _))))⟩⟩⟩
theorem x5k (Y0:Cs Z0 38):ca (Cl Z0) 38:=kz1 Z0 Z0.g38 λ f fd F=>by
 have sc:=scq (z0h y9m) ["program"] ["told","fault"];kt_k
 ·exact el5 vs h λ _ _ _ _ _ _=>rfl
 refine el5 vs h λ r ds Ss os mo h=>an3 h λ pm gd q=>?_;refine ⟨_,(z1u 1 sc.nd (z1d (cc Y0 37) hr z0l (z1o (pv 0))) (z1u 2 sc.nd (z0s z0g (pv 1) z0c) (z1q (z1f x4u (pv 2) y2y) (z0q z1n) (z1b (z0s z0g (pv 1) z0c))))),?_⟩
 (try dsimp only [z0t]);simp only [L2.start,t0h,t0j,List.replicate,t0k,t0m,Nat.reduceSub,Nat.reduceAdd,z2o,z2p]
 ktn_end (λ σ G=>∃r' t ps,Same H G/\G r'=some (.tup [.ref t,.non])/\G t=some (.tup (ps.map V.ref))/\TpsM G ps Ss/\σ=[some (.ref r),some (.ref r'),none])
 ·cell_end z0b t0a x2y;exact ⟨ds,Ss,os,pm,mo,gd,λ G r' t ps u h1 h2 h3=>hR _ _ ⟨r',t,ps,u,h1,h2,h3,rfl⟩⟩
 rintro σ1 G1 hz9;kd_p;obtain ⟨r',t,ps,s1,h1,h2,h3,rfl⟩:=hz9;refine gz ?_;clear gz Gz;ktn_end (λ σ G=>G=G1/\σ=[some (.ref r),some (.ref r'),some .non])
 ·ktr_call z0b t0a;exact ⟨_,h1,_,z0f (j:=1) rfl,hR _ _ ⟨rfl,rfl⟩⟩
 rintro σ2 G2 ⟨rfl,rfl⟩;ktn_end (λ σ G=>G=G2/\σ=[some (.ref r),some (.ref r'),some .non])
 ·ktr_call z0b t0a;exact hR _ _ ⟨rfl,rfl⟩
 rintro σ3 G3 ⟨rfl,rfl⟩;ktr_call z0b t0a;exact ⟨_,h1,_,z0f (j:=0) rfl,q _ t ps s1 h2 h3⟩
theorem x5a (Y0:Cs Z0 39):ca (Cl Z0) 39:=kz2 Z0 Z0.g39 λ f fd F=>by
 have sc:=scq (z0h y8v) ["sides","cells"] [];kt_k
 ·exact el4 vs h λ _ _ _ _ _=>rfl
 refine el4 vs h λ a c0 ns cs h=>an8 h λ ha hc hs h63 h900 b e q3=>?_;refine ⟨_,(z0o (z1l (z1d (cc Y0 11) hr z0l (z1o (pv 0)))) (z1q (z1f z8g (z3k Z0.zlen (pv 1)) (z1d (cc Y0 9) hr z0l (z1o (pv 0)))) (z0q z1n) (z1b (z0r (z0v (pv 0) (z7z z1a Z0.ztuple t2g (z1o (z5y (own:=["cell"]) rfl (w2z (pv 1)) (by decide) (by decide) rfl (by decide) (λ _ _ _ _=>(z6l 0 ["cell"])) (λ _ _ _ _=>(z1d (cc Y0 0) hr z0l (z1o (pv 0)))))))))))),?_⟩
 (try dsimp only [z0t]);simp only [L2.start,t0h,t0j,List.replicate,t0k,t0m,Nat.reduceSub,Nat.reduceAdd,z2o,z2p]
 wp_walk using y6t,z9t,eqV,z0b,t0a,z4d,z7u,z4v;refine ⟨ns,ha,hs,h63,b,λ H1 s1=>?_⟩;refine ⟨_,(hc.same s1).imp .of .of,ns,.inr (s1 _ _ ha),hs,?_⟩;rw [z0j];rw [if_neg (λ z=>z e)];have hc1:=hc.same s1;have ha1:=s1 _ _ ha;have fin:∀(G:Hp) (p:Addr),Same H1 G->G p=some (.lst ((cs.map z4u).map V.int))->∃p',V.ref p=V.ref p'/\∃x,(SqL K G p' x/\∀(l:Addr),G l=none->2≤sizeLine/\∀(p:Addr),upd G l (HO.tup x) p=none->Q (V.ref p) (upd (upd G l (HO.tup x)) p (HO.tup [V.ref a,V.ref l])))\/SqT K G p' x/\2≤sizeLine/\∀(p_1:Addr),G p_1=none->Q (V.ref p_1) (upd G p_1 (HO.tup [V.ref a,V.ref p'])):=λ G p sG hp=>⟨p,rfl,_,.inl ⟨.of hp,λ l hl=>⟨smd,λ p2 hp2=>q3 _ p2 (s1.trans (sG.trans ((z0a hl _).trans (z0a hp2 _)))) ⟨a,l,z0d,z0a hp2 _ _ _ (z0a hl _ _ _ (sG _ _ ha1)),z0a hp2 _ _ _ z0d⟩⟩⟩⟩
 rcases hc1 with hc1 | hc1
 ·refine .inl (CompL.ints (fn:=z4u) (.of hc1) (by lia) (λ n _ G _ Q' hQ=>?_) (λ G sG p hp=>fin _ p (sG.trans (z0a hp _)) z0d));cell_end z0b t0a z4v;exact hQ _ (Same.refl _)
 ·refine .inr (CompT.mk (xs:=cs.map V.int) (.of hc1) (λ i ys σ G=>G=H1/\ys=((cs.take i).map z4u).map V.int/\∃y,σ=[y]) ⟨rfl,rfl,_,rfl⟩ (λ i ys σ G _ h=>by rw [h.1];exact .of hc1) (λ i x ys σ G ex h=>?_) (λ ys σ G h p hp=>?_))
  ·kd_p;obtain ⟨rfl,rfl,y,rfl⟩:=h;obtain ⟨m,rfl,hm⟩:=z3q ex;refine gz ?_;clear gz Gz
   have e1:((cs.take (i+1)).map z4u).map V.int=((cs.take i).map z4u).map V.int++[V.int (z4u m)]:=by
    rw [t1j,hm,t0l,t0l];rfl
   kpf_say z0b t0a z4v e1;refine ⟨?_,?_⟩
   ·rw [t0c,t0c,t0p];exact z0n (by lia)
   exact ⟨_,rfl⟩
  ·obtain ⟨rfl,rfl,y,rfl⟩:=h;rw [z0j,t1h];exact fin _ p (z0a hp _) z0d
theorem x5b (Y0:Cs Z0 40):ca (Cl Z0) 40:=kz2 Z0 Z0.g40 λ f fd F=>by
 have sc:=scq (z0h y8w) ["sides","number_at"] [];kt_k
 ·exact el4 vs h λ _ _ _ _ _=>rfl
 refine el4 vs h λ sa fa ns fn h=>an7 h λ ha hs h63 h512 hf hc q=>?_;refine ⟨_,(z1b (z0r (z0v (pv 0) (z7z z1a Z0.ztuple t2g (z1o (z3d (own:=["at"]) (fv:=["number_at"]) (js:=[1]) rfl (z4h (z1d (cc Y0 15) hr z0l (z1o (pv 0)))) rfl (by decide) rfl (by decide) (by kcj_m) (z2y (by rfl)) rfl (y6v (by kcf_m)) (λ _ _ _ _=>(z6l 0 ["at","number_at"])) (λ _ _ _ _=>(x9t (P:=P) (w:=w) (K:=K) (mg:=mg) (base:=base) (i:=1) rfl rfl rfl rfl rfl hr rfl (by first | exact Or.inl rfl | exact Or.inr (Or.inl rfl) | exact Or.inr (Or.inr rfl)) (z1o (pv 0)))))))))),?_⟩;have pn:=z8t λ n hn=>(hs n hn).1;cell_end z0b t0a x3l;refine ⟨ns,ha,hs,h63,h512,λ H1 l ps s1 hl tp=>?_⟩;have pl:=tp.1;rw [y8p] at pl;refine CompL.mk (xs:=ps.map V.ref) (.of hl) (λ i ys σ G=>Same H1 G/\ys=(((List.range i).map fn).map V.int)/\∃y,σ=[y,some (.ref fa)]) ⟨Same.refl _,rfl,_,rfl⟩ (λ i ys σ G _ h=>.of (h.1 _ _ hl)) (λ i x ys σ G ex h=>?_) (λ ys σ G h p hp=>?_)
 ·obtain ⟨sG,rfl,y,rfl⟩:=h;have il:i < ps.length:=by have:=(t0g.mp ex).1;rwa [t0c] at this
  obtain ⟨p,ep,hp⟩:=tp.2 i _ (x8f (by lia));rw [t0q,ep] at ex;cases (t1i ex);refine ⟨by rw [t0c,t0c,t1x];exact z0n (by lia),?_⟩;ktr_call z0b t0a;have f1:=hf.same λ o e=>(s1.trans sG) _ _ e;refine ⟨f1,f1,hc i G p _ (by lia) (s1.trans sG) (sG _ _ hp) λ H2 s2=>⟨sG.trans s2,?_,_,rfl⟩⟩;rw [t6h,t0l,t0l];rfl
 ·obtain ⟨sG,rfl,y,rfl⟩:=h;rw [t0c,pl];refine ⟨p,rfl,_,.inl ⟨.of z0d,λ q0 hq0=>⟨smd,λ r hr0=>?_⟩⟩⟩;exact q _ r q0 (s1.trans (sG.trans ((z0a hp _).trans ((z0a hq0 _).trans (z0a hr0 _))))) (z0a hr0 _ _ _ z0d) z0d
theorem w4q (Y0:Cs Z0 41):ca (Cl Z0) 41:=kz1 Z0 Z0.g41 λ f fd F=>by
 have sc:=scq (z0h w2s) ["n"] [];kt_k
 ·obtain ⟨n,rfl,_⟩:=h;rfl
 obtain ⟨n,rfl,q⟩:=h;refine ⟨_,(z1b (z1d (cc Y0 39) hr z0l (z0v (z0r z1j) (z0r (z1o (pv 0)))))),?_⟩
 (try dsimp only [z0t]);simp only [L2.start,t0h,t0j,List.replicate,t0k,t0m,Nat.reduceSub,Nat.reduceAdd,z2o,z2p]
 cell_end z0b t0a y4y;refine ⟨t0x _,λ p hp=>⟨smd,λ p1 hp1=>⟨[],z0a hp1 _ _ _ z0d,[n],.inr z0d,w7q,by decide,by simp,w5t,rfl,λ G p2 s t=>q G p2 ((z0a hp _).trans ((z0a hp1 _).trans s)) t⟩⟩⟩
theorem w0c (Y0:Cs Z0 42):ca (Cl Z0) 42:=kz2 Z0 Z0.g42 λ f fd F=>by
 have sc:=scq (z0h x3t) ["tab","at"] [];kt_k
 ·obtain ⟨ta,b,ns,cs,ms,rfl,_⟩:=h;rfl
 obtain ⟨ta,b,ns,cs,ms,rfl,⟨sa,ca,ht,ha,hc⟩,hb,hs,h63,g,cl,q⟩:=h;refine ⟨_,(z1b (z0s z0g (z0s z0g (pv 0) z0c) (z1d (cc Y0 13) hr z0l (z0v (z0s z0g (pv 0) z0c) (pv 1))))),?_⟩;have pi:=x4n g;have gl:=g.1
 have ex:cs[(plH ns ms).toNat]?=some (cs.getD (plH ns ms).toNat 0):=by
  rw [t0w,t0e (by lia)];rfl
 cell_end z0b t0a y5a;exact ⟨_,ht,_,z0f (j:=1) rfl,_,ht,_,z0f (j:=0) rfl,sa,rfl,ns,ha,ms,hb,hs,h63,g,λ H1 s1=>⟨ca,rfl,_,s1 _ _ hc,_,y3g pi.1 ex,q _ s1⟩⟩
theorem w9e (Y0:Cs Z0 43):ca (Cl Z0) 43:=v2s Z0 Z0.t43 λ f fd c F hcd TF=>by
 have sc:=scq (z0h x9e) ["word","tab","side"] ["begin","sides","length","number_at"];refine F.okT hcd sc (λ vs H Q E h=>?_) (λ A outer s H vs Q E hr h=>?_)
 ·exact el5 vs h λ _ _ _ _ _ _=>rfl
 refine el5 vs h λ wd t ns cs side h=>v0z h λ tb hm h20 p5 csl hin ht hw no q3=>?_;have own:OwnCl (envOfC "fold" (z0h x9e) s.heap.objs.size f (.ref c)).cells ["word","tab","side","length","begin"] [("word",s.heap.objs.size+1),("tab",s.heap.objs.size+2),("side",s.heap.objs.size+3),("length",s.heap.objs.size+5),("begin",s.heap.objs.size+4)]:=⟨rfl,(fc rfl (fc rfl (fc rfl (fc rfl (fc rfl fc0)))))⟩;refine ⟨_,(z1u 3 sc.nd (z1d (cc Y0 6) hr z0l (z1o (pv 0))) (z1u 4 sc.nd (z1d (cc Y0 30) hr z0l (z0v (z0s z0g (pv 1) z0c) (pv 2))) (z1u 5 sc.nd (z0s z0g (z0s z0g (pv 1) z0c) (pv 2)) (z0o (x4k (i:=6) (qual := "fold.<locals>.number_at") (fv:=["word","tab","side","length","begin"]) (cl:=[("word",s.heap.objs.size+1),("tab",s.heap.objs.size+2),("side",s.heap.objs.size+3),("length",s.heap.objs.size+5),("begin",s.heap.objs.size+4)]) sc.nd rfl (.inl rfl) rfl rfl TF rfl own rfl rfl rfl) (z1b (z5z (fv:=["word","tab","side","length","begin"]) (js:=[0,1,2,5,3]) (Cr.a (cc Y0 40)) hr (by rfl) own rfl (fc rfl (fc rfl (fc rfl (fc rfl (fc rfl fc0))))) (fc rfl (fc rfl (fc rfl (fc rfl (fc rfl fc0))))) (by decide +kernel) (z0v (pv 4) (pv 6)))))))),?_⟩;generalize (y6i _ _ _ _ _ _ _ _ _ _ _ _ _ _ _ _).env.cells=ec;wp_walk using y6t,z9t,eqV,z0b,t0a,z7t,z5t,z2w;kd_p;obtain ⟨sa,ca,tt,ta,tc⟩:=id tb;refine gz ?_;clear gz Gz;refine ⟨hw,λ H0 s0=>?_⟩;refine ⟨_,s0 _ _ tt,_,z0f (j:=0) rfl,_,rfl,ns,s0 _ _ ta,by lia,no,λ H1 p s1 hp=>?_⟩;obtain ⟨k,rfl,hk⟩:=y1z no;simp only [t1c] at hp q3;have s01:=s0.trans s1;refine ⟨_,s01 _ _ tt,_,z0f (j:=0) rfl,_,rfl,_,s01 _ _ ta,_,z4y hk,ht.same s01,λ fa c' cl H2 o1 ffa hfa hc2 ht2 up2=>⟨[.str wd,.ref t,.int k,.int (ns.getD k 0),.int (z4f wd)],by simp,λ cl' H3 o2 fr hcel eq3=>?_⟩⟩;cases OwnCl.uniq o1 o2;have ht0:=ht.same s01;have up3:∀a xs,H1 a=some (.tup xs)->H2 a=some (.tup xs):=λ a xs e=>up2 _ _ (z7s ht0 e) e;have u3:=z5i fr eq3;have hs:=y0w hm;have nn:∀n∈ns,0≤n:=λ n hn=>(hs n hn).1;have sdA:z2x (ns.eraseIdx k):=λ n hn=>hs n (t8r hn);have pb:=z1e λ n hn=>(sdA n hn).1;have pe:=z9n (k:=k) nn;have li:(ns.eraseIdx k).length=ns.length - 1:=by rw [t5n,if_pos hk]
 have nk:=hm _ (getD_mem hk);have lsc:LmScope ["at","word","tab","side","length","begin","number","k"] ["at"] ["word","tab","side","length","begin"] { kind:=ScopeKind.function,names:=[("at",NameKind.local),("number",NameKind.local),("k",NameKind.local),("begin",NameKind.free),("length",NameKind.free),("side",NameKind.free),("tab",NameKind.free),("word",NameKind.free),("range",NameKind.globalImplicit),("twice",NameKind.globalImplicit),("cell_at",NameKind.globalImplicit),("added_at",NameKind.globalImplicit)],isGenerator:=false,isCoroutine:=false }:=⟨rfl,rfl,rfl,by decide +kernel,rfl,fc (.inl rfl) fc0,fc rfl (fc rfl (fc rfl (fc rfl (fc rfl fc0)))),by decide +kernel,by decide +kernel⟩;refine ⟨ns.eraseIdx k,u3 _ _ (up3 _ _ hp),sdA,by lia,by lia,FnV.dfn (u3 _ _ hfa),λ i=>w5n wd (z4f wd) ns cs k (atD (ns.eraseIdx k) (i:Int)) (ns.getD k 0).toNat,λ i H4 p1 Q' hi s4 hp1 hq=>?_,λ H4 p q s4 hq hp'=>?_⟩
 ·have hcel1:=hcel.same s4;have tbm:TbAt (minC H4 cl) t ns cs:=z7a hcel1 (((y1r (T:=TD) (tb.same s01) up3).same u3).same s4);have hpm:=z1k hcel1 hp1;have gd:=z4c sdA (by lia) hi;have al:=z5j (ns.eraseIdx k) i;replace hq:∀H2,Same H4 H2->Q' (V.int (w5n wd (z4f wd) ns cs k (atD (ns.eraseIdx k) (i:Int)) (ns.getD k 0).toNat)) H2:=hq;generalize atD (ns.eraseIdx k) (i:Int)=At at *;refine y8i (k:=5) (vs:=[V.ref p1]) (vcs:=[.str wd,.ref t,.int k,.int (ns.getD k 0),.int (z4f wd)]) lsc o1.1 (λ doc pm ctv us hl=>by match us,hl with | [u],_=>rfl) rfl (s4 _ _ (u3 _ _ hfa)) (s4 _ _ (u3 _ _ hc2)) hcel1 (λ A outer s hr=>(z1u 6 lsc.nd (pv 5) (z0o (z3g t1u rfl (z2j (by rfl) Z0.zrange (z1o (pv 4))) (z9p 7 lsc.nd) (z0q (y4r 6 lsc.nd (z1d (cc Y0 5) hr z0l (z0i (pv 1) (z0v (pv 6) (z1d (cc Y0 42) hr z0l (z0v (pv 2) (z1d (cc Y0 17) hr z0l (z0i (pv 0) (z0v (pv 3) (pv 7)))))))))))) (z1b (pv 6))))) ?_;wp_walk using z0b,z9t,eqV,t0a;ktn_end (λ σ G=>G=minC H4 cl/\σ=[some (.ref p1),some (.str wd),some (.ref t),some (.int k),some (.int (ns.getD k 0)),some (.int (z4f wd)),some (.int (z4f wd)),none])
  ·ktr_call z0b t0a;exact hR _ _ ⟨rfl,rfl⟩
  rintro σ1 G1 ⟨rfl,rfl⟩;ktn_end (λ σ G=>Same (minC H4 cl) G/\∃y7,σ=[some (.ref p1),some (.str wd),some (.ref t),some (.int k),some (.int (ns.getD k 0)),some (.int (z4f wd)),some (.int (w5n wd (z4f wd) ns cs k At (ns.getD k 0).toNat)),y7])
  ·wp_walk using z0b,z9t,eqV,t0a;refine ⟨by lia,by lia,?_⟩;refine LoopR.mk (λ j σ G=>Same (minC H4 cl) G/\∃y7,σ=[some (.ref p1),some (.str wd),some (.ref t),some (.int k),some (.int (ns.getD k 0)),some (.int (z4f wd)),some (.int (w5n wd (z4f wd) ns cs k At j)),y7]) ⟨Same.refl _,_,rfl⟩ (λ j σ G hj h=>?_) (λ σ G h=>hR _ _ h);obtain ⟨sG,y7,rfl⟩:=h;wp_walk using y6t,z9t,eqV,z0b,t0a,z4o,y0t,z8n;rw [t5y];have gj:=w0v hk gd (y:=(j:Int)) (by lia) (by lia);have pi:=x4n gj;refine ⟨At,k,rfl,sG _ _ hpm,by lia,λ G2 r s2 hr2=>⟨ns,cs,(tbm.same sG).same s2,_,hr2,hs,by lia,gj,csl,λ G3 s3=>⟨x6z hw (y5z _) hin _,hin _ (getD_mem (by lia)),x6w hw,sG.trans (s2.trans s3),rfl,_,rfl⟩⟩⟩
  rintro σ2 G2 ⟨s2,y7,rfl⟩;ktr_call z0b t0a;exact hq _ (z3y s2)
 ·have hb:=z3r fr eq3 s4;have hc4:=hcel.same s4;exact q3 _ p (λ b o n e=>hb _ _ (up2 _ _ n (s01 _ _ e))) (ht2.same hb) ⟨_,_,z1k hc4 hp',hb _ _ (up3 _ _ hp),z1k hc4 hq⟩
theorem v2i (Y0:Cs Z0 44):ca (Cl Z0) 44:=kz3 Z0 Z0.g44 λ f fd F=>by
 have sc:=scq (z0h v4n) ["word","tab","side"] ["begin","sides","stride","cells","place","cell","is_first","before"];kt_k
 ·obtain ⟨wd,t,ns,cs,side,rfl,_⟩:=h;rfl
 obtain ⟨wd,t,ns,cs,side,rfl,⟨sa,ca,tt,ta,tc⟩,hm,h20,p5,csl,hin,hw,no,q3⟩:=h;refine ⟨_,(z1u 3 sc.nd (z1d (cc Y0 6) hr z0l (z1o (pv 0))) (z1u 4 sc.nd (z0s z0g (pv 1) z0c) (z0o (z1l (z1d (cc Y0 19) hr z0l (z0v (pv 4) (pv 2)))) (z1u 5 sc.nd (z0s z0g (z1d (cc Y0 12) hr z0l (z1o (pv 4))) (pv 2)) (z1u 6 sc.nd (z3i z1j) (z0o (z3g t1u rfl (w4e (by rfl) Z0.zenumerate (z0s z0g (pv 1) z0c)) (z7i (n:=2) (z9l rfl (z1x (z9p 7 sc.nd) (z1x (z9p 8 sc.nd) z6o)))) (z1u 9 sc.nd (z7j z0z (z0m z2l (z0m z6b (pv 7) (pv 5)) (z0s z0g (pv 4) (pv 2))) z0c (z9m _)) (z1u 10 sc.nd (z4p (z4l (pv 9)) (pv 3) (z0s z0k (pv 6) (z0m z4e (pv 7) (pv 5)))) (z0q (z1l (z5l (pv 6) (z1d (cc Y0 5) hr z0l (z0i (pv 0) (z0v (pv 10) (pv 8)))))))))) (z1b (z0r (z0v (pv 4) (z7z z1a Z0.ztuple t2g (z1o (pv 6)))))))))))),?_⟩
 (try dsimp only [z0t]);simp only [L2.start,t0h,t0j,List.replicate,t0k,t0m,Nat.reduceSub,Nat.reduceAdd,z2o,z2p]
 have hs:=y0w hm;have nn:∀n∈ns,0≤n:=λ n hn=>(hs n hn).1;have po:=z1e nn;ktn_end (λ σ G=>Same H G/\σ=[some (.str wd),some (.ref t),some (.int side),some (.int (z4f wd)),none,none,none,none,none,none,none])
 ·cell_end z0b t0a z7t;exact ⟨hw,λ G s0=>hR _ _ ⟨s0,rfl⟩⟩
 rintro σ1 G1 ⟨s1,rfl⟩;replace tt:=s1 _ _ tt;replace ta:=s1 _ _ ta;replace tc:=s1 _ _ tc;ktn_end (λ σ G=>G=G1/\σ=[some (.str wd),some (.ref t),some (.int side),some (.int (z4f wd)),some (.ref sa),none,none,none,none,none,none])
 ·ktr_call z0b t0a;exact ⟨_,tt,_,z0f (j:=0) rfl,hR _ _ ⟨rfl,rfl⟩⟩
 rintro σ2 G2 ⟨rfl,rfl⟩;ktn_end (λ σ G=>G=G2/\σ=[some (.str wd),some (.ref t),some (.int side),some (.int (z4f wd)),some (.ref sa),none,none,none,none,none,none])
 ·cell_end z0b t0a z4w;exact ⟨ns,ta,no,hR _ _ ⟨rfl,rfl⟩⟩
 rintro σ3 G3 ⟨rfl,rfl⟩;obtain ⟨k,rfl,hk⟩:=y1z no;simp only [t1c] at q3;ktn_end (λ σ G=>Same G3 G/\σ=[some (.str wd),some (.ref t),some (.int k),some (.int (z4f wd)),some (.ref sa),some (.int (z0e (ns.drop (k+1)))),none,none,none,none,none])
 ·cell_end z0b t0a z7d;exact ⟨ns,ta,hs,by lia,λ G p s hp=>⟨_,hp,_,z0f (j:=k) (v:=.int (z0e (ns.drop (k+1)))) (by rw [t0q,w2h hk];rfl),hR _ _ ⟨s,rfl⟩⟩⟩
 rintro σ4 G4 ⟨s4,rfl⟩;replace tt:=s4 _ _ tt;replace ta:=s4 _ _ ta;replace tc:=s4 _ _ tc;replace s1:=s1.trans s4;clear s4;ktn_end (λ σ G=>∃l,G=upd G4 l (.lst [])/\G4 l=none/\σ=[some (.str wd),some (.ref t),some (.int k),some (.int (z4f wd)),some (.ref sa),some (.int (z0e (ns.drop (k+1)))),some (.ref l),none,none,none,none])
 ·ktr_call z0b t0a;exact ⟨smd,λ l hl=>hR _ _ ⟨l,rfl,hl,rfl⟩⟩
 rintro σ5 G5 ⟨l,rfl,l0,rfl⟩;ktn_end (λ σ G=>∃y7 y8 y9 y10,Same G4 G/\G l=some (.lst ((w2v wd ns cs k).map V.int))/\σ=[some (.str wd),some (.ref t),some (.int k),some (.int (z4f wd)),some (.ref sa),some (.int (z0e (ns.drop (k+1)))),some (.ref l),y7,y8,y9,y10])
 ·wp_walk using z0b,eqV,t0a;have sl:=z0a l0 (.lst []);refine ⟨_,sl _ _ tt,_,z0f (j:=1) rfl,?_⟩;refine LoopE.mk (xs:=cs.map V.int) (.of (sl _ _ tc)) (λ j σ G=>∃y7 y8 y9 y10,Same G4 G/\G l=some (.lst ((y6u wd (z4f wd) (z0e (ns.drop (k+1))) (ns.getD k 0) cs j).map V.int))/\σ=[some (.str wd),some (.ref t),some (.int k),some (.int (z4f wd)),some (.ref sa),some (.int (z0e (ns.drop (k+1)))),some (.ref l),y7,y8,y9,y10]) ⟨_,_,_,_,sl,z0d,rfl⟩ (λ j σ G _ ⟨_,_,_,_,sG,_⟩=>.of (sG _ _ tc)) (λ j x σ G T ex h T0=>?_) (λ σ G h=>?_)
  ·kd_p;obtain ⟨y7,y8,y9,y10,sG,gl,rfl⟩:=h;obtain ⟨c,rfl,hc⟩:=z3q ex;refine gz ?_;clear gz Gz;have jl:j < cs.length:=(t0g.mp hc).1;have np:=w4u hs (p:=(j:Int)) (by lia) (by lia);have sp:=z9z (ns:=ns.drop (k+1)) λ n hn=>np n (t4r hn);have nk:=np _ (getD_mem hk);have sT:=z0a T0 (.tup [V.int j,V.int c]);have ec:cs.getD j 0=c:=by rw [t0w,hc];rfl
   have e1:((j:Int)).fdiv (z0e (ns.drop (k+1)))=(j:Int) / z0e (ns.drop (k+1)):=t2r _ (by lia);have e2:((j:Int) / z0e (ns.drop (k+1))).fmod (ns.getD k 0)=(j:Int) / z0e (ns.drop (k+1)) % ns.getD k 0:=t4f _ (by lia)
   have nx:∀v:Int,v=z1g wd (if (j:Int) / z0e (ns.drop (k+1)) % ns.getD k 0=0 then z4f wd else (y6u wd (z4f wd) (z0e (ns.drop (k+1))) (ns.getD k 0) cs j).getD ((j:Int) - z0e (ns.drop (k+1))).toNat 0) c->(y6u wd (z4f wd) (z0e (ns.drop (k+1))) (ns.getD k 0) cs j).map V.int++[V.int v]=(y6u wd (z4f wd) (z0e (ns.drop (k+1))) (ns.getD k 0) cs (j+1)).map V.int:=λ v ev=>by
    show _=(y6u wd (z4f wd) (z0e (ns.drop (k+1))) (ns.getD k 0) cs j++[z1g wd (if (j:Int) / z0e (ns.drop (k+1)) % ns.getD k 0=0 then z4f wd else (y6u wd (z4f wd) (z0e (ns.drop (k+1))) (ns.getD k 0) cs j).getD ((j:Int) - z0e (ns.drop (k+1))).toNat 0) (cs.getD j 0)]).map V.int;rw [ec,← ev,t0l];rfl
   have rl:=y7c wd (z4f wd) (z0e (ns.drop (k+1))) (ns.getD k 0) cs j;have rin:=x4c (st:=z0e (ns.drop (k+1))) (n:=ns.getD k 0) hw (y5z wd) hin (j:=j) (by lia);have lim:((y6u wd (z4f wd) (z0e (ns.drop (k+1))) (ns.getD k 0) cs j).map V.int).length < sizeLine:=by rw [t0c,rl];exact z0n (by lia)
   have inc:inB c:=hin _ (t0i hc)
   have s1a:z0e (ns.drop (k+1))≤512:=by
    have a1:=z1e (ns:=ns.drop (k+1)) λ n hn=>nn n (t4r hn);have a2:=x2n (ns:=ns) nn ns.length;have a3:z0e ns=z0e (ns.take (k+1)) * z0e (ns.drop (k+1)):=by rw [← y3w,t3s]
    have a4:=z9z (ns:=ns.take (k+1)) λ n hn=>np n (t4q hn);have a5:1 * z0e (ns.drop (k+1))≤z0e (ns.take (k+1)) * z0e (ns.drop (k+1)):=t1s (by lia) (by lia);lia
   have gT:=sT _ _ gl
   have fin:∀v:Int,v=z1g wd (if (j:Int) / z0e (ns.drop (k+1)) % ns.getD k 0=0 then z4f wd else (y6u wd (z4f wd) (z0e (ns.drop (k+1))) (ns.getD k 0) cs j).getD ((j:Int) - z0e (ns.drop (k+1))).toNat 0) c->Same G4 (upd (upd G T (.tup [V.int j,V.int c])) l (.lst ((y6u wd (z4f wd) (z0e (ns.drop (k+1))) (ns.getD k 0) cs j).map V.int++[V.int v]))):=λ v _ b o e=>by
    rw [z0u (λ z=>by rw [z,l0] at e;cases e)];exact sT _ _ (sG _ _ e)
   have taT:=sT _ _ (sG _ _ ta);generalize z0e (ns.drop (k+1))=st at *;generalize y6u wd (z4f wd) st (ns.getD k 0) cs j=rj at *;cell_end z0b t0a z8n;refine ⟨by lia,by lia,by lia,_,taT,_,z4y hk,_,rfl,by lia,?_⟩;rw [e1,e2];by_cases c0:(j:Int) / st % ns.getD k 0=0
   ·rw [if_pos c0];have ev:z1g wd (z4f wd) c=z1g wd (if (j:Int) / st % ns.getD k 0=0 then z4f wd else rj.getD ((j:Int) - st).toNat 0) c:=by rw [if_pos c0]
    exact ⟨⟨_,gT⟩,y5z _,inc,x6w hw,_,gT,lim,fin _ ev,nx _ ev,_,rfl⟩
   ·rw [if_neg c0]
    have j1:st≤(j:Int):=by
     by_cases z:st≤(j:Int)
     ·exact z
     ·rw [Int.ediv_eq_zero_of_lt (by lia) (by lia),Int.zero_emod] at c0;exact absurd rfl c0
    have ev:z1g wd (rj.getD ((j:Int) - st).toNat 0) c=z1g wd (if (j:Int) / st % ns.getD k 0=0 then z4f wd else rj.getD ((j:Int) - st).toNat 0) c:=by rw [if_neg c0]
    have xl:((j:Int) - st).toNat < rj.length:=by lia
    exact ⟨_,gT,_,y3g (by lia) (z2s xl),⟨_,gT⟩,_,rfl,rin _ (getD_mem xl),inc,x6w hw,_,gT,lim,fin _ ev,nx _ ev,_,rfl⟩
  ·rw [t0c] at h;exact hR _ _ h
 rintro σ6 G6 hz9;kd_p;obtain ⟨y7,y8,y9,y10,s6,g6,rfl⟩:=hz9;refine gz ?_;clear gz Gz;ktr_call z0b t0a;exact ⟨_,.inl ⟨.of g6,λ l1 hl1=>⟨smd,λ p hp=>q3 _ p (s1.trans (s6.trans ((z0a hl1 _).trans (z0a hp _)))) ⟨sa,l1,z0d,z0a hp _ _ _ (z0a hl1 _ _ _ (s6 _ _ ta)),z0a hp _ _ _ z0d⟩⟩⟩⟩
theorem w9c (Y0:Cs Z0 45):ca (Cl Z0) 45:=w9s Z0 Z0.t45 λ f fd c F hcd TF=>by
 have sc:=scq (z0h x9a) ["tab","sides"] ["many"];refine F.okT hcd sc (λ vs H Q E h=>?_) (λ A outer s H vs Q E hr h=>?_)
 ·exact el5 vs h λ _ _ _ _ _ _=>rfl
 refine el5 vs h λ t b ns cs ms h=>v5d h λ tb hb hs hm h20 m20 csl p5 ht no q5=>?_;have own:OwnCl (envOfC "lead" (z0h x9a) s.heap.objs.size f (.ref c)).cells ["tab","many"] [("tab",s.heap.objs.size+1),("many",s.heap.objs.size+2)]:=⟨rfl,(fc rfl (fc rfl fc0))⟩;refine ⟨_,(z1u 2 sc.nd (z3k Z0.zlen (z0s z0g (pv 0) z0c)) (z1b (z5z (fv:=["tab","many"]) (js:=[0,2]) (Cr.a (cc Y0 40)) hr (by rfl) own rfl (fc rfl (fc rfl fc0)) (fc rfl (fc rfl fc0)) (by decide +kernel) (z0v (z1d (cc Y0 26) hr z0l (z0v (z0s z0g (pv 0) z0c) (pv 1))) (y2z (qual := "lead.<locals>.<lambda>") (fv:=["tab","many"]) (cl:=[("tab",s.heap.objs.size+1),("many",s.heap.objs.size+2)]) rfl rfl TF rfl rfl own))))),?_⟩;generalize (y6i _ _ _ _ _ _ _ _ _ _ _ _ _ _ _ _).env.cells=ec;kpf_say z0b t0a z8o z2w;kd_p;obtain ⟨sa,ca,tt,ta,tc⟩:=id tb;refine gz ?_;clear gz Gz;refine ⟨_,tt,_,z0f (j:=0) rfl,_,rfl,_,.inr (.of ta),_,tt,_,z0f (j:=0) rfl,_,rfl,ns,ta,ms,hb,no,λ H0 s0=>⟨ht.same s0,λ fa c' cl H2 o1 ffa hfa hc2 ht2 up2=>⟨[.ref t,.int ns.length],by rw [z0j];rfl,λ cl' H3 o2 fr hcel eq3=>?_⟩⟩⟩;cases OwnCl.uniq o1 o2;have ht0:=ht.same s0;have up3:∀a xs,H0 a=some (.tup xs)->H2 a=some (.tup xs):=λ a xs e=>up2 _ _ (z7s ht0 e) e;have u3:=z5i fr eq3;refine ⟨_,u3 _ _ (up3 _ _ (s0 _ _ hb)),hm,by lia,p5,FnV.lam (u3 _ _ hfa),x1z ns cs ms,λ i H1 p1 Q' hi s1 hp1 hq=>?_,λ H4 p q s4 hq hp'=>?_⟩
 ·have hcel1:=hcel.same s1;have tbm:TbAt (minC H1 cl) t ns cs:=z7a hcel1 (((y1r (T:=TL) (tb.same s0) up3).same u3).same s1);have hpm:=z1k hcel1 hp1;have gd:=x6u ns.length (z4c hm (t6l i) hi);rw [no] at gd;have al:=z5j ms i;refine z8y (k:=5) (N:=["at","tab","many"]) (ps:=["at"]) (fv:=["tab","many"]) (vs:=[V.ref p1]) (vcs:=[.ref t,.int ns.length]) ⟨rfl,rfl,rfl,by decide +kernel,rfl,fc (.inl rfl) fc0,fc rfl (fc rfl fc0),by decide +kernel,by decide +kernel⟩ o1.1 (λ pm ctv us hl=>by match us,hl with | [u],_=>rfl) rfl (s1 _ _ (u3 _ _ hfa)) (s1 _ _ (u3 _ _ hc2)) hcel1 (λ A outer s hr=>z8d (Cr.a (cc Y0 42)) hr (by rfl) z0l (z0i (pv 1) (z0i (z1h z1y (pv 0) z1r (z1p (pv 2))) z1j))) ?_;cell_end z0b t0a z4o;refine ⟨_,hpm,λ r G s2 h2=>?_⟩;rw [z3s] at h2;exact ⟨ns,cs,tbm.same s2,_,h2,hs,by lia,gd,csl,λ G2 s3=>hq _ (z3y (s2.trans s3))⟩
 ·have hb':=z3r fr eq3 s4;have hc4:=hcel.same s4;exact q5 _ p (λ b o n e=>hb' _ _ (up2 _ _ n (s0 _ _ e))) (ht2.same hb') ⟨_,_,z1k hc4 hp',hb' _ _ (up3 _ _ (s0 _ _ hb)),z1k hc4 hq⟩
theorem w9g (Y0:Cs Z0 46):ca (Cl Z0) 46:=kz2 Z0 Z0.g46 λ f fd F=>by
 have sc:=scq (z0h w7p) ["word","tab"] [];kt_k
 ·obtain ⟨wd,t,ns,cs,rfl,_⟩:=h;rfl
 obtain ⟨wd,t,ns,cs,rfl,⟨sa,ca,tt,ta,tc⟩,h9,h1,q2⟩:=h;refine ⟨_,(z0o (z1l (z1d (cc Y0 4) hr z0l (z0v (pv 0) z0c))) (z1b (z0r (z0v (z0s z0g (pv 1) z0c) (z7z z1a Z0.ztuple t2g (z1o (z3d (own:=["x"]) (fv:=["word"]) (js:=[0]) rfl (z4m (z0s z0g (pv 1) z0c)) rfl (by decide) rfl (by decide) (by kcj_m) (z2y (by rfl)) rfl (y6v (by kcf_m)) (λ _ _ _ _=>(z6l 0 ["x","word"])) (λ _ _ _ _=>(z1d (cc Y0 4) hr z0l (z0v (pv 1) (pv 0))))))))))),?_⟩
 (try dsimp only [z0t]);simp only [L2.start,t0h,t0j,List.replicate,t0k,t0m,Nat.reduceSub,Nat.reduceAdd,z2o,z2p]
 cell_end z0b t0a y9a;refine ⟨h1,_,tt,_,z0f (j:=0) rfl,_,tt,_,z0f (j:=1) rfl,?_⟩;refine CompT.mk (xs:=cs.map V.int) (.of tc) (λ i ys σ G=>G=H/\ys=((cs.take i).map (z8h wd)).map V.int/\∃y,σ=[y,some (.str wd)]) ⟨rfl,rfl,_,rfl⟩ (λ i ys σ G _ h=>by rw [h.1];exact .of tc) (λ i x ys σ G ex h=>?_) (λ ys σ G h p hp=>?_)
 ·kd_p;obtain ⟨rfl,rfl,y,rfl⟩:=h;obtain ⟨m,rfl,hm⟩:=z3q ex;refine gz ?_;clear gz Gz
  have e1:((cs.take (i+1)).map (z8h wd)).map V.int=((cs.take i).map (z8h wd)).map V.int++[V.int (z8h wd m)]:=by
   rw [t1j,hm,t0l,t0l];rfl
  kpf_say z0b t0a y9a e1;exact ⟨by rw [t0c,t0c,t0p];exact z0n (by lia),h1,_,rfl⟩
 ·obtain ⟨rfl,rfl,y,rfl⟩:=h;rw [z0j,t1h];exact ⟨p,rfl,_,.inl ⟨.of z0d,λ l hl=>⟨smd,λ p2 hp2=>q2 _ p2 ((z0a hp _).trans ((z0a hl _).trans (z0a hp2 _))) ⟨sa,l,z0d,z0a hp2 _ _ _ (z0a hl _ _ _ (z0a hp _ _ _ ta)),z0a hp2 _ _ _ z0d⟩⟩⟩⟩
theorem w9a (Y0:Cs Z0 47):ca (Cl Z0) 47:=kz3 Z0 Z0.g47 λ f fd F=>by
 have sc:=scq (z0h w7l) ["word","tab","other"] ["sides","xs","ys"];kt_k
 ·exact el7 vs h λ _ _ _ _ _ _ _ _=>rfl
 refine el7 vs h λ wd t u ns cs ms ds h=>v7c h λ tb ub hs hm h20 m20 csl dsl p5 r5 ib jb ht hw po q3=>?_;refine ⟨_,(z0o (z1l (z1d (cc Y0 5) hr z0l (z0i (pv 0) (z0v z0c z0c)))) (z1u 3 sc.nd (z1d (cc Y0 27) hr z0l (z0v (z0s z0g (pv 1) z0c) (z0s z0g (pv 2) z0c))) (z1u 4 sc.nd (z0s z0g (z1d (cc Y0 45) hr z0l (z0v (pv 1) (pv 3))) z0c) (z1u 5 sc.nd (z0s z0g (z1d (cc Y0 45) hr z0l (z0v (pv 2) (pv 3))) z0c) (z1b (z0r (z0v (pv 3) (z7z z1a Z0.ztuple t2g (z1o (z3d (own:=["x","y"]) (fv:=["word"]) (js:=[0]) rfl (y9w (by rfl) Z0.zzip (z0v (pv 4) (pv 5))) rfl (by decide) rfl (by decide) (by kcj_m) (z2y (by rfl)) rfl (y6v (by kcf_m)) (λ _ _ _ _=>(z7i (n:=2) (z9l rfl (z1x (z6l 0 ["x","y","word"]) (z1x (z6l 1 ["x","y","word"]) z6o))))) (λ _ _ _ _=>(z1d (cc Y0 5) hr z0l (z0i (pv 2) (z0v (pv 0) (pv 1))))))))))))))),?_⟩
 (try dsimp only [z0t]);simp only [L2.start,t0h,t0j,List.replicate,t0k,t0m,Nat.reduceSub,Nat.reduceAdd,z2o,z2p]
 ktn_end (λ σ G=>G=H/\σ=[some (.str wd),some (.ref t),some (.ref u),none,none,none])
 ·cell_end z0b t0a z8n;exact ⟨⟨by decide,by decide⟩,⟨by decide,by decide⟩,hw,hR _ _ ⟨rfl,rfl⟩⟩
 rintro σ1 G1 ⟨rfl,rfl⟩;ktn_end (λ σ G=>Same G1 G/\∃p,G p=some (.tup ((z0y ns ms).map V.int))/\σ=[some (.str wd),some (.ref t),some (.ref u),some (.ref p),none,none])
 ·kd_p;obtain ⟨sa,ca,tt,ta,tc⟩:=id tb;obtain ⟨sb,cb,ut,ua,uc⟩:=id ub;refine gz ?_;clear gz Gz;cell_end z0b t0a z4n;exact ⟨_,tt,_,z0f (j:=0) rfl,_,ut,_,z0f (j:=0) rfl,_,rfl,_,rfl,ns,ta,ms,ua,po,λ G p s hp=>hR _ _ ⟨s,p,hp,rfl⟩⟩
 rintro σ2 G2 ⟨s2,p,hp,rfl⟩;have ⟨l1,l2⟩:=y1f po;have sP:z2x (z0y ns ms):=z3n (P:=z2x) hs hm;have lP:(z0y ns ms).length≤20:=z3n (P:=λ z=>z.length≤20) h20 m20;have pP:z0e (z0y ns ms)≤512:=z3n (P:=λ z=>z0e z≤512) p5 r5;generalize hPP:z0y ns ms=P at *;ktn_end (λ σ G=>(SmT G2 G/\z4j TL G2 G)/\TabOk G TL ⟨319,46,319,80⟩ "lead.<locals>.<lambda>" /\ ∃x,G x=some (.tup ((z6h ns cs P).map V.int))/\σ=[some (.str wd),some (.ref t),some (.ref u),some (.ref p),some (.ref x),none])
 ·cell_end z0b t0a z8p;exact ⟨ns,cs,tb.same s2,P,hp,hs,sP,h20,lP,csl,pP,ht.same s2,l1,λ G x sp tk ⟨_,qx,e1,_,e3⟩=>⟨_,e1,_,z0f (j:=1) rfl,hR _ _ ⟨⟨SmT.ofP (ht.same s2) sp,sp⟩,tk,qx,e3,rfl⟩⟩⟩
 rintro σ3 G3 hz9;kd_p;obtain ⟨⟨s3,r3⟩,t3,x,hx,rfl⟩:=hz9;refine gz ?_;clear gz Gz;ktn_end (λ σ G=>(SmT G3 G/\z4j TL G3 G)/\TabOk G TL ⟨319,46,319,80⟩ "lead.<locals>.<lambda>" /\ ∃y,G y=some (.tup ((z6h ms ds P).map V.int))/\σ=[some (.str wd),some (.ref t),some (.ref u),some (.ref p),some (.ref x),some (.ref y)])
 ·cell_end z0b t0a z8p;exact ⟨ms,ds,s3.tb (ub.same s2),P,s3.tup hp,hm,sP,m20,lP,dsl,pP,t3,l2,λ G x sp tk ⟨_,qx,e1,_,e3⟩=>⟨_,e1,_,z0f (j:=1) rfl,hR _ _ ⟨⟨SmT.ofP t3 sp,sp⟩,tk,qx,e3,rfl⟩⟩⟩
 rintro σ4 G4 hz9;kd_p;obtain ⟨⟨s4,r4⟩,t4,y,hy,rfl⟩:=hz9;refine gz ?_;clear gz Gz;have hx4:=s4.tup hx;have hp4:=s4.tup (s3.tup hp);have n0:(List.zipWith (z1g wd) (z6h ns cs P) (z6h ms ds P)).length=(z0e P).toNat:=by rw [t8a,z6c,z6c,t4x]
 ktr_call z0b t0a;refine CompZ.mk (xs:=(z6h ns cs P).map V.int) (ys:=(z6h ms ds P).map V.int) (z0e P).toNat (by rw [z0j,z0j,z6c,z6c,t4x]) (.of hx4) (.of hy) (λ i zs σ G=>Same G4 G/\zs=((List.zipWith (z1g wd) (z6h ns cs P) (z6h ms ds P)).take i).map V.int/\∃y z,σ=[y,z,some (.str wd)]) ⟨Same.refl _,rfl,_,_,rfl⟩ (λ i zs σ G _ h=>⟨.of (h.1 _ _ hx4),.of (h.1 _ _ hy)⟩) (λ i a b zs σ G T hi ea eb h hT=>?_) (λ zs σ G h l hl=>?_) (λ i zs σ G h=>?_)
 ·kd_p;obtain ⟨sg,rfl,y1,y2,rfl⟩:=h;obtain ⟨m,rfl,hm'⟩:=z3q ea;obtain ⟨n,rfl,hn'⟩:=z3q eb;refine gz ?_;clear gz Gz
  have e1:((List.zipWith (z1g wd) (z6h ns cs P) (z6h ms ds P)).take (i+1)).map V.int=((List.zipWith (z1g wd) (z6h ns cs P) (z6h ms ds P)).take i).map V.int++[V.int (z1g wd m n)]:=by
   rw [t1j,t7e,hm',hn',t0l];rfl
  have ln:(((List.zipWith (z1g wd) (z6h ns cs P) (z6h ms ds P)).take i).map V.int).length < sizeLine:=by rw [t0c,t0p];exact z0n (by lia)
  kpf_say z0b t0a z8n e1;exact ⟨ln,x0d ib m (t0i hm'),x0d jb n (t0i hn'),hw,sg.trans (z0a hT _),_,rfl⟩
 ·kd_p;obtain ⟨sg,rfl,y1,y2,rfl⟩:=h;refine gz ?_;clear gz Gz;rw [t1o (s1p n0)];refine ⟨l,rfl,_,.inl ⟨.of z0d,λ l2 hl2=>⟨smd,λ p2 hp2=>?_⟩⟩⟩;have k1:=(z0a hl (.lst ((List.zipWith (z1g wd) (z6h ns cs P) (z6h ms ds P)).map V.int))).trans ((z0a hl2 (.tup ((List.zipWith (z1g wd) (z6h ns cs P) (z6h ms ds P)).map V.int))).trans (z0a hp2 (.tup [V.ref p,V.ref l2])));exact q3 _ p2 (z5v (z9y s2) (z5v r3 (z5v r4 (z9y (sg.trans k1))))) (t4.same (sg.trans k1)) ⟨p,l2,z0d,k1 _ _ (sg _ _ hp4),z0a hp2 _ _ _ z0d⟩
 ·kd_p;obtain ⟨sg,rfl,y1,y2,rfl⟩:=h;refine gz ?_;clear gz Gz;rw [t0c,t0p];exact z0n (by lia)
theorem w8z (Y0:Cs Z0 48):ca (Cl Z0) 48:=kz3 Z0 Z0.g48 λ f fd F=>by
 have sc:=scq (z0h w7j) ["marks","tab","other"] ["sides","asked","xs","ys"];kt_k
 ·exact el9 vs h λ _ _ _ _ _ _ _ _ _ _=>rfl
 refine el9 vs h λ m t u ks es ns cs ms ds h=>v7b h λ mb tb ub hk hs hm k20 h20 m20 esl csl dsl o5 p5 r5 ht po po2 q3=>?_;refine ⟨_,(z1u 3 sc.nd (z1d (cc Y0 28) hr z0l (z0i (z0s z0g (pv 0) z0c) (z0v (z0s z0g (pv 1) z0c) (z0s z0g (pv 2) z0c)))) (z1u 4 sc.nd (z0s z0g (z1d (cc Y0 45) hr z0l (z0v (pv 0) (pv 3))) z0c) (z1u 5 sc.nd (z0s z0g (z1d (cc Y0 45) hr z0l (z0v (pv 1) (pv 3))) z0c) (z1u 6 sc.nd (z0s z0g (z1d (cc Y0 45) hr z0l (z0v (pv 2) (pv 3))) z0c) (z1b (z0r (z0v (pv 3) (z7z z1a Z0.ztuple t2g (z1o (z5y (own:=["mark","x","y"]) rfl (w4d (by rfl) Z0.zzip (z0i (pv 4) (z0v (pv 5) (pv 6)))) (by decide) (by decide) rfl (by decide) (λ _ _ _ _=>(z7i (n:=3) (z9l rfl (z1x (z6l 0 ["mark","x","y"]) (z1x (z6l 1 ["mark","x","y"]) (z1x (z6l 2 ["mark","x","y"]) z6o)))))) (λ _ _ _ _=>(z4p (z1f z8g (pv 0) z0c) (pv 1) (pv 2))))))))))))),?_⟩
 (try dsimp only [z0t]);simp only [L2.start,t0h,t0j,List.replicate,t0k,t0m,Nat.reduceSub,Nat.reduceAdd,z2o,z2p]
 ktn_end (λ σ G=>Same H G/\∃p,G p=some (.tup ((z0y (z0y ks ns) ms).map V.int))/\σ=[some (.ref m),some (.ref t),some (.ref u),some (.ref p),none,none,none])
 ·kd_p;obtain ⟨sm,cm,mt,ma,mc⟩:=id mb;obtain ⟨sa,ca,tt,ta,tc⟩:=id tb;obtain ⟨sb,cb,ut,ua,uc⟩:=id ub;refine gz ?_;clear gz Gz;cell_end z0b t0a z5r;exact ⟨_,mt,_,z0f (j:=0) rfl,_,tt,_,z0f (j:=0) rfl,_,ut,_,z0f (j:=0) rfl,_,rfl,_,rfl,_,rfl,ks,ma,ns,ta,ms,ua,po,po2,λ G p s hp=>hR _ _ ⟨s,p,hp,rfl⟩⟩
 rintro σ2 G2 ⟨s2,p,hp,rfl⟩;have ⟨l0,l1,l2⟩:=x9p po po2;have sP:z2x (z0y (z0y ks ns) ms):=z3n (P:=z2x) (z3n (P:=z2x) hk hs) hm;have lP:(z0y (z0y ks ns) ms).length≤20:=z3n (P:=λ z=>z.length≤20) (z3n (P:=λ z=>z.length≤20) k20 h20) m20;have pP:z0e (z0y (z0y ks ns) ms)≤512:=z3n (P:=λ z=>z0e z≤512) (z3n (P:=λ z=>z0e z≤512) o5 p5) r5;generalize z0y (z0y ks ns) ms=P at *;have t2:=ht.same s2;ktn_end (λ σ G=>(SmT G2 G/\z4j TL G2 G)/\TabOk G TL ⟨319,46,319,80⟩ "lead.<locals>.<lambda>" /\ ∃z,G z=some (.tup ((z6h ks es P).map V.int))/\σ=[some (.ref m),some (.ref t),some (.ref u),some (.ref p),some (.ref z),none,none])
 ·cell_end z0b t0a z8p;exact ⟨ks,es,mb.same s2,P,hp,hk,sP,k20,lP,esl,pP,t2,l0,λ G x sp tk ⟨_,qx,e1,_,e3⟩=>⟨_,e1,_,z0f (j:=1) rfl,hR _ _ ⟨⟨SmT.ofP t2 sp,sp⟩,tk,qx,e3,rfl⟩⟩⟩
 rintro σ3 G3 hz9;kd_p;obtain ⟨⟨s3,r3⟩,t3,z,hz,rfl⟩:=hz9;refine gz ?_;clear gz Gz;ktn_end (λ σ G=>(SmT G3 G/\z4j TL G3 G)/\TabOk G TL ⟨319,46,319,80⟩ "lead.<locals>.<lambda>" /\ ∃x,G x=some (.tup ((z6h ns cs P).map V.int))/\σ=[some (.ref m),some (.ref t),some (.ref u),some (.ref p),some (.ref z),some (.ref x),none])
 ·cell_end z0b t0a z8p;exact ⟨ns,cs,s3.tb (tb.same s2),P,s3.tup hp,hs,sP,h20,lP,csl,pP,t3,l1,λ G x sp tk ⟨_,qx,e1,_,e3⟩=>⟨_,e1,_,z0f (j:=1) rfl,hR _ _ ⟨⟨SmT.ofP t3 sp,sp⟩,tk,qx,e3,rfl⟩⟩⟩
 rintro σ4 G4 hz9;kd_p;obtain ⟨⟨s4,r4⟩,t4,x,hx,rfl⟩:=hz9;refine gz ?_;clear gz Gz;ktn_end (λ σ G=>(SmT G4 G/\z4j TL G4 G)/\TabOk G TL ⟨319,46,319,80⟩ "lead.<locals>.<lambda>" /\ ∃y,G y=some (.tup ((z6h ms ds P).map V.int))/\σ=[some (.ref m),some (.ref t),some (.ref u),some (.ref p),some (.ref z),some (.ref x),some (.ref y)])
 ·cell_end z0b t0a z8p;exact ⟨ms,ds,s4.tb (s3.tb (ub.same s2)),P,s4.tup (s3.tup hp),hm,sP,m20,lP,dsl,pP,t4,l2,λ G x sp tk ⟨_,qx,e1,_,e3⟩=>⟨_,e1,_,z0f (j:=1) rfl,hR _ _ ⟨⟨SmT.ofP t4 sp,sp⟩,tk,qx,e3,rfl⟩⟩⟩
 rintro σ5 G5 hz9;kd_p;obtain ⟨⟨s5,r5⟩,t5,y,hy,rfl⟩:=hz9;refine gz ?_;clear gz Gz;have hz5:=s5.tup (s4.tup hz);have hx5:=s5.tup hx;have hp5:=s5.tup (s4.tup (s3.tup hp));have n0:(pkC ks es ns cs ms ds P).length=(z0e P).toNat:=by unfold pkC;rw [t0c,t1x]
 ktr_call z0b t0a;refine CompZ3.mk (xs:=(z6h ks es P).map V.int) (ys:=(z6h ns cs P).map V.int) (zs:=(z6h ms ds P).map V.int) (z0e P).toNat (by rw [z0j,z6c]) (by rw [z0j,z6c]) (by rw [z0j,z6c]) (.of hz5) (.of hx5) (.of hy) (λ i us σ G=>Same G5 G/\us=((pkC ks es ns cs ms ds P).take i).map V.int/\∃a b c,σ=[a,b,c]) ⟨Same.refl _,rfl,_,_,_,rfl⟩ (λ i us σ G _ h=>⟨.of (h.1 _ _ hz5),.of (h.1 _ _ hx5),.of (h.1 _ _ hy)⟩) (λ i a b c us σ G T hi ea eb ec h hT=>?_) (λ us σ G h l hl=>?_) (λ i us σ G h=>?_)
 ·kd_p;obtain ⟨sg,rfl,y1,y2,y3,rfl⟩:=h;obtain ⟨a,rfl,ha'⟩:=z3q ea;obtain ⟨b,rfl,hb'⟩:=z3q eb;obtain ⟨c,rfl,hc'⟩:=z3q ec;refine gz ?_;clear gz Gz;cases x6f ha';cases x6f hb';cases x6f hc'
  have e1:((pkC ks es ns cs ms ds P).take (i+1)).map V.int=((pkC ks es ns cs ms ds P).take i).map V.int++[V.int (if x1z ks es P i≠0 then x1z ns cs P i else x1z ms ds P i)]:=by
   rw [t1j,t0l]
   congr 1
   unfold pkC;rw [t0q,t3g hi];rfl
  cell_end z0b t0a e1;split
  ·exact ⟨sg.trans (z0a hT _),rfl,_,rfl⟩
  ·exact ⟨sg.trans (z0a hT _),rfl,_,rfl⟩
 ·kd_p;obtain ⟨sg,rfl,y1,y2,y3,rfl⟩:=h;refine gz ?_;clear gz Gz;rw [t1o (s1p n0)];refine ⟨l,rfl,_,.inl ⟨.of z0d,λ l2 hl2=>⟨smd,λ p2 hp2=>?_⟩⟩⟩;have k1:=(z0a hl (.lst ((pkC ks es ns cs ms ds P).map V.int))).trans ((z0a hl2 (.tup ((pkC ks es ns cs ms ds P).map V.int))).trans (z0a hp2 (.tup [V.ref p,V.ref l2])));exact q3 _ p2 (z5v (z9y s2) (z5v r3 (z5v r4 (z5v r5 (z9y (sg.trans k1)))))) (t5.same (sg.trans k1)) ⟨p,l2,z0d,k1 _ _ (sg _ _ hp5),z0a hp2 _ _ _ z0d⟩
 ·kd_p;obtain ⟨sg,rfl,y1,y2,y3,rfl⟩:=h;refine gz ?_;clear gz Gz;rw [t0c,t0p];exact z0n (by lia)
theorem w4p (Y0:Cs Z0 49):ca (Cl Z0) 49:=w9s Z0 Z0.t49 λ f fd c F hcd TF=>by
 have sc:=scq (z0h y9l) ["tab","other"] ["sides","length","many","number_at"];refine F.okT hcd sc (λ vs H Q E h=>?_) (λ A outer s H vs Q E hr h=>?_)
 ·exact el7 vs h λ _ _ _ _ _ _ _ _=>rfl
 refine el7 vs h λ t o n r cs ms ds h=>v7e h λ tb to hs hm h20 k20 csl dsl ht n0 nb q4=>?_;have own:OwnCl (envOfC "fetch" (z0h y9l) s.heap.objs.size f (.ref c)).cells ["tab","other","many","length"] [("tab",s.heap.objs.size+1),("other",s.heap.objs.size+2),("many",s.heap.objs.size+4),("length",s.heap.objs.size+3)]:=⟨rfl,(fc rfl (fc rfl (fc rfl (fc rfl fc0))))⟩;refine ⟨_,(z1u 2 sc.nd (z1d (cc Y0 29) hr z0l (z0v (z0s z0g (pv 0) z0c) (z0s z0g (pv 1) z0c))) (z1u 3 sc.nd (z0s z0g (z0s z0g (pv 0) z0c) z0c) (z1u 4 sc.nd (z3k Z0.zlen (z0s z0g (pv 1) z0c)) (z0o (x4k (i:=5) (qual := "fetch.<locals>.number_at") (fv:=["tab","other","many","length"]) (cl:=[("tab",s.heap.objs.size+1),("other",s.heap.objs.size+2),("many",s.heap.objs.size+4),("length",s.heap.objs.size+3)]) sc.nd rfl (.inl rfl) rfl rfl TF rfl own rfl rfl rfl) (z1b (z5z (fv:=["tab","other","many","length"]) (js:=[0,1,4,3]) (Cr.a (cc Y0 40)) hr (by rfl) own rfl (fc rfl (fc rfl (fc rfl (fc rfl fc0)))) (fc rfl (fc rfl (fc rfl (fc rfl fc0)))) (by decide +kernel) (z0v (pv 2) (pv 5)))))))),?_⟩;generalize (y6i _ _ _ _ _ _ _ _ _ _ _ _ _ _ _ _).env.cells=ec;kpf_say z0b t0a z5g z2w;kd_p;obtain ⟨sa,ca,tt,ta,tc⟩:=id tb;obtain ⟨ob,od,oo,oa,oc⟩:=id to;refine gz ?_;clear gz Gz;refine ⟨_,tt,_,z0f (j:=0) rfl,_,oo,_,z0f (j:=0) rfl,_,rfl,_,rfl,n,r,ta,ms,oa,hs,hm,h20,k20,n0,nb,λ H0 p s0 hp=>?_⟩;refine ⟨_,s0 _ _ tt,_,z0f (j:=0) rfl,_,rfl,_,s0 _ _ ta,_,z0f (j:=0) rfl,_,s0 _ _ oo,_,z0f (j:=0) rfl,_,rfl,_,.inr (.of (s0 _ _ oa)),ht.same s0,λ fa c' cl H2 o1 ffa hfa hc2 ht2 up2=>⟨[.ref t,.ref o,.int ms.length,.int n],by simp,λ cl' H3 o2 fr hcel eq3=>?_⟩⟩;cases OwnCl.uniq o1 o2;have hn:=hs n t0t;have hr':z2x r:=λ m hm=>hs m (t0d _ hm);have ht0:=ht.same s0;have up3:∀a xs,H0 a=some (.tup xs)->H2 a=some (.tup xs):=λ a xs e=>up2 _ _ (z7s ht0 e) e;have u3:=z5i fr eq3;have sdA:=w7r hm hr';have pb:=z1e λ n hn=>(sdA n hn).1;have nb':=nb;unfold z6t at nb';have lA:(ms++r).length=ms.length+r.length:=t0o;have lsc:LmScope ["at","tab","other","many","length","row"] ["at"] ["tab","other","many","length"] { kind:=ScopeKind.function,names:=[("at",NameKind.local),("row",NameKind.local),("length",NameKind.free),("many",NameKind.free),("other",NameKind.free),("tab",NameKind.free),("cell_at",NameKind.globalImplicit)],isGenerator:=false,isCoroutine:=false }:=⟨rfl,rfl,rfl,by decide +kernel,rfl,fc (.inl rfl) fc0,fc rfl (fc rfl (fc rfl (fc rfl fc0))),by decide +kernel,by decide +kernel⟩;refine ⟨ms++r,u3 _ _ (up3 _ _ hp),sdA,by lia,by lia,FnV.dfn (u3 _ _ hfa),w5p n r cs ds,λ i H1 p1 Q' hi s1 hp1 hq=>?_,λ H4 p q s4 hq hp'=>?_⟩
 ·have hcel1:=hcel.same s1;have tbm:TbAt (minC H1 cl) t (n::r) cs:=z7a hcel1 (((y1r (T:=TE) (tb.same s0) up3).same u3).same s1);have tom:TbAt (minC H1 cl) o ms ds:=z7a hcel1 (((y1r (T:=TE) (to.same s0) up3).same u3).same s1);have hpm:=z1k hcel1 hp1;have rp:∀m∈r,0 < m:=λ m hm'=>w4u sdA (by lia) hi m (t1g _ hm');have rpos:=z9z rp;rw [y3w] at hi;have dv:=v0u rpos (by lia) hi;have md:0≤(i:Int) % z0e r/\(i:Int) % z0e r < z0e r:=⟨t6j _ (by lia),t6k _ rpos⟩;rw [w5v ms r rp] at hpm;have lm:=z5j ms ((i:Int) / z0e r);have lr:=z5j r ((i:Int) % z0e r);have gm:=z4c hm dv.1 dv.2;have gr:=z4c hr' md.1 md.2;have em:=w2y hm dv.1 dv.2;have er:=w2y hr' md.1 md.2;have ef:w5p n r cs ds i=cs.getD ((ds.getD ((i:Int) / z0e r).toNat 0) % n * z0e r+(i:Int) % z0e r).toNat 0:=rfl;generalize (i:Int) / z0e r=dI at *;generalize (i:Int) % z0e r=mI at *;generalize atD ms dI=Am at *;generalize atD r mI=Ar at *;refine y8i (k:=5) (vs:=[V.ref p1]) (vcs:=[.ref t,.ref o,.int ms.length,.int n]) lsc o1.1 (λ doc pm ctv us hl=>by match us,hl with | [u],_=>rfl) rfl (s1 _ _ (u3 _ _ hfa)) (s1 _ _ (u3 _ _ hc2)) hcel1 (λ A outer s hr=>(z1u 5 lsc.nd (z0m z2l (z1d (cc Y0 42) hr z0l (z0v (pv 2) (z1h z1y (pv 0) z1r (z1p (pv 3))))) (pv 4)) (z1b (z1d (cc Y0 42) hr z0l (z0v (pv 1) (z0m z2h (z0r (z1o (pv 5))) (z1h z1y (pv 0) (z1p (pv 3)) z1r))))))) ?_;cell_end z0b t0a z4o;have c1:y1p ((Am++Ar).map V.int) none (some (ms.length:Int))=Am.map V.int:=by rw [y3c (by rw [t0o];lia),← lm,List.take_left]
  have c2:y1p ((Am++Ar).map V.int) (some (ms.length:Int)) none=Ar.map V.int:=by rw [y3d (by rw [t0o];lia),← lm,List.drop_left]
  have row0:∀x:Int,0≤x % n/\x % n < n:=λ x=>⟨t6j _ n0,t6k _ (by lia)⟩;have fm:∀x:Int,x.fmod n=x % n:=λ x=>t4f _ (by lia);refine ⟨_,hpm,λ r1 G1 s2 h1=>⟨ms,ds,tom.same s2,Am,by rw [h1,c1],hm,by lia,gm,dsl,λ G2 s3=>⟨n0,smd,λ p2 hp2=>⟨_,z0a hp2 _ _ _ (s3 _ _ (s2 _ _ hpm)),λ r2 G3 s4 h2=>⟨_,s4 _ _ z0d,_,h2,?_,λ r3 G4 s5 h3=>⟨n::r,cs,((((tbm.same s2).same s3).same (z0a hp2 _)).same s4).same s5,(ds.getD dI.toNat 0 % n)::Ar,?_,hs,?_,x6v gr (row0 _).1 (row0 _).2,csl,λ G5 s6=>?_⟩⟩⟩⟩⟩⟩
  ·rw [c2];simp only [t0h,t0j,t0c];exact small (by lia)
  ·rw [h3,c2,fm,em];rfl
  ·simp only [t0h];lia
  ·have z:=hq _ (z3y ((s2.trans s3).trans ((z0a hp2 _).trans (s4.trans (s5.trans s6)))));rw [y9u,er,← ef];exact z
 ·have hb:=z3r fr eq3 s4;have hc4:=hcel.same s4;exact q4 _ p (λ b o n e=>hb _ _ (up2 _ _ n (s0 _ _ e))) (ht2.same hb) ⟨_,_,z1k hc4 hp',hb _ _ (up3 _ _ hp),z1k hc4 hq⟩
theorem x5j (Y0:Cs Z0 50):ca (Cl Z0) 50:=w9s Z0 Z0.t50 λ f fd c F hcd TF=>by
 have sc:=scq (z0h z9x) ["sides","side"] [];refine F.okT hcd sc (λ vs H Q E h=>?_) (λ A outer s H vs Q E hr h=>?_)
 ·exact el3 vs h λ _ _ _ _=>rfl
 refine el3 vs h λ a ns side h=>an7 h λ ha hs h20 ht nb no q3=>?_;have own:OwnCl (envOfC "counted" (z0h z9x) s.heap.objs.size f (.ref c)).cells ["side"] [("side",s.heap.objs.size+1)]:=⟨rfl,fc rfl fc0⟩;refine ⟨_,(z1b (z5z (fv:=["side"]) (js:=[1]) (Cr.a (cc Y0 40)) hr (by rfl) own rfl (fc rfl fc0) (fc rfl fc0) (by decide +kernel) (z0v (z1d (cc Y0 31) hr z0l (z0v (pv 0) (pv 1))) (y2z (qual := "counted.<locals>.<lambda>") (fv:=["side"]) (cl:=[("side",s.heap.objs.size+1)]) rfl rfl TF rfl rfl own)))),?_⟩;generalize (y6i _ _ _ _ _ _ _ _ _ _ _ _ _ _ _ _).env.cells=ec;kpf_say z0b t0a z5h z2w;refine ⟨ns,ha,hs,h20,nb,no,λ H0 s0=>⟨ht.same s0,λ fa c' cl H2 o1 ffa hfa hc2 ht2 up2=>⟨[V.int side],rfl,λ cl' H3 o2 fr hcel eq3=>?_⟩⟩⟩;cases OwnCl.uniq o1 o2;have ne:=z7s ht ha;have a2:=up2 _ _ ne (s0 _ _ ha);have u3:=z5i fr eq3;have pb:=z1e λ n hn=>(hs n hn).1;obtain ⟨kk,rfl,hk⟩:=y1z no;have nb':=nb;unfold z6t at nb';refine ⟨ns,u3 _ _ a2,hs,by lia,by lia,FnV.lam (u3 _ _ hfa),λ i=>(atD ns (i:Int)).getD kk 0,λ i H1 p Q' hi s1 hp hq=>?_,λ H4 p q s4 hq hp=>?_⟩
 ·refine z8y (k:=5) (N:=["at","side"]) (ps:=["at"]) (fv:=["side"]) (vs:=[V.ref p]) (vcs:=[V.int kk]) ⟨rfl,rfl,rfl,by decide +kernel,rfl,fc (.inl rfl) fc0,fc rfl fc0,by decide +kernel,by decide +kernel⟩ o1.1 (λ pm ctv us hl=>by match us,hl with | [u],_=>rfl) rfl (s1 _ _ (u3 _ _ hfa)) (s1 _ _ (u3 _ _ hc2)) (hcel.same s1) (λ A outer s hr=>x1h z0g (pv 0) (pv 1) (λ _ _=>rfl)) ?_;ktr_call z0b t0a;exact ⟨_,z1k (hcel.same s1) hp,_,z4y (by rw [z5j];exact hk),hq _ (z3y (Same.refl _))⟩
 ·have hb:=z3r fr eq3 s4;have hc4:=hcel.same s4;exact q3 _ p q (λ b o n e=>hb _ _ (up2 _ _ n (s0 _ _ e))) (ht2.same hb) (z1k hc4 hq) (z1k hc4 hp)
theorem w8y (Y0:Cs Z0 51):ca (Cl Z0) 51:=w9s Z0 Z0.t51 λ f fd c F hcd TF=>by
 have sc:=scq (z0h x8x) ["tab","order"] ["sides","places"];refine F.okT hcd sc (λ vs H Q E h=>?_) (λ A outer s H vs Q E hr h=>?_)
 ·exact el5 vs h λ _ _ _ _ _ _=>rfl
 refine el5 vs h λ t b ns cs os h=>v0z h λ tb hb0 hm h20 o20 p5 csl ht tk q2=>?_;have own:OwnCl (envOfC "turn" (z0h x8x) s.heap.objs.size f (.ref c)).cells ["tab","places"] [("tab",s.heap.objs.size+1),("places",s.heap.objs.size+3)]:=⟨rfl,(fc rfl (fc rfl fc0))⟩;refine ⟨_,(z1u 2 sc.nd (z1d (cc Y0 20) hr z0l (z0v (z0s z0g (pv 0) z0c) (pv 1))) (z1u 3 sc.nd (z3d (own:=["side"]) (fv:=["order"]) (js:=[1]) rfl (z2j (by rfl) Z0.zrange (z1o (z3k Z0.zlen (pv 1)))) rfl (by decide) rfl (by decide) (by kcj_m) (z2y (by rfl)) rfl (y6v (by kcf_m)) (λ _ _ _ _=>(z6l 0 ["side","order"])) (λ _ _ _ _=>(w8p PySem.F.slot_tuple_index PySem.F.type_tuple_index x5x (pv 1) (z1o (pv 0))))) (z1b (z5z (fv:=["tab","places"]) (js:=[0,3]) (Cr.a (cc Y0 40)) hr (by rfl) own rfl (fc rfl (fc rfl fc0)) (fc rfl (fc rfl fc0)) (by decide +kernel) (z0v (pv 2) (y2z (qual := "turn.<locals>.<lambda>") (fv:=["tab","places"]) (cl:=[("tab",s.heap.objs.size+1),("places",s.heap.objs.size+3)]) rfl rfl TF rfl rfl own)))))),?_⟩;generalize (y6i _ _ _ _ _ _ _ _ _ _ _ _ _ _ _ _).env.cells=ec;kpf_say z0b t0a z5p z2w;kd_p;obtain ⟨sa,ca,tt,ta,tc⟩:=id tb;refine gz ?_;clear gz Gz;refine ⟨_,tt,_,z0f (j:=0) rfl,_,rfl,ns,ta,os,hb0,h20,o20,tk,λ H0 p s0 hp=>?_⟩;have hb1:=hb0.same s0;have ol:=y8r tk;refine ⟨_,.inr hb1.sq,by rw [z0j];lia,by rw [z0j];lia,?_⟩;rw [z0j,t1c];refine CompR.mk (λ i ys σ G=>G=H0/\i≤os.length/\ys=((List.range i).map λ s:Nat=>V.int ((os.idxOf (s:Int):Nat):Int))/\∃y,σ=[y,some (.ref b)]) ⟨rfl,t0x _,rfl,_,rfl⟩ (λ i ys σ G hi h=>?_) (λ ys σ G h l hl=>?_)
 ·kd_p;obtain ⟨rfl,il,rfl,y,rfl⟩:=h;refine gz ?_;clear gz Gz;refine ⟨by rw [t0c,t1x];exact z0n (by lia),?_⟩;wp_walk using z0b,y6t,z9t,t0a,t5y;obtain ⟨o,e,dd⟩:=id hb1;have mi:=y6y tk (s:=i) (by lia);have xl:=t6a.mpr mi;refine ⟨⟨o,_,e,dd⟩,o,_,e,z1i _,os.idxOf (i:Int),⟨V.int i,?_,?_⟩,λ m z hm' ez=>?_,by lia,?_,_,rfl⟩
  ·rw [t0q,t0e xl,s1f xl];rfl
  ·show ((i:Int) == (i:Int))=true;exact t8x _
  ·obtain ⟨n,rfl,hn⟩:=z3q ez;obtain ⟨ml,en⟩:=t0g.mp hn;have z:=ne_of_lt_idxOf hm' ml;rw [en] at z;exact z
  ·rw [t6h,t0l];rfl
 ·kd_p;obtain ⟨rfl,il,rfl,y,rfl⟩:=h;refine gz ?_;clear gz Gz;have sl:=z0a hl (.lst ((List.range os.length).map λ s:Nat=>V.int ((os.idxOf (s:Int):Nat):Int)));have hll:upd G l (.lst ((List.range os.length).map λ s:Nat=>V.int ((os.idxOf (s:Int):Nat):Int))) l=some (.lst ((List.range os.length).map λ s:Nat=>V.int ((os.idxOf (s:Int):Nat):Int))):=z0d;generalize upd G l (.lst ((List.range os.length).map λ s:Nat=>V.int ((os.idxOf (s:Int):Nat):Int)))=H1 at *;have s01:=s0.trans sl;have ht1:=ht.same s01;refine ⟨ht1,λ fa c' cl H2 o1 ffa hfa hc2 ht2 up2=>⟨[.ref t,.ref l],by simp,λ cl' H3 o2 fr hcel eq3=>?_⟩⟩;cases OwnCl.uniq o1 o2;have up3:∀a xs,H1 a=some (.tup xs)->H2 a=some (.tup xs):=λ a xs e=>up2 _ _ (z7s ht1 e) e
  have lne:¬l=TT:=λ z=>by
   obtain ⟨ps,h1,_⟩:=ht1;rw [← z,hll] at h1;cases h1
  have u3:=z5i fr eq3;have hs:=y0w hm;obtain ⟨smS,lS,pS⟩:=v0t (side:=0) (f:=0) (m:=0) (g:=0) hm (.inl ⟨rfl,tk,rfl,rfl⟩);have sdS:=y0w smS;have pb:=z1e λ n hn=>(sdS n hn).1;refine ⟨z2u ns os,u3 _ _ (up3 _ _ (sl _ _ hp)),sdS,by lia,by lia,FnV.lam (u3 _ _ hfa),λ i:Nat=>cs.getD (plH ns (y4s os (atD (z2u ns os) (i:Int)))).toNat 0,λ i H4 p1 Q' hi s4 hp1 hq=>?_,λ H4 p q s4 hq hp'=>?_⟩
  ·have hcel1:=hcel.same s4;have tbm:TbAt (minC H4 cl) t ns cs:=z7a hcel1 (((y1r (T:=TT) (tb.same s01) up3).same u3).same s4);have hlm:=w4y hcel1 (s4 _ _ (u3 _ _ (up2 _ _ lne hll)));have hpm:=z1k hcel1 hp1;have gd:=z4c sdS (by lia) hi;have al:=z5j (z2u ns os) i;replace hq:∀H2,Same H4 H2->Q' (V.int (cs.getD (plH ns (y4s os (atD (z2u ns os) (i:Int)))).toNat 0)) H2:=hq;generalize atD (z2u ns os) (i:Int)=At at *;have gf:=w0u tk gd;refine z8y (k:=5) (N:=["at","tab","places"]) (ps:=["at"]) (fv:=["tab","places"]) (vs:=[V.ref p1]) (vcs:=[.ref t,.ref l]) ⟨rfl,rfl,rfl,by decide +kernel,rfl,fc (.inr rfl) fc0,fc rfl (fc rfl fc0),by decide +kernel,by decide +kernel⟩ o1.1 (λ pm ctv us hl=>by match us,hl with | [u],_=>rfl) rfl (s4 _ _ (u3 _ _ hfa)) (s4 _ _ (u3 _ _ hc2)) hcel1 (λ A outer s hr=>z8d (Cr.a (cc Y0 42)) hr (by rfl) z0l (z0i (pv 1) (z0i (y5t (z2z (K:=K) rfl) (by rfl) Z0.ztuple t2g (z0i (z3d (own:=["place"]) (fv:=["at"]) (js:=[0]) rfl (x9r (K:=K) rfl (pv 2)) rfl (by decide) rfl (by decide) (by kcj_m) (z2y (by rfl)) rfl (y6v (by kcf_m)) (λ _ _ _ _=>(y7h (i:=0) (show (["place","at"]:List Str).Nodup by decide +kernel) rfl (Or.inl rfl))) (λ _ _ _ _=>(x1h z0g (pv 1) (pv 0) (λ _ _=>rfl)))) z1j)) z1j))) ?_;cell_end z0b t0a z4o;have tl:(z2u ns os).length=os.length:=t0c ..;refine CompL.mk (xs:=(List.range os.length).map λ s:Nat=>V.int ((os.idxOf (s:Int):Nat):Int)) (.of hlm) (λ i ys σ G=>G=minC H4 cl/\i≤os.length/\ys=((y4s os At).take i).map V.int/\∃y,σ=[y,some (.ref p1)]) ⟨rfl,t0x _,rfl,_,rfl⟩ (λ i ys σ G _ h=>by rw [h.1];exact .of hlm) (λ i x ys σ G ex h=>?_) (λ ys σ G h p2 hp2=>?_)
   ·kd_p;obtain ⟨rfl,il,rfl,y,rfl⟩:=h;refine gz ?_;clear gz Gz;have i1:i < os.length:=by have:=(t0g.mp ex).1;rwa [t0c,t1x] at this
    rw [t0q,t3g i1] at ex;cases (t1i ex);have xl:=t6a.mpr (y6y tk (s:=i) (by lia));have eo:(y4s os At)[i]?=some (At.getD (os.idxOf (i:Int)) 0):=by unfold y4s;rw [t0q,t3g i1];rfl
    have et:((y4s os At).take (i+1)).map V.int=((y4s os At).take i).map V.int++[V.int (At.getD (os.idxOf (i:Int)) 0)]:=by rw [t1j,eo,t0l];rfl
    refine ⟨by rw [t0c,t0p];exact z0n (by lia),?_⟩;cell_end z0b t0a et;exact ⟨_,hpm,_,z4y (by lia),i1,rfl,_,rfl⟩
   ·kd_p;obtain ⟨rfl,il,rfl,y,rfl⟩:=h;refine gz ?_;clear gz Gz;rw [t0c,t1x,t1o (by unfold y4s;rw [t0c,t1x];exact t0n _)];exact ⟨p2,rfl,_,.inl ⟨.of z0d,λ l3 hl3=>⟨ns,cs,(tbm.same (z0a hp2 _)).same (z0a hl3 _),y4s os At,rfl,hs,by lia,gf,csl,λ G2 s3=>hq _ (z3y ((z0a hp2 _).trans ((z0a hl3 _).trans s3)))⟩⟩⟩
  ·have hb':=z3r fr eq3 s4;have hc4:=hcel.same s4;exact q2 _ p (λ b o n e=>hb' _ _ (up2 _ _ n (s01 _ _ e))) (ht2.same hb') ⟨_,_,z1k hc4 hp',hb' _ _ (up3 _ _ (sl _ _ hp)),z1k hc4 hq⟩
theorem w9f (Y0:Cs Z0 52):ca (Cl Z0) 52:=w9s Z0 Z0.t52 λ f fd c F hcd TF=>by
 have sc:=scq (z0h x9f) ["tab","side"] ["sides"];refine F.okT hcd sc (λ vs H Q E h=>?_) (λ A outer s H vs Q E hr h=>?_)
 ·exact el4 vs h λ _ _ _ _ _=>rfl
 refine el4 vs h λ t ns cs side h=>an8 h λ tb hm h20 p5 csl ht no q2=>?_;have own:OwnCl (envOfC "flip" (z0h x9f) s.heap.objs.size f (.ref c)).cells ["tab","sides","side"] [("tab",s.heap.objs.size+1),("sides",s.heap.objs.size+3),("side",s.heap.objs.size+2)]:=⟨rfl,(fc rfl (fc rfl (fc rfl fc0)))⟩;refine ⟨_,(z1u 2 sc.nd (z1d (cc Y0 21) hr z0l (z0v (z0s z0g (pv 0) z0c) (pv 1))) (z1b (z5z (fv:=["tab","sides","side"]) (js:=[0,2,1]) (Cr.a (cc Y0 40)) hr (by rfl) own rfl (fc rfl (fc rfl (fc rfl fc0))) (fc rfl (fc rfl (fc rfl fc0))) (by decide +kernel) (z0v (pv 2) (y2z (qual := "flip.<locals>.<lambda>") (fv:=["tab","sides","side"]) (cl:=[("tab",s.heap.objs.size+1),("sides",s.heap.objs.size+3),("side",s.heap.objs.size+2)]) rfl rfl TF rfl rfl own))))),?_⟩;generalize (y6i _ _ _ _ _ _ _ _ _ _ _ _ _ _ _ _).env.cells=ec;kpf_say z0b t0a z3x z2w;kd_p;obtain ⟨sa,ca,tt,ta,tc⟩:=id tb;refine gz ?_;clear gz Gz;refine ⟨_,tt,_,z0f (j:=0) rfl,_,rfl,ns,ta,no,⟨ht,λ fa c' cl H2 o1 ffa hfa hc2 ht2 up2=>⟨[.ref t,.ref sa,.int side],by simp,λ cl' H3 o2 fr hcel eq3=>?_⟩⟩⟩;cases OwnCl.uniq o1 o2;obtain ⟨k,rfl,hk⟩:=y1z no;simp only [t1c] at q2;have up3:∀a xs,H a=some (.tup xs)->H2 a=some (.tup xs):=λ a xs e=>up2 _ _ (z7s ht e) e;have u3:=z5i fr eq3;have hs:=y0w hm;have po:=z1e λ n hn=>(hs n hn).1;refine ⟨ns,u3 _ _ (up3 _ _ ta),hs,by lia,by lia,FnV.lam (u3 _ _ hfa),λ i:Nat=>cs.getD (plH ns (y4m ns k (atD ns (i:Int)))).toNat 0,λ i H1 p1 Q' hi s1 hp1 hq=>?_,λ H4 p q s4 hq hp'=>?_⟩
 ·have hcel1:=hcel.same s1;have tbm:TbAt (minC H1 cl) t ns cs:=z7a hcel1 (((y1r (T:=TP) tb up3).same u3).same s1);have tam:=z1k hcel1 (s1 _ _ (u3 _ _ (up3 _ _ ta)));have hpm:=z1k hcel1 hp1;have gd:=z4c hs (by lia) hi;have al:=z5j ns i;replace hq:∀H2,Same H1 H2->Q' (V.int (cs.getD (plH ns (y4m ns k (atD ns (i:Int)))).toNat 0)) H2:=hq;generalize atD ns (i:Int)=At at *;have gf:=x6y hk gd;refine z8y (k:=5) (N:=["at","tab","sides","side"]) (ps:=["at"]) (fv:=["tab","sides","side"]) (vs:=[V.ref p1]) (vcs:=[.ref t,.ref sa,.int k]) ⟨rfl,rfl,rfl,by decide +kernel,rfl,fc (.inl rfl) fc0,fc rfl (fc rfl (fc rfl fc0)),by decide +kernel,by decide +kernel⟩ o1.1 (λ pm ctv us hl=>by match us,hl with | [u],_=>rfl) rfl (s1 _ _ (u3 _ _ hfa)) (s1 _ _ (u3 _ _ hc2)) hcel1 (λ A outer s hr=>z8d (Cr.a (cc Y0 42)) hr (by rfl) z0l (z0i (pv 1) (z0i (z8d (Cr.a (cc Y0 16)) hr (by rfl) z0l (z0i (pv 0) (z0i (pv 3) (z0i (z0m z4e (z0m z4e (x1h z0g (pv 2) (pv 3) (λ _ _=>rfl)) z0c) (x1h z0g (pv 0) (pv 3) (λ _ _=>rfl))) z1j)))) z1j))) ?_;kpf_say z0b t0a z4o z3v;exact ⟨_,tam,_,z4y hk,_,rfl,_,hpm,_,z4y (by lia),_,rfl,At,k,rfl,hpm,by lia,by lia,λ G p2 s2 h2=>⟨ns,cs,tbm.same s2,_,h2,hs,by lia,gf,csl,λ G2 s3=>hq _ (z3y (s2.trans s3))⟩⟩
 ·have hb:=z3r fr eq3 s4;have hc4:=hcel.same s4;exact q2 _ p (λ b o n e=>hb _ _ (up2 _ _ n (e))) (ht2.same hb) ⟨_,_,z1k hc4 hp',hb _ _ (up3 _ _ ta),z1k hc4 hq⟩
theorem v2l (Y0:Cs Z0 53):ca (Cl Z0) 53:=v6e Z0 Z0.t53 λ f fd c F hcd TF=>by
 have sc:=scq (z0h v1h) ["tab","side","first","many","step"] ["sides"];refine F.okT hcd sc (λ vs H Q E h=>?_) (λ A outer s H vs Q E hr h=>?_)
 ·exact el7 vs h λ _ _ _ _ _ _ _ _=>rfl
 refine el7 vs h λ t ns cs side ff mm gg h=>v5d h λ tb hm h20 p5 csl m0 m1 ht no nb q3=>?_;have own:OwnCl (envOfC "cut" (z0h v1h) s.heap.objs.size f (.ref c)).cells ["tab","step","side","first"] [("tab",s.heap.objs.size+1),("step",s.heap.objs.size+4),("side",s.heap.objs.size+2),("first",s.heap.objs.size+3)]:=⟨rfl,(fc rfl (fc rfl (fc rfl (fc rfl fc0))))⟩;refine ⟨_,(z1u 5 sc.nd (z1d (cc Y0 22) hr z0l (z0i (z0s z0g (pv 0) z0c) (z0i (pv 1) (z0i (pv 2) (z0v (pv 3) (pv 4)))))) (z1b (z5z (fv:=["tab","step","side","first"]) (js:=[0,4,1,2]) (Cr.a (cc Y0 40)) hr (by rfl) own rfl (fc rfl (fc rfl (fc rfl (fc rfl fc0)))) (fc rfl (fc rfl (fc rfl (fc rfl fc0)))) (by decide +kernel) (z0v (pv 5) (y2z (qual := "cut.<locals>.<lambda>") (fv:=["tab","step","side","first"]) (cl:=[("tab",s.heap.objs.size+1),("step",s.heap.objs.size+4),("side",s.heap.objs.size+2),("first",s.heap.objs.size+3)]) rfl rfl TF rfl rfl own))))),?_⟩;generalize (y6i _ _ _ _ _ _ _ _ _ _ _ _ _ _ _ _).env.cells=ec;kpf_say z0b t0a z8r z2w;kd_p;obtain ⟨sa,ca,tt,ta,tc⟩:=id tb;refine gz ?_;clear gz Gz;refine ⟨_,tt,_,z0f (j:=0) rfl,_,rfl,ns,ta,by lia,m0,m1,no,nb,λ H0 p s0 hp=>⟨ht.same s0,λ fa c' cl H2 o1 ffa hfa hc2 ht2 up2=>⟨[.ref t,.int gg,.int side,.int ff],by simp,λ cl' H3 o2 fr hcel eq3=>?_⟩⟩⟩;cases OwnCl.uniq o1 o2;obtain ⟨k,rfl,hk⟩:=y1z no;simp only [t1c] at q3 hp;have ht0:=ht.same s0;have up3:∀a xs,H0 a=some (.tup xs)->H2 a=some (.tup xs):=λ a xs e=>up2 _ _ (z7s ht0 e) e;have u3:=z5i fr eq3;have hs:=y0w hm;have nn:∀n∈ns,0≤n:=λ n hn=>(hs n hn).1;have nk:=hm _ (getD_mem hk);have cm:=x0q nk.1 nb;have sdA:=y0w (w2r (k:=k) hm cm.1 (show mm≤1000000 by lia));have po:=z1e λ n hn=>(sdA n hn).1;have so:=z8s (k:=k) nn cm.1 cm.2;have li:(ns.set k mm).length=ns.length:=t2y ..;refine ⟨ns.set k mm,u3 _ _ (up3 _ _ hp),sdA,by lia,by lia,FnV.lam (u3 _ _ hfa),λ i:Nat=>cs.getD (plH ns (w1h k ff gg (atD (ns.set k mm) (i:Int)))).toNat 0,λ i H1 p1 Q' hi s1 hp1 hq=>?_,λ H4 p q s4 hq hp'=>?_⟩
 ·have hcel1:=hcel.same s1;have tbm:TbAt (minC H1 cl) t ns cs:=z7a hcel1 (((y1r (T:=TU) (tb.same s0) up3).same u3).same s1);have hpm:=z1k hcel1 hp1;have gd:=z4c sdA (by lia) hi;have al:=z5j (ns.set k mm) i;replace hq:∀H2,Same H1 H2->Q' (V.int (cs.getD (plH ns (w1h k ff gg (atD (ns.set k mm) (i:Int)))).toNat 0)) H2:=hq;generalize atD (ns.set k mm) (i:Int)=At at *;have gf:=w1g hk nb gd;have ab:=gd.2 k _ _ (z2s (by lia)) (t3m hk);refine z8y (k:=5) (N:=["at","tab","step","side","first"]) (ps:=["at"]) (fv:=["tab","step","side","first"]) (vs:=[V.ref p1]) (vcs:=[.ref t,.int gg,.int k,.int ff]) ⟨rfl,rfl,rfl,by decide +kernel,rfl,fc (.inl rfl) fc0,fc rfl (fc rfl (fc rfl (fc rfl fc0))),by decide +kernel,by decide +kernel⟩ o1.1 (λ pm ctv us hl=>by match us,hl with | [u],_=>rfl) rfl (s1 _ _ (u3 _ _ hfa)) (s1 _ _ (u3 _ _ hc2)) hcel1 (λ A outer s hr=>z8d (Cr.a (cc Y0 42)) hr (by rfl) z0l (z0i (pv 1) (z0i (z8d (Cr.a (cc Y0 16)) hr (by rfl) z0l (z0i (pv 0) (z0i (pv 3) (z0i (z0m z2g (pv 4) (z0m z5b (x1h z0g (pv 0) (pv 3) (λ _ _=>rfl)) (pv 2))) z1j)))) z1j))) ?_;kpf_say z0b t0a z4o z3v;exact ⟨_,hpm,_,z4y (by lia),_,rfl,.inl ⟨by lia,by lia⟩,At,k,rfl,hpm,by lia,by lia,λ G p2 s2 h2=>⟨ns,cs,tbm.same s2,_,h2,hs,by lia,gf,csl,λ G2 s3=>hq _ (z3y (s2.trans s3))⟩⟩
 ·have hb:=z3r fr eq3 s4;have hc4:=hcel.same s4;exact q3 _ p (λ b o n e=>hb _ _ (up2 _ _ n (s0 _ _ e))) (ht2.same hb) ⟨_,_,z1k hc4 hp',hb _ _ (up3 _ _ hp),z1k hc4 hq⟩
theorem x9y (Y0:Cs Z0 54):ca (Cl Z0) 54:=v2s Z0 Z0.t54 λ f fd c F hcd TF=>by
 have sc:=scq (z0h y3p) ["tab","side","many"] ["sides"];refine F.okT hcd sc (λ vs H Q E h=>?_) (λ A outer s H vs Q E hr h=>?_)
 ·exact el5 vs h λ _ _ _ _ _ _=>rfl
 refine el5 vs h λ t ns cs side many h=>v0z h λ tb hs h20 csl hmany ht no nn nb q5=>?_;have own:OwnCl (envOfC "spread" (z0h y3p) s.heap.objs.size f (.ref c)).cells ["tab","side"] [("tab",s.heap.objs.size+1),("side",s.heap.objs.size+2)]:=⟨rfl,(fc rfl (fc rfl fc0))⟩;refine ⟨_,(z1u 3 sc.nd (z1d (cc Y0 23) hr z0l (z0i (z0s z0g (pv 0) z0c) (z0v (pv 1) (pv 2)))) (z1b (z5z (fv:=["tab","side"]) (js:=[0,1]) (Cr.a (cc Y0 40)) hr (by rfl) own rfl (fc rfl (fc rfl fc0)) (fc rfl (fc rfl fc0)) (by decide +kernel) (z0v (pv 3) (y2z (qual := "spread.<locals>.<lambda>") (fv:=["tab","side"]) (cl:=[("tab",s.heap.objs.size+1),("side",s.heap.objs.size+2)]) rfl rfl TF rfl rfl own))))),?_⟩;generalize (y6i _ _ _ _ _ _ _ _ _ _ _ _ _ _ _ _).env.cells=ec;kpf_say z0b t0a z5q z2w;kd_p;obtain ⟨sa,ca,tt,ta,tc⟩:=id tb;refine gz ?_;clear gz Gz;refine ⟨_,tt,_,z0f (j:=0) rfl,_,rfl,ns,ta,hs,h20,hmany,no,nn,nb,λ H0 p s0 hp=>⟨ht.same s0,λ fa c' cl H2 o1 ffa hfa hc2 ht2 up2=>⟨[.ref t,.int side],by simp,λ cl' H3 o2 fr hcel eq3=>?_⟩⟩⟩;cases OwnCl.uniq o1 o2;unfold w4t at no;obtain ⟨k,rfl⟩:∃k:Nat,side=k:=⟨side.toNat,by lia⟩;simp only [t1c] at nb hp q5;have ht0:=ht.same s0;have up3:∀a xs,H0 a=some (.tup xs)->H2 a=some (.tup xs):=λ a xs e=>up2 _ _ (z7s ht0 e) e;have u3:=z5i fr eq3;have sdA:=w3d (k:=k) hs (by lia) hmany;have pb:=z1e λ n hn=>(sdA n hn).1;have nb':=nb;unfold z6t at nb';have li:=y8d ns k many;refine ⟨_,u3 _ _ (up3 _ _ hp),sdA,by lia,by lia,FnV.lam (u3 _ _ hfa),w6c ns cs k many,λ i H1 p1 Q' hi s1 hp1 hq=>?_,λ H4 p q s4 hq hp'=>?_⟩
 ·have hcel1:=hcel.same s1;have tbm:TbAt (minC H1 cl) t ns cs:=z7a hcel1 (((y1r (T:=TS) (tb.same s0) up3).same u3).same s1);have hpm:=z1k hcel1 hp1;have gd:=x1s k (z4c sdA (by lia) hi);rw [x6p (by lia)] at gd;have al:=z5j (z7b ns k many) i;refine z8y (k:=5) (N:=["at","tab","side"]) (ps:=["at"]) (fv:=["tab","side"]) (vs:=[V.ref p1]) (vcs:=[.ref t,.int k]) ⟨rfl,rfl,rfl,by decide +kernel,rfl,fc (.inl rfl) fc0,fc rfl (fc rfl fc0),by decide +kernel,by decide +kernel⟩ o1.1 (λ pm ctv us hl=>by match us,hl with | [u],_=>rfl) rfl (s1 _ _ (u3 _ _ hfa)) (s1 _ _ (u3 _ _ hc2)) hcel1 (λ A outer s hr=>z8d (Cr.a (cc Y0 42)) hr (by rfl) z0l (z0i (pv 1) (z0i (z8d (Cr.a (cc Y0 18)) hr (by rfl) z0l (z0i (pv 0) (z0i (pv 2) z1j))) z1j))) ?_;kpf_say z0b t0a z4o z5u;exact ⟨_,k,rfl,hpm,by lia,by lia,λ G p2 s2 h2=>⟨ns,cs,tbm.same s2,_,h2,hs,by lia,gd,csl,λ G2 s3=>hq _ (z3y (s2.trans s3))⟩⟩
 ·have hb:=z3r fr eq3 s4;have hc4:=hcel.same s4;exact q5 _ p (λ b o n e=>hb _ _ (up2 _ _ n (s0 _ _ e))) (ht2.same hb) ⟨_,_,z1k hc4 hp',hb _ _ (up3 _ _ hp),z1k hc4 hq⟩
theorem v2j (Y0:Cs Z0 55):ca (Cl Z0) 55:=kz2 Z0 Z0.g55 λ f fd F=>by
 have sc:=scq (z0h v4p) ["tab","sides"] [];kt_k
 ·obtain ⟨t,b,ns,cs,ms,rfl,_⟩:=h;rfl
 obtain ⟨t,b,ns,cs,ms,rfl,⟨sa,ca,tt,ta,tc⟩,hb,hs,hm,hl,nb,e,q3⟩:=h;refine ⟨_,(z1b (z0r (z0v (z1d (cc Y0 24) hr z0l (z0v (z0s z0g (pv 0) z0c) (pv 1))) (z0s z0g (pv 0) z0c)))),?_⟩
 (try dsimp only [z0t]);simp only [L2.start,t0h,t0j,List.replicate,t0k,t0m,Nat.reduceSub,Nat.reduceAdd,z2o,z2p]
 cell_end z0b t0a z7f;refine ⟨_,tt,_,z0f (j:=0) rfl,_,rfl,ns,ta,ms,hb,hs,hm,hl,nb,e,λ H' s'=>⟨_,s' _ _ tt,_,z0f (j:=1) rfl,smd,λ p hp=>?_⟩⟩;exact q3 _ p (s'.trans (z0a hp _)) ⟨_,_,z0d,z0a hp _ _ _ (s' _ _ hb),z0a hp _ _ _ (s' _ _ tc)⟩
theorem w9d (Y0:Cs Z0 56):ca (Cl Z0) 56:=v2s Z0 Z0.t56 λ f fd c F hcd TF=>by
 have sc:=scq (z0h x9b) ["tab","other","side"] ["sides","length","number_at"];refine F.okT hcd sc (λ vs H Q E h=>?_) (λ A outer s H vs Q E hr h=>?_)
 ·exact el7 vs h λ _ _ _ _ _ _ _ _=>rfl
 refine el7 vs h λ t o ns cs ms ds side h=>v7d h λ tb to hs hm h20 csl dsl ht le no ee nb q5=>?_;have own:OwnCl (envOfC "join" (z0h x9b) s.heap.objs.size f (.ref c)).cells ["tab","side","other","length"] [("tab",s.heap.objs.size+1),("side",s.heap.objs.size+3),("other",s.heap.objs.size+2),("length",s.heap.objs.size+4)]:=⟨rfl,(fc rfl (fc rfl (fc rfl (fc rfl fc0))))⟩;refine ⟨_,(z1u 3 sc.nd (z1d (cc Y0 25) hr z0l (z0i (z0s z0g (pv 0) z0c) (z0v (z0s z0g (pv 1) z0c) (pv 2)))) (z1u 4 sc.nd (z0s z0g (z0s z0g (pv 0) z0c) (pv 2)) (z0o (x4k (i:=5) (qual := "join.<locals>.number_at") (fv:=["tab","side","other","length"]) (cl:=[("tab",s.heap.objs.size+1),("side",s.heap.objs.size+3),("other",s.heap.objs.size+2),("length",s.heap.objs.size+4)]) sc.nd rfl (.inl rfl) rfl rfl TF rfl own rfl rfl rfl) (z1b (z5z (fv:=["tab","side","other","length"]) (js:=[0,2,1,4]) (Cr.a (cc Y0 40)) hr (by rfl) own rfl (fc rfl (fc rfl (fc rfl (fc rfl fc0)))) (fc rfl (fc rfl (fc rfl (fc rfl fc0)))) (by decide +kernel) (z0v (pv 3) (pv 5))))))),?_⟩;generalize (y6i _ _ _ _ _ _ _ _ _ _ _ _ _ _ _ _).env.cells=ec;kpf_say z0b t0a z5s z2w;kd_p;obtain ⟨sa,ca,tt,ta,tc⟩:=id tb;obtain ⟨ob,od,oo,oa,oc⟩:=id to;refine gz ?_;clear gz Gz;refine ⟨_,tt,_,z0f (j:=0) rfl,_,oo,_,z0f (j:=0) rfl,_,rfl,_,rfl,ns,ta,ms,oa,hs,hm,h20,le,no,ee,nb,λ H0 p s0 hp=>?_⟩;obtain ⟨k,rfl,hk⟩:=y1z no;simp only [t1c] at ee;refine ⟨_,s0 _ _ tt,_,z0f (j:=0) rfl,_,rfl,_,s0 _ _ ta,_,z4y hk,ht.same s0,λ fa c' cl H2 o1 ffa hfa hc2 ht2 up2=>⟨[.ref t,.int k,.ref o,.int (ns.getD k 0)],by simp,λ cl' H3 o2 fr hcel eq3=>?_⟩⟩;cases OwnCl.uniq o1 o2;have ht0:=ht.same s0;have up3:∀a xs,H0 a=some (.tup xs)->H2 a=some (.tup xs):=λ a xs e=>up2 _ _ (z7s ht0 e) e;have u3:=z5i fr eq3;have nk:=hs _ (getD_mem hk);have mk:=hm _ (getD_mem (ns:=ms) (k:=k) (by lia))
 have sdA:z2x (z2v ns ms k):=λ n hn'=>by
  unfold z2v at hn';simp only [t1c] at hn'
  rcases t3e hn' with z | z
  ·exact y0w hs n z
  ·lia
 have pb:=z1e λ n hn=>(sdA n hn).1;have nb':=nb;unfold z6t at nb';have li:(z2v ns ms k).length=ns.length:=by unfold z2v;rw [t2y]
 have jne:∀j,j≠k->ns[j]?=(z2v ns ms k)[j]?:=λ j hj=>by unfold z2v;rw [t4p (by simpa using λ z=>hj z.symm)]
 have jk:(z2v ns ms k)[k]?=some (ns.getD k 0+ms.getD k 0):=by unfold z2v;simp only [t1c];rw [t3m hk]
 have nke:ns[k]?=some (ns.getD k 0):=by rw [t0w,t0e hk];rfl
 have mke:ms[k]?=some (ms.getD k 0):=by rw [t0w,t0e (show k < ms.length by lia)];rfl
 have lsc:LmScope ["at","tab","side","other","length"] ["at"] ["tab","side","other","length"] { kind:=ScopeKind.function,names:=[("at",NameKind.local),("length",NameKind.free),("other",NameKind.free),("side",NameKind.free),("tab",NameKind.free),("cell_at",NameKind.globalImplicit),("changed_at",NameKind.globalImplicit)],isGenerator:=false,isCoroutine:=false }:=⟨rfl,rfl,rfl,by decide +kernel,rfl,fc (.inl rfl) fc0,fc rfl (fc rfl (fc rfl (fc rfl fc0))),by decide +kernel,by decide +kernel⟩;refine ⟨z2v ns ms k,u3 _ _ (up3 _ _ hp),sdA,by lia,by lia,FnV.dfn (u3 _ _ hfa),λ i=>w0o ns cs ms ds k (atD (z2v ns ms k) (i:Int)),λ i H1 p1 Q' hi s1 hp1 hq=>?_,λ H4 p q s4 hq hp'=>?_⟩
 ·have hcel1:=hcel.same s1;have tbm:TbAt (minC H1 cl) t ns cs:=z7a hcel1 (((y1r (T:=TJ) (tb.same s0) up3).same u3).same s1);have tom:TbAt (minC H1 cl) o ms ds:=z7a hcel1 (((y1r (T:=TJ) (to.same s0) up3).same u3).same s1);have hpm:=z1k hcel1 hp1;have gd:=z4c sdA (by lia) hi;have al:=z5j (z2v ns ms k) i;replace hq:∀H2,Same H1 H2->Q' (V.int (w0o ns cs ms ds k (atD (z2v ns ms k) (i:Int)))) H2:=hq;generalize atD (z2v ns ms k) (i:Int)=At at *;have ake:At[k]?=some (At.getD k 0):=by rw [t0w,t0e (show k < At.length by lia)];rfl
  have ab:=gd.2 k _ _ ake jk;refine y8i (k:=5) (vs:=[V.ref p1]) (vcs:=[.ref t,.int k,.ref o,.int (ns.getD k 0)]) lsc o1.1 (λ doc pm ctv us hl=>by match us,hl with | [u],_=>rfl) rfl (s1 _ _ (u3 _ _ hfa)) (s1 _ _ (u3 _ _ hc2)) hcel1 (λ A outer s hr=>(z1q (z1f z6a (z0s z0g (pv 0) (pv 2)) (pv 4)) (z1b (z1d (cc Y0 42) hr z0l (z0v (pv 1) (pv 0)))) (z1b (z1d (cc Y0 42) hr z0l (z0v (pv 3) (z1d (cc Y0 16) hr z0l (z0i (pv 0) (z0v (pv 2) (z0m z4e (z0s z0g (pv 0) (pv 2)) (pv 4)))))))))) ?_;kpf_say z0b t0a z4o z3v;refine ⟨_,hpm,_,z4y (by lia),_,rfl,?_⟩;unfold w0o at hq;by_cases lt:At.getD k 0 < ns.getD k 0
  ·rw [if_pos lt];rw [if_pos lt] at hq
   have gn:y0g ns At:=by
    have:=y0f (ms:=ns) (w:=ns.getD k 0) (y:=At.getD k 0) gd (by lia) jne nke ab.1 lt
    rwa [show At.set k (At.getD k 0)=At from by rw [t0w,t0e (show k < At.length by lia)];exact List.set_getElem_self _] at this
   exact ⟨ns,cs,tbm,At,hpm,y0w hs,by lia,gn,csl,λ G2 s3=>hq _ (z3y s3)⟩
  ·rw [if_neg lt];rw [if_neg lt] at hq;have gm:y0g ms (At.set k (At.getD k 0 - ns.getD k 0)):=y0f gd (by lia) (λ j hj=>by rw [← (x7c le).mp ee j hj];exact jne j hj) mke (by lia) (by lia);exact ⟨_,hpm,_,z4y (by lia),_,rfl,At,k,rfl,hpm,by lia,by lia,λ G p2 s2 h2=>⟨ms,ds,tom.same s2,_,h2,y0w hm,by lia,gm,dsl,λ G2 s3=>hq _ (z3y (s2.trans s3))⟩⟩
 ·have hb:=z3r fr eq3 s4;have hc4:=hcel.same s4;exact q5 _ p (λ b o n e=>hb _ _ (up2 _ _ n (s0 _ _ e))) (ht2.same hb) ⟨_,_,z1k hc4 hp',hb _ _ (up3 _ _ hp),z1k hc4 hq⟩
theorem y5u (Y0:Cs Z0 57):ca (Cl Z0) 57:=kz2 Z0 Z0.g57 λ f fd F=>by
 have sc:=scq (z0h y0u) ["step","tab"] ["form"];kt_k
 ·obtain ⟨p,o,d,S,A,Ts,a,mo,rfl,_⟩:=h;rfl
 obtain ⟨p,o,d,S,⟨A,C⟩,Ts,a,mo,rfl,hst,ha,ea,ho,gA,hmo,ok,fs,hT,q⟩:=h;refine ⟨_,(z1u 2 sc.nd (z0s z0g (pv 0) z0c) (z1q (z1f z0z (pv 2) z0p) (z1b (z1d (cc Y0 46) hr z0l (z0v (z0s z0g (pv 0) z0c) (pv 1)))) (z1q (z1f z0z (pv 2) z0p) (z1b (z1d (cc Y0 51) hr z0l (z0v (pv 1) (z0s z0g (pv 0) z0c)))) (z1q (z1f z0z (pv 2) z0p) (z1b (z1d (cc Y0 52) hr z0l (z0v (pv 1) (z0s z0g (pv 0) z0c)))) (z1q (z1f z0z (pv 2) z0p) (z1b (z1d (cc Y0 53) hr z0l (z0i (pv 1) (z0i (z0s z0g (pv 0) z0c) (z0i (z0s z0g (pv 0) z0c) (z0v (z0s z0g (pv 0) z0c) (z0s z0g (pv 0) z0c))))))) (z1q (z1f z0z (pv 2) z0p) (z1b (z1d (cc Y0 54) hr z0l (z0i (pv 1) (z0v (z0s z0g (pv 0) z0c) (z0s z0g (pv 0) z0c))))) (z1q (z1f z0z (pv 2) z0p) (z1b (z1d (cc Y0 55) hr z0l (z0v (pv 1) (z0s z0g (pv 0) z0c)))) (z1q (z1f z0z (pv 2) z0p) (z1b (z1d (cc Y0 43) hr z0l (z0i (z0s z0g (pv 0) z0c) (z0v (pv 1) (z0s z0g (pv 0) z0c))))) (z1b (z1d (cc Y0 44) hr z0l (z0i (z0s z0g (pv 0) z0c) (z0v (pv 1) (z0s z0g (pv 0) z0c))))))))))))),?_⟩
 (try dsimp only [z0t]);simp only [L2.start,t0h,t0j,List.replicate,t0k,t0m,Nat.reduceSub,Nat.reduceAdd,z2o,z2p]
 kd_p;obtain ⟨xs,hp,h0,_,_⟩:=z3l hst;refine gz ?_;clear gz Gz;have gA1:z4z mo A:=gA.1;have ho:TbAt H o A C:=ho;have fA:=z3a gA1 hmo;have sdA:=z2q fA;have smA:=y6h fA;have a6:=fA.2.1;have a5:=fA.2.2.2;have sd:=z2q (z3a fs hmo);have s6:=fs.2.1;have cl:(C.length:Int)=z0e A:=gA.2.1;have cb:∀c∈C,inB c:=gA.2.2;have pA:=z1e (z4i gA1);have ea1:(Ts.map (·.1))[a]?=some A:=by rw [t0q,ea];rfl
 have eg:=z3w ea;ktn_end (λ σ G=>G=H/\σ=[some (.ref p),some (.ref o),some (.str (z0w (kdN d)))])
 ·ktr_call z0b t0a;exact ⟨_,hp,_,z0f (j:=0) h0,hR _ _ ⟨rfl,rfl⟩⟩
 rintro σ0 G0 ⟨rfl,rfl⟩;ktn_end (λ σ G=>G=G0/\¬kdN d=3/\σ=[some (.ref p),some (.ref o),some (.str (z0w (kdN d)))])
 ·cell_end z0b t0a x3j;by_cases c:kdN d=3;rotate_left
  ·rw [if_neg (show ¬z0w (kdN d)=Str.ofString "each" from z2k 3 (z2m d) (by decide) c)];exact hR _ _ ⟨rfl,c,rfl⟩
  rw [if_pos (show z0w (kdN d)=Str.ofString "each" by rw [c];rfl)];obtain ⟨w,a',rfl⟩:=inv_at.2.2.1 c;cases ha;obtain ⟨ea',hw⟩:=ok;cases ea'.symm.trans ea1;have eF:y3l Ts (.each w a)=C.map (z8h w):=by show (gT Ts a).2.map (z8h w)=_;rw [eg]
  exact ⟨_,hst,_,z0f (j:=1) rfl,w,rfl,_,_,ho,by lia,hw,λ H1 r s1 tb1=>q _ r (.of s1) (hT.same s1) (by rw [eF];exact tb1)⟩
 rintro σ3 G3 ⟨rfl,c3,rfl⟩;ktn_end (λ σ G=>G=G3/\¬kdN d=6/\σ=[some (.ref p),some (.ref o),some (.str (z0w (kdN d)))])
 ·cell_end z0b t0a x2w;by_cases c:kdN d=6;rotate_left
  ·rw [if_neg (show ¬z0w (kdN d)=Str.ofString "turn" from z2k 6 (z2m d) (by decide) c)];exact hR _ _ ⟨rfl,c,rfl⟩
  rw [if_pos (show z0w (kdN d)=Str.ofString "turn" by rw [c];rfl)];obtain ⟨a',os,rfl⟩:=inv_at.2.2.2.2.1 c;cases ha;obtain ⟨A',ea',tk,rfl⟩:=ok;cases ea'.symm.trans ea1;obtain ⟨b,hp,hb⟩:=hst;have eF:y3l Ts (.turn a os)=y7x A C (z2u A os) (y4s os):=by show y7x (gT Ts a).1 (gT Ts a).2 (z2u (gT Ts a).1 os) (y4s os)=_;rw [eg]
  exact ⟨_,hp,_,z0f (j:=2) rfl,b,rfl,_,_,ho,os,hb,smA,by lia,by rw [tk.length_eq,z7r];lia,a5,cl,hT _ (by unfold T9;exact t0d _ (t0d _ (t0d _ (t0d _ (t0t))))),tk,λ H1 r s1 t1 tb1=>by
    obtain ⟨m1,T1⟩:=hT.both Z0.nd9 (by unfold T9;exact t0d _ (t0d _ (t0d _ (t0d _ (t0t))))) s1 t1
    exact q _ r m1 T1 (by rw [eF];exact tb1)⟩
 rintro σ6 G6 ⟨rfl,c6,rfl⟩;ktn_end (λ σ G=>G=G6/\¬kdN d=7/\σ=[some (.ref p),some (.ref o),some (.str (z0w (kdN d)))])
 ·cell_end z0b t0a x3g;by_cases c:kdN d=7;rotate_left
  ·rw [if_neg (show ¬z0w (kdN d)=Str.ofString "flip" from z2k 7 (z2m d) (by decide) c)];exact hR _ _ ⟨rfl,c,rfl⟩
  rw [if_pos (show z0w (kdN d)=Str.ofString "flip" by rw [c];rfl)];obtain ⟨a',s,rfl⟩:=inv_at.2.2.2.2.2.1 c;cases ha;obtain ⟨ea',no⟩:=ok;cases ea'.symm.trans ea1;have eF:y3l Ts (.flip a s)=y7x S C S (y4m S s.toNat):=by show y7x (gT Ts a).1 (gT Ts a).2 (gT Ts a).1 (y4m (gT Ts a).1 s.toNat)=_;rw [eg]
  exact ⟨_,hst,_,z0f (j:=2) rfl,_,_,s,rfl,ho,smA,by lia,a5,cl,hT _ (by unfold T9;exact t0d _ (t0d _ (t0d _ (t0d _ (t0d _ (t0t)))))),no,λ H1 r s1 t1 tb1=>by
    obtain ⟨m1,T1⟩:=hT.both Z0.nd9 (by unfold T9;exact t0d _ (t0d _ (t0d _ (t0d _ (t0d _ (t0t)))))) s1 t1
    exact q _ r m1 T1 (by rw [eF];exact tb1)⟩
 rintro σ7 G7 ⟨rfl,c7,rfl⟩;ktn_end (λ σ G=>G=G7/\¬kdN d=8/\σ=[some (.ref p),some (.ref o),some (.str (z0w (kdN d)))])
 ·cell_end z0b t0a w2o;by_cases c:kdN d=8;rotate_left
  ·rw [if_neg (show ¬z0w (kdN d)=Str.ofString "cut" from z2k 8 (z2m d) (by decide) c)];exact hR _ _ ⟨rfl,c,rfl⟩
  rw [if_pos (show z0w (kdN d)=Str.ofString "cut" by rw [c];rfl)];kd_p;obtain ⟨a',s,f,m,g,rfl⟩:=inv_at.2.2.2.2.2.2.1 c;refine gz ?_;clear gz Gz;cases ha;kd_p;obtain ⟨A',ea',no,nb,m5,rfl⟩:=ok;refine gz ?_;clear gz Gz;cases ea'.symm.trans ea1;have eF:y3l Ts (.cut a s f m g)=y7x A C (A.set s.toNat m) (w1h s.toNat f g):=by show y7x (gT Ts a).1 (gT Ts a).2 ((gT Ts a).1.set s.toNat m) (w1h s.toNat f g)=_;rw [eg]
  exact ⟨_,hst,_,z0f (j:=2) rfl,_,hst,_,z0f (j:=3) rfl,_,hst,_,z0f (j:=4) rfl,_,hst,_,z0f (j:=5) rfl,_,_,s,rfl,f,rfl,m,rfl,g,rfl,ho,smA,by lia,a5,cl,by unfold bad at nb;lia,by lia,hT _ (by unfold T9;exact t0d _ (t0d _ (t0d _ (t0d _ (t0d _ (t0d _ (t0t))))))),no,nb,λ H1 r s1 t1 tb1=>by
    obtain ⟨m1,T1⟩:=hT.both Z0.nd9 (by unfold T9;exact t0d _ (t0d _ (t0d _ (t0d _ (t0d _ (t0d _ (t0t))))))) s1 t1
    exact q _ r m1 T1 (by rw [eF];exact tb1)⟩
 rintro σ8 G8 ⟨rfl,c8,rfl⟩;ktn_end (λ σ G=>G=G8/\¬kdN d=9/\σ=[some (.ref p),some (.ref o),some (.str (z0w (kdN d)))])
 ·cell_end z0b t0a y4z;by_cases c:kdN d=9;rotate_left
  ·rw [if_neg (show ¬z0w (kdN d)=Str.ofString "spread" from z2k 9 (z2m d) (by decide) c)];exact hR _ _ ⟨rfl,c,rfl⟩
  rw [if_pos (show z0w (kdN d)=Str.ofString "spread" by rw [c];rfl)];obtain ⟨a',s,m,rfl⟩:=inv_at.2.2.2.2.2.2.2.1 c;cases ha;kd_p;obtain ⟨A',ea',no,nm,m5,nb,rfl⟩:=ok;refine gz ?_;clear gz Gz;cases ea'.symm.trans ea1;have eF:y3l Ts (.spread a s m)=(List.range (z0e (z7b A s.toNat m)).toNat).map (w6c A C s.toNat m):=by show (List.range (z0e (z7b (gT Ts a).1 s.toNat m)).toNat).map (w6c (gT Ts a).1 (gT Ts a).2 s.toNat m)=_;rw [eg]
  exact ⟨_,hst,_,z0f (j:=2) rfl,_,hst,_,z0f (j:=3) rfl,_,_,s,rfl,m,rfl,ho,sdA,by lia,cl,by lia,hT _ (by unfold T9;exact t0d _ (t0d _ (t0d _ (t0d _ (t0d _ (t0d _ (t0d _ (t0t)))))))),no,nm,nb,λ H1 r s1 t1 tb1=>by
    obtain ⟨m1,T1⟩:=hT.both Z0.nd9 (by unfold T9;exact t0d _ (t0d _ (t0d _ (t0d _ (t0d _ (t0d _ (t0d _ (t0t)))))))) s1 t1
    exact q _ r m1 T1 (by rw [eF];exact tb1)⟩
 rintro σ9 G9 ⟨rfl,c9,rfl⟩;ktn_end (λ σ G=>G=G9/\¬kdN d=10/\σ=[some (.ref p),some (.ref o),some (.str (z0w (kdN d)))])
 ·cell_end z0b t0a w2n;by_cases c:kdN d=10;rotate_left
  ·rw [if_neg (show ¬z0w (kdN d)=Str.ofString "lay" from z2k 10 (z2m d) (by decide) c)];exact hR _ _ ⟨rfl,c,rfl⟩
  rw [if_pos (show z0w (kdN d)=Str.ofString "lay" by rw [c];rfl)];obtain ⟨a',ms,rfl⟩:=inv_at.2.2.2.2.2.2.2.2.1 c;cases ha;kd_p;obtain ⟨A',ea',nb,pe,rfl⟩:=ok;refine gz ?_;clear gz Gz;cases ea'.symm.trans ea1;obtain ⟨b,hp,hb⟩:=hst;have eF:y3l Ts (.lay a S)=C:=by show (gT Ts a).2=_;rw [eg]
  exact ⟨_,hp,_,z0f (j:=2) rfl,b,rfl,_,_,ho,S,hb,sdA,sd,by lia,nb,pe,λ H1 r s1 tb1=>q _ r (.of s1) (hT.same s1) (by rw [eF];exact tb1)⟩
 rintro σ10 G10 ⟨rfl,c10,rfl⟩;ktn_end (λ σ G=>G=G10/\¬kdN d=13/\σ=[some (.ref p),some (.ref o),some (.str (z0w (kdN d)))])
 ·cell_end z0b t0a x3f;by_cases c:kdN d=13;rotate_left
  ·rw [if_neg (show ¬z0w (kdN d)=Str.ofString "fold" from z2k 13 (z2m d) (by decide) c)];exact hR _ _ ⟨rfl,c,rfl⟩
  rw [if_pos (show z0w (kdN d)=Str.ofString "fold" by rw [c];rfl)];obtain ⟨w,a',s,rfl⟩:=inv_at.2.2.2.2.2.2.2.2.2.2.2.1 c;cases ha;kd_p;obtain ⟨A',ea',hw,no,rfl⟩:=ok;refine gz ?_;clear gz Gz;cases ea'.symm.trans ea1;have eF:y3l Ts (.fold w a s)=v0r w A C s.toNat:=by show v0r w (gT Ts a).1 (gT Ts a).2 s.toNat=_;rw [eg]
  exact ⟨_,hst,_,z0f (j:=1) rfl,_,hst,_,z0f (j:=3) rfl,w,rfl,_,_,s,rfl,ho,smA,by lia,a5,cl,cb,hT _ (by unfold T9;exact t0t),hw,no,λ H1 r s1 t1 tb1=>by
    obtain ⟨m1,T1⟩:=hT.both Z0.nd9 (by unfold T9;exact t0t) s1 t1
    exact q _ r m1 T1 (by rw [eF];exact tb1)⟩
 rintro σ13 G13 ⟨rfl,c13,rfl⟩
 obtain ⟨w,s,rfl⟩:∃w s,d=.run w a s:=by
  cases d with
  | run w a' s=>cases ha;exact ⟨w,s,rfl⟩
  | each w a'=>exact absurd rfl c3
  | turn=>exact absurd rfl c6
  | flip=>exact absurd rfl c7
  | cut=>exact absurd rfl c8
  | spread=>exact absurd rfl c9
  | lay=>exact absurd rfl c10
  | fold=>exact absurd rfl c13
  | _=>cases ha
 obtain ⟨ea',hw,no⟩:=ok;cases ea'.symm.trans ea1;have eF:y3l Ts (.run w a s)=w2v w S C s.toNat:=by show w2v w (gT Ts a).1 (gT Ts a).2 s.toNat=_;rw [eg]
 cell_end z0b t0a w2l;exact ⟨_,hst,_,z0f (j:=1) rfl,_,hst,_,z0f (j:=3) rfl,w,rfl,_,_,s,rfl,ho,smA,by lia,a5,cl,cb,hw,no,λ H1 r s1 tb1=>q _ r (.of s1) (hT.same s1) (by rw [eF];exact tb1)⟩
theorem y7k (Y0:Cs Z0 58):ca (Cl Z0) 58:=kz2 Z0 Z0.g58 λ f fd F=>by
 have sc:=scq (z0h y2f) ["step","tabs"] ["form","used"];kt_k
 ·exact el7 vs h λ _ _ _ _ _ _ _ _=>rfl
 refine el7 vs h λ p tl d S Ts ts mo h=>v0z h λ hst ni htl tbs gs hmo ok fs hT q=>?_;refine ⟨_,(z1u 2 sc.nd (z0s z0g (pv 0) z0c) (z0o (x4j (own:=["number"]) (fv:=["tabs"]) (js:=[1]) sc.nd (i:=3) rfl (by first | exact Or.inl rfl | exact Or.inr rfl) (by first | exact Or.inl rfl | exact Or.inr rfl) rfl (z4m (z1d (cc Y0 8) hr z0l (z1o (pv 0)))) rfl (by decide) rfl (by decide) (by kcj_m) (z2y (by rfl)) rfl (y6v (by kcf_m)) (λ _ _ _ _=>(z6l 0 ["number","tabs"])) (λ _ _ _ _=>(z0s y8b (pv 1) (pv 0)))) (z1q (z1f z0z (pv 2) z0p) (z1b (z1d (cc Y0 41) hr z0l (z1o (z0s z0g (pv 0) z0c)))) (z1q (z1f z0z (pv 2) z0p) (z1b (z1d (cc Y0 50) hr z0l (z0v (z0s z0g (pv 0) z0c) (z0s z0g (pv 0) z0c)))) (z1q (z1f z0z (pv 2) z0p) (z1b (z1d (cc Y0 47) hr z0l (z0i (z0s z0g (pv 0) z0c) (z0v (z0s z0k (pv 3) z0c) (z0s z0k (pv 3) z0c))))) (z1q (z1f z0z (pv 2) z0p) (z1b (z1d (cc Y0 48) hr z0l (z0i (z0s z0k (pv 3) z0c) (z0v (z0s z0k (pv 3) z0c) (z0s z0k (pv 3) z0c))))) (z1q (z1f z0z (pv 2) z0p) (z1b (z1d (cc Y0 56) hr z0l (z0i (z0s z0k (pv 3) z0c) (z0v (z0s z0k (pv 3) z0c) (z0s z0g (pv 0) z0c))))) (z1q (z1f z0z (pv 2) z0p) (z1b (z1d (cc Y0 49) hr z0l (z0v (z0s z0k (pv 3) z0c) (z0s z0k (pv 3) z0c)))) (z1b (z1d (cc Y0 57) hr z0l (z0v (pv 0) (z0s z0k (pv 3) z0c)))))))))))),?_⟩
 (try dsimp only [z0t]);simp only [L2.start,t0h,t0j,List.replicate,t0k,t0m,Nat.reduceSub,Nat.reduceAdd,z2o,z2p]
 kd_p;obtain ⟨xs,hp,h0,hl,hv⟩:=z3l hst;refine gz ?_;clear gz Gz;have sd:=z2q (z3a fs hmo);have s6:=fs.2.1
 have gm:∀ {a:Nat}{A C:LI},Ts[a]?=some (A,C)->fit A/\(C.length:Int)=z0e A/\(∀c∈C,inB c)/\z0e A≤512:=λ {a A C} e=>by
  have g:=gs _ (t0i e);have g1:z4z mo A:=g.1;have f:=z3a g1 hmo;exact ⟨f,g.2.1,g.2.2,t3t (z1e (z4i g1)).2 f.2.2.2⟩
 ktn_end (λ σ G=>G=H/\σ=[some (.ref p),some (.ref tl),some (.str (z0w (kdN d))),none])
 ·ktr_call z0b t0a;exact ⟨_,hp,_,z0f (j:=0) h0,hR _ _ ⟨rfl,rfl⟩⟩
 rintro σ0 G0 ⟨rfl,rfl⟩;ktn_end (λ σ G=>∃(ul:Addr) (us:List Addr),Same G0 G/\G ul=some (.lst (us.map V.ref))/\us.length=(z4g d).length/\(∀(i a:Nat) u,(z4g d)[i]?=some a->us[i]?=some u->ts[a]?=some u)/\σ=[some (.ref p),some (.ref tl),some (.str (z0w (kdN d))),some (.ref ul)])
 ·cell_end z0b t0a z9v;refine ⟨p,kdN d,z2m d,rfl,xs,hp,h0,hl,λ G2 t u2 h2=>?_⟩;rw [hv] at h2;have hs2:G2 tl=some (.lst (ts.map V.ref))\/G2 tl=some (.tup (ts.map V.ref)):=htl.imp (λ z=>u2 _ _ z) (λ z=>u2 _ _ z);refine CompT.mk (xs:=nmV (z4g d)) (.of h2) (λ i ys σ G=>G=G2/\∃us:List Addr,ys=us.map V.ref/\i≤(z4g d).length/\us.length=i/\(∀(j a:Nat) u,(z4g d)[j]?=some a->us[j]?=some u->ts[a]?=some u)/\∃y,σ=[y,some (.ref tl)]) ⟨rfl,[],rfl,t0x _,rfl,(λ j a u _ e=>nomatch e),_,rfl⟩ (λ i ys σ G _ h=>by rw [h.1];exact .of h2) (λ i x ys σ G e h=>?_) (λ ys σ G h p1 hp1=>?_)
  ·kd_p;obtain ⟨rfl,us,rfl,hi,ul,ua,y,rfl⟩:=h;obtain ⟨a,rfl,ea⟩:=w4w e;refine gz ?_;clear gz Gz;have il:=(t0g.mp ea).1;have a3:=y4o d;have al1:=y4g ok a (t0i ea);rw [t0c] at al1;obtain ⟨u,eu⟩:∃u,ts[a]?=some u:=⟨_,t0e (by rw [tbs.1];exact al1)⟩;refine ⟨by rw [t0c,ul];exact z0n (by lia),?_⟩;ktr_call z0b t0a;refine ⟨_,hs2,_,z0f (v:=.ref u) (by rw [t0q,eu];rfl),us++[u],by rw [t0l];rfl,il,by rw [t0o,ul];rfl,λ j a' u' e1 e2=>?_,_,rfl⟩;by_cases c:j < us.length
   ·rw [t1b c] at e2;exact ua j a' u' e1 e2
   ·have jl:=(t0g.mp e2).1;rw [t0o,t1z] at jl;have je:j=us.length:=by lia
    subst je;rw [t0u (t0n _),t2f] at e2;cases e2;rw [ul,ea] at e1;cases e1;exact eu
  ·kd_p;obtain ⟨rfl,us,rfl,hi,ul,ua,y,rfl⟩:=h;refine gz ?_;clear gz Gz;rw [x5t] at ul;exact hR _ _ ⟨p1,us,u2.trans (z0a hp1 _),z0d,ul,ua,rfl⟩
 rintro σ1 G1 hz9;kd_p;obtain ⟨ul,us,s1,hul,ulen,uat,rfl⟩:=hz9;refine gz ?_;clear gz Gz;have hst:=hst.same s1;have hT1:=hT.same s1;have tb1:=tbs.sm (.of s1)
 have uz:∀ {i a:Nat},(z4g d)[i]?=some a->∃u,atI (us.map V.ref) (i:Int)=some (.ref u)/\∀A C,Ts[a]?=some (A,C)->TbAt G1 u A C:=λ {i a} e=>by
  have il:=(t0g.mp e).1;have ui:i < us.length:=by rw [ulen];exact il
  refine ⟨us[i],z0f (by rw [t0q,t0e ui];rfl),λ A C eA=>?_⟩;have eu:=uat i a _ e (t0e ui);obtain ⟨T,e1,h1⟩:=tb1.2 a _ eu;rw [eA] at e1;cases e1;exact h1
 ktn_end (λ σ G=>G=G1/\¬kdN d=1/\σ=[some (.ref p),some (.ref tl),some (.str (z0w (kdN d))),some (.ref ul)])
 ·cell_end z0b t0a x3k;by_cases c:kdN d=1;rotate_left
  ·rw [if_neg (show ¬z0w (kdN d)=Str.ofString "num" from z2k 1 (z2m d) (by decide) c)];exact hR _ _ ⟨rfl,c,rfl⟩
  rw [if_pos (show z0w (kdN d)=Str.ofString "num" by rw [c];rfl)]
  obtain ⟨n,rfl⟩:∃n,d=.num n:=by
   cases d with
   | num n=>exact ⟨n,rfl⟩
   | _=>exact absurd c (t5e rfl)
  cases ok;exact ⟨_,hst,_,z0f (j:=1) rfl,n,rfl,λ H1 r s2 tb=>q _ r (.of (s1.trans s2)) (hT1.same s2) tb⟩
 rintro σ_1 G_1 ⟨rfl,c1,rfl⟩;ktn_end (λ σ G=>G=G_1/\¬kdN d=2/\σ=[some (.ref p),some (.ref tl),some (.str (z0w (kdN d))),some (.ref ul)])
 ·cell_end z0b t0a y5e;by_cases c:kdN d=2;rotate_left
  ·rw [if_neg (show ¬z0w (kdN d)=Str.ofString "count" from z2k 2 (z2m d) (by decide) c)];exact hR _ _ ⟨rfl,c,rfl⟩
  rw [if_pos (show z0w (kdN d)=Str.ofString "count" by rw [c];rfl)];kd_p;obtain ⟨ms,k,rfl⟩:=inv_at.2.1 c;obtain ⟨rfl,nb,no⟩:=ok;obtain ⟨b,hp,hb⟩:=hst;refine gz ?_;clear gz Gz
  exact ⟨_,hp,_,z0f (j:=1) rfl,_,hp,_,z0f (j:=2) rfl,b,rfl,S,k,rfl,hb,sd,by lia,hT1 _ (by unfold T9;exact t0d _ (t0d _ (t0d _ (t0t)))),nb,no,λ H1 r c' s2 tk hc hr=>by
   obtain ⟨m1,T1⟩:=hT1.both Z0.nd9 (by unfold T9;exact t0d _ (t0d _ (t0d _ (t0t)))) s2 tk
   exact q _ r ((SmT.of s1).trans m1) T1 ⟨b,c',hr,m1.tup hb,hc⟩⟩
 rintro σ_2 G_2 ⟨rfl,c2,rfl⟩;ktn_end (λ σ G=>G=G_2/\¬kdN d=4/\σ=[some (.ref p),some (.ref tl),some (.str (z0w (kdN d))),some (.ref ul)])
 ·cell_end z0b t0a x3a;by_cases c:kdN d=4;rotate_left
  ·rw [if_neg (show ¬z0w (kdN d)=Str.ofString "pair" from z2k 4 (z2m d) (by decide) c)];exact hR _ _ ⟨rfl,c,rfl⟩
  rw [if_pos (show z0w (kdN d)=Str.ofString "pair" by rw [c];rfl)];kd_p;obtain ⟨w,a,b,rfl⟩:=inv_at.2.2.2.1 c;obtain ⟨A,B,ea,eb,hw,po,rfl⟩:=ok;obtain ⟨C,e⟩:=z2e ea;obtain ⟨C',e'⟩:=z2e eb;obtain ⟨u0,e0,t0⟩:=uz (i:=0) rfl;obtain ⟨u1,e1,t1⟩:=uz (i:=1) rfl;refine gz ?_;clear gz Gz;have g:=gm e;have g':=gm e';have l1:=g.1.2.1;have l2:=g'.1.2.1;have eF:y3l Ts (.pair w a b)=prC w A C B C' (z0y A B):=by show prC w (gT Ts a).1 (gT Ts a).2 (gT Ts b).1 (gT Ts b).2 (z0y (gT Ts a).1 (gT Ts b).1)=_;rw [z3w e,z3w e']
  exact ⟨_,hst,_,z0f (j:=1) rfl,_,hul,_,e0,_,hul,_,e1,w,rfl,u0,rfl,u1,rfl,A,C,t0 _ _ e,B,C',t1 _ _ e',z2q g.1,z2q g'.1,by lia,by lia,g.2.1,g'.2.1,g.2.2.2,g'.2.2.2,g.2.2.1,g'.2.2.1,hT1 _ (by unfold T9;exact t0d _ (t0t)),hw,po,λ H1 r s2 tk tb=>by
   obtain ⟨m1,T1⟩:=hT1.both Z0.nd9 (by unfold T9;exact t0d _ (t0t)) s2 tk
   exact q _ r ((SmT.of s1).trans m1) T1 (by rw [eF];exact tb)⟩
 rintro σ_4 G_4 ⟨rfl,c4,rfl⟩;ktn_end (λ σ G=>G=G_4/\¬kdN d=5/\σ=[some (.ref p),some (.ref tl),some (.str (z0w (kdN d))),some (.ref ul)])
 ·cell_end z0b t0a x2z;by_cases c:kdN d=5;rotate_left
  ·rw [if_neg (show ¬z0w (kdN d)=Str.ofString "pick" from z2k 5 (z2m d) (by decide) c)];exact hR _ _ ⟨rfl,c,rfl⟩
  rw [if_pos (show z0w (kdN d)=Str.ofString "pick" by rw [c];rfl)]
  obtain ⟨a,b,c',rfl⟩:∃a b c',d=.pick a b c':=by
   cases d with
   | pick a b z=>exact ⟨a,b,z,rfl⟩
   | _=>exact absurd c (t5e rfl)
  kd_p;obtain ⟨A,B,B2,ea,eb,ec,po,po2,rfl⟩:=ok;obtain ⟨C,e⟩:=z2e ea;obtain ⟨C',e'⟩:=z2e eb;obtain ⟨u0,e0,t0⟩:=uz (i:=0) rfl;obtain ⟨u1,e1,t1⟩:=uz (i:=1) rfl;have g:=gm e;have g':=gm e';have l1:=g.1.2.1;have l2:=g'.1.2.1;obtain ⟨C2,e2⟩:=z2e ec;obtain ⟨u2,e3,t2⟩:=uz (i:=2) rfl;refine gz ?_;clear gz Gz;have g2:=gm e2;have l3:=g2.1.2.1;have eF:y3l Ts (.pick a b c')=pkC A C B C' B2 C2 (z0y (z0y A B) B2):=by show pkC (gT Ts a).1 (gT Ts a).2 (gT Ts b).1 (gT Ts b).2 (gT Ts c').1 (gT Ts c').2 (z0y (z0y (gT Ts a).1 (gT Ts b).1) (gT Ts c').1)=_;rw [z3w e,z3w e',z3w e2]
  exact ⟨_,hul,_,e0,_,hul,_,e1,_,hul,_,e3,u0,rfl,u1,rfl,u2,rfl,A,C,t0 _ _ e,B,C',t1 _ _ e',B2,C2,t2 _ _ e2,z2q g.1,z2q g'.1,z2q g2.1,by lia,by lia,by lia,g.2.1,g'.2.1,g2.2.1,g.2.2.2,g'.2.2.2,g2.2.2.2,hT1 _ (by unfold T9;exact t0d _ (t0t)),po,po2,λ H1 r s2 tk tb=>by
   obtain ⟨m1,T1⟩:=hT1.both Z0.nd9 (by unfold T9;exact t0d _ (t0t)) s2 tk
   exact q _ r ((SmT.of s1).trans m1) T1 (by rw [eF];exact tb)⟩
 rintro σ_5 G_5 ⟨rfl,c5,rfl⟩;ktn_end (λ σ G=>G=G_5/\¬kdN d=11/\σ=[some (.ref p),some (.ref tl),some (.str (z0w (kdN d))),some (.ref ul)])
 ·cell_end z0b t0a x3e;by_cases c:kdN d=11;rotate_left
  ·rw [if_neg (show ¬z0w (kdN d)=Str.ofString "join" from z2k 11 (z2m d) (by decide) c)];exact hR _ _ ⟨rfl,c,rfl⟩
  rw [if_pos (show z0w (kdN d)=Str.ofString "join" by rw [c];rfl)];kd_p;obtain ⟨a,b,s,rfl⟩:=inv_at.2.2.2.2.2.2.2.2.2.1 c;obtain ⟨A,B,ea,eb,ab,no,er,nb,rfl⟩:=ok;obtain ⟨C,e⟩:=z2e ea;obtain ⟨C',e'⟩:=z2e eb;obtain ⟨u0,e0,t0⟩:=uz (i:=0) rfl;obtain ⟨u1,e1,t1⟩:=uz (i:=1) rfl;refine gz ?_;clear gz Gz;have g:=gm e;have g':=gm e';have l1:=g.1.2.1;have l2:=g'.1.2.1;have eF:y3l Ts (.join a b s)=(List.range (z0e (z2v A B s)).toNat).map λ i:Nat=>w0o A C B C' s.toNat (atD (z2v A B s) (i:Int)):=by show ((List.range (z0e (z2v (gT Ts a).1 (gT Ts b).1 s)).toNat).map λ i:Nat=>w0o (gT Ts a).1 (gT Ts a).2 (gT Ts b).1 (gT Ts b).2 s.toNat (atD (z2v (gT Ts a).1 (gT Ts b).1 s) (i:Int)))=_;rw [z3w e,z3w e']
  exact ⟨_,hul,_,e0,_,hul,_,e1,_,hst,_,z0f (j:=3) rfl,u0,rfl,u1,rfl,A,C,B,C',s,rfl,t0 _ _ e,t1 _ _ e',y6h g.1,y6h g'.1,by lia,g.2.1,g'.2.1,hT1 _ (by unfold T9;exact t0d _ (t0d _ (t0d _ (t0d _ (t0d _ (t0d _ (t0d _ (t0d _ (t0t))))))))),ab,no,er,nb,λ H1 r s2 tk tb=>by
   obtain ⟨m1,T1⟩:=hT1.both Z0.nd9 (by unfold T9;exact t0d _ (t0d _ (t0d _ (t0d _ (t0d _ (t0d _ (t0d _ (t0d _ (t0t))))))))) s2 tk
   exact q _ r ((SmT.of s1).trans m1) T1 (by rw [eF];exact tb)⟩
 rintro σ_11 G_11 ⟨rfl,c11,rfl⟩;ktn_end (λ σ G=>G=G_11/\¬kdN d=12/\σ=[some (.ref p),some (.ref tl),some (.str (z0w (kdN d))),some (.ref ul)])
 ·cell_end z0b t0a x3i;by_cases c:kdN d=12;rotate_left
  ·rw [if_neg (show ¬z0w (kdN d)=Str.ofString "fetch" from z2k 12 (z2m d) (by decide) c)];exact hR _ _ ⟨rfl,c,rfl⟩
  rw [if_pos (show z0w (kdN d)=Str.ofString "fetch" by rw [c];rfl)];kd_p;obtain ⟨a,b,rfl⟩:=inv_at.2.2.2.2.2.2.2.2.2.2.1 c;obtain ⟨n,rr,B,ea,n0,eb,nb,rfl⟩:=ok;obtain ⟨C,e⟩:=z2e ea;obtain ⟨C',e'⟩:=z2e eb;obtain ⟨u0,e0,t0⟩:=uz (i:=0) rfl;obtain ⟨u1,e1,t1⟩:=uz (i:=1) rfl;refine gz ?_;clear gz Gz;have g:=gm e;have g':=gm e';have l1:=g.1.2.1;have l2:=g'.1.2.1;have eF:y3l Ts (.fetch a b)=(List.range (z0e (B++rr)).toNat).map (w5p n rr C C'):=by show (List.range (z0e ((gT Ts b).1++(gT Ts a).1.tail)).toNat).map (w5p ((gT Ts a).1.headD 0) (gT Ts a).1.tail (gT Ts a).2 (gT Ts b).2)=_;rw [z3w e,z3w e'];rfl
  have l1:(n::rr).length≤6:=g.1.2.1
  exact ⟨_,hul,_,e0,_,hul,_,e1,u0,rfl,u1,rfl,n,rr,C,t0 _ _ e,B,C',t1 _ _ e',z2q g.1,z2q g'.1,t1d (Nat.lt_of_succ_le l1) (by decide),by lia,g.2.1,g'.2.1,hT1 _ (by unfold T9;exact t0d _ (t0d _ (t0t))),n0,nb,λ H1 r s2 tk tb=>by
   obtain ⟨m1,T1⟩:=hT1.both Z0.nd9 (by unfold T9;exact t0d _ (t0d _ (t0t))) s2 tk
   exact q _ r ((SmT.of s1).trans m1) T1 (by rw [eF];exact tb)⟩
 rintro σ_12 G_12 ⟨rfl,c12,rfl⟩
 have ha:∃a,z4g d=[a]:=by
  cases d with
  | inp ms=>exact absurd rfl (ni ms)
  | num=>exact absurd rfl c1
  | count=>exact absurd rfl c2
  | pair=>exact absurd rfl c4
  | pick=>exact absurd rfl c5
  | join=>exact absurd rfl c11
  | fetch=>exact absurd rfl c12
  | _=>exact ⟨_,rfl⟩
 obtain ⟨a,ha⟩:=ha;have al:=y4g ok a (by rw [ha];exact t0v.mpr rfl);rw [t0c] at al;have ea:Ts[a]?=some Ts[a]:=t0e al;obtain ⟨u0,e0,t0⟩:=uz (i:=0) (by rw [ha];rfl);ktr_call z0b t0a;exact ⟨_,hul,_,e0,p,u0,d,S,Ts[a],Ts,a,mo,rfl,hst,ha,ea,t0 _ _ ea,gs _ (t0i ea),hmo,ok,fs,hT1,λ H1 r s2 T2 tb=>q _ r ((SmT.of s1).trans s2) T2 tb⟩
theorem y1g (Y0:Cs Z0 59):ca (Cl Z0) 59:=kz2 Z0 Z0.g59 λ f fd F=>by
 have sc:=scq (z0h z6z) ["program","inputs"] ["sides","asked"];kt_k
 ·obtain ⟨r,it,ds,Ss,os,mo,is,Is,rfl,_⟩:=h;rfl
 obtain ⟨r,it,ds,Ss,os,mo,is,Is,rfl,⟨st,ot,qs,hr0,hst,sl,hot⟩,gd,hit,tbs,eI,q⟩:=h;refine ⟨_,(z1u 2 sc.nd (z1d (cc Y0 38) hr z0l (z1o (pv 0))) (z0o (x4i (own:=["step","told"]) sc.nd (i:=3) rfl (by first | exact Or.inl rfl | exact Or.inr rfl) (by first | exact Or.inl rfl | exact Or.inr rfl) rfl (y9w (by rfl) Z0.zzip (z0v (z0s z0g (pv 0) z0c) (pv 2))) (by decide) (by decide) rfl (by decide) (λ _ _ _ _=>(z7i (n:=2) (z9l rfl (z1x (z6l 0 ["step","told"]) (z1x (z6l 1 ["step","told"]) z6o))))) (λ _ _ _ _=>(pv 1)) (λ _ _ _ _=>(z1f z0z (z0s z0g (pv 0) z0c) z0p))) (z1q (z1f (x4w (v2u hr)) (z5y (own:=["tab"]) rfl (z4m (pv 1)) (by decide) (by decide) rfl (by decide) (λ _ _ _ _=>(z6l 0 ["tab"])) (λ _ _ _ _=>(z0s z0g (pv 0) z0c))) (pv 3)) (z0q z1n) (z1b (pv 2))))),?_⟩
 (try dsimp only [z0t]);simp only [L2.start,t0h,t0j,List.replicate,t0k,t0m,Nat.reduceSub,Nat.reduceAdd,z2o,z2p]
 have d40:=gd.2.2.2.1;have gl:=gd.2.1;have il40:=x0i ds;have iL:is.length=(z5o ds).length:=by rw [tbs.1,← eI,t0c]
 ktn_end (λ σ G=>∃t ps,Same H G/\G t=some (.tup (ps.map V.ref))/\TpsM G ps Ss/\σ=[some (.ref r),some (.ref it),some (.ref t),none])
 ·cell_end z0b t0a y5f;exact ⟨ds,Ss,os,⟨st,ot,qs,hr0,hst,sl,hot⟩,mo,gd,λ G t ps u h1 h2=>hR _ _ ⟨t,ps,u,h1,h2,rfl⟩⟩
 rintro σ1 G1 hz9;kd_p;obtain ⟨t,ps,s1,h1,h2,rfl⟩:=hz9;refine gz ?_;clear gz Gz;ktn_end (λ σ G=>∃al as,Same G1 G/\G al=some (.lst (as.map V.ref))/\TpsM G as (z5o ds)/\σ=[some (.ref r),some (.ref it),some (.ref t),some (.ref al)])
 ·ktr_call z0b t0a;refine ⟨_,s1 _ _ hr0,_,z0f (j:=0) rfl,?_⟩;refine CompZI.mk (xs:=qs.map V.ref) (ys:=ps.map V.ref) ds.length (by rw [t0c,t0c,sl.1,h2.1,← gl.1,t4x]) (.of (s1 _ _ hst)) (.of h1) (λ i zs σ G=>Same G1 G/\i≤ds.length/\∃as:List Addr,zs=as.map V.ref/\TpsM G as (z5o (ds.take i))/\∃y0 y1,σ=[y0,y1]) ⟨Same.refl _,t0x _,[],rfl,⟨rfl,λ i p e=>nomatch e⟩,_,_,rfl⟩ (λ i zs σ G hi h=>?_) (λ i x y zs σ G T hi ex ey h hT=>?_) (λ zs σ G h p hp=>?_)
  ·kd_p;obtain ⟨u,hi',as,rfl,ta,y0,y1,rfl⟩:=h;refine gz ?_;clear gz Gz;have:=x0i (ds.take i);rw [t0p] at this;exact ⟨.of (u _ _ (s1 _ _ hst)),.of (u _ _ h1),by rw [t0c,ta.1];exact z0n (by lia)⟩
  ·kd_p;obtain ⟨u,hi',as,rfl,ta,y0,y1,rfl⟩:=h;obtain ⟨p,rfl,hp⟩:=y1c ex;obtain ⟨o,rfl,ho⟩:=y1c ey;obtain ⟨d,ed,hd⟩:=sl.2 i p hp;obtain ⟨S,eS,hS⟩:=h2.2 i o ho;obtain ⟨xs,hp',h0,_,_⟩:=z3l hd;refine gz ?_;clear gz Gz;have v:=u.trans (z0a hT (.tup [V.ref p,V.ref o]));have ta':=ta.same (z0a hT (.tup [V.ref p,V.ref o]));ktr_call z0b t0a;refine ⟨_,(s1.trans v) _ _ hp',_,z0f (j:=0) h0,rfl,?_⟩;by_cases c:kdN d=0
   ·rw [if_pos (show V.str (z0w (kdN d))=V.str "in" by rw [c];rfl)];obtain ⟨ms,rfl⟩:=y6e c;have ok:=gl.2.2 i _ S ed eS;cases ok.1;exact ⟨v,hi,as++[o],by rw [t0l];rfl,by rw [z4r ed];exact ta'.snoc (v _ _ hS),_,rfl⟩
   ·rw [if_neg (show ¬V.str (z0w (kdN d))=V.str "in" from y6d 0 (z2m d) (by decide) c)];exact ⟨v,hi,as,rfl,by rw [z4r ed,x0h c];simpa using ta',_,rfl⟩
  ·kd_p;obtain ⟨u,hi',as,rfl,ta,y0,y1,rfl⟩:=h;refine gz ?_;clear gz Gz;rw [t1h] at ta;exact hR _ _ ⟨p,as,u.trans (z0a hp _),z0d,ta.same (z0a hp _),rfl⟩
 rintro σ2 G2 hz9;kd_p;obtain ⟨al,as,s2,ha,ta,rfl⟩:=hz9;refine gz ?_;clear gz Gz;have t2:=s1.trans s2;have tb2:=tbs.sm (.of t2);ktn_end (λ σ G=>Same G2 G/\σ=[some (.ref r),some (.ref it),some (.ref t),some (.ref al)])
 ·ktr_call z0b t0a;refine CompT.mk (xs:=is.map V.ref) (.of (t2 _ _ hit)) (λ i zs σ G=>G=G2/\i≤is.length/\∃bs:List Addr,zs=bs.map V.ref/\TpsM G bs ((z5o ds).take i)/\∃y,σ=[y]) ⟨rfl,t0x _,[],rfl,⟨rfl,λ i p e=>nomatch e⟩,_,rfl⟩ (λ i zs σ G _ h=>by rw [h.1];exact .of (t2 _ _ hit)) (λ i x zs σ G e h=>?_) (λ zs σ G h p1 hp1=>?_)
  ·kd_p;obtain ⟨rfl,hi,bs,rfl,tb,y,rfl⟩:=h;obtain ⟨p,rfl,hp⟩:=y1c e;obtain ⟨T,eT,a,c,h1',h2',_⟩:=tb2.2 i p hp;refine gz ?_;clear gz Gz;have il:=(t0g.mp hp).1;refine ⟨by rw [t0c,tb.1,t0p];exact z0n (by lia),?_⟩;ktr_call z0b t0a;exact ⟨_,h1',_,z0f (j:=0) rfl,il,bs++[a],by rw [t0l];rfl,by rw [t1j,← eI,t0q,eT,eI];exact tb.snoc h2',_,rfl⟩
  ·kd_p;obtain ⟨rfl,hi,bs,rfl,tb,y,rfl⟩:=h;refine gz ?_;clear gz Gz;rw [t0c,iL,t1h] at tb;have v:=z0a hp1 (.lst (bs.map V.ref));exact ⟨⟨_,rfl⟩,w5z (tb.same v) (ta.same v) z0d (v _ _ ha),hR _ _ ⟨v,rfl⟩⟩
 rintro σ3 G3 ⟨s3,rfl⟩;ktr_call z0b t0a;exact q _ t (t2.trans s3)
theorem y7w (Y0:Cs Z0 60):ca (Cl Z0) 60:=kz2 Z0 Z0.g60 λ f fd F=>by
 have sc:=scq (z0h y2w) ["program","inputs"] ["waiting","tabs","step"];kt_k
 ·obtain ⟨r,it,ds,Ss,os,mo,is,Is,rfl,_⟩:=h;rfl
 obtain ⟨r,it,ds,Ss,os,mo,is,Is,rfl,⟨st,ot,qs,hr0,hst,sl,hot⟩,gd,hit,tbs,eI,gI,hT,q⟩:=h;refine ⟨_,(z0o (z1l (z1d (cc Y0 59) hr z0l (z0v (pv 0) (pv 1)))) (z1u 2 sc.nd (z7z ((z8k (K:=K) rfl)) Z0.zlist s1g (z1o (pv 1))) (z1u 3 sc.nd (z3i z1j) (z0o (z3g t1u rfl (z4m (z0s z0g (pv 0) z0c)) (z9p 4 sc.nd) (z0q (z1l (z5l (pv 3) (z4p (z1f z0z (z0s z0g (pv 4) z0c) z0p) (w8q t6f PySem.F.slot_list_pop PySem.F.type_list_pop w0h (pv 2) (z1o z0c)) (z1d (cc Y0 58) hr z0l (z0v (pv 4) (pv 3)))))))) (z1b (z7z ((z2z (K:=K) rfl)) Z0.ztuple t2g (z1o (pv 3)))))))),?_⟩
 (try dsimp only [z0t]);simp only [L2.start,t0h,t0j,List.replicate,t0k,t0m,Nat.reduceSub,Nat.reduceAdd,z2o,z2p]
 have d40:=gd.2.2.2.1;have gl:=gd.2.1;have hmo:=gd.1;have il40:=x0i ds;have iL:is.length=(z5o ds).length:=by rw [tbs.1,← eI,t0c]
 ktn_end (λ σ G=>Same H G/\σ=[some (.ref r),some (.ref it),none,none,none])
 ·ktr_call z0b t0a;exact ⟨r,it,ds,Ss,os,mo,is,Is,rfl,⟨st,ot,qs,hr0,hst,sl,hot⟩,gd,hit,tbs,eI,λ G t u=>hR _ _ ⟨u,rfl⟩⟩
 rintro σ1 G1 ⟨s1,rfl⟩;ktn_end (λ σ G=>∃w,Same H G/\H w=none/\G w=some (.lst (is.map V.ref))/\σ=[some (.ref r),some (.ref it),some (.ref w),none,none])
 ·ktr_call z0b t0a;exact ⟨_,.inr (.of (s1 _ _ hit)),λ l hl=>hR _ _ ⟨l,s1.trans (z0a hl _),z7y s1 hl,z0d,rfl⟩⟩
 rintro σ2 G2 hz9;kd_p;obtain ⟨w,s2,w0,hw,rfl⟩:=hz9;refine gz ?_;clear gz Gz;ktn_end (λ σ G=>∃tl,Same H G/\H tl=none/\tl≠w/\G w=some (.lst (is.map V.ref))/\G tl=some (.lst [])/\σ=[some (.ref r),some (.ref it),some (.ref w),some (.ref tl),none])
 ·ktr_call z0b t0a;exact ⟨t0x _,λ l hl=>hR _ _ ⟨l,s2.trans (z0a hl _),z7y s2 hl,(λ z=>by rw [z,hw] at hl;cases hl),z0a hl _ _ _ hw,z0d,rfl⟩⟩
 rintro σ3 G3 hz9;kd_p;obtain ⟨tl,s3,tl0,ne,hw,htl,rfl⟩:=hz9;refine gz ?_;clear gz Gz;ktn_end (λ σ G=>∃(ts:List Addr) (y:Option V),SmT H G/\TabsL (T9 TD TL TE TC TT TP TU TS TJ) G/\G tl=some (.lst (ts.map V.ref))/\TbsL G ts (z3b ds Ss Is ds.length)/\σ=[some (.ref r),some (.ref it),some (.ref w),some (.ref tl),y])
 ·wp_walk using z0b,z9t,eqV,t0a;refine ⟨_,s3 _ _ hr0,_,z0f (j:=0) rfl,?_⟩;obtain ⟨J,hJ⟩:∃J:Nat->L2.St->Hp->Prop,J=(λ i σ G=>∃(ts:List Addr) (y:Option V),SmT H G/\TabsL (T9 TD TL TE TC TT TP TU TS TJ) G/\i≤ds.length/\G w=some (.lst ((is.drop (z5o (ds.take i)).length).map V.ref))/\G tl=some (.lst (ts.map V.ref))/\TbsL G ts (z3b ds Ss Is i)/\σ=[some (.ref r),some (.ref it),some (.ref w),some (.ref tl),y]):=⟨_,rfl⟩;refine LoopT.mk (xs:=qs.map V.ref) (.of (s3 _ _ hst)) J (by rw [hJ];exact ⟨[],_,.of s3,hT.same s3,t0x _,hw,htl,⟨rfl,λ i p e=>nomatch e⟩,rfl⟩) (λ i σ G _ h=>by rw [hJ] at h;obtain ⟨_,_,s,_⟩:=h;exact .of (s.tup hst)) (λ i x σ G0 e h=>?_) (λ σ G h=>?_);rotate_left
  ·rw [hJ] at h;kd_p;obtain ⟨ts,y,s,T,hi,h1,h2,h3,rfl⟩:=h;refine gz ?_;clear gz Gz;rw [t0c,sl.1] at h3;exact hR _ _ ⟨ts,_,s,T,h2,h3,rfl⟩
  clear hR;rw [hJ] at h;kd_p;obtain ⟨ts,y,s,T0,hi,h1,h2,h3,rfl⟩:=h;obtain ⟨p,rfl,hp⟩:=y1c e;obtain ⟨d,ed,hd⟩:=(sl.up (y0x s)).2 i p hp;refine gz ?_;clear gz Gz;have idl:=(t0g.mp ed).1;have il:i < Ss.length:=by rw [← gl.1];exact idl
  have eS:=t0e il;generalize Ss[i]=S at eS;have ok:=gl.2.2 i d S ed eS;have fs:=gl.2.1 S (t0i eS);kd_p;obtain ⟨g1,g2⟩:=y3k hmo gl eI gI i (t3h idl);obtain ⟨xs,hp',h0,_,_⟩:=z3l hd;refine gz ?_;clear gz Gz;have tsl:ts.length=i:=by rw [h3.1,z6y]
  ktr_call z0b t0a;refine ⟨⟨_,h2⟩,_,hp',_,z0f (j:=0) h0,rfl,?_⟩;by_cases c:kdN d=0
  ·rw [if_pos (show V.str (z0w (kdN d))=V.str "in" by rw [c];rfl)];obtain ⟨ms,rfl⟩:=y6e c;have a:=x6q ed;rw [← eI,t0q] at a;kd_p;obtain ⟨T,eT,rfl⟩:=t3b.mp a;obtain ⟨u,eu,hu⟩:=y8s tbs eT;refine gz ?_;clear gz Gz
   have dj:is.drop (z5o (ds.take i)).length=u::is.drop (z5o (ds.take (i+1))).length:=by
    rw [z4r ed,t0o];obtain ⟨jl,je⟩:=t0g.mp eu;rw [List.drop_eq_getElem_cons jl,je];rfl
   rw [dj,z2o] at h1;have h2':upd G0 w (.lst ((is.drop (z5o (ds.take (i+1))).length).map V.ref)) tl=some (.lst (ts.map V.ref)):=by rw [z0u ne];exact h2
   have up:=(z7q (ys:=(is.drop (z5o (ds.take (i+1))).length).map V.ref) h1).trans (z7q (ys:=ts.map V.ref++[V.ref u]) h2');refine ⟨.inl ⟨_,.of h1⟩,_,h1,0,by simp [seqIndex?],V.ref u,rfl,_,h2',by rw [t0c,tsl];exact z0n (by lia),?_⟩;rw [hJ];exact ⟨ts++[u],_,y3r (y3r s w0) tl0,(T0.put h1).put h2',idl,by rw [z0u (t3z ne),z0d];rfl,by rw [z0d,t0l];rfl,by rw [x2m ed eT];exact (h3.up up).snoc ((hu.up (y0x s)).up up),rfl⟩
  ·rw [if_neg (show ¬V.str (z0w (kdN d))=V.str "in" from y6d 0 (z2m d) (by decide) c)];have ni:∀ms,d≠.inp ms:=λ ms z=>c (by rw [z];rfl);refine ⟨p,tl,d,S,_,ts,mo,rfl,hd,ni,.inl h2,h3,g2,hmo,by rw [g1];exact ok,fs,T0,λ H2 t sm T2 tb=>⟨_,sm.lst h2,by rw [t0c,tsl];exact z0n (by lia),?_⟩⟩;have h2':=sm.lst h2;have up:=z7q (ys:=ts.map V.ref++[V.ref t]) h2';rw [hJ];exact ⟨ts++[t],_,y3r (s.trans sm) tl0,T2.put h2',idl,by rw [z0u (t3z ne),z4r ed,x0h c];simpa using sm.lst h1,by rw [z0d,t0l];rfl,by rw [x2l ed ni eS];exact (h3.up ((y0x sm).trans up)).snoc (tb.up up),rfl⟩
 rintro σ4 G4 hz9;kd_p;obtain ⟨ts,y,s4,T4,h2,h3,rfl⟩:=hz9;refine gz ?_;clear gz Gz;ktr_call z0b t0a;exact ⟨_,.inl ⟨.of h2,λ t1 ht1=>q _ t1 ts (s4.trans (.of (z0a ht1 _))) (T4.same (z0a ht1 _)) z0d (h3.sm (.of (z0a ht1 _)))⟩⟩
theorem x5o (Y0:Cs Z0 61):ca (Cl Z0) 61:=kz2 Z0 Z0.g61 λ f fd F=>by
 have sc:=scq (z0h y9q) ["program","inputs"] ["tabs"];kt_k
 ·obtain ⟨r,it,ds,Ss,os,mo,is,Is,rfl,_⟩:=h;rfl
 obtain ⟨r,it,ds,Ss,os,mo,is,Is,rfl,⟨st,ot,qs,hr0,hst,sl,hot⟩,gd,hit,tbs,eI,gI,hT,q⟩:=h;refine ⟨_,(z1u 2 sc.nd (z1d (cc Y0 60) hr z0l (z0v (pv 0) (pv 1))) (z1b (z7z ((z2z (K:=K) rfl)) Z0.ztuple t2g (z1o (z3d (own:=["out"]) (fv:=["tabs"]) (js:=[2]) rfl (z4m (z0s z0g (pv 0) z0c)) rfl (by decide) rfl (by decide) (by kcj_m) (z2y (by rfl)) rfl (y6v (by kcf_m)) (λ _ _ _ _=>(z6l 0 ["out","tabs"])) (λ _ _ _ _=>(z0s z0g (pv 1) (pv 0)))))))),?_⟩
 (try dsimp only [z0t]);simp only [L2.start,t0h,t0j,List.replicate,t0k,t0m,Nat.reduceSub,Nat.reduceAdd,z2o,z2p]
 have ob:=gd.2.2.2.2.2.2;have o8:=gd.2.2.2.2.2.1;ktn_end (λ σ G=>∃t ts,SmT H G/\TabsL (T9 TD TL TE TC TT TP TU TS TJ) G/\G t=some (.tup (ts.map V.ref))/\TbsL G ts (z3b ds Ss Is ds.length)/\σ=[some (.ref r),some (.ref it),some (.ref t)])
 ·ktr_call z0b t0a;exact ⟨r,it,ds,Ss,os,mo,is,Is,rfl,⟨st,ot,qs,hr0,hst,sl,hot⟩,gd,hit,tbs,eI,gI,hT,λ G t ts u T h1 h2=>hR _ _ ⟨t,ts,u,T,h1,h2,rfl⟩⟩
 rintro σ1 G1 hz9;kd_p;obtain ⟨t,ts,s1,T1,h1,h2,rfl⟩:=hz9;refine gz ?_;clear gz Gz;ktr_call z0b t0a;refine ⟨_,s1.tup hr0,_,z0f (j:=1) rfl,?_⟩;have hot:=s1.tup hot;have tl:ts.length=ds.length:=by rw [h2.1,z6y]
 refine CompT.mk (xs:=os.map V.int) (.of hot) (λ i ys σ G=>G=G1/\i≤os.length/\∃as:List Addr,ys=as.map V.ref/\as.length=i/\(∀(k:Nat) (o:Int) (a:Addr),os[k]?=some o->as[k]?=some a->ts[o.toNat]?=some a)/\∃y,σ=[y,some (.ref t)]) ⟨rfl,t0x _,[],rfl,rfl,(λ k o a _ e=>nomatch e),_,rfl⟩ (λ i ys σ G _ h=>by rw [h.1];exact .of hot) (λ i x ys σ G e h=>?_) (λ ys σ G h p1 hp1=>?_)
 ·kd_p;obtain ⟨rfl,hi,as,rfl,al,aa,y,rfl⟩:=h;obtain ⟨o,rfl,eo⟩:=z3q e;refine gz ?_;clear gz Gz;have il:=(t0g.mp eo).1;have oo:=ob o (t0i eo);obtain ⟨u,eu⟩:∃u,ts[o.toNat]?=some u:=⟨_,t0e (by rw [tl];lia)⟩;refine ⟨by rw [t0c,al];exact z0n (by lia),?_⟩;ktr_call z0b t0a
  have ei:atI (ts.map V.ref) o=some (.ref u):=by
   have z:=z0f (xs:=ts.map V.ref) (j:=o.toNat) (v:=.ref u) (by rw [t0q,eu];rfl)
   rwa [t2m oo.1] at z
  refine ⟨_,h1,_,ei,il,as++[u],by rw [t0l];rfl,by rw [t0o,al];rfl,λ k o' a' e1 e2=>?_,_,rfl⟩;by_cases c:k < as.length
  ·rw [t1b c] at e2;exact aa k o' a' e1 e2
  ·have jl:=(t0g.mp e2).1;rw [t0o,t1z] at jl;have je:k=as.length:=by lia
   subst je;rw [t0u (t0n _),t2f] at e2;cases e2;rw [al,eo] at e1;cases e1;exact eu
 ·kd_p;obtain ⟨rfl,hi,as,rfl,al,aa,y,rfl⟩:=h;refine gz ?_;clear gz Gz;rw [z0j] at al;refine ⟨_,rfl,_,.inl ⟨.of z0d,λ t1 ht1=>?_⟩⟩;have v:=(z0a hp1 (.lst (as.map V.ref))).trans (z0a ht1 (.tup (as.map V.ref)));refine q _ t1 as (s1.trans (.of v)) (T1.same v) z0d ⟨al,λ k o a e1 e2=>?_⟩;obtain ⟨T,eT,hT'⟩:=h2.2 o.toNat a (aa k o a e1 e2);exact ⟨T,eT,hT'.same v⟩
theorem x1m (Y0:Cs Z0 62):ca (Cl Z0) 62:=kz1 Z0 Z0.g62 λ f fd F=>by
 have sc:=scq (z0h y5k) ["found"] [];kt_k
 ·exact el1 vs h λ _ _=>rfl
 refine el1 vs h λ n q=>?_;refine ⟨_,(z1b (w8r (z7o y6o Z0.zisinstance t4v (z0v (pv 0) (z7k (v:=.ty "int") (by rfl) Z0.zint boot_int rfl))) (x4p (w8o (z7o y6o Z0.zisinstance t4v (z0v (pv 0) (z7k (v:=.ty "bool") (by rfl) Z0.zbool boot_bool rfl))))))),?_⟩
 (try dsimp only [z0t]);simp only [L2.start,t0h,t0j,List.replicate,t0k,t0m,Nat.reduceSub,Nat.reduceAdd,z2o,z2p]
 ktr_call z0b t0a;exact q
theorem y7r (Y0:Cs Z0 63):ca (Cl Z0) 63:=kz2 Z0 Z0.g63 λ f fd F=>by
 have sc:=scq (z0h y2r) ["script","k"] [];kt_k
 ·exact el3 vs h λ _ _ _ _=>rfl
 refine el3 vs h λ a ns k h=>an2 h λ hS q=>?_;refine ⟨_,(z1q (z1f z6a (pv 1) (z3k Z0.zlen (pv 0))) (z1b (z0s y4l (pv 0) (pv 1))) (z1b z0c)),?_⟩
 (try dsimp only [z0t]);simp only [L2.start,t0h,t0j,List.replicate,t0k,t0m,Nat.reduceSub,Nat.reduceAdd,z2o,z2p]
 ktr_call z0b t0a;refine ⟨_,.inl hS,?_⟩;rw [z0j];unfold w5s at q;by_cases c:k < ns.length
 ·rw [if_pos (by lia)];exact ⟨_,hS,_,z0f (j:=k) (by rw [t0q,t0e c];rfl),by rw [t0w,t0e c] at q;exact q⟩
 ·rw [if_neg (by lia)];rw [t0w,t2e (by lia)] at q;exact q
theorem y5x (Y0:Cs Z0 64):ca (Cl Z0) 64:=kz2 Z0 Z0.g64 λ f fd F=>by
 have sc:=scq (z0h y0z) ["found","due"] ["k"];kt_k
 ·exact el3 vs h λ _ _ _ _=>rfl
 refine el3 vs h λ a b ns h=>an4 h λ ha hb h63 q=>?_;refine ⟨_,(z1q (PW.pt (z5a (z6f (z4l (z7o z5n Z0.zisinstance t4v (z0v (pv 0) (z7k (v:=.ty "tuple") (by rfl) Z0.ztuple t2g rfl))))) (z3m (z1f z8g (z3k Z0.zlen (pv 0)) (z3k Z0.zlen (pv 1)))))) (z1b z8v) (z0o (z3g t1u rfl (z2j (by rfl) Z0.zrange (z1o (z3k Z0.zlen (pv 1)))) (z9p 2 sc.nd) (z0q (z9q (PW.pt (z5a (z6f (z4l (z1d (cc Y0 62) hr z0l (z1o (z0s z0g (pv 0) (pv 2)))))) (z3m (z1f z8g (z0s z0g (pv 0) (pv 2)) (z0s y8b (pv 1) (pv 2)))))) (z1b z8v) z5x))) (z1b z8v))),?_⟩
 (try dsimp only [z0t]);simp only [L2.start,t0h,t0j,List.replicate,t0k,t0m,Nat.reduceSub,Nat.reduceAdd,z2o,z2p]
 ktr_call z0b t0a;refine ⟨_,ha,_,.inr (.of ha),_,hb.imp .of .of,?_⟩;rw [z0j,if_neg (by simp)];refine ⟨_,hb.imp .of .of,by rw [z0j];lia,by rw [z0j];lia,?_⟩;rw [z0j,t1c];refine LoopR.mk (λ i σ H'=>H'=H/\∃y,σ=[some (.ref a),some (.ref b),y]) ⟨rfl,_,rfl⟩ (λ i σ H' hi h=>?_) (λ σ H' h=>?_)
 ·obtain ⟨h1,y,rfl⟩:=h;subst h1;have e1:=z4y (ns:=ns) hi;kpf_say z0b t0a z8q t5y;refine ⟨_,ha,_,e1,_,rfl,_,ha,_,e1,_,hb,_,e1,rfl,?_⟩;rw [if_neg (by simp)];exact ⟨_,rfl⟩
 ·obtain ⟨h1,y,rfl⟩:=h;subst h1;ktr_call z0b t0a;exact q
theorem x5g (Y0:Cs Z0 65):ca (Cl Z0) 65:=kz1 Z0 Z0.g65 λ f fd F=>by
 have sc:=scq (z0h y9h) ["sides"] ["size","length"];kt_k
 ·exact el2 vs h λ _ _ _=>rfl
 refine el2 vs h λ a ns h=>an3 h λ ha sd q=>?_;refine ⟨_,(z1u 1 sc.nd z0c (z0o (z3g t1u rfl (w2z (pv 0)) (z9p 2 sc.nd) (z0q (y4r 1 sc.nd (z0m z5b (pv 1) (pv 2))))) (z1b (pv 1)))),?_⟩
 (try dsimp only [z0t]);simp only [L2.start,t0h,t0j,List.replicate,t0k,t0m,Nat.reduceSub,Nat.reduceAdd,z2o,z2p]
 ktr_call z0b t0a
 rcases ha with ha | ha
 ·left;refine LoopL.mk (xs:=ns.map V.int) (.of ha) (λ i σ G=>G=H/\∃y,σ=[some (.ref a),some (.int (z0e (ns.take i))),y]) ⟨rfl,_,rfl⟩ (λ i σ G _ h=>by rw [h.1];exact .of ha) (λ i x σ G e h=>?_) (λ σ G h=>?_)
  ·kd_p;obtain ⟨rfl,y,rfl⟩:=h;obtain ⟨m,rfl,hm,b0,b1⟩:=y5o sd e;refine gz ?_;clear gz Gz;have e1:z0e (ns.take (i+1))=z0e (ns.take i) * m:=by rw [t1j,hm];exact z8b _ _
   cell_end z0b t0a e1;exact ⟨.inr ⟨by lia,by lia⟩,_,rfl⟩
  ·obtain ⟨rfl,y,rfl⟩:=h;rw [z0j,t1h];ktr_call z0b t0a;exact q
 ·right;refine LoopT.mk (xs:=ns.map V.int) (.of ha) (λ i σ G=>G=H/\∃y,σ=[some (.ref a),some (.int (z0e (ns.take i))),y]) ⟨rfl,_,rfl⟩ (λ i σ G _ h=>by rw [h.1];exact .of ha) (λ i x σ G e h=>?_) (λ σ G h=>?_)
  ·kd_p;obtain ⟨rfl,y,rfl⟩:=h;obtain ⟨m,rfl,hm,b0,b1⟩:=y5o sd e;refine gz ?_;clear gz Gz;have e1:z0e (ns.take (i+1))=z0e (ns.take i) * m:=by rw [t1j,hm];exact z8b _ _
   cell_end z0b t0a e1;exact ⟨.inr ⟨by lia,by lia⟩,_,rfl⟩
  ·obtain ⟨rfl,y,rfl⟩:=h;rw [z0j,t1h];ktr_call z0b t0a;exact q
theorem x5e (Y0:Cs Z0 66):ca (Cl Z0) 66:=kz1 Z0 Z0.g66 λ f fd F=>by
 have sc:=scq (z0h y9f) ["sides"] [];kt_k
 ·exact el2 vs h λ _ _ _=>rfl
 refine el2 vs h λ a ns h=>an4 h λ ha sd l5 q=>?_;refine ⟨_,(z1b (z1d (cc Y0 65) hr z0l (z1o (z5y (own:=["length"]) rfl (z4m (pv 0)) (by decide) (by decide) rfl (by decide) (λ _ _ _ _=>(z6l 0 ["length"])) (λ _ _ _ _=>(z7o (z6r rfl) Z0.zmax t9q (z0v z0c (pv 0)))))))),?_⟩
 (try dsimp only [z0t]);simp only [L2.start,t0h,t0j,List.replicate,t0k,t0m,Nat.reduceSub,Nat.reduceAdd,z2o,z2p]
 cell_end z0b t0a z6k;refine CompT.mk (xs:=ns.map V.int) (.of ha) (λ i ys σ G=>G=H/\ys=((ns.map z1m).take i).map V.int/\i≤ns.length/\∃y,σ=[y]) ⟨rfl,rfl,t0x _,_,rfl⟩ (λ i ys σ G _ h=>by rw [h.1];exact .of ha) (λ i x ys σ G ex h=>?_) (λ ys σ G h p1 hp1=>?_)
 ·kd_p;obtain ⟨rfl,rfl,hi,y,rfl⟩:=h;obtain ⟨n,rfl,hn,n0,n1⟩:=y5o sd ex;refine gz ?_;clear gz Gz;have il:=(t0g.mp hn).1;have e1:((ns.map z1m).take (i+1)).map V.int=((ns.map z1m).take i).map V.int++[V.int (z1m n)]:=by rw [t1j,t0q,hn,t0l];rfl
  refine ⟨by rw [t0c,t0p,t0c];exact z0n (by lia),?_⟩;cell_end z0b t0a (x0a n0);exact ⟨e1.symm,il,_,rfl⟩
 ·kd_p;obtain ⟨rfl,rfl,hi,y,rfl⟩:=h;refine gz ?_;clear gz Gz;rw [z0j,t1o (by rw [t0c];exact t0n _)];exact ⟨p1,rfl,_,.inl z0d,w3c sd,q _ (z0a hp1 _)⟩
theorem y7o (Y0:Cs Z0 67):ca (Cl Z0) 67:=kz1 Z0 Z0.g67 λ f fd F=>by
 have sc:=scq (z0h y2o) ["n"] [];kt_k
 ·obtain ⟨n,rfl,_⟩:=h;rfl
 obtain ⟨n,rfl,q⟩:=h;refine ⟨_,(z1q (z1f z0z (z0m z2d (pv 0) z0c) z0c) (z1b (z0s y4l (z3i (z0i (x1f y2c (z0m z8f z0c z0c)) (z0i (z0m z4e (z0m z8f z0c z0c) z0c) (z0v (x1f y2c z0c) (z0m z8f z0c z0c))))) (z0m z2d (z0m z3o (pv 0) z0c) z0c))) (z1b (z0m z4e (z0m z2d (z0m z2g (pv 0) (z0m z8f z0c z0c)) (z0m z8f z0c z0c)) (z0m z8f z0c z0c)))),?_⟩
 (try dsimp only [z0t]);simp only [L2.start,t0h,t0j,List.replicate,t0k,t0m,Nat.reduceSub,Nat.reduceAdd,z2o,z2p]
 ktr_call z0b t0a;unfold w4v at q;by_cases c1:n % 17=5
 ·rw [if_pos c1];rw [if_pos c1] at q;refine ⟨smd,λ p hp=>⟨_,.of z0d,_,?_,q _ (z0a hp _)⟩⟩;exact y3g (r:=[-9223372036854775808,9223372036854775807,-1,4611686018427387904]) (by lia) (by rw [t0w,t0e (show _ < 4 by lia)];rfl)
 ·rw [if_neg c1];rw [if_neg c1] at q;exact q _ (Same.refl _)
theorem y7n (Y0:Cs Z0 68):ca (Cl Z0) 68:=kz2 Z0 Z0.g68 λ f fd F=>by
 have sc:=scq (z0h y2n) ["pool","d"] [];kt_k
 ·exact el3 vs h λ _ _ _ _=>rfl
 refine el3 vs h λ a ks d h=>an3 h λ ha l0 q=>?_;refine ⟨_,(z1q (z1f z0z (z0m z2d (pv 1) z0c) z0c) (z1b (z0s z0k (pv 0) (z0m z2l (z0m z3o (pv 1) z0c) (z3k Z0.zlen (pv 0))))) (z1b (z0s z0k (pv 0) (z0m z4e (z0m z4e (z3k Z0.zlen (pv 0)) z0c) (z0m z2l (z0m z3o (pv 1) z0c) (z7o (z4x rfl) Z0.zmin t9r (z0v z0c (z3k Z0.zlen (pv 0))))))))),?_⟩
 (try dsimp only [z0t]);simp only [L2.start,t0h,t0j,List.replicate,t0k,t0m,Nat.reduceSub,Nat.reduceAdd,z2o,z2p]
 ktr_call z0b t0a;have l1:(0:Int) < ks.length:=by lia
 split
 ·refine ⟨_,.inl (.of ha),?_⟩;rw [z0j];have m0:=t1m (d / 3) l1;have m1:=t2c (d / 3) l1;exact ⟨by lia,_,ha,_,y3g m0 (z2s (w6w m0 m1)),q _ (z6q (w6w m0 m1))⟩
 ·refine ⟨_,.inl (.of ha),_,.inl (.of ha),?_⟩;rw [z0j];have c3:0 < (if (ks.length:Int) < 3 then (ks.length:Int) else 3)/\(if (ks.length:Int) < 3 then (ks.length:Int) else 3)≤ks.length:=by split<;>lia
  generalize (if (ks.length:Int) < 3 then (ks.length:Int) else 3)=c at *;have m0:=t1m (d / 3) c3.1;have m1:=t2c (d / 3) c3.1;generalize (d / 3).fmod c=r at *;exact ⟨by lia,_,ha,_,y3g (i:=(ks.length:Int) - 1 - r) (by lia) (z2s (by lia)),q _ (z6q (by lia))⟩
theorem x1p (Y0:Cs Z0 69):ca (Cl Z0) 69:=kz4 Z0 Z0.g69 λ f fd F=>by
 have sc:=scq (z0h y5n) ["kind","n","cell","most"] ["made","part","k","free","length"];kt_k
 ·exact el4 vs h λ _ _ _ _ _=>rfl
 refine el4 vs h λ kd n cell mo h=>an2 h λ hmo q=>?_;refine ⟨_,(z1q (z1f z0z (pv 0) z0c) (z1b (z0r (z0v (z0r (z0v z0p (z1d (cc Y0 67) hr z0l (z1o (pv 2))))) (z0r z1j)))) (z1u 4 sc.nd (z0r z1j) (z1u 5 sc.nd (z0m z3o (pv 1) z0c) (z0o (z3g t1u rfl (z2j (by rfl) Z0.zrange (z1o (z0m z2d (pv 5) z0c))) (z9p 6 sc.nd) (z1u 5 sc.nd (z0m z3o (pv 5) z0c) (z1u 7 sc.nd (z0m z6b (pv 3) (z1d (cc Y0 66) hr z0l (z1o (pv 4)))) (z1u 8 sc.nd (z7o (z4x rfl) Z0.zmin t9r (z0v (z0s z0k (z3i (z0i z0c (z0i z0c (z0i z0c (z0i z0c (z0i z0c (z0v z0c z0c))))))) (z0m z2d (pv 5) z0c)) (pv 7))) (z1q (z1f z0z (z0m z2d (pv 5) z0c) z0c) (z0q (y4r 8 sc.nd (pv 7))) (z0q (y4r 4 sc.nd (z0m z2h (pv 4) (z0r (z1o (pv 8))))))))))) (z1q (z1f z0z (pv 0) z0c) (z1b (z0r (z0v (z0r (z0v z0p (pv 4))) (pv 4)))) (z1q (z1f (x4y hr.units0) (pv 4) (z0r z1j)) (z0q (y4r 4 sc.nd (z0r (z1o (z7o (z4x rfl) Z0.zmin t9r (z0v z0c (pv 3))))))) (z1b (z0r (z0v (z0r (z0i z0p (z0v (pv 4) (z0m z2l (z0m z3o (pv 1) z0c) (z3k Z0.zlen (pv 4)))))) (pv 4)))))))))),?_⟩
 (try dsimp only [z0t]);simp only [L2.start,t0h,t0j,List.replicate,t0k,t0m,Nat.reduceSub,Nat.reduceAdd,z2o,z2p]
 ktn_end (λ σ G=>G=H/\σ=[some (.int kd),some (.int n),some (.int cell),some (.int mo),none,none,none,none,none])
 ·cell_end z0b t0a z7e;split
  ·exact λ G sg=>⟨smd,λ p hp=>⟨t0x _,λ p1 hp1=>⟨smd,λ p2 hp2=>q _ p2 (sg.trans ((z0a hp _).trans ((z0a hp1 _).trans (z0a hp2 _)))) λ Ss=>⟨p,p1,.num _,[],z0d,z0a hp2 _ _ _ (z0a hp1 _ _ _ z0d),z0a hp2 _ _ _ z0d,rfl,y0h hmo⟩⟩⟩⟩
  ·exact hR _ _ ⟨rfl,rfl⟩
 rintro σ1 G1 ⟨rfl,rfl⟩;ktn_end (λ σ G=>∃p,Same G1 G/\Tp G p []/\σ=[some (.int kd),some (.int n),some (.int cell),some (.int mo),some (.ref p),none,none,none,none])
 ·ktr_call z0b t0a;exact ⟨smd,λ p hp=>hR _ _ ⟨p,z0a hp _,z0d,rfl⟩⟩
 rintro σ2 G2 ⟨p,s2,hp,rfl⟩;ktn_end (λ σ G=>G=G2/\∃pt:Int,σ=x9d kd n cell mo p pt [none,none,none])
 ·ktr_call z0b t0a;exact hR _ _ ⟨rfl,_,rfl⟩
 rintro σ3 G3 ⟨rfl,pt,rfl⟩;ktn_end (λ σ G=>∃(p:Addr) (ms:LI) (pt:Int) (y6 y7 y8:Option V),Same G1 G/\Tp G p ms/\z4z mo ms/\ms.length≤4/\σ=x9d kd n cell mo p pt [y6,y7,y8])
 ·wp_walk using z0b,eqV,t0a;refine ⟨by lia,by lia,?_⟩;obtain ⟨J,hJ⟩:∃J:Nat->L2.St->Hp->Prop,J=(λ i σ G=>∃(p:Addr) (ms:LI) (pt:Int) (y6 y7 y8:Option V),Same G1 G/\Tp G p ms/\z4z mo ms/\ms.length=i/\σ=x9d kd n cell mo p pt [y6,y7,y8]):=⟨_,rfl⟩;refine LoopR.mk J (by rw [hJ];exact ⟨p,[],pt,_,_,_,s2,hp,y0h hmo,rfl,rfl⟩) (λ i σ G0 hi h=>?_) (λ σ G h=>?_);rotate_left
  ·rw [hJ] at h;kd_p;obtain ⟨p,ms,pt',y6,y7,y8,sG,hp,hf,ml,rfl⟩:=h;refine gz ?_;clear gz Gz;exact hR _ _ ⟨p,ms,pt',_,_,_,sG,hp,hf,by lia,rfl⟩
  clear hR;rw [hJ] at h;kd_p;obtain ⟨p,ms,pt',y6,y7,y8,sG,hp,hf,ml,rfl⟩:=h;refine gz ?_;clear gz Gz;have i4:i≤4:=by lia
  have sdm:z2x ms:=λ n hn=>by have:=hf.1 n hn;have:=hmo.2;exact ⟨by lia,by lia⟩
  have pb:=hf.2.2;simp only [z6w,t5g,t5f];ktn_end (λ σ G=>G=G0/\∃pt:Int,σ=x9d kd n cell mo p pt [some (.int (0+(i:Int))),y7,y8])
  ·ktr_call z0b t0a;exact hR _ _ ⟨rfl,_,rfl⟩
  rintro σ1 G1' ⟨rfl,pt,rfl⟩;ktn_end (λ σ G=>Same G1' G/\σ=x9d kd n cell mo p pt [some (.int (0+(i:Int))),some (.int (mo / z0e (ms.map z1m))),y8])
  ·cell_end z0b t0a z6j;have m2:=hmo.2;refine ⟨ms,hp,sdm,by lia,λ G s=>⟨by lia,by lia,by lia,?_⟩⟩;rw [t2r _ (by lia)];exact hR _ _ ⟨s,rfl⟩
  rintro σ2 G2' ⟨u2,rfl⟩;have d1:1≤mo / z0e (ms.map z1m):=div_one pb.1 pb.2;have fs:=λ n=>y1k (n:=n) hf (by lia);generalize mo / z0e (ms.map z1m)=fr at *;ktn_end (λ σ G=>Same G2' G/\∃x:Int,0≤x/\x≤fr/\σ=x9d kd n cell mo p pt [some (.int (0+(i:Int))),some (.int fr),some (.int x)])
  ·ktr_call z0b t0a;obtain ⟨x,hx,x0⟩:=w3w (pt % 7) (by lia) (by lia);exact ⟨smd,λ l hl=>⟨_,hx,_,rfl,hR _ _ ⟨z0a hl _,_,by split<;>lia,by split<;>lia,rfl⟩⟩⟩
  rintro σ3 G3' hz9;kd_p;obtain ⟨u3,x,x0,x1,rfl⟩:=hz9;refine gz ?_;clear gz Gz;ktn_end (λ σ G=>G=G3'/\∃x:Int,0≤x/\x≤fr/\σ=x9d kd n cell mo p pt [some (.int (0+(i:Int))),some (.int fr),some (.int x)])
  ·ktr_call z0b t0a;split
   ·exact hR _ _ ⟨rfl,_,by lia,t5u _,rfl⟩
   ·exact hR _ _ ⟨rfl,_,x0,x1,rfl⟩
  rintro σ4 G4' hz9;kd_p;obtain ⟨rfl,x,x0,x1,rfl⟩:=hz9;refine gz ?_;clear gz Gz;ktr_call z0b t0a;have hp4:=(u2.trans u3) _ _ hp;refine ⟨smd,λ t ht=>⟨_,z0a ht _ _ _ hp4,small (by rw [t0c];lia),λ r G s hr=>?_⟩⟩;rw [hJ];exact ⟨r,ms++[x],_,_,_,_,sG.trans (u2.trans (u3.trans ((z0a ht _).trans s))),by show _=_;rw [hr,t0l];rfl,fs x x0 x1,by rw [t0o,ml];rfl,rfl⟩
 rintro σ4 G4 hz9;kd_p;obtain ⟨p,ms,pt,y6,y7,y8,s4,hp,hf,m4,rfl⟩:=hz9;refine gz ?_;clear gz Gz;ktn_end (λ σ G=>G=G4/\σ=x9d kd n cell mo p pt [y6,y7,y8])
 ·ktr_call z0b t0a;split
  ·exact ⟨smd,λ p1 hp1=>⟨smd,λ p2 hp2=>q _ p2 (s4.trans ((z0a hp1 _).trans (z0a hp2 _))) λ Ss=>⟨p1,p,.inp ms,ms,z0d,⟨p,z0a hp2 _ _ _ z0d,z0a hp2 _ _ _ (z0a hp1 _ _ _ hp)⟩,z0a hp2 _ _ _ (z0a hp1 _ _ _ hp),⟨rfl,z8i (z3a hf hmo)⟩,hf⟩⟩⟩
  ·exact hR _ _ ⟨rfl,rfl⟩
 rintro σ5 G5 ⟨rfl,rfl⟩;ktn_end (λ σ G=>∃(p:Addr) (ms:LI),Same G1 G/\Tp G p ms/\z4z mo ms/\0 < ms.length/\σ=x9d kd n cell mo p pt [y6,y7,y8])
 ·ktr_call z0b t0a;have m2:=hmo.1;refine ⟨t0x _,λ p1 hp1=>⟨_,.of (z0a hp1 _ _ _ hp),_,.of z0d,z1i _,rfl,?_⟩⟩;rw [show ([]:List V)=([]:LI).map V.int from rfl,z2t];by_cases c:ms=[]
  ·rw [t4n c,if_pos rfl];have x0:0≤(if mo < 3 then mo else 3)/\(if mo < 3 then mo else 3)≤mo:=by split<;>lia
   exact ⟨smd,λ p2 hp2=>hR _ _ ⟨p2,[if mo < 3 then mo else 3],s4.trans ((z0a hp1 _).trans (z0a hp2 _)),z0d,y1k (ns:=[]) (y0h hmo) (by decide) x0.1 (by show _≤mo / 1;rw [s1l];exact x0.2),t5s _,rfl⟩⟩
  ·rw [t2n c,if_neg (by decide)];exact hR _ _ ⟨p,ms,s4.trans (z0a hp1 _),z0a hp1 _ _ _ hp,hf,t8b.mpr c,rfl⟩
 rintro σ6 G6 hz9;kd_p;obtain ⟨p,ms,s6,hp,hf,m0,rfl⟩:=hz9;refine gz ?_;clear gz Gz;ktr_call z0b t0a;refine ⟨_,.inr (.of hp),?_⟩;rw [z0j];have f0:=t1m (n / 15) (show (0:Int) < ms.length by lia);have f1:=t2c (n / 15) (show (0:Int) < ms.length by lia);exact ⟨by lia,smd,λ p1 hp1=>⟨smd,λ p2 hp2=>q _ p2 (s6.trans ((z0a hp1 _).trans (z0a hp2 _))) λ Ss=>⟨p1,p,.count ms ((n / 15).fmod ms.length),ms,z0d,⟨p,z0a hp2 _ _ _ z0d,z0a hp2 _ _ _ (z0a hp1 _ _ _ hp)⟩,z0a hp2 _ _ _ (z0a hp1 _ _ _ hp),⟨rfl,z8i (z3a hf hmo),λ z=>by unfold off at z;lia⟩,hf⟩⟩⟩
theorem w0b (Y0:Cs Z0 70):ca (Cl Z0) 70:=kz2 Z0 Z0.g70 λ f fd F=>by
 have sc:=scq (z0h x3n) ["one","other"] ["least"];kt_k
 ·exact el4 vs h λ _ _ _ _ _=>rfl
 refine el4 vs h λ a b ns ms h=>an3 h λ ha hb q=>?_;refine ⟨_,(z1u 2 sc.nd (z7o (z4x rfl) Z0.zmin t9r (z0v (z3k Z0.zlen (pv 0)) (z3k Z0.zlen (pv 1)))) (z1b (z7j (x4y hr.units0) (z1h z1y (pv 0) z1r (z1p (pv 2))) (z1h z1y (pv 1) z1r (z1p (pv 2))) (z9m _)))),?_⟩
 (try dsimp only [z0t]);simp only [L2.start,t0h,t0j,List.replicate,t0k,t0m,Nat.reduceSub,Nat.reduceAdd,z2o,z2p]
 ktr_call z0b t0a;refine ⟨_,.inr (.of ha),_,.inr (.of hb),?_⟩;rw [z0j,z0j];by_cases c:ms.length < ns.length
 ·rw [if_pos (t7d.mpr c)];refine ⟨_,ha,λ r1 H1 s1 h1=>⟨_,s1 _ _ hb,λ r2 H2 s2 h2=>?_⟩⟩;rw [z3s] at h1 h2;refine ⟨_,.of (s2 _ _ h1),_,.of h2,z1i _,z1i _,q _ _ (s1.trans s2) ?_⟩;rw [z2t,s1h];exact w4j c
 ·rw [if_neg (λ z=>c (t7d.mp z))];refine ⟨_,ha,λ r1 H1 s1 h1=>⟨_,s1 _ _ hb,λ r2 H2 s2 h2=>?_⟩⟩;rw [z3s] at h1 h2;refine ⟨_,.of (s2 _ _ h1),_,.of h2,z1i _,z1i _,q _ _ (s1.trans s2) ?_⟩;rw [z2t,s1h];exact w4k c
theorem y7p (Y0:Cs Z0 71):ca (Cl Z0) 71:=kz3 Z0 Z0.g71 λ f fd F=>by
 have sc:=scq (z0h y2p) ["kind","d","sides"] ["every","a","fit","b","longer","words","c"];kt_k
 ·exact el9 vs h λ _ _ _ _ _ _ _ _ _ _=>rfl
 refine el9 vs h λ dl sl kd mo d0 d1 d2 ps Ss h=>an6 h λ hd hs ht n0 hsd q=>?_;rw [v6d];refine ⟨_,(z1u 3 sc.nd (z7z (z6s rfl) Z0.zlist s1g (z1o (z7z z7m Z0.zrange s1j (z1o (z3k Z0.zlen (pv 2)))))) (z1u 4 sc.nd (z1d (cc Y0 68) hr z0l (z0v (pv 3) (z0s z0k (pv 1) z0c))) (z1q (z1f z0z (pv 0) z0c) (z1b (z0r (z0v (z0r (z0i z0p (z0v (z0s z0k (z3i (z0i z0p (z0i z0p (z0v z0p z0p)))) (z0m z2d (z0s z0k (pv 1) z0c) z0c)) (pv 4)))) (z0s z0k (pv 2) (pv 4))))) (z0o (z6u (own:=["k"]) (fv:=["sides","a"]) (js:=[2,4]) sc.nd (i:=5) rfl (by first | exact Or.inl rfl | exact Or.inr rfl) (by first | exact Or.inl rfl | exact Or.inr rfl) rfl (z4h (pv 3)) rfl (by decide) rfl (by decide) (by kcj_m) (z2y (by rfl)) rfl (v1o (by kcf_m) (by kcf_m)) (λ _ _ _ _=>(z6l 0 ["k","sides","a"])) (λ _ _ _ _=>(pv 0)) (λ _ _ _ _=>(z4l (z1d (cc Y0 70) hr z0l (z0v (z0s z0k (pv 1) (pv 2)) (z0s z0k (pv 1) (pv 0))))))) (z1u 6 sc.nd (z1d (cc Y0 68) hr z0l (z0v (pv 5) (z0s z0k (pv 1) z0c))) (z1u 7 sc.nd (y9x rfl (by rfl) Z0.zmax (by rfl) Z0.zlen (z0s z0k (pv 2) (pv 4)) (z0s z0k (pv 2) (pv 6))) (z1q (z1f z0z (pv 0) z0c) (z1u 8 sc.nd (z3i (x4t lw12p)) (z1b (z0r (z0v (z0r (z0i z0p (z0i (z0s z0k (pv 8) (z0m z2d (z0s z0k (pv 1) z0c) z0c)) (z0v (pv 4) (pv 6))))) (pv 7))))) (z0o (z6u (own:=["k"]) (fv:=["sides","b"]) (js:=[2,6]) sc.nd (i:=5) rfl (by first | exact Or.inl rfl | exact Or.inr rfl) (by first | exact Or.inl rfl | exact Or.inr rfl) rfl (z4h (pv 5)) rfl (by decide) rfl (by decide) (by kcj_m) (z2y (by rfl)) rfl (v1o (by kcf_m) (by kcf_m)) (λ _ _ _ _=>(z6l 0 ["k","sides","b"])) (λ _ _ _ _=>(pv 0)) (λ _ _ _ _=>(z4l (z1d (cc Y0 70) hr z0l (z0v (z0s z0k (pv 1) (pv 2)) (z0s z0k (pv 1) (pv 0))))))) (z1u 9 sc.nd (z1d (cc Y0 68) hr z0l (z0v (pv 5) (z0s z0k (pv 1) z0c))) (z1b (z0r (z0v (z0r (z0i z0p (z0i (pv 4) (z0v (pv 6) (pv 9))))) (y9x rfl (by rfl) Z0.zmax (by rfl) Z0.zlen (pv 7) (z0s z0k (pv 2) (pv 9))))))))))))))),?_⟩
 (try dsimp only [z0t]);simp only [L2.start,t0h,t0j,List.replicate,t0k,t0m,Nat.reduceSub,Nat.reduceAdd,z2o,z2p]
 have n4:=hsd.1;ktn_end (λ σ G=>Same H G/\∃ev,G ev=some (.lst ((upL Ss.length).map V.int))/\σ=[some (.int kd),some (.ref dl),some (.ref sl),some (.ref ev),none,none,none,none,none,none])
 ·ktr_call z0b t0a;exact ⟨_,.inl (.of hs),λ r0 hr0=>⟨Ss.length,by rw [t0c,ht.1];rfl,by lia,λ l hl=>hR _ _ ⟨(z0a hr0 _).trans (z0a hl _),l,z0d,rfl⟩⟩⟩
 rintro σ1 G1 ⟨s1,ev,hev,rfl⟩;ktn_end (λ σ G=>G=G1/\∃a:Nat,a < Ss.length/\σ=x9c kd dl sl ev a [none,none,none,none,none])
 ·cell_end z0b t0a z3c;refine ⟨_,s1 _ _ hd,_,z0f (j:=0) rfl,upL Ss.length,d0,rfl,hev,by rw [z7r];exact n0,λ k hk=>?_⟩;obtain ⟨a,rfl,al⟩:=y2b hk;exact hR _ _ ⟨rfl,a,al,rfl⟩
 rintro σ2 G2 hz9;kd_p;obtain ⟨rfl,a,al,rfl⟩:=hz9;obtain ⟨pa,A,ea,eA,hA⟩:=z6d (ht.same s1) al;refine gz ?_;clear gz Gz;have fA:=hsd.2 _ (t0i eA);ktn_end (λ σ G=>G=G2/\σ=x9c kd dl sl ev a [none,none,none,none,none])
 ·ktr_call z0b t0a;split;rotate_left
  ·exact hR _ _ ⟨rfl,rfl⟩
  obtain ⟨w,hw,wm⟩:=y6w w6f (k:=d2 % 4) (by lia) (by show d2 % 4 < ((4:Nat):Int);lia);refine ⟨smd,λ l hl=>⟨_,z0a hl _ _ _ (s1 _ _ hd),_,z0f (j:=2) rfl,_,rfl,_,hw,smd,λ p hp=>⟨_,z0a hp _ _ _ (z0a hl _ _ _ (s1 _ _ hs)),_,ea,smd,λ p1 hp1=>?_⟩⟩⟩;exact q _ p1 (s1.trans ((z0a hl _).trans ((z0a hp _).trans (z0a hp1 _)))) ⟨p,pa,.each w a,A,z0d,z0a hp1 _ _ _ z0d,z0a hp1 _ _ _ (z0a hp _ _ _ (z0a hl _ _ _ hA)),⟨eA,wm⟩,fA⟩
 rintro σ3 G3 ⟨rfl,rfl⟩;ktn_end (λ σ G=>Same G3 G/\∃(fa:Addr) (ks:LI),G fa=some (.lst (ks.map V.int))/\ks.length≤40/\(∀k,k∈ks ↔ k∈upL Ss.length/\∃B,Ss[k.toNat]?=some B/\z1t A B)/\σ=x9c kd dl sl ev a [some (.ref fa),none,none,none,none])
 ·ktr_call z0b t0a;refine w5o hev (by rw [z7r];lia) (λ k=>∃B,Ss[k.toNat]?=some B/\z1t A B) [some (.ref sl),some (.int (a:Int))] rfl (λ x y G Rt Rf hx u ht1 hf1=>?_) (λ ks G p u hp hk kl=>hR _ _ ⟨u.trans (z0a hp _),p,ks,z0d,by rw [z7r] at kl;lia,hk,rfl⟩);kd_p;obtain ⟨j,rfl,jl⟩:=y2b hx;obtain ⟨pk,B,ek,eB,hB⟩:=z6d (ht.same (s1.trans u)) jl;refine gz ?_;clear gz Gz;cell_end z0b t0a y3q;refine ⟨_,(s1.trans u) _ _ hs,_,ea,_,(s1.trans u) _ _ hs,_,ek,_,rfl,_,rfl,A,u _ _ hA,B,hB,λ G' b u' hb=>?_⟩;split
  ·exact ht1 _ (u.trans u') ⟨B,eB,hb.mp ‹_›⟩
  ·exact hf1 _ (u.trans u') λ ⟨B',e',z⟩=>by cases eB.symm.trans e';exact ‹¬b=true› (hb.mpr z)
 rintro σ4 G4 hz9;kd_p;obtain ⟨s4,fa,ks,hfa,kl,hk,rfl⟩:=hz9;refine gz ?_;clear gz Gz;have kpos:0 < ks.length:=t6r ((hk a).mpr ⟨v1s al,A,eA,x0u A⟩);ktn_end (λ σ G=>G=G4/\∃(b:Nat) (B:LI) (pb:Addr),(b:Int)∈ks/\b < Ss.length/\Ss[b]?=some B/\z1t A B/\atI (ps.map V.ref) (b:Int)=some (.ref pb)/\Tp G pb B/\σ=x9c kd dl sl ev a [some (.ref fa),some (.int (b:Int)),none,none,none])
 ·cell_end z0b t0a z3c;refine ⟨_,(s1.trans s4) _ _ hd,_,z0f (j:=1) rfl,ks,d1,rfl,hfa,kpos,λ k hkm=>?_⟩;kd_p;obtain ⟨ku,B,eB,pB⟩:=(hk k).mp hkm;obtain ⟨b,rfl,bl⟩:=y2b ku;obtain ⟨pb,B',eb,eB',hB⟩:=z6d (ht.same (s1.trans s4)) bl;refine gz ?_;clear gz Gz;cases eB'.symm.trans eB;exact hR _ _ ⟨rfl,b,B,pb,hkm,bl,eB,pB,eb,hB,rfl⟩
 rintro σ5 G5 hz9;kd_p;obtain ⟨rfl,b,B,pb,bm,bl,eB,pB,eb,hB,rfl⟩:=hz9;refine gz ?_;clear gz Gz;have fB:=hsd.2 _ (t0i eB);have s5:=s1.trans s4;have fL:z4z mo (z0y A B):=y3y fA fB;ktn_end (λ σ G=>G=G5/\∃lo:Addr,Tp G lo (z0y A B)/\σ=x9c kd dl sl ev a [some (.ref fa),some (.int (b:Int)),some (.ref lo),none,none])
 ·ktr_call z0b t0a;refine ⟨_,s5 _ _ hs,_,ea,_,s5 _ _ hs,_,eb,pa,rfl,pb,rfl,A.map V.int,s4 _ _ hA,B.map V.int,hB,λ l=>?_,λ l=>?_⟩
  ·rw [z0j,z0j] at l;exact hR _ _ ⟨rfl,pa,by rw [x4s pB l];exact s4 _ _ hA,rfl⟩
  ·rw [z0j,z0j] at l;exact hR _ _ ⟨rfl,pb,by rw [x4r l];exact hB,rfl⟩
 rintro σ6 G6 ⟨rfl,lo,hlo,rfl⟩;ktn_end (λ σ G=>G=G6/\σ=x9c kd dl sl ev a [some (.ref fa),some (.int (b:Int)),some (.ref lo),none,none])
 ·wp_walk using z0b,z9t,eqV,t0a;split;rotate_left
  ·exact hR _ _ ⟨rfl,rfl⟩
  refine z9w (λ σ G=>Same G6 G/\∃wl,G wl=some (.lst (two12.map V.str))/\σ=x9c kd dl sl ev a [some (.ref fa),some (.int (b:Int)),some (.ref lo),some (.ref wl),none]) ?_ (λ R1 hR1=>?_);rotate_left
  ·cell_end z0b t0a w6x;exact ⟨by rw [v2p];exact smd,λ l hl=>hR1 _ _ ⟨z0a hl _,l,by rw [z0d,v2o],rfl⟩⟩
  rintro σ7 G7 ⟨s7,wl,hwl,rfl⟩;ktr_call z0b t0a;obtain ⟨w,hw,wm⟩:=y6w two12 (k:=d2 % 12) (by lia) (by show d2 % 12 < ((12:Nat):Int);lia);refine ⟨_,(s5.trans s7) _ _ hd,_,z0f (j:=2) rfl,_,rfl,_,hwl,_,hw,smd,λ p hp=>⟨smd,λ p1 hp1=>?_⟩⟩;exact q _ p1 (s5.trans (s7.trans ((z0a hp _).trans (z0a hp1 _)))) ⟨p,lo,.pair w a b,z0y A B,z0d,z0a hp1 _ _ _ z0d,z0a hp1 _ _ _ (z0a hp _ _ _ (s7 _ _ hlo)),⟨A,B,eA,eB,wm,pB,rfl⟩,fL⟩
 rintro σ7 G7 ⟨rfl,rfl⟩;ktn_end (λ σ G=>Same G7 G/\∃(fc:Addr) (ls:LI),G fc=some (.lst (ls.map V.int))/\(∀k,k∈ls ↔ k∈ks/\∃C,Ss[k.toNat]?=some C/\z1t B C)/\σ=x9c kd dl sl ev a [some (.ref fc),some (.int (b:Int)),some (.ref lo),none,none])
 ·ktr_call z0b t0a;refine w5o hfa (by lia) (λ k=>∃C,Ss[k.toNat]?=some C/\z1t B C) [some (.ref sl),some (.int (b:Int))] rfl (λ x y G Rt Rf hx u ht1 hf1=>?_) (λ ls G p u hp hk2 kl2=>hR _ _ ⟨u.trans (z0a hp _),p,ls,z0d,hk2,rfl⟩);kd_p;obtain ⟨j,rfl,jl⟩:=y2b ((hk x).mp hx).1;obtain ⟨pk,C,ek,eC,hC⟩:=z6d (ht.same (s5.trans u)) jl;refine gz ?_;clear gz Gz;cell_end z0b t0a y3q;refine ⟨_,(s5.trans u) _ _ hs,_,eb,_,(s5.trans u) _ _ hs,_,ek,_,rfl,_,rfl,B,u _ _ hB,C,hC,λ G' b u' hb=>?_⟩;split
  ·exact ht1 _ (u.trans u') ⟨C,eC,hb.mp ‹_›⟩
  ·exact hf1 _ (u.trans u') λ ⟨C',e',z⟩=>by cases eC.symm.trans e';exact ‹¬b=true› (hb.mpr z)
 rintro σ8 G8 hz9;kd_p;obtain ⟨s8,fc,ls,hfc,hl,rfl⟩:=hz9;refine gz ?_;clear gz Gz;have lpos:0 < ls.length:=t6r ((hl b).mpr ⟨bm,B,eB,x0u B⟩);ktn_end (λ σ G=>G=G8/\∃(c:Nat) (C:LI) (pc:Addr),Ss[c]?=some C/\z1t A C/\z1t B C/\atI (ps.map V.ref) (c:Int)=some (.ref pc)/\Tp G pc C/\σ=x9c kd dl sl ev a [some (.ref fc),some (.int (b:Int)),some (.ref lo),none,some (.int (c:Int))])
 ·cell_end z0b t0a z3c;refine ⟨_,(s5.trans s8) _ _ hd,_,z0f (j:=2) rfl,ls,d2,rfl,hfc,lpos,λ k hkm=>?_⟩;kd_p;obtain ⟨km,C,eC,pC⟩:=(hl k).mp hkm;obtain ⟨ku,C2,eC2,pA⟩:=(hk k).mp km;refine gz ?_;clear gz Gz;cases eC.symm.trans eC2;kd_p;obtain ⟨c,rfl,cl⟩:=y2b ku;obtain ⟨pc,C',ec,eC',hC⟩:=z6d (ht.same (s5.trans s8)) cl;refine gz ?_;clear gz Gz;cases eC'.symm.trans eC;exact hR _ _ ⟨rfl,c,C,pc,eC,pA,pC,ec,hC,rfl⟩
 rintro σ9 G9 hz9;kd_p;obtain ⟨rfl,c,C,pc,eC,pAC,pBC,ec,hC,rfl⟩:=hz9;refine gz ?_;clear gz Gz;have fC:=hsd.2 _ (t0i eC);have p3:=x1i pAC pBC;have s9:=s5.trans s8;ktr_call z0b t0a;refine ⟨smd,λ p hp=>⟨_,z0a hp _ _ _ (s9 _ _ hs),_,ec,pc,rfl,(z0y A B).map V.int,z0a hp _ _ _ (s8 _ _ hlo),C.map V.int,z0a hp _ _ _ hC,λ l=>⟨smd,λ p1 hp1=>?_⟩,λ l=>⟨smd,λ p1 hp1=>?_⟩⟩⟩
 ·rw [z0j,z0j] at l;exact q _ p1 (s9.trans ((z0a hp _).trans (z0a hp1 _))) ⟨p,lo,.pick a b c,z0y (z0y A B) C,z0d,z0a hp1 _ _ _ z0d,by rw [x4s p3 l];exact z0a hp1 _ _ _ (z0a hp _ _ _ (s8 _ _ hlo)),⟨A,B,C,eA,eB,eC,pB,p3,rfl⟩,y3y fL fC⟩
 ·rw [z0j,z0j] at l;exact q _ p1 (s9.trans ((z0a hp _).trans (z0a hp1 _))) ⟨p,pc,.pick a b c,z0y (z0y A B) C,z0d,z0a hp1 _ _ _ z0d,by rw [x4r l];exact z0a hp1 _ _ _ (z0a hp _ _ _ hC),⟨A,B,C,eA,eB,eC,pB,p3,rfl⟩,y3y fL fC⟩
theorem x5h (Y0:Cs Z0 72):ca (Cl Z0) 72:=kz2 Z0 Z0.g72 λ f fd F=>by
 have sc:=scq (z0h y9i) ["own","d"] ["size"];kt_k
 ·exact el4 vs h λ _ _ _ _ _=>rfl
 refine el4 vs h λ a ns d mo h=>an4 h λ ha hf hmo q=>?_;refine ⟨_,(z1u 2 sc.nd (z1d (cc Y0 65) hr z0l (z1o (pv 0))) (z1q (z1f z0z (z0m z2d (pv 1) z0c) z0c) (z1b (z0r (z1o (pv 2)))) (z1q (PW.pt (y1d (z1f z0z (z0m z2d (pv 1) z0c) z0c) (z7h (z1f z6a (z3k Z0.zlen (pv 0)) z0c)))) (z1b (z0m z2h (z0r (z1o z0c)) (pv 0))) (z1q (PW.pt (y1d (z1f z0z (z0m z2d (pv 1) z0c) z0c) (z7h (z1f z0z (z0m z2d (pv 2) z0c) z0c)))) (z1b (z0r (z0v (z0m z3o (pv 2) z0c) z0c))) (z1b (x1g rfl (by rfl) (by rfl) Z0.ztuple Z0.zreversed (pv 0))))))),?_⟩
 (try dsimp only [z0t]);simp only [L2.start,t0h,t0j,List.replicate,t0k,t0m,Nat.reduceSub,Nat.reduceAdd,z2o,z2p]
 cell_end z0b t0a z6k;refine ⟨ns,.inr ha,y8f hf hmo,?_⟩;unfold y8a at q;by_cases c1:d % 4=1
 ·rw [if_pos c1] at q ⊢;exact ⟨smd,λ p hp=>q _ p (z0a hp _) z0d⟩
 rw [if_neg c1] at q ⊢
 have rest:(∀H' p,Same H H'->Tp H' p (if d % 4=3/\z0e ns % 2=0 then [z0e ns / 2,2] else ns.reverse)->Q (.ref p) H')->(if d % 4=3 then (if z0e ns % 2=0 then 2≤sizeLine/\∀p,H p=none->Q (V.ref p) (upd H p (HO.tup [V.int (z0e ns / 2),V.int 2])) else ∃xs,SqT K H a xs/\∀p,H p=none->Q (V.ref p) (upd H p (HO.tup xs.reverse))) else ∃xs,SqT K H a xs/\∀p,H p=none->Q (V.ref p) (upd H p (HO.tup xs.reverse))):=λ q=>by
  by_cases c3:d % 4=3
  ·rw [if_pos c3];by_cases c4:z0e ns % 2=0
   ·rw [if_pos ⟨c3,c4⟩] at q;rw [if_pos c4];exact ⟨smd,λ p hp=>q _ p (z0a hp _) z0d⟩
   ·rw [if_neg (λ z=>c4 z.2)] at q;rw [if_neg c4];exact ⟨_,.of ha,λ p hp=>q _ p (z0a hp _) (by show _=_;rw [z0d,t7k])⟩
  ·rw [if_neg (λ z=>c3 z.1)] at q;rw [if_neg c3];exact ⟨_,.of ha,λ p hp=>q _ p (z0a hp _) (by show _=_;rw [z0d,t7k])⟩
 by_cases c2:d % 4=2
 ·rw [if_pos c2];refine ⟨_,.inr (.of ha),?_⟩;rw [z0j];by_cases c6:ns.length < 6
  ·rw [if_pos ⟨c2,c6⟩] at q;rw [if_pos (by lia)];exact ⟨smd,λ p hp=>⟨_,z0a hp _ _ _ ha,small (by rw [t0c];lia),λ r G s hr=>q _ r ((z0a hp _).trans s) hr⟩⟩
  ·rw [if_neg (λ z=>c6 z.2)] at q;rw [if_neg (by lia)];exact rest q
 ·rw [if_neg (λ z=>c2 z.1)] at q;rw [if_neg c2];exact rest q
theorem x1o (Y0:Cs Z0 73):ca (Cl Z0) 73:=kz5 Z0 Z0.g73 λ f fd F=>by
 have sc:=scq (z0h y5m) ["kind","d","a","own","most"] ["order","part","k","place","length","side","gap","first","many"];kt_k
 ·exact v5b vs h λ _ _ _ _ _ _ _ _ _ _ _=>rfl
 refine v5b vs h λ dl o kd mo d0 d1 d2 a A Ss h=>an6 h λ hd ho ea hf hmo q=>?_;refine ⟨_,(z1q (z1f z0z (pv 0) z0c) (z1u 5 sc.nd (z3i z1j) (z1u 6 sc.nd (z0s z0k (pv 1) z0c) (z0o (z3g t1u rfl (z2j (by rfl) Z0.zrange (z1o (z3k Z0.zlen (pv 3)))) (z9p 7 sc.nd) (z0o (z1l (w8q t6f PySem.F.slot_list_insert PySem.F.type_list_insert x5w (pv 5) (z0v (z0m z2l (pv 6) (z0m z2g (pv 7) z0c)) (pv 7)))) (z0q (y4r 6 sc.nd (z0m z6b (pv 6) (z0m z2g (pv 7) z0c)))))) (z1b (z0r (z0v (z0r (z0i z0p (z0v (pv 2) (z7z y1y Z0.ztuple t2g (z1o (pv 5)))))) (z7z z1a Z0.ztuple t2g (z1o (z3d (own:=["k"]) (fv:=["own"]) (js:=[3]) rfl (z4h (pv 5)) rfl (by decide) rfl (by decide) (by kcj_m) (z2y (by rfl)) rfl (y6v (by kcf_m)) (λ _ _ _ _=>(z6l 0 ["k","own"])) (λ _ _ _ _=>(z0s z0g (pv 1) (pv 0)))))))))))) (z1q (z1f z0z (pv 0) z0c) (z1b (z0r (z0v (z0r (z0i z0p (z0v (pv 2) (z1d (cc Y0 72) hr z0l (z0v (pv 3) (z0s z0k (pv 1) z0c)))))) (z1d (cc Y0 72) hr z0l (z0v (pv 3) (z0s z0k (pv 1) z0c)))))) (z1q (PW.pt (z5a (z1f (x4y hr.units0) (pv 3) (z0r z1j)) (z3m (PW.pt (y1d (z1f z0z (pv 0) z0c) (z7h (z1f z6a (z3k Z0.zlen (pv 3)) z0c))))))) (z1u 8 sc.nd (z0m z2l (z0s z0k (pv 1) z0c) (z0m z2g (z3k Z0.zlen (pv 3)) z0c)) (z1u 9 sc.nd (z0m z2g z0c (z0m z2l (z0s z0k (pv 1) z0c) (z7o (z4x rfl) Z0.zmin t9r (z0v z0c (z0m z6b (pv 4) (z1d (cc Y0 66) hr z0l (z1o (pv 3)))))))) (z1q (z1f z0z (z0m z2d (z0s z0k (pv 1) z0c) z0c) z0c) (z0q (y4r 9 sc.nd z0c)) (z1b (z0r (z0v (z0r (z0i z0p (z0i (pv 2) (z0v (pv 8) (pv 9))))) (z0m z2h (z0m z2h (z1h z1y (pv 3) z1r (z1p (pv 8))) (z0r (z1o (pv 9)))) (z1h z1y (pv 3) (z1p (pv 8)) z1r)))))))) (z1u 10 sc.nd (z0m z2l (z0s z0k (pv 1) z0c) (z3k Z0.zlen (pv 3))) (z1q (z1f z8g (pv 0) z0c) (z1b (z0r (z0v (z0r (z0i z0p (z0v (pv 2) (pv 10)))) (pv 3)))) (z1u 11 sc.nd (z0m z2g z0c (z0m z2d (z0s z0k (pv 1) z0c) z0c)) (z1u 12 sc.nd (z0m z2l (z0m z3o (z0s z0k (pv 1) z0c) z0c) (z7o (z6r rfl) Z0.zmax t9q (z0v z0c (z0s z0g (pv 3) (pv 10))))) (z1u 13 sc.nd (z7o (z6r rfl) Z0.zmax t9q (z0v z0c (z0m z4e (z0m z2g (z0m z6b (z0m z4e (z0m z4e (z0s z0g (pv 3) (pv 10)) z0c) (pv 12)) (pv 11)) z0c) (z0m z2d (z0m z3o (z0s z0k (pv 1) z0c) z0c) z0c)))) (z1b (z0r (z0v (z0r (z0i z0p (z0i (pv 2) (z0i (pv 10) (z0i (pv 12) (z0v (pv 13) (pv 11))))))) (z0m z2h (z0m z2h (z1h z1y (pv 3) z1r (z1p (pv 10))) (z0r (z1o (pv 13)))) (z1h z1y (pv 3) (z1p (z0m z2g (pv 10) z0c)) z1r))))))))))))),?_⟩
 (try dsimp only [z0t]);simp only [L2.start,t0h,t0j,List.replicate,t0k,t0m,Nat.reduceSub,Nat.reduceAdd,z2o,z2p]
 have a6:=hf.2.1;have sd:=y8f hf hmo;ktn_end (λ σ G=>G=H/\σ=y9k kd dl a o mo [none,none,none,none,none,none])
 ·ktr_call z0b t0a;split;rotate_left
  ·exact hR _ _ ⟨rfl,rfl⟩
  refine ⟨t0x _,λ l hl=>⟨_,z0a hl _ _ _ hd,_,z0f (j:=2) rfl,_,.inr (.of (z0a hl _ _ _ ho)),?_⟩⟩;rw [z0j];refine ⟨by lia,by lia,?_⟩;rw [t1c];obtain ⟨J,hJ⟩:∃J:Nat->L2.St->Hp->Prop,J=(λ i σ G=>∃(os:LI) (pt:V) (y:Option V),Same H G/\G l=some (.lst (os.map V.int))/\os.Perm (upL i)/\(∃n:Int,pt=.int n)/\σ=[some (.int kd),some (.ref dl),some (.int (a:Int)),some (.ref o),some (.int mo),some (.ref l),some pt,y,none,none,none,none,none,none]):=⟨_,rfl⟩;refine LoopR.mk J (by rw [hJ];exact ⟨[],_,_,z0a hl _,z0d,List.Perm.refl _,⟨_,rfl⟩,rfl⟩) (λ i σ G hi h=>?_) (λ σ G h=>?_)
  ·rw [hJ] at h;kd_p;obtain ⟨os,pt,y,sG,hos,pm,⟨n,rfl⟩,rfl⟩:=h;refine gz ?_;clear gz Gz;have ol:os.length=i:=by rw [pm.length_eq,z7r]
   kpf_say z0b t0a z0b t5y;have f0:=t1m n (show (0:Int) < (i:Int)+1 by lia);have f1:=t2c n (show (0:Int) < (i:Int)+1 by lia);refine ⟨.inl ⟨_,.of hos⟩,by lia,_,hos,f0,by rw [z0j,ol];lia,by rw [t0c];exact z0n (by lia),by lia,by lia,by lia,?_⟩;rw [hJ];obtain ⟨j,hj⟩:∃j:Nat,n.fmod ((i:Int)+1)=j:=⟨_,(t2m f0).symm⟩;rw [hj,t1c];exact ⟨os.take j++(i:Int)::os.drop j,_,_,z3z sG hl,by rw [z0d,t0l,z2o,t8u,t8v],w0q pm,⟨_,rfl⟩,rfl⟩
  ·rw [hJ] at h;kd_p;obtain ⟨os,pt,y,sG,hos,pm,⟨n,rfl⟩,rfl⟩:=h;refine gz ?_;clear gz Gz;have ol:os.length=A.length:=by rw [pm.length_eq,z7r]
   have om:∀z∈os,0≤z/\z < (A.length:Int):=λ z hz=>up_mem.mp (pm.subset hz);ktr_call z0b t0a;refine ⟨_,.of hos,λ t fo ht fd=>⟨smd,λ p hp=>?_⟩⟩;have u:=(z0a ht (.frz fo (.tup (os.map V.int)))).trans (z0a hp (.tup [V.str "turn",V.int (a:Int),V.ref t]));have hos2:=u _ _ hos;have ho2:=(sG.trans u) _ _ ho;have hp2:upd (upd G t (.frz fo (.tup (os.map V.int)))) p (.tup [V.str "turn",V.int (a:Int),V.ref t]) p=some (.tup [V.str "turn",V.int (a:Int),V.ref t]):=z0d;have ht2:upd (upd G t (.frz fo (.tup (os.map V.int)))) p (.tup [V.str "turn",V.int (a:Int),V.ref t]) t=some (.frz fo (.tup (os.map V.int))):=z0a hp _ _ _ z0d;generalize upd (upd G t (.frz fo (.tup (os.map V.int)))) p (.tup [V.str "turn",V.int (a:Int),V.ref t])=G3 at *;refine CompL.mk (xs:=os.map V.int) (.of hos2) (λ i ys σ G'=>G'=G3/\i≤os.length/\ys=(z2u A (os.take i)).map V.int/\∃y,σ=[y,some (.ref o)]) ⟨rfl,t0x _,rfl,_,rfl⟩ (λ i ys σ G' _ h=>by rw [h.1];exact .of hos2) (λ i x ys σ G' e h=>?_) (λ ys σ G' h p1 hp1=>?_)
   ·kd_p;obtain ⟨rfl,hi,rfl,y,rfl⟩:=h;obtain ⟨z,rfl,hz⟩:=z3q e;refine gz ?_;clear gz Gz;have il:=(t0g.mp hz).1;have zb:=om z (t0i hz)
    have e1:(z2u A (os.take (i+1))).map V.int=(z2u A (os.take i)).map V.int++[V.int (A.getD z.toNat 0)]:=by
     unfold z2u;rw [t1j,hz,t0l,t0l];rfl
    refine ⟨by unfold z2u;rw [t0c,t0c,t0p];exact z0n (by lia),?_⟩;cell_end z0b t0a e1;exact ⟨_,ho2,_,v0y zb.1 zb.2,il,rfl,_,rfl⟩
   ·kd_p;obtain ⟨rfl,hi,rfl,y,rfl⟩:=h;refine gz ?_;clear gz Gz;rw [z0j,t1h];exact ⟨p1,rfl,_,.inl ⟨.of z0d,λ l2 hl2=>⟨smd,λ p4 hp4=>q _ p4 (sG.trans (u.trans ((z0a hp1 _).trans ((z0a hl2 _).trans (z0a hp4 _))))) ⟨p,l2,.turn a os,z2u A os,z0d,⟨t,z0a hp4 _ _ _ (z0a hl2 _ _ _ (z0a hp1 _ _ _ hp2)),⟨fo,z0a hp4 _ _ _ (z0a hl2 _ _ _ (z0a hp1 _ _ _ ht2)),fd⟩⟩,z0a hp4 _ _ _ z0d,⟨A,ea,pm,rfl⟩,x7a hf pm⟩⟩⟩⟩
 rintro σ1 G1 ⟨rfl,rfl⟩;ktn_end (λ σ G=>G=G1/\σ=y9k kd dl a o mo [none,none,none,none,none,none])
 ·cell_end z0b t0a y5c;split;rotate_left
  ·exact hR _ _ ⟨rfl,rfl⟩
  have lo:=w5b (d:=d2) hf hmo;refine ⟨_,hd,_,z0f (j:=2) rfl,A,d2,rfl,ho,mo,hf,hmo,λ G p s hp=>⟨smd,λ p1 hp1=>?_⟩⟩;have u:=s.trans (z0a hp1 (.tup [V.str "lay",V.int (a:Int),V.ref p]));exact ⟨_,u _ _ hd,_,z0f (j:=2) rfl,A,d2,rfl,u _ _ ho,mo,hf,hmo,λ G2 p2 s2 hp2=>⟨smd,λ p3 hp3=>q _ p3 (u.trans (s2.trans (z0a hp3 _))) ⟨p1,p2,.lay a (y8a A d2),y8a A d2,z0d,⟨p,z0a hp3 _ _ _ (s2 _ _ z0d),z0a hp3 _ _ _ (s2 _ _ (z0a hp1 _ _ _ hp))⟩,z0a hp3 _ _ _ hp2,⟨A,ea,z8i (z3a lo.1 hmo),lo.2.symm,rfl⟩,lo.1⟩⟩⟩
 rintro σ2 G2 ⟨rfl,rfl⟩;ktn_end (λ σ G=>Same G2 G/\0 < A.length/\σ=y9k kd dl a o mo [none,none,none,none,none,none])
 ·wp_walk using z0b,z9t,eqV,t0a;refine ⟨t0x _,λ p0 hp0=>⟨_,.of (z0a hp0 _ _ _ ho),_,.of z0d,z1i _,rfl,?_⟩⟩;rw [show ([]:List V)=([]:LI).map V.int from rfl,z2t];have u0:=z0a hp0 (.tup (List.map V.int []));have hd0:=u0 _ _ hd;have ho0:=u0 _ _ ho;generalize upd G2 p0 (.tup (List.map V.int []))=G0 at *;have pb:=hf.2.2;have m2:=hmo.2;by_cases c:A=[]
  ·rw [t4n c,if_pos rfl];have l6:A.length < 6:=by rw [c];decide
   ktn_end (λ σ G=>G=G0/\∃k:Nat,k≤A.length/\σ=y9k kd dl a o mo [some (.int (k:Int)),none,none,none,none,none])
   ·ktr_call z0b t0a;refine ⟨_,hd0,_,z0f (j:=1) rfl,_,.inr (.of ho0),_,rfl,?_⟩;rw [z0j];have f0:=t1m d1 (show (0:Int) < (A.length:Int)+1 by lia);have f1:=t2c d1 (show (0:Int) < (A.length:Int)+1 by lia);obtain ⟨k,hk⟩:∃k:Nat,d1.fmod ((A.length:Int)+1)=k:=⟨_,(t2m f0).symm⟩;rw [hk] at f1 ⊢;exact ⟨by lia,hR _ _ ⟨rfl,k,by lia,rfl⟩⟩
   rintro σ4 G4 ⟨rfl,k,kl,rfl⟩;ktn_end (λ σ G=>Same G4 G/\∃x:Int,0≤x/\x≤mo / z0e (A.map z1m)/\σ=y9k kd dl a o mo [some (.int (k:Int)),some (.int x),none,none,none,none])
   ·cell_end z0b t0a z6j;refine ⟨_,hd0,_,z0f (j:=2) rfl,A,ho0,sd,by lia,λ G sg=>⟨by lia,by lia,by lia,_,rfl,?_⟩⟩;rw [t2r _ (by lia)];have dv:=div_one pb.1 pb.2;generalize mo / z0e (A.map z1m)=fr at *;have c4:0 < (if fr < 4 then fr else 4)/\(if fr < 4 then fr else 4)≤fr:=by split<;>lia
    generalize (if fr < 4 then fr else 4)=c4' at *;have f0:=t1m d2 c4.1;have f1:=t2c d2 c4.1;exact ⟨by lia,hR _ _ ⟨sg,_,by lia,by lia,rfl⟩⟩
   rintro σ5 G5 hz9;kd_p;obtain ⟨u5,x,x0,x1,rfl⟩:=hz9;refine gz ?_;clear gz Gz;ktn_end (λ σ G=>G=G5/\∃x:Int,0≤x/\x≤mo / z0e (A.map z1m)/\σ=y9k kd dl a o mo [some (.int (k:Int)),some (.int x),none,none,none,none])
   ·ktr_call z0b t0a;refine ⟨_,u5 _ _ hd0,_,z0f (j:=2) rfl,_,rfl,?_⟩;split
    ·exact hR _ _ ⟨rfl,0,by decide,t3t x0 x1,rfl⟩
    ·exact hR _ _ ⟨rfl,x,x0,x1,rfl⟩
   rintro σ6 G6 hz9;kd_p;obtain ⟨rfl,x,x0,x1,rfl⟩:=hz9;refine gz ?_;clear gz Gz;ktr_call z0b t0a;have ho6:=u5 _ _ ho0;have xm:x≤mo:=t3t x1 (t7j _ (by have:=hmo.1;lia));have fi:=x0l (k:=k) hf l6 x0 x1;refine ⟨smd,λ p hp=>⟨_,z0a hp _ _ _ ho6,λ r1 H1 s1 h1=>⟨smd,λ p1 hp1=>?_⟩⟩⟩;rw [z3s] at h1;refine ⟨_,z0a hp1 _ _ _ h1,small (by simp only [t0c,t0p];lia),λ r2 H2 s2 h2=>?_⟩;have t2:=(z0a hp (.tup [V.str "spread",V.int (a:Int),V.int (k:Int),V.int x])).trans (s1.trans ((z0a hp1 (.tup [V.int x])).trans s2));refine ⟨_,t2 _ _ ho6,λ r3 H3 s3 h3=>?_⟩;rw [z4a] at h3;refine ⟨_,s3 _ _ h2,_,h3,small (by simp only [t0o,t0c,t0p,t2d,t0h,t0j];lia),λ r4 H4 s4 h4=>⟨smd,λ p5 hp5=>?_⟩⟩;refine q _ p5 (u0.trans (u5.trans (t2.trans (s3.trans (s4.trans (z0a hp5 _)))))) ⟨p,r4,.spread a k x,z7b A k x,z0d,?_,?_,⟨A,ea,by unfold w4t;lia,by lia,by lia,z8i (z3a fi hmo),rfl⟩,fi⟩
   ·exact (s3.trans (s4.trans (z0a hp5 _))) _ _ ((s1.trans ((z0a hp1 _).trans s2)) _ _ z0d)
   ·show _=_;rw [z0a hp5 _ _ _ h4];unfold z7b;rw [t0l,t0l];rfl
  ·rw [t2n c,if_neg (by decide)];have done:=hR _ _ ⟨u0,t8b.mpr c,rfl⟩;split;rotate_left
   ·exact done
   refine ⟨_,.inr (.of ho0),?_⟩;rw [z0j];split;rotate_left
   ·exact done
   have l6:A.length < 6:=by lia
   ktn_end (λ σ G=>G=G0/\∃k:Nat,k≤A.length/\σ=y9k kd dl a o mo [some (.int (k:Int)),none,none,none,none,none])
   ·ktr_call z0b t0a;refine ⟨_,hd0,_,z0f (j:=1) rfl,_,.inr (.of ho0),_,rfl,?_⟩;rw [z0j];have f0:=t1m d1 (show (0:Int) < (A.length:Int)+1 by lia);have f1:=t2c d1 (show (0:Int) < (A.length:Int)+1 by lia);obtain ⟨k,hk⟩:∃k:Nat,d1.fmod ((A.length:Int)+1)=k:=⟨_,(t2m f0).symm⟩;rw [hk] at f1 ⊢;exact ⟨by lia,hR _ _ ⟨rfl,k,by lia,rfl⟩⟩
   rintro σ4 G4 ⟨rfl,k,kl,rfl⟩;ktn_end (λ σ G=>Same G4 G/\∃x:Int,0≤x/\x≤mo / z0e (A.map z1m)/\σ=y9k kd dl a o mo [some (.int (k:Int)),some (.int x),none,none,none,none])
   ·cell_end z0b t0a z6j;refine ⟨_,hd0,_,z0f (j:=2) rfl,A,ho0,sd,by lia,λ G sg=>⟨by lia,by lia,by lia,_,rfl,?_⟩⟩;rw [t2r _ (by lia)];have dv:=div_one pb.1 pb.2;generalize mo / z0e (A.map z1m)=fr at *;have c4:0 < (if fr < 4 then fr else 4)/\(if fr < 4 then fr else 4)≤fr:=by split<;>lia
    generalize (if fr < 4 then fr else 4)=c4' at *;have f0:=t1m d2 c4.1;have f1:=t2c d2 c4.1;exact ⟨by lia,hR _ _ ⟨sg,_,by lia,by lia,rfl⟩⟩
   rintro σ5 G5 hz9;kd_p;obtain ⟨u5,x,x0,x1,rfl⟩:=hz9;refine gz ?_;clear gz Gz;ktn_end (λ σ G=>G=G5/\∃x:Int,0≤x/\x≤mo / z0e (A.map z1m)/\σ=y9k kd dl a o mo [some (.int (k:Int)),some (.int x),none,none,none,none])
   ·ktr_call z0b t0a;refine ⟨_,u5 _ _ hd0,_,z0f (j:=2) rfl,_,rfl,?_⟩;split
    ·exact hR _ _ ⟨rfl,0,by decide,t3t x0 x1,rfl⟩
    ·exact hR _ _ ⟨rfl,x,x0,x1,rfl⟩
   rintro σ6 G6 hz9;kd_p;obtain ⟨rfl,x,x0,x1,rfl⟩:=hz9;refine gz ?_;clear gz Gz;ktr_call z0b t0a;have ho6:=u5 _ _ ho0;have xm:x≤mo:=t3t x1 (t7j _ (by have:=hmo.1;lia));have fi:=x0l (k:=k) hf l6 x0 x1;refine ⟨smd,λ p hp=>⟨_,z0a hp _ _ _ ho6,λ r1 H1 s1 h1=>⟨smd,λ p1 hp1=>?_⟩⟩⟩;rw [z3s] at h1;refine ⟨_,z0a hp1 _ _ _ h1,small (by simp only [t0c,t0p];lia),λ r2 H2 s2 h2=>?_⟩;have t2:=(z0a hp (.tup [V.str "spread",V.int (a:Int),V.int (k:Int),V.int x])).trans (s1.trans ((z0a hp1 (.tup [V.int x])).trans s2));refine ⟨_,t2 _ _ ho6,λ r3 H3 s3 h3=>?_⟩;rw [z4a] at h3;refine ⟨_,s3 _ _ h2,_,h3,small (by simp only [t0o,t0c,t0p,t2d,t0h,t0j];lia),λ r4 H4 s4 h4=>⟨smd,λ p5 hp5=>?_⟩⟩;refine q _ p5 (u0.trans (u5.trans (t2.trans (s3.trans (s4.trans (z0a hp5 _)))))) ⟨p,r4,.spread a k x,z7b A k x,z0d,?_,?_,⟨A,ea,by unfold w4t;lia,by lia,by lia,z8i (z3a fi hmo),rfl⟩,fi⟩
   ·exact (s3.trans (s4.trans (z0a hp5 _))) _ _ ((s1.trans ((z0a hp1 _).trans s2)) _ _ z0d)
   ·show _=_;rw [z0a hp5 _ _ _ h4];unfold z7b;rw [t0l,t0l];rfl
 rintro σ3 G3 ⟨s3,a0,rfl⟩;have hd3:=s3 _ _ hd;have ho3:=s3 _ _ ho;ktn_end (λ σ G=>G=G3/\∃k:Nat,k < A.length/\σ=y9k kd dl a o mo [none,none,some (.int (k:Int)),none,none,none])
 ·ktr_call z0b t0a;refine ⟨_,hd3,_,z0f (j:=1) rfl,_,.inr (.of ho3),_,rfl,?_⟩;rw [z0j];have f0:=t1m d1 (show (0:Int) < (A.length:Int) by lia);have f1:=t2c d1 (show (0:Int) < (A.length:Int) by lia);obtain ⟨k,hk⟩:∃k:Nat,d1.fmod (A.length:Int)=k:=⟨_,(t2m f0).symm⟩;rw [hk] at f1 ⊢;exact ⟨by lia,hR _ _ ⟨rfl,k,by lia,rfl⟩⟩
 rintro σ4 G4 ⟨rfl,k,kl,rfl⟩;ktn_end (λ σ G=>G=G4/\σ=y9k kd dl a o mo [none,none,some (.int (k:Int)),none,none,none])
 ·ktr_call z0b t0a;split;rotate_left
  ·exact hR _ _ ⟨rfl,rfl⟩
  exact ⟨smd,λ p hp=>⟨smd,λ p1 hp1=>q _ p1 (s3.trans ((z0a hp _).trans (z0a hp1 _))) ⟨p,o,.flip a k,A,z0d,z0a hp1 _ _ _ z0d,z0a hp1 _ _ _ (z0a hp _ _ _ ho3),⟨ea,by unfold off;lia⟩,hf⟩⟩⟩
 rintro σ5 G5 ⟨rfl,rfl⟩;ktn_end (λ σ G=>G=G5/\∃g:Int,1≤g/\g≤3/\σ=y9k kd dl a o mo [none,none,some (.int (k:Int)),some (.int g),none,none])
 ·ktr_call z0b t0a;exact ⟨_,hd3,_,z0f (j:=2) rfl,_,rfl,hR _ _ ⟨rfl,_,by lia,by lia,rfl⟩⟩
 rintro σ6 G6 hz9;kd_p;obtain ⟨rfl,g,g1,g3,rfl⟩:=hz9;refine gz ?_;clear gz Gz;have an:=(hf.1 _ (z6q kl)).1;ktn_end (λ σ G=>G=G6/\∃f:Int,0≤f/\σ=y9k kd dl a o mo [none,none,some (.int (k:Int)),some (.int g),some (.int f),none])
 ·ktr_call z0b t0a;have o1:=z5c an;have f0:=t1m (d2 / 3) (show 0 < z1m (A.getD k 0) by lia);refine ⟨_,hd3,_,z0f (j:=2) rfl,_,rfl,_,ho3,_,y1o kl,_,rfl,?_⟩;rw [x0a an];exact ⟨by lia,hR _ _ ⟨rfl,_,f0,rfl⟩⟩
 rintro σ7 G7 ⟨rfl,f,f0,rfl⟩;ktn_end (λ σ G=>G=G7/\∃m:Int,0≤m/\m≤A.getD k 0/\¬(0 < m/\A.getD k 0≤f+(m - 1) * g)/\σ=y9k kd dl a o mo [none,none,some (.int (k:Int)),some (.int g),some (.int f),some (.int m)])
 ·ktr_call z0b t0a;have cm:=w1f (e:=d2 / 300 % 3) an f0 g1 (by lia);exact ⟨_,ho3,_,y1o kl,_,rfl,by lia,by lia,by lia,_,hd3,_,z0f (j:=2) rfl,_,rfl,hR _ _ ⟨rfl,_,cm.1,cm.2.1,cm.2.2,rfl⟩⟩
 rintro σ8 G8 hz9;kd_p;obtain ⟨rfl,m,m0,m1,m2,rfl⟩:=hz9;refine gz ?_;clear gz Gz;ktr_call z0b t0a;have fs:=w1b (k:=k) hf m0 m1;have am:=(hf.1 _ (z6q kl)).2;have mo2:=hmo.2;refine ⟨smd,λ p hp=>⟨_,z0a hp _ _ _ ho3,λ r1 H1 s1 h1=>⟨smd,λ p1 hp1=>?_⟩⟩⟩;rw [z3s] at h1;refine ⟨_,z0a hp1 _ _ _ h1,small (by simp only [t0c,t0p];lia),λ r2 H2 s2 h2=>?_⟩;have t2:=(z0a hp (.tup [V.str "cut",V.int (a:Int),V.int (k:Int),V.int f,V.int m,V.int g])).trans (s1.trans ((z0a hp1 (.tup [V.int m])).trans s2));refine ⟨_,t2 _ _ ho3,λ r3 H3 s4 h3=>?_⟩;rw [show (k:Int)+1=((k+1:Nat):Int) by lia,z4a] at h3;refine ⟨_,s4 _ _ h2,_,h3,small (by simp only [t0o,t0c,t0p,t2d,t0h,t0j];lia),λ r4 H4 s5 h4=>⟨smd,λ p5 hp5=>?_⟩⟩;refine q _ p5 (s3.trans (t2.trans (s4.trans (s5.trans (z0a hp5 _))))) ⟨p,r4,.cut a k f m g,A.set k m,z0d,?_,?_,⟨A,ea,by unfold off;lia,by unfold bad;rw [t1c];exact λ z=>z.elim (by lia) λ z=>z.elim (by lia) λ z=>z.elim (by lia) m2,by lia,by rw [t1c]⟩,fs⟩
 ·exact (s4.trans (s5.trans (z0a hp5 _))) _ _ ((s1.trans ((z0a hp1 _).trans s2)) _ _ z0d)
 ·show _=_;rw [z0a hp5 _ _ _ h4,← x3q kl,t0l,t0l];rfl
theorem x5i (Y0:Cs Z0 74):ca (Cl Z0) 74:=kz3 Z0 Z0.g74 λ f fd F=>by
 have sc:=scq (z0h y9j) ["own","other","side"] [];kt_k
 ·exact el5 vs h λ _ _ _ _ _ _=>rfl
 refine el5 vs h λ a b A B k h=>an6 h λ ha hb kl a6 b6 q=>?_;refine ⟨_,(z1q (PW.pt (z5a (z1f z8g (z3k Z0.zlen (pv 0)) (z3k Z0.zlen (pv 1))) (z3m (z1f (y9z hr.units0) (z0m z2h (z1h z1y (pv 0) z1r (z1p (pv 2))) (z1h z1y (pv 0) (z1p (z0m z2g (pv 2) z0c)) z1r)) (z0m z2h (z1h z1y (pv 1) z1r (z1p (pv 2))) (z1h z1y (pv 1) (z1p (z0m z2g (pv 2) z0c)) z1r)))))) (z1b (z0r z1j)) (z1b (z0m z2h (z0m z2h (z1h z1y (pv 0) z1r (z1p (pv 2))) (z0r (z1o (z0m z2g (z0s z0g (pv 0) (pv 2)) (z0s z0g (pv 1) (pv 2)))))) (z1h z1y (pv 0) (z1p (z0m z2g (pv 2) z0c)) z1r)))),?_⟩
 (try dsimp only [z0t]);simp only [L2.start,t0h,t0j,List.replicate,t0k,t0m,Nat.reduceSub,Nat.reduceAdd,z2o,z2p]
 ktn_end (λ σ G=>Same H G/\A.length=B.length/\A.eraseIdx k=B.eraseIdx k/\σ=[some (.ref a),some (.ref b),some (.int (k:Int))])
 ·ktr_call z0b t0a;refine ⟨_,.inr (.of ha),_,.inr (.of hb),?_⟩;rw [z0j,z0j];by_cases c:A.length=B.length;rotate_left
  ·rw [if_pos (λ z=>c (Int.ofNat_inj.mp z))];exact ⟨t0x _,λ p hp=>q _ p (z0a hp _) (by show _=_;unfold z9r;rw [if_neg (λ z=>c z.1)];exact z0d)⟩
  rw [if_neg (λ z=>z (by rw [c]))];refine ⟨_,ha,λ r1 H1 s1 h1=>⟨_,s1 _ _ ha,λ r2 H2 s2 h2=>?_⟩⟩;rw [z3s] at h1;rw [show (k:Int)+1=((k+1:Nat):Int) by lia,z4a] at h2;refine ⟨_,s2 _ _ h1,_,h2,small (by simp only [t0c,t0p,t2d];lia),λ r3 H3 s3 h3=>?_⟩;have t3:=s1.trans (s2.trans s3);refine ⟨_,t3 _ _ hb,λ r4 H4 s4 h4=>⟨_,s4 _ _ (t3 _ _ hb),λ r5 H5 s5 h5=>?_⟩⟩;rw [z3s] at h4;rw [show (k:Int)+1=((k+1:Nat):Int) by lia,z4a] at h5;refine ⟨_,s5 _ _ h4,_,h5,small (by simp only [t0c,t0p,t2d];lia),λ r6 H6 s6 h6=>?_⟩;rw [← t0l,← t4u] at h3 h6;refine ⟨_,.of ((s4.trans (s5.trans s6)) _ _ h3),_,.of h6,z1i _,z1i _,?_⟩;have t6:=t3.trans (s4.trans (s5.trans s6));rw [z2t];by_cases c2:A.eraseIdx k=B.eraseIdx k
  ·rw [t4n c2,if_neg (by decide)];exact hR _ _ ⟨t6,c,c2,rfl⟩
  ·rw [t2n c2,if_pos rfl];exact ⟨t0x _,λ p hp=>q _ p (t6.trans (z0a hp _)) (by show _=_;unfold z9r;rw [if_neg (λ z=>c2 z.2)];exact z0d)⟩
 rintro σ1 G1 ⟨s1,c,c2,rfl⟩;ktr_call z0b t0a;have ha1:=s1 _ _ ha;have hb1:=s1 _ _ hb;refine ⟨_,ha1,λ r1 H1 s2 h1=>?_⟩;rw [z3s] at h1;refine ⟨_,s2 _ _ ha1,_,y1o kl,_,s2 _ _ hb1,_,y1o (by lia),_,rfl,_,rfl,smd,λ p hp=>⟨_,z0a hp _ _ _ h1,small (by simp only [t0c,t0p];lia),λ r2 H2 s3 h2=>?_⟩⟩;have t3:=s2.trans ((z0a hp (.tup [V.int (A.getD k 0+B.getD k 0)])).trans s3);refine ⟨_,t3 _ _ ha1,λ r3 H3 s4 h3=>?_⟩;rw [show (k:Int)+1=((k+1:Nat):Int) by lia,z4a] at h3;refine ⟨_,s4 _ _ h2,_,h3,small (by simp only [t0o,t0c,t0p,t2d,t0h,t0j];lia),λ r4 H4 s5 h4=>q _ r4 (s1.trans (t3.trans (s4.trans s5))) ?_⟩;show _=_;unfold z9r z2v;rw [if_pos ⟨c,c2⟩,t1c,h4,← x3q kl,t0l,t0l];rfl
theorem w0a (Y0:Cs Z0 75):ca (Cl Z0) 75:=kz4 Z0 Z0.g75 λ f fd F=>by
 have sc:=scq (z0h x3m) ["kind","d","sides","most"] ["sided","a","own","side","words","made","fit","b"];kt_k
 ·obtain ⟨dl,sl,kd,mo,d0,d1,d2,ps,Ss,rfl,_⟩:=h;rfl
 obtain ⟨dl,sl,kd,mo,d0,d1,d2,ps,Ss,rfl,hd,hs,ht,⟨S0,S0m,S0l⟩,k11,k14,hsd,hmo,q⟩:=h;refine ⟨_,(z0o (z6u (own:=["k"]) (fv:=["sides"]) (js:=[2]) sc.nd (i:=4) rfl (by first | exact Or.inl rfl | exact Or.inr rfl) (by first | exact Or.inl rfl | exact Or.inr rfl) rfl (z2j (by rfl) Z0.zrange (z1o (z3k Z0.zlen (pv 2)))) rfl (by decide) rfl (by decide) (by kcj_m) (z2y (by rfl)) rfl (y6v (by kcf_m)) (λ _ _ _ _=>(z6l 0 ["k","sides"])) (λ _ _ _ _=>(pv 0)) (λ _ _ _ _=>(z1f (x4v (K:=K) rfl hr.units0) (z0s z0k (pv 1) (pv 0)) (z0r z1j)))) (z1u 5 sc.nd (z1d (cc Y0 68) hr z0l (z0v (pv 4) (z0s z0k (pv 1) z0c))) (z1u 6 sc.nd (z0s z0k (pv 2) (pv 5)) (z1u 7 sc.nd (z0m z2l (z0s z0k (pv 1) z0c) (z3k Z0.zlen (pv 6))) (z1u 8 sc.nd (z3i (z0i z0p (z0i z0p (z0i z0p (z0i z0p (z0i z0p (z0v z0p z0p))))))) (z1q (z1f z0z (pv 0) z0c) (z1b (z0r (z0v (z0r (z0i z0p (z0i (z0s z0k (pv 8) (z0m z2d (z0s z0k (pv 1) z0c) z0c)) (z0v (pv 5) (pv 7))))) (z0m z2h (z1h z1y (pv 6) z1r (z1p (pv 7))) (z1h z1y (pv 6) (z1p (z0m z2g (pv 7) z0c)) z1r))))) (z1q (z1f z0z (pv 0) z0c) (z1b (z0r (z0v (z0r (z0i z0p (z0i (z0s z0k (pv 8) (z0m z2d (z0s z0k (pv 1) z0c) z0c)) (z0v (pv 5) (pv 7))))) (pv 6)))) (z1u 9 sc.nd (z3i (z1o (z0r z1j))) (z0o (z9q (z1f z0z (pv 0) z0c) (z0q (y4r 9 sc.nd (z3d (own:=["other"]) (fv:=["own","side"]) (js:=[6,7]) rfl (z4h (pv 2)) rfl (by decide) rfl (by decide) (by kcj_m) (z2y (by rfl)) rfl (v1o (by kcf_m) (by kcf_m)) (λ _ _ _ _=>(z6l 0 ["other","own","side"])) (λ _ _ _ _=>(z1d (cc Y0 74) hr z0l (z0i (pv 1) (z0v (pv 0) (pv 2)))))))) (z0q (z9q (z1f z8w (z0s z0g (pv 6) z0c) z0c) (z0q (y4r 9 sc.nd (z3d (own:=["other"]) (fv:=["own"]) (js:=[6]) rfl (z4h (pv 2)) rfl (by decide) rfl (by decide) (by kcj_m) (z2y (by rfl)) rfl (y6v (by kcf_m)) (λ _ _ _ _=>(z6l 0 ["other","own"])) (λ _ _ _ _=>(z0m z2h (pv 0) (z1h z1y (pv 1) (z1p z0c) z1r)))))) z5x))) (z0o (z6u (own:=["k"]) (fv:=["kind","made","own"]) (js:=[0,9,6]) sc.nd (i:=10) rfl (by first | exact Or.inl rfl | exact Or.inr rfl) (by first | exact Or.inl rfl | exact Or.inr rfl) rfl (z2j (by rfl) Z0.zrange (z1o (z3k Z0.zlen (pv 9)))) rfl (by decide) rfl (by decide) (by kcj_m) (z2y (by rfl)) rfl (v7a (by kcf_m) (by kcf_m) (by kcf_m)) (λ _ _ _ _=>(z6l 0 ["k","kind","made","own"])) (λ _ _ _ _=>(pv 0)) (λ _ _ _ _=>(PW.pt (z5a (PW.pt (y1d (z1f z0z (pv 1) z0c) (z7h (z1f z8w (z0s z0g (pv 3) z0c) z0c)))) (z3m (z1f (x4v (K:=K) rfl hr.units0) (z0s z0k (pv 2) (pv 0)) (z0r z1j))))))) (z0o (z6u (own:=["k"]) (fv:=["most","made"]) (js:=[3,9]) sc.nd (i:=10) rfl (by first | exact Or.inl rfl | exact Or.inr rfl) (by first | exact Or.inl rfl | exact Or.inr rfl) rfl (z4h (pv 10)) rfl (by decide) rfl (by decide) (by kcj_m) (z2y (by rfl)) rfl (v1o (by kcf_m) (by kcf_m)) (λ _ _ _ _=>(z6l 0 ["k","most","made"])) (λ _ _ _ _=>(pv 0)) (λ _ _ _ _=>(PW.pt (y1d (z1f x9w (z7o ((z8l (K:=K) rfl)) Z0.zlen t6y (z1o (z0s z0k (pv 2) (pv 0)))) z0c) (z7h (z1f x9w (z1d (cc Y0 66) hr z0l (z1o (z0s z0k (pv 2) (pv 0)))) (pv 1))))))) (z1q (z1f z0z (z3k Z0.zlen (pv 10)) z0c) (z1b (z0r (z0v (z0r (z0i z0p (z0v (pv 5) (pv 7)))) (pv 6)))) (z1u 11 sc.nd (z1d (cc Y0 68) hr z0l (z0v (pv 10) (z0s z0k (pv 1) z0c))) (z1q (z1f z0z (pv 0) z0c) (z1b (z0r (z0v (z0r (z0i z0p (z0i (pv 5) (z0v (pv 11) (pv 7))))) (z0s z0k (pv 9) (pv 11))))) (z1b (z0r (z0v (z0r (z0i z0p (z0v (pv 5) (pv 11)))) (z0s z0k (pv 9) (pv 11))))))))))))))))))),?_⟩
 (try dsimp only [z0t]);simp only [L2.start,t0h,t0j,List.replicate,t0k,t0m,Nat.reduceSub,Nat.reduceAdd,z2o,z2p]
 have n4:=hsd.1;obtain ⟨j0,j0l,j0e⟩:=List.mem_iff_getElem.mp S0m;have j0e':Ss[j0]?=some S0:=by rw [t0e j0l,j0e]
 ktn_end (λ σ G=>Same H G/\∃(si:Addr) (ks:LI),G si=some (.lst (ks.map V.int))/\(∀k,k∈ks ↔ ∃j:Nat,k=j/\j < Ss.length/\∃S,Ss[j]?=some S/\0 < S.length)/\σ=[some (.int kd),some (.ref dl),some (.ref sl),some (.int mo),some (.ref si),none,none,none,none,none,none,none])
 ·ktr_call z0b t0a;refine ⟨_,.inl (.of hs),?_⟩;rw [t0c,ht.1];refine ⟨by lia,by lia,?_⟩;rw [t1c];refine v0s (by lia) (λ j=>∃S,Ss[j]?=some S/\0 < S.length) [some (.ref sl)] rfl (λ j y G Rt Rf jl u ht1 hf1=>?_) (λ ks G p u hp hk kl=>hR _ _ ⟨u.trans (z0a hp _),p,ks,z0d,hk,rfl⟩);kd_p;obtain ⟨pk,B,ek,eB,hB⟩:=z6d (ht.same u) jl;refine gz ?_;clear gz Gz;ktr_call z0b t0a;refine ⟨_,u _ _ hs,_,ek,t0x _,λ p0 hp0=>⟨_,rfl,_,.of (z0a hp0 _ _ _ hB),_,.of z0d,z1i _,rfl,?_⟩⟩;rw [show ([]:List V)=([]:LI).map V.int from rfl,z2t];by_cases c:B=[]
  ·rw [t4n c];exact hf1 _ (u.trans (z0a hp0 _)) λ ⟨S,e,z⟩=>by cases eB.symm.trans e;rw [c] at z;exact absurd z (t2s _)
  ·rw [t2n c];exact ht1 _ (u.trans (z0a hp0 _)) ⟨B,eB,t8b.mpr c⟩
 rintro σ1 G1 hz9;kd_p;obtain ⟨s1,si,ks,hsi,hk,rfl⟩:=hz9;refine gz ?_;clear gz Gz;have kpos:0 < ks.length:=t6r ((hk j0).mpr ⟨j0,rfl,j0l,S0,j0e',S0l⟩);ktn_end (λ σ G=>G=G1/\∃(a:Nat) (A:LI) (pa:Addr),Ss[a]?=some A/\0 < A.length/\atI (ps.map V.ref) (a:Int)=some (.ref pa)/\Tp G pa A/\σ=[some (.int kd),some (.ref dl),some (.ref sl),some (.int mo),some (.ref si),some (.int (a:Int)),none,none,none,none,none,none])
 ·cell_end z0b t0a z3c;refine ⟨_,s1 _ _ hd,_,z0f (j:=0) rfl,ks,d0,rfl,hsi,kpos,λ k hkm=>?_⟩;kd_p;obtain ⟨a,rfl,al,A,eA,A0⟩:=(hk k).mp hkm;obtain ⟨pa,A',ea,eA',hA⟩:=z6d (ht.same s1) al;refine gz ?_;clear gz Gz;cases eA'.symm.trans eA;exact hR _ _ ⟨rfl,a,A,pa,eA,A0,ea,hA,rfl⟩
 rintro σ2 G2 hz9;kd_p;obtain ⟨rfl,a,A,pa,eA,A0,ea,hA,rfl⟩:=hz9;refine gz ?_;clear gz Gz;have fA:=hsd.2 _ (t0i eA);have a6:=fA.2.1;have hd2:=s1 _ _ hd;have hs2:=s1 _ _ hs;ktn_end (λ σ G=>G=G2/\σ=[some (.int kd),some (.ref dl),some (.ref sl),some (.int mo),some (.ref si),some (.int (a:Int)),some (.ref pa),none,none,none,none,none])
 ·ktr_call z0b t0a;exact ⟨_,hs2,_,ea,hR _ _ ⟨rfl,rfl⟩⟩
 rintro σ3 G3 ⟨rfl,rfl⟩;ktn_end (λ σ G=>G=G3/\∃k:Nat,k < A.length/\σ=x3p kd dl sl mo si a pa k [none,none,none,none])
 ·ktr_call z0b t0a;refine ⟨_,hd2,_,z0f (j:=1) rfl,_,.inr (.of hA),_,rfl,?_⟩;rw [z0j];have f0:=t1m d1 (show (0:Int) < (A.length:Int) by lia);have f1:=t2c d1 (show (0:Int) < (A.length:Int) by lia);obtain ⟨k,hk⟩:∃k:Nat,d1.fmod (A.length:Int)=k:=⟨_,(t2m f0).symm⟩;rw [hk] at f1 ⊢;exact ⟨by lia,hR _ _ ⟨rfl,k,by lia,rfl⟩⟩
 rintro σ4 G4 ⟨rfl,k,kl,rfl⟩;ktn_end (λ σ G=>Same G4 G/\∃wl,G wl=some (.lst (fw.map V.str))/\σ=x3p kd dl sl mo si a pa k [some (.ref wl),none,none,none])
 ·ktr_call z0b t0a;exact ⟨smd,λ l hl=>hR _ _ ⟨z0a hl _,l,z0d,rfl⟩⟩
 rintro σ5 G5 ⟨s5,wl,hwl,rfl⟩;have hd5:=s5 _ _ hd2;have hs5:=s5 _ _ hs2;have hA5:=s5 _ _ hA;have t5:=s1.trans s5;obtain ⟨w,hw,wm⟩:=y6w fw (k:=d2 % 7) (by lia) (by show d2 % 7 < ((7:Nat):Int);lia);ktn_end (λ σ G=>G=G5/\¬kd=13/\σ=x3p kd dl sl mo si a pa k [some (.ref wl),none,none,none])
 ·ktr_call z0b t0a;split;rotate_left
  ·exact hR _ _ ⟨rfl,‹_›,rfl⟩
  refine ⟨_,hd5,_,z0f (j:=2) rfl,_,rfl,_,hwl,_,hw,smd,λ p hp=>⟨_,z0a hp _ _ _ hA5,λ r1 H1 u1 h1=>⟨_,u1 _ _ (z0a hp _ _ _ hA5),λ r2 H2 u2 h2=>?_⟩⟩⟩;rw [z3s] at h1;rw [show (k:Int)+1=((k+1:Nat):Int) by lia,z4a] at h2;refine ⟨_,u2 _ _ h1,_,h2,small (by simp only [t0c,t0p,t2d];lia),λ r3 H3 u3 h3=>⟨smd,λ p1 hp1=>?_⟩⟩;rw [← t0l,← t4u] at h3;exact q _ p1 (t5.trans ((z0a hp _).trans (u1.trans (u2.trans (u3.trans (z0a hp1 _)))))) ⟨p,r3,.fold w a k,A.eraseIdx k,z0d,z0a hp1 _ _ _ (u3 _ _ (u2 _ _ (u1 _ _ z0d))),z0a hp1 _ _ _ h3,⟨A,eA,wm,by unfold off;lia,by rw [t1c]⟩,x1u fA⟩
 rintro σ6 G6 ⟨rfl,n13,rfl⟩;ktn_end (λ σ G=>G=G6/\¬kd=14/\σ=x3p kd dl sl mo si a pa k [some (.ref wl),none,none,none])
 ·ktr_call z0b t0a;split;rotate_left
  ·exact hR _ _ ⟨rfl,‹_›,rfl⟩
  exact ⟨_,hd5,_,z0f (j:=2) rfl,_,rfl,_,hwl,_,hw,smd,λ p hp=>⟨smd,λ p1 hp1=>q _ p1 (t5.trans ((z0a hp _).trans (z0a hp1 _))) ⟨p,pa,.run w a k,A,z0d,z0a hp1 _ _ _ z0d,z0a hp1 _ _ _ (z0a hp _ _ _ hA5),⟨eA,wm,by unfold off;lia⟩,fA⟩⟩⟩
 rintro σ7 G7 ⟨rfl,n14,rfl⟩;ktn_end (λ σ G=>Same G7 G/\∃(md pe:Addr),G md=some (.lst [.ref pe])/\Tp G pe []/\σ=x3p kd dl sl mo si a pa k [some (.ref wl),some (.ref md),none,none])
 ·ktr_call z0b t0a;exact ⟨t0x _,λ p hp=>⟨smd,λ p1 hp1=>hR _ _ ⟨(z0a hp _).trans (z0a hp1 _),p1,p,z0d,z0a hp1 _ _ _ z0d,rfl⟩⟩⟩
 rintro σ8 G8 hz9;kd_p;obtain ⟨s8,md0,pe,hmd0,hpe,rfl⟩:=hz9;refine gz ?_;clear gz Gz;have hA8:=s8 _ _ hA5;have hs8:=s8 _ _ hs5;have t8:=t5.trans s8;have at0:atI (A.map V.int) 0=some (.int (A.getD 0 0)):=y1o (k:=0) A0;ktn_end (λ σ G=>Same G8 G/\∃(md:Addr) (qs:List Addr) (Ms:LL),G md=some (.lst (qs.map V.ref))/\TpsM G qs Ms/\Md kd A k Ss Ms/\σ=x3p kd dl sl mo si a pa k [some (.ref wl),some (.ref md),none,none])
 ·ktr_call z0b t0a;split
  ·rename_i c11;refine v4y hs8 (by lia) (ht.same t8) (λ B=>z9r A B k) [some (.ref pa),some (.int (k:Int))] rfl (λ p S y G Rt hS u hp ht1=>?_) (λ qs G p u hp tq=>hR _ _ ⟨u.trans (z0a hp _),p,qs,_,z0d,tq.same (z0a hp _),.inl ⟨c11,rfl⟩,rfl⟩);cell_end z0b t0a y5d;exact ⟨A,S,k,rfl,u _ _ hA8,hp,kl,a6,(hsd.2 S hS).2.1,λ G' r u' h=>ht1 _ _ u' h⟩
  ·rename_i c11;refine ⟨_,hA8,_,at0,_,rfl,?_⟩;split
   ·rename_i cA;refine v4y hs8 (by lia) (ht.same t8) (λ B=>B++A.drop 1) [some (.ref pa)] rfl (λ p S y G Rt hS u hp ht1=>?_) (λ qs G p u hp tq=>hR _ _ ⟨u.trans (z0a hp _),p,qs,_,z0d,tq.same (z0a hp _),.inr (.inl ⟨by lia,cA,rfl⟩),rfl⟩);ktr_call z0b t0a;refine ⟨_,u _ _ hA8,λ r1 H1 u1 h1=>?_⟩;rw [show (1:Int)=((1:Nat):Int) from rfl,z4a] at h1;have s6:=(hsd.2 S hS).2.1;refine ⟨_,u1 _ _ hp,_,h1,small (by simp only [t0c,t2d];lia),λ r2 H2 u2 h2=>ht1 _ _ (u1.trans u2) ?_⟩;show _=_;rw [h2,t0l]
   ·rename_i cA
    exact hR _ _ ⟨Same.refl _,md0,[pe],[[]],hmd0,⟨rfl,λ i p e=>by
     match i,e with
     | 0,e=>cases e;exact ⟨[],rfl,hpe⟩⟩,.inr (.inr ⟨c11,cA,rfl⟩),rfl⟩
 rintro σ9 G9 hz9;kd_p;obtain ⟨s9,md,qs,Ms,hmd,tq,hM,rfl⟩:=hz9;refine gz ?_;clear gz Gz;have hA9:=s9 _ _ hA8;have t9:=t8.trans s9;have ml:=w9q hM n4;have mb:=v6a hM fA hsd.2 hmo;ktn_end (λ σ G=>Same G9 G/\∃(f1:Addr) (ks:LI),G f1=some (.lst (ks.map V.int))/\ks.length≤40/\(∀k,k∈ks ↔ ∃j:Nat,k=j/\j < Ms.length/\((kd=12/\0 < A.getD 0 0)\/∃M,Ms[j]?=some M/\¬M=[]))/\σ=x3p kd dl sl mo si a pa k [some (.ref wl),some (.ref md),some (.ref f1),none])
 ·ktr_call z0b t0a;refine ⟨_,.inl (.of hmd),?_⟩;rw [t0c,tq.1];refine ⟨by lia,by lia,?_⟩;rw [t1c];refine v0s (by lia) (λ j=>(kd=12/\0 < A.getD 0 0)\/∃M,Ms[j]?=some M/\¬M=[]) [some (.int kd),some (.ref md),some (.ref pa)] rfl (λ j y G Rt Rf jl u ht1 hf1=>?_) (λ ks G p u hp hk kl=>hR _ _ ⟨u.trans (z0a hp _),p,ks,z0d,by lia,hk,rfl⟩);kd_p;obtain ⟨pk,M,ek,eM,hMj⟩:=z6d (tq.same u) jl;refine gz ?_;clear gz Gz;ktr_call z0b t0a;by_cases c12:kd=12
  ·rw [if_pos c12];refine ⟨_,u _ _ hA9,_,at0,_,rfl,?_⟩;by_cases cA:0 < A.getD 0 0
   ·rw [if_pos cA];exact ht1 _ u (.inl ⟨c12,cA⟩)
   ·rw [if_neg cA];refine ⟨_,u _ _ hmd,_,ek,t0x _,λ p0 hp0=>⟨_,rfl,_,.of (z0a hp0 _ _ _ hMj),_,.of z0d,z1i _,rfl,?_⟩⟩;rw [show ([]:List V)=([]:LI).map V.int from rfl,z2t];by_cases cM:M=[]
    ·rw [t4n cM,if_neg (by decide)];exact hf1 _ (u.trans (z0a hp0 _)) (λ z=>z.elim (λ z=>cA z.2) λ ⟨M2,e2,y⟩=>by cases eM.symm.trans e2;exact y cM)
    ·rw [t2n cM,if_pos rfl];exact ht1 _ (u.trans (z0a hp0 _)) (.inr ⟨M,eM,cM⟩)
  ·rw [if_neg c12];refine ⟨_,u _ _ hmd,_,ek,t0x _,λ p0 hp0=>⟨_,rfl,_,.of (z0a hp0 _ _ _ hMj),_,.of z0d,z1i _,rfl,?_⟩⟩;rw [show ([]:List V)=([]:LI).map V.int from rfl,z2t];by_cases cM:M=[]
   ·rw [t4n cM,if_neg (by decide)];exact hf1 _ (u.trans (z0a hp0 _)) (λ z=>z.elim (λ z=>c12 z.1) λ ⟨M2,e2,y⟩=>by cases eM.symm.trans e2;exact y cM)
   ·rw [t2n cM,if_pos rfl];exact ht1 _ (u.trans (z0a hp0 _)) (.inr ⟨M,eM,cM⟩)
 rintro σ10 G10 hz9;kd_p;obtain ⟨s10,f1,ks1,hf1,k1l,hk1,rfl⟩:=hz9;refine gz ?_;clear gz Gz;ktn_end (λ σ G=>Same G10 G/\∃(f2:Addr) (ls:LI),G f2=some (.lst (ls.map V.int))/\(∀k,k∈ls ↔ k∈ks1/\∃M,Ms[k.toNat]?=some M/\M.length≤6/\z0e (M.map z1m)≤mo)/\σ=x3p kd dl sl mo si a pa k [some (.ref wl),some (.ref md),some (.ref f2),none])
 ·ktr_call z0b t0a;refine w5o hf1 (by lia) (λ k=>∃M,Ms[k.toNat]?=some M/\M.length≤6/\z0e (M.map z1m)≤mo) [some (.int mo),some (.ref md)] rfl (λ x y G Rt Rf hx u ht1 hf1=>?_) (λ ls G p u hp hk2 kl2=>hR _ _ ⟨u.trans (z0a hp _),p,ls,z0d,hk2,rfl⟩);kd_p;obtain ⟨j,rfl,jl,_⟩:=(hk1 x).mp hx;obtain ⟨pk,M,ek,eM,hMj⟩:=z6d (tq.same (s10.trans u)) jl;refine gz ?_;clear gz Gz;cell_end z0b t0a z6j;refine ⟨_,(s10.trans u) _ _ hmd,_,ek,_,rfl,_,.inr (.of hMj),?_⟩;rw [z0j];by_cases c6:M.length≤6
  ·rw [if_pos (by lia)];refine ⟨_,(s10.trans u) _ _ hmd,_,ek,pk,rfl,M,hMj,x3r (mb M (t0i eM)),by lia,λ G' u'=>?_⟩;split
   ·exact ht1 _ (u.trans u') ⟨M,eM,c6,‹_›⟩
   ·rename_i cw;exact hf1 _ (u.trans u') λ ⟨M2,e2,y1,y2⟩=>by rw [t1c] at e2;cases eM.symm.trans e2;exact cw y2
  ·rw [if_neg (by lia)];exact hf1 _ u λ ⟨M2,e2,y1,_⟩=>by rw [t1c] at e2;cases eM.symm.trans e2;exact c6 y1
 rintro σ11 G11 hz9;kd_p;obtain ⟨s11,f2,ls,hf2,hl,rfl⟩:=hz9;refine gz ?_;clear gz Gz;have t11:=t9.trans (s10.trans s11);have hA11:=(s10.trans s11) _ _ hA9;ktn_end (λ σ G=>G=G11/\0 < ls.length/\σ=x3p kd dl sl mo si a pa k [some (.ref wl),some (.ref md),some (.ref f2),none])
 ·ktr_call z0b t0a;refine ⟨_,.inl (.of hf2),?_⟩;rw [z0j];split
  ·exact ⟨smd,λ p hp=>⟨smd,λ p1 hp1=>q _ p1 (t11.trans ((z0a hp _).trans (z0a hp1 _))) ⟨p,pa,.flip a k,A,z0d,z0a hp1 _ _ _ z0d,z0a hp1 _ _ _ (z0a hp _ _ _ hA11),⟨eA,by unfold off;lia⟩,fA⟩⟩⟩
  ·exact hR _ _ ⟨rfl,by lia,rfl⟩
 rintro σ12 G12 ⟨rfl,l0,rfl⟩;ktn_end (λ σ G=>G=G12/\∃(b:Nat) (M:LI) (pm:Addr),b < Ms.length/\Ms[b]?=some M/\((kd=12/\0 < A.getD 0 0)\/¬M=[])/\M.length≤6/\z0e (M.map z1m)≤mo/\atI (qs.map V.ref) (b:Int)=some (.ref pm)/\Tp G pm M/\σ=x3p kd dl sl mo si a pa k [some (.ref wl),some (.ref md),some (.ref f2),some (.int (b:Int))])
 ·cell_end z0b t0a z3c;refine ⟨_,t11 _ _ hd,_,z0f (j:=2) rfl,ls,d2,rfl,hf2,l0,λ x hx=>?_⟩;kd_p;obtain ⟨xm,M,eM,m6,mw⟩:=(hl x).mp hx;obtain ⟨b,rfl,bl,hb⟩:=(hk1 x).mp xm;refine gz ?_;clear gz Gz;rw [t1c] at eM;kd_p;obtain ⟨pm,M',em,eM',hMb⟩:=z6d (tq.same (s10.trans s11)) bl;refine gz ?_;clear gz Gz;cases eM'.symm.trans eM;exact hR _ _ ⟨rfl,b,M,pm,bl,eM,hb.imp id λ ⟨M2,e2,z⟩=>by cases eM.symm.trans e2;exact z,m6,mw,em,hMb,rfl⟩
 rintro σ13 G13 hz9;kd_p;obtain ⟨rfl,b,M,pm,bl,eM,hb,m6,mw,em,hMb,rfl⟩:=hz9;refine gz ?_;clear gz Gz;have nb:=v2n hmo m6 mw;have fM:=y8g (λ n hn=>(mb M (t0i eM) n hn).1) m6 mw;have hmd13:=(s10.trans s11) _ _ hmd;ktn_end (λ σ G=>G=G13/\¬kd=11/\σ=x3p kd dl sl mo si a pa k [some (.ref wl),some (.ref md),some (.ref f2),some (.int (b:Int))])
 ·ktr_call z0b t0a;split;rotate_left
  ·exact hR _ _ ⟨rfl,‹_›,rfl⟩
  rename_i c11;have mne:¬M=[]:=hb.elim (λ z=>by lia) id
  obtain ⟨B,eB,rfl⟩:∃B,Ss[b]?=some B/\M=z9r A B k:=by
   rcases hM with ⟨_,rfl⟩ | ⟨z,_⟩ | ⟨z,_⟩
   ·rw [t0q] at eM
    cases hx:Ss[b]? with
    | none=>rw [hx] at eM;cases eM
    | some B=>rw [hx] at eM;cases eM;exact ⟨B,rfl,rfl⟩
   ·lia
   ·exact absurd c11 z
  obtain ⟨j1,j2,j3⟩:=x8b mne;exact ⟨smd,λ p hp=>⟨_,z0a hp _ _ _ hmd13,_,em,smd,λ p1 hp1=>q _ p1 (t11.trans ((z0a hp _).trans (z0a hp1 _))) ⟨p,pm,.join a b k,z9r A B k,z0d,z0a hp1 _ _ _ z0d,z0a hp1 _ _ _ (z0a hp _ _ _ hMb),⟨A,B,eA,eB,j1,by unfold off;lia,by rw [t1c];exact j2,by rw [← j3];exact nb,j3⟩,fM⟩⟩⟩
 rintro σ14 G14 ⟨rfl,n11,rfl⟩;ktr_call z0b t0a;have k12:kd=12:=by lia
 obtain ⟨n,r,rfl⟩:∃n r,A=n::r:=by
  match A,A0 with
  | n::r,_=>exact ⟨n,r,rfl⟩
 obtain ⟨B,n0,eB,rfl⟩:∃B,0 < n/\Ss[b]?=some B/\M=B++r:=by
  rcases hM with ⟨z,_⟩ | ⟨_,z,rfl⟩ | ⟨_,z,rfl⟩
  ·exact absurd z n11
  ·rw [t0q] at eM
   cases hx:Ss[b]? with
   | none=>rw [hx] at eM;cases eM
   | some B=>rw [hx] at eM;cases eM;exact ⟨B,z,rfl,rfl⟩
  ·rcases hb with y | y
   ·exact absurd y.2 z
   ·match b,eM with
    | 0,eM=>cases eM;exact absurd rfl y
 exact ⟨smd,λ p hp=>⟨_,z0a hp _ _ _ hmd13,_,em,smd,λ p1 hp1=>q _ p1 (t11.trans ((z0a hp _).trans (z0a hp1 _))) ⟨p,pm,.fetch a b,B++r,z0d,z0a hp1 _ _ _ z0d,z0a hp1 _ _ _ (z0a hp _ _ _ hMb),⟨n,r,B,eA,by lia,eB,nb,rfl⟩,fM⟩⟩⟩
theorem x5f (Y0:Cs Z0 76):ca (Cl Z0) 76:=kz3 Z0 Z0.g76 λ f fd F=>by
 have sc:=scq (z0h y9g) ["cell","sides","most"] ["n","kind","d","a"];kt_k
 ·exact el5 vs h λ _ _ _ _ _ _=>rfl
 refine el5 vs h λ sl cell mo ps Ss h=>an5 h λ hs ht hsd hmo q=>?_;refine ⟨_,(z1u 3 sc.nd (z0m z2l (z0m z5b (pv 0) z0c) z0c) (z1u 4 sc.nd (z0m z2d (pv 3) z0c) (z1u 5 sc.nd (z3i (z0i (z0m z2d (z0m z3o (pv 3) z0c) z0c) (z0v (z0m z2d (z0m z3o (pv 3) z0c) z0c) (z0m z3o (pv 3) z0c)))) (z1q (PW.pt (z5a (z1f z0z (z3k Z0.zlen (pv 1)) z0c) (z3m (z1f z6a (pv 4) z0c)))) (z1b (z1d (cc Y0 69) hr z0l (z0i (z0m z2d (pv 4) z0c) (z0i (pv 3) (z0v (pv 0) (pv 2)))))) (z1q (z1f z6a (pv 4) z0c) (z1b (z1d (cc Y0 71) hr z0l (z0i (pv 4) (z0v (pv 5) (pv 1))))) (z1q (PW.pt (y1d (z1f z8w (pv 4) z0c) (z7h (z1f z8w (z7o (w1p rfl) Z0.zmax t9q (z1o (z5y (own:=["own"]) rfl (z4h (pv 1)) (by decide) (by decide) rfl (by decide) (λ _ _ _ _=>(z6l 0 ["own"])) (λ _ _ _ _=>(z7o ((z8l (K:=K) rfl)) Z0.zlen t6y (z1o (pv 0))))))) z0c)))) (z1b (z1d (cc Y0 75) hr z0l (z0i (pv 4) (z0i (pv 5) (z0v (pv 1) (pv 2)))))) (z1u 6 sc.nd (z1d (cc Y0 68) hr z0l (z0v (z7z (z6s rfl) Z0.zlist s1g (z1o (z7z z7m Z0.zrange s1j (z1o (z3k Z0.zlen (pv 1)))))) (z0s z0k (pv 5) z0c))) (z1b (z1d (cc Y0 73) hr z0l (z0i (z7o (z4x rfl) Z0.zmin t9r (z0v (pv 4) (z0m z4e z0c (z7z x8a Z0.zint boot_int (z1o (z7j z8w (pv 4) z0c (z9m _))))))) (z0i (pv 5) (z0i (pv 6) (z0v (z0s z0k (pv 1) (pv 6)) (pv 2)))))))))))))),?_⟩
 (try dsimp only [z0t]);simp only [L2.start,t0h,t0j,List.replicate,t0k,t0m,Nat.reduceSub,Nat.reduceAdd,z2o,z2p]
 have n4:=hsd.1;ktn_end (λ σ G=>G=H/\∃n:Int,σ=[some (.int cell),some (.ref sl),some (.int mo),some (.int n),none,none,none])
 ·ktr_call z0b t0a;exact ⟨by lia,hR _ _ ⟨rfl,_,rfl⟩⟩
 rintro σ1 G1 ⟨rfl,n,rfl⟩;ktn_end (λ σ G=>G=G1/\∃kd:Int,0≤kd/\kd < 15/\σ=w6d cell sl mo n kd [none,none])
 ·ktr_call z0b t0a;exact hR _ _ ⟨rfl,_,by lia,by lia,rfl⟩
 rintro σ2 G2 hz9;kd_p;obtain ⟨rfl,kd,kd0,kd1,rfl⟩:=hz9;refine gz ?_;clear gz Gz;ktn_end (λ σ G=>Same G2 G/\∃(dl:Addr) (d0 d1 d2:Int),G dl=some (.lst [.int d0,.int d1,.int d2])/\σ=w6d cell sl mo n kd [some (.ref dl),none])
 ·ktr_call z0b t0a;exact ⟨smd,λ l hl=>hR _ _ ⟨z0a hl _,l,_,_,_,z0d,rfl⟩⟩
 rintro σ3 G3 hz9;kd_p;obtain ⟨s3,dl,d0,d1,d2,hd,rfl⟩:=hz9;refine gz ?_;clear gz Gz;have hs3:=s3 _ _ hs;have ht3:=ht.same s3;ktn_end (λ σ G=>G=G3/\0 < Ss.length/\3≤kd/\σ=w6d cell sl mo n kd [some (.ref dl),none])
 ·cell_end z0b t0a y2k;refine ⟨_,.inl (.of hs3),?_⟩;rw [t0c,ht.1];by_cases c:Ss.length=0
  ·rw [if_pos (by lia)];exact ⟨hmo,λ G r u h=>q _ r (s3.trans u) (h _)⟩
  ·rw [if_neg (by lia)];split
   ·exact ⟨hmo,λ G r u h=>q _ r (s3.trans u) (h _)⟩
   ·exact hR _ _ ⟨rfl,by lia,by lia,rfl⟩
 rintro σ4 G4 ⟨rfl,n0,kd3,rfl⟩;ktn_end (λ σ G=>G=G4/\σ=w6d cell sl mo n kd [some (.ref dl),none])
 ·cell_end z0b t0a y5b;split
  ·exact ⟨mo,d0,d1,d2,hd,ps,hs3,Ss,ht3,n0,hsd,λ G r u h=>q _ r (s3.trans u) h⟩
  ·exact hR _ _ ⟨rfl,rfl⟩
 rintro σ5 G5 ⟨rfl,rfl⟩;ktn_end (λ σ G=>Same G5 G/\σ=w6d cell sl mo n kd [some (.ref dl),none])
 ·cell_end z0b t0a w2m;by_cases c:10 < kd;rotate_left
  ·rw [if_neg (by lia)];exact hR _ _ ⟨Same.refl _,rfl⟩
  rw [if_pos (by lia)];refine CompL.mk (xs:=ps.map V.ref) (.of hs3) (λ i ys σ G=>G=G5/\i≤Ss.length/\ys=((Ss.take i).map (λ S=>(S.length:Int))).map V.int/\∃y,σ=[y]) ⟨rfl,t0x _,rfl,_,rfl⟩ (λ i ys σ G _ h=>by rw [h.1];exact .of hs3) (λ i x ys σ G e h=>?_) (λ ys σ G h p hp=>?_)
  ·kd_p;obtain ⟨rfl,hi,rfl,y,rfl⟩:=h;refine gz ?_;clear gz Gz
   obtain ⟨p,rfl,hp⟩:∃p,x=.ref p/\ps[i]?=some p:=by
    rw [t0q] at e
    cases hx:ps[i]? with
    | none=>rw [hx] at e;cases e
    | some n=>rw [hx] at e;cases e;exact ⟨n,rfl,rfl⟩
   have il:=(t0g.mp hp).1;obtain ⟨S,eS,hS⟩:=ht3.2 i p hp;have e1:((Ss.take (i+1)).map (λ S=>(S.length:Int))).map V.int=((Ss.take i).map (λ S=>(S.length:Int))).map V.int++[V.int (S.length:Int)]:=by rw [t1j,eS,t0l,t0l];rfl
   refine ⟨by rw [t0c,t0c,t0p];exact z0n (by lia),?_⟩;cell_end z0b t0a e1;refine ⟨_,.inr (.of hS),?_⟩;rw [z0j];exact ⟨by rw [ht.1] at il;exact il,rfl,_,rfl⟩
  ·kd_p;obtain ⟨rfl,hi,rfl,y,rfl⟩:=h;refine gz ?_;clear gz Gz;rw [t0c,ht.1,t1h];refine ⟨p,rfl,_,.of z0d,by rw [t0c];exact n0,λ M hM _=>?_⟩;split
   ·exact ⟨d0,d1,d2,z0a hp _ _ _ hd,ps,z0a hp _ _ _ hs3,Ss,ht3.same (z0a hp _),w5a hM (by lia),by lia,by lia,hsd,hmo,λ G r u h=>q _ r (s3.trans ((z0a hp _).trans u)) h⟩
   ·exact hR _ _ ⟨z0a hp _,rfl⟩
 rintro σ6 G6 ⟨s6,rfl⟩;ktn_end (λ σ G=>Same G6 G/\∃a:Nat,a < Ss.length/\σ=w6d cell sl mo n kd [some (.ref dl),some (.int (a:Int))])
 ·cell_end z0b t0a z3c;refine ⟨_,.inl (.of (s6 _ _ hs3)),λ r0 hr0=>⟨Ss.length,by rw [t0c,ht.1];rfl,by lia,λ l hl=>?_⟩⟩;have u:=(z0a hr0 (.rng 0 (((ps.map V.ref).length:Nat):Int))).trans (z0a hl (.lst ((upL Ss.length).map V.int)));refine ⟨_,u _ _ (s6 _ _ hd),_,z0f (j:=0) rfl,upL Ss.length,d0,rfl,rfl,by rw [z7r];exact n0,λ k hk=>?_⟩;obtain ⟨a,rfl,al⟩:=y2b hk;exact hR _ _ ⟨u,a,al,rfl⟩
 rintro σ7 G7 hz9;kd_p;obtain ⟨s7,a,al,rfl⟩:=hz9;have t7:=s6.trans s7;obtain ⟨pa,A,ea,eA,hA⟩:=z6d (ht3.same t7) al;refine gz ?_;clear gz Gz;cell_end z0b t0a y9b;exact .inr ⟨_,t7 _ _ hs3,_,ea,pa,mo,d0,d1,d2,a,rfl,rfl,rfl,t7 _ _ hd,A,hA,Ss,eA,hsd.2 _ (t0i eA),hmo,λ G r u h=>q _ r (s3.trans (t7.trans u)) h⟩
theorem y5w (Y0:Cs Z0 77):ca (Cl Z0) 77:=kz2 Z0 Z0.g77 λ f fd F=>by
 have sc:=scq (z0h y0y) ["cells","most"] ["steps","sides","cell","made","outs","n","k"];kt_k
 ·exact el3 vs h λ _ _ _ _=>rfl
 refine el3 vs h λ ca cs mo h=>an4 h λ hc c40 hmo q=>?_;refine ⟨_,(z1u 2 sc.nd (z3i z1j) (z1u 3 sc.nd (z3i z1j) (z0o (z3g t1u rfl (z4h (pv 0)) (z9p 4 sc.nd) (z1u 5 sc.nd (z1d (cc Y0 76) hr z0l (z0i (pv 4) (z0v (pv 3) (pv 1)))) (z0o (z1l (z5l (pv 2) (z0s z0g (pv 5) z0c))) (z0q (z1l (z5l (pv 3) (z0s z0g (pv 5) z0c))))))) (z1q (z1f z0z (z3k Z0.zlen (pv 2)) z0c) (z0o (z1l (z5l (pv 2) (z0r (z0v z0p z0c)))) (z0q (z1l (z5l (pv 3) (z0r z1j))))) (z1u 6 sc.nd (z3i z1j) (z1u 7 sc.nd (z0m z2l (z0m z5b (z7o (y6l rfl) Z0.zsum boot_sum (z1o (pv 0))) z0c) z0c) (z0o (z3g t1u rfl (z2j (by rfl) Z0.zrange (z1o (z0s z0k (z3i (z0i z0c (z0i z0c (z0i z0c (z0i z0c (z0v z0c z0c)))))) (z0m z2d (pv 7) z0c)))) (z9p 8 sc.nd) (z1u 7 sc.nd (z0m z2l (z0m z2g (z0m z5b (pv 7) z0c) z0c) z0c) (z0q (z1l (z5l (pv 6) (z0m z2l (z0m z3o (pv 7) z0c) (z3k Z0.zlen (pv 2)))))))) (z0o (w2x (z0m z4e (z3k Z0.zlen (pv 2)) z0c) (w8m (pv 6) (z0m z2l (pv 7) (z3k Z0.zlen (pv 6))) x9g)) (z1b (z0r (z0i (z7z z1a Z0.ztuple t2g (z1o (pv 2))) (z0v (z7z z1a Z0.ztuple t2g (z1o (pv 6))) (pv 3))))))))))))),?_⟩
 (try dsimp only [z0t]);simp only [L2.start,t0h,t0j,List.replicate,t0k,t0m,Nat.reduceSub,Nat.reduceAdd,z2o,z2p]
 ktn_end (λ σ G=>∃st,Same H G/\H st=none/\G st=some (.lst [])/\σ=[some (.ref ca),some (.int mo),some (.ref st),none,none,none,none,none,none])
 ·ktr_call z0b t0a;exact ⟨t0x _,λ l hl=>hR _ _ ⟨l,z0a hl _,hl,z0d,rfl⟩⟩
 rintro σ1 G1 hz9;kd_p;obtain ⟨st,s1,st0,hst,rfl⟩:=hz9;refine gz ?_;clear gz Gz;ktn_end (λ σ G=>∃sl,Same H G/\H sl=none/\st≠sl/\G st=some (.lst [])/\G sl=some (.lst [])/\σ=x3o ca mo st sl [none,none,none,none,none])
 ·ktr_call z0b t0a;exact ⟨t0x _,λ l hl=>hR _ _ ⟨l,s1.trans (z0a hl _),z7y s1 hl,(λ z=>by rw [z,hl] at hst;cases hst),z0a hl _ _ _ hst,z0d,rfl⟩⟩
 rintro σ2 G2 hz9;kd_p;obtain ⟨sl,s2,sl0,ne,hst,hsl,rfl⟩:=hz9;refine gz ?_;clear gz Gz;ktn_end (λ σ G=>∃(qs ps:List Addr) (ds:List Stp) (Ss:LL) (y4 y5:Option V),Same H G/\G st=some (.lst (qs.map V.ref))/\G sl=some (.lst (ps.map V.ref))/\StL G qs ds/\TpsM G ps Ss/\z9s mo ds Ss/\ds.length=cs.length/\σ=x3o ca mo st sl [y4,y5,none,none,none])
 ·wp_walk using z0b,z9t,eqV,t0a;obtain ⟨J,hJ⟩:∃J:Nat->L2.St->Hp->Prop,J=(λ i σ G=>∃(qs ps:List Addr) (ds:List Stp) (Ss:LL) (y4 y5:Option V),Same H G/\G st=some (.lst (qs.map V.ref))/\G sl=some (.lst (ps.map V.ref))/\StL G qs ds/\TpsM G ps Ss/\z9s mo ds Ss/\ds.length=i/\i≤cs.length/\σ=x3o ca mo st sl [y4,y5,none,none,none]):=⟨_,rfl⟩;refine LoopL.mk (xs:=cs.map V.int) (.of (s2 _ _ hc)) J (by rw [hJ];exact ⟨[],[],[],[],_,_,s2,hst,hsl,⟨rfl,λ i p e=>nomatch e⟩,⟨rfl,λ i p e=>nomatch e⟩,x0j mo,rfl,t0x _,rfl⟩) (λ i σ G _ h=>by rw [hJ] at h;obtain ⟨_,_,_,_,_,_,s,_⟩:=h;exact .of (s _ _ hc)) (λ i x σ G0 e h=>?_) (λ σ G h=>?_);rotate_left
  ·rw [hJ] at h;kd_p;obtain ⟨qs,ps,ds,Ss,y4,y5,s,h1,h2,h3,h4,h5,dl,_,rfl⟩:=h;refine gz ?_;clear gz Gz;rw [z0j] at dl;exact hR _ _ ⟨qs,ps,ds,Ss,_,_,s,h1,h2,h3,h4,h5,dl,rfl⟩
  clear hR;rw [hJ] at h;kd_p;obtain ⟨qs,ps,ds,Ss,y4,y5,s,h1,h2,h3,h4,h5,dl,di,rfl⟩:=h;obtain ⟨c,rfl,hc'⟩:=z3q e;refine gz ?_;clear gz Gz;have il:=(t0g.mp hc').1;simp only [z6w,t5g,t5f];ktn_end (λ σ G=>Same G0 G/\∃r,y3h G r mo Ss/\σ=x3o ca mo st sl [some (.int c),some (.ref r),none,none,none])
  ·cell_end z0b t0a x3b;exact ⟨ps,h2,Ss,h4,⟨by rw [← h5.1];lia,h5.2.1⟩,hmo,λ G r u h=>hR _ _ ⟨u,r,h,rfl⟩⟩
  rintro σ1' G1' hz9;kd_p;obtain ⟨u1,r,⟨p,b,d,S,hr1,hd,hb,ok,fs⟩,rfl⟩:=hz9;refine gz ?_;clear gz Gz;have h1':=u1 _ _ h1;have h2':=u1 _ _ h2;have ql:qs.length=i:=by rw [h3.1,dl]
  have pl:ps.length=i:=by rw [h4.1,← h5.1,dl]
  ktn_end (λ σ G=>Same H G/\UpT G1' G/\G st=some (.lst ((qs++[p]).map V.ref))/\G sl=some (.lst (ps.map V.ref))/\σ=x3o ca mo st sl [some (.int c),some (.ref r),none,none,none])
  ·ktr_call z0b t0a;refine ⟨⟨_,h1'⟩,_,hr1,_,z0f (j:=0) rfl,_,h1',by rw [t0c,ql];exact z0n (by lia),hR _ _ ⟨z3z (s.trans u1) st0,z7q h1',by rw [z0d,t0l];rfl,by rw [z0u (t3z ne)];exact h2',rfl⟩⟩
  rintro σ2' G2' hz9;kd_p;obtain ⟨s2',up2,h1'',h2'',rfl⟩:=hz9;refine gz ?_;clear gz Gz;ktr_call z0b t0a;refine ⟨⟨_,h2''⟩,_,up2.1 _ _ hr1,_,z0f (j:=1) rfl,_,h2'',by rw [t0c,pl];exact z0n (by lia),?_⟩;have up3:=up2.trans (z7q (ys:=ps.map V.ref++[V.ref b]) h2'');rw [hJ];exact ⟨qs++[p],ps++[b],ds++[d],Ss++[S],_,_,z3z s2' sl0,by rw [z0u ne];exact h1'',by rw [z0d,t0l];rfl,(h3.up ((z7g u1).trans up3)).snoc (hd.up up3),(h4.up ((z7g u1).trans up3)).snoc (up3.1 _ _ hb),y6f h5 ok fs,by rw [t0o,dl];rfl,il,rfl⟩
 rintro σ3 G3 hz9;kd_p;obtain ⟨qs,ps,ds,Ss,y4,y5,s3,h1,h2,h3,h4,h5,dl,rfl⟩:=hz9;refine gz ?_;clear gz Gz;ktn_end (λ σ G=>∃(qs ps:List Addr) (ds:List Stp) (Ss:LL),Same H G/\G st=some (.lst (qs.map V.ref))/\G sl=some (.lst (ps.map V.ref))/\StL G qs ds/\TpsM G ps Ss/\z9s mo ds Ss/\0 < ds.length/\ds.length≤40/\σ=x3o ca mo st sl [y4,y5,none,none,none])
 ·ktr_call z0b t0a;refine ⟨_,.inl (.of h1),?_⟩;rw [t0c,h3.1];by_cases c:ds.length=0;rotate_left
  ·rw [if_neg (by lia)];exact hR _ _ ⟨qs,ps,ds,Ss,s3,h1,h2,h3,h4,h5,by lia,by lia,rfl⟩
  rw [if_pos (by lia)];have e1:ds=[]:=t5b.mp c;have e2:Ss=[]:=t5b.mp (by rw [← h5.1];exact c);have e3:qs=[]:=t5b.mp (by rw [h3.1];exact c);have e4:ps=[]:=t5b.mp (by rw [h4.1,e2];rfl);subst e1 e2 e3 e4;refine ⟨⟨_,h1⟩,smd,λ p hp=>⟨_,z0a hp _ _ _ h1,t3k (t0x _) (z0n (t0n _)),?_⟩⟩;have h2p:=z0a hp (.tup [V.str "num",V.int 0]) _ _ h2;have up1:=z7q (ys:=List.map V.ref []++[V.ref p]) (z0a hp (.tup [V.str "num",V.int 0]) _ _ h1);have hsl1:upd (upd G3 p (.tup [V.str "num",V.int 0])) st (.lst (List.map V.ref []++[V.ref p])) sl=some (.lst (List.map V.ref [])):=by rw [z0u (t3z ne)];exact h2p
  refine ⟨⟨_,hsl1⟩,t0x _,λ p1 hp1=>⟨_,z0a hp1 _ _ _ hsl1,t3k (t0x _) (z0n (t0n _)),?_⟩⟩;have up2:=z7q (ys:=List.map V.ref []++[V.ref p1]) (z0a hp1 (.tup []) _ _ hsl1);refine hR _ _ ⟨[p],[p1],[.num 0],[[]],z3z ((z3z (s3.trans (z0a hp _)) st0).trans (z0a hp1 _)) sl0,by rw [z0u ne];exact z0a hp1 _ _ _ z0d,z0d,?_,?_,y6f (x0j mo) (d:=.num 0) (S:=[]) rfl (y0h hmo),t5s _,t3u (t0x _),rfl⟩
  ·exact StL.snoc (qs:=[]) (ds:=[]) ⟨rfl,λ i p e=>nomatch e⟩ (up2.1 _ _ (z0a hp1 _ _ _ (up1.1 _ _ z0d)))
  ·exact TpsM.snoc (ps:=[]) (Ss:=[]) ⟨rfl,λ i p e=>nomatch e⟩ (up2.1 _ _ z0d)
 rintro σ4 G4 hz9;kd_p;obtain ⟨qs,ps,ds,Ss,s4,h1,h2,h3,h4,h5,d0,d40,rfl⟩:=hz9;refine gz ?_;clear gz Gz;ktn_end (λ σ G=>∃ou,Same G4 G/\G4 ou=none/\G ou=some (.lst [])/\σ=x3o ca mo st sl [y4,y5,some (.ref ou),none,none])
 ·ktr_call z0b t0a;exact ⟨t0x _,λ l hl=>hR _ _ ⟨l,z0a hl _,hl,z0d,rfl⟩⟩
 rintro σ5 G5 hz9;kd_p;obtain ⟨ou,s5,ou0,hou,rfl⟩:=hz9;refine gz ?_;clear gz Gz;ktn_end (λ σ G=>G=G5/\∃n:Int,σ=x3o ca mo st sl [y4,y5,some (.ref ou),some (.int n),none])
 ·ktr_call z0b t0a;exact ⟨cs,.of ((s4.trans s5) _ _ hc),by lia,hR _ _ ⟨rfl,_,rfl⟩⟩
 rintro σ6 G6 ⟨rfl,n,rfl⟩;ktn_end (λ σ G=>∃(os:LI) (n:Int) (y8:Option V),Same G4 G/\G ou=some (.lst (os.map V.int))/\0 < os.length/\os.length≤8/\(∀o∈os,0≤o/\o < (ds.length:Int))/\σ=x3o ca mo st sl [y4,y5,some (.ref ou),some (.int n),y8])
 ·wp_walk using z0b,z9t,eqV,t0a;obtain ⟨x,hx,x1,x8⟩:=w7o (n % 6) (by lia) (by lia);refine ⟨smd,λ l hl=>⟨_,hx,_,rfl,by lia,by lia,?_⟩⟩;obtain ⟨J,hJ⟩:∃J:Nat->L2.St->Hp->Prop,J=(λ i σ G=>∃(os:LI) (n:Int) (y8:Option V),Same G4 G/\G ou=some (.lst (os.map V.int))/\os.length=i/\(∀o∈os,0≤o/\o < (ds.length:Int))/\σ=x3o ca mo st sl [y4,y5,some (.ref ou),some (.int n),y8]):=⟨_,rfl⟩;refine LoopR.mk J (by rw [hJ];exact ⟨[],n,_,s5.trans (z0a hl _),z0a hl _ _ _ hou,rfl,(λ o ho=>nomatch ho),rfl⟩) (λ i σ G0 hi h=>?_) (λ σ G h=>?_);rotate_left
  ·rw [hJ] at h;kd_p;obtain ⟨os,n',y8,s,h6,ol,hb,rfl⟩:=h;refine gz ?_;clear gz Gz;exact hR _ _ ⟨os,n',_,s,h6,by lia,by lia,hb,rfl⟩
  rw [hJ] at h;kd_p;obtain ⟨os,n',y8,s,h6,ol,hb,rfl⟩:=h;refine gz ?_;clear gz Gz;ktr_call z0b t0a;refine ⟨by lia,⟨_,h6⟩,_,.inl (.of (s _ _ h1)),?_⟩;rw [t0c,h3.1];refine ⟨by lia,_,h6,by rw [t0c];exact z0n (by lia),?_⟩;rw [hJ];generalize ((n' * 48271+11).fmod 2147483647) / 16=z at *;have f0:=t1m z (show (0:Int) < (ds.length:Int) by lia);have f1:=t2c z (show (0:Int) < (ds.length:Int) by lia);refine ⟨os++[z.fmod ds.length],_,_,z3z s ou0,by rw [z0d,t0l];rfl,by rw [t0o,ol];rfl,λ o ho=>?_,rfl⟩
  rcases t1n.mp ho with y | y
  ·exact hb o y
  ·cases t0v.mp y;exact ⟨f0,f1⟩
 rintro σ7 G7 hz9;kd_p;obtain ⟨os,n,y8,s7,hou,o0,o8,hb,rfl⟩:=hz9;refine gz ?_;clear gz Gz;ktn_end (λ σ G=>∃os:LI,Same G4 G/\G ou=some (.lst (os.map V.int))/\0 < os.length/\os.length≤8/\(∀o∈os,0≤o/\o < (ds.length:Int))/\σ=x3o ca mo st sl [y4,y5,some (.ref ou),some (.int n),y8])
 ·ktr_call z0b t0a;refine ⟨_,.inl (.of (s7 _ _ h1)),?_⟩;rw [t0c,h3.1];refine ⟨_,.inl (.of hou),?_⟩;rw [z0j];have f0:=t1m n (show (0:Int) < (os.length:Int) by lia);have f1:=t2c n (show (0:Int) < (os.length:Int) by lia);obtain ⟨j,hj⟩:∃j:Nat,n.fmod (os.length:Int)=j:=⟨_,(t2m f0).symm⟩;rw [hj] at f1 ⊢;exact ⟨by lia,_,hou,j,w9y (by rw [z0j];lia),hR _ _ ⟨os.set j ((ds.length:Int) - 1),z3z s7 ou0,by rw [z0d,List.map_set],by rw [t2y];exact o0,by rw [t2y];exact o8,x9v hb d0,rfl⟩⟩
 rintro σ8 G8 hz9;kd_p;obtain ⟨os,s8,hou,o0,o8,hb,rfl⟩:=hz9;refine gz ?_;clear gz Gz;ktr_call z0b t0a
 exact ⟨_,.inl ⟨.of (s8 _ _ h1),λ t1 ht1=>⟨_,.inl ⟨.of (z0a ht1 _ _ _ hou),λ t2 ht2=>⟨smd,λ p hp=>by
  have u:=(z0a ht1 (.tup (qs.map V.ref))).trans ((z0a ht2 (.tup (os.map V.int))).trans (z0a hp (.tup [V.ref t1,V.ref t2,V.ref sl])));have t8:=s8.trans u
  exact q _ p ds Ss os (s4.trans t8) ⟨t1,t2,sl,qs,ps,z0d,z0a hp _ _ _ (z0a ht2 _ _ _ z0d),h3.up (z7g t8),z0a hp _ _ _ z0d,t8 _ _ h2,h4.same t8,h5,d0,d40,o0,o8,hb⟩⟩⟩⟩⟩⟩
theorem y7q (Y0:Cs Z0 78):ca (Cl Z0) 78:=kz2 Z0 Z0.g78 λ f fd F=>by
 have sc:=scq (z0h y2q) ["cells","steps"] ["made","n","step","row","k","lap","told"];kt_k
 ·exact el7 vs h λ _ _ _ _ _ _ _ _=>rfl
 refine el7 vs h λ a st cs qs ds Ss mo h=>an8 h λ hS c63 hst sl gl hmo d40 q=>?_;refine ⟨_,(z1u 2 sc.nd (z3i z1j) (z1u 3 sc.nd z0c (z0o (z3g t1u rfl (z4m (pv 1)) (z9p 4 sc.nd) (z0q (z9q (z1f z0z (z0s z0g (pv 4) z0c) z0p) (z1u 5 sc.nd (z3i z1j) (z0o (z3g t1u rfl (z2j (by rfl) Z0.zrange (z1o (z1d (cc Y0 65) hr z0l (z1o (z0s z0g (pv 4) z0c))))) (z9p 6 sc.nd) (z1u 7 sc.nd (z0m z3o (pv 3) (z7o (z6r rfl) Z0.zmax t9q (z0v z0c (z3k Z0.zlen (pv 0))))) (z1u 8 sc.nd (z0m z2g (z0m z5b (z0m z5b (pv 7) (pv 7)) z0c) (z0m z5b (pv 7) (pv 3))) (z1q (z1f z8w (z3k Z0.zlen (pv 0)) z0c) (z0q (y4r 8 sc.nd (z0m z2g (pv 8) (z0s y4l (pv 0) (z0m z2l (pv 3) (z3k Z0.zlen (pv 0))))))) (z0o (z1l (z5l (pv 5) (z1d (cc Y0 67) hr z0l (z1o (pv 8))))) (z0q (y4r 3 sc.nd (z0m z2g (pv 3) z0c)))))))) (z0q (z1l (z5l (pv 2) (z0r (z0v (z0s z0g (pv 4) z0c) (z7z ((z2z (K:=K) rfl)) Z0.ztuple t2g (z1o (pv 5)))))))))) z5x))) (z1b (z7z z1a Z0.ztuple t2g (z1o (pv 2))))))),?_⟩
 (try dsimp only [z0t]);simp only [L2.start,t0h,t0j,List.replicate,t0k,t0m,Nat.reduceSub,Nat.reduceAdd,z2o,z2p]
 ktn_end (λ σ G=>∃md,Same H G/\H md=none/\G md=some (.lst [])/\σ=[some (.ref a),some (.ref st),some (.ref md),none,none,none,none,none,none])
 ·ktr_call z0b t0a;exact ⟨t0x _,λ l hl=>hR _ _ ⟨l,z0a hl _,hl,z0d,rfl⟩⟩
 rintro σ1 G1 hz9;kd_p;obtain ⟨md,s1,md0,hmd,rfl⟩:=hz9;refine gz ?_;clear gz Gz;ktn_end (λ σ G=>G=G1/\σ=[some (.ref a),some (.ref st),some (.ref md),some (.int 0),none,none,none,none,none])
 ·ktr_call z0b t0a;exact hR _ _ ⟨rfl,rfl⟩
 rintro σ2 G2 ⟨rfl,rfl⟩;ktn_end (λ σ G=>∃(is:List Addr) (Is:List Tb) (y3 y4 y5 y6 y7 y8:Option V),Same H G/\G md=some (.lst (is.map V.ref))/\TbsL G is Is/\Is.map (·.1)=z5o ds/\(∀T∈Is,TbG mo T)/\σ=[some (.ref a),some (.ref st),some (.ref md),y3,y4,y5,y6,y7,y8])
 ·wp_walk using z0b,z9t,eqV,t0a;obtain ⟨J,hJ⟩:∃J:Nat->L2.St->Hp->Prop,J=(λ i σ G=>∃(is:List Addr) (Is:List Tb) (n:Int) (y4 y5 y6 y7 y8:Option V),Same H G/\G md=some (.lst (is.map V.ref))/\TbsL G is Is/\Is.map (·.1)=z5o (ds.take i)/\(∀T∈Is,TbG mo T)/\0≤n/\n≤512 * i/\i≤ds.length/\σ=[some (.ref a),some (.ref st),some (.ref md),some (.int n),y4,y5,y6,y7,y8]):=⟨_,rfl⟩;refine LoopT.mk (xs:=qs.map V.ref) (.of (s1 _ _ hst)) J (by rw [hJ];exact ⟨[],[],0,_,_,_,_,_,s1,hmd,⟨rfl,λ i p e=>nomatch e⟩,rfl,(λ _ h=>nomatch h),by decide,by decide,t0x _,rfl⟩) (λ i σ G _ h=>by rw [hJ] at h;obtain ⟨_,_,_,_,_,_,_,_,s,_⟩:=h;exact .of (s _ _ hst)) (λ i x σ G0 e h=>?_) (λ σ G h=>?_);rotate_left
  ·rw [hJ] at h;kd_p;obtain ⟨is,Is,n,y4,y5,y6,y7,y8,s,h1,h2,h3,h4,_,_,_,rfl⟩:=h;refine gz ?_;clear gz Gz;rw [t0c,sl.1,t1h] at h3;exact hR _ _ ⟨is,Is,_,_,_,_,_,_,s,h1,h2,h3,h4,rfl⟩
  clear hR;rw [hJ] at h;kd_p;obtain ⟨is,Is,n,y4,y5,y6,y7,y8,s,h1,h2,h3,h4,n0,n1,hi,rfl⟩:=h;obtain ⟨p,rfl,hp⟩:=y1c e;obtain ⟨d,ed,hd⟩:=sl.2 i p hp;refine gz ?_;clear gz Gz;have idl:=(t0g.mp ed).1;have il:i < Ss.length:=by rw [← gl.1];exact idl
  have eS:=t0e il;generalize Ss[i]=S at eS;have ok:=gl.2.2 i d S ed eS;have fs:=gl.2.1 S (t0i eS);kd_p;obtain ⟨xs,hp',h0,_,_⟩:=z3l hd;refine gz ?_;clear gz Gz
  have isl:is.length≤i:=by
   have:=x0i (ds.take i);rw [← h3,t0c,← h2.1,t0p] at this;lia
  wp_walk using z0b,z9t,eqV,t0a;refine ⟨_,s _ _ hp',_,z0f (j:=0) h0,rfl,?_⟩;by_cases c:kdN d=0;rotate_left
  ·rw [if_neg (show ¬V.str (z0w (kdN d))=V.str "in" from y6d 0 (z2m d) (by decide) c),hJ];exact ⟨is,Is,n,_,_,_,_,_,s,h1,h2,by rw [z4r ed,x0h c];simpa using h3,h4,n0,by lia,idl,rfl⟩
  rw [if_pos (show V.str (z0w (kdN d))=V.str "in" by rw [c];rfl)];obtain ⟨ms,rfl⟩:=y6e c;obtain ⟨b,hp1,hb⟩:=hd;have eSm:=ok.1;subst eSm;have sd:=z2q (z3a fs hmo);have pz:=z8t (z4i fs);have pA:=z1e (z4i fs);have p5:=(z3a fs hmo).2.2.2;ktn_end (λ σ G=>∃rw,Same G0 G/\G0 rw=none/\G rw=some (.lst [])/\σ=[some (.ref a),some (.ref st),some (.ref md),some (.int n),some (.ref p),some (.ref rw),y6,y7,y8])
  ·ktr_call z0b t0a;exact ⟨t0x _,λ l hl=>hR _ _ ⟨l,z0a hl _,hl,z0d,rfl⟩⟩
  rintro σ3 G3 hz9;kd_p;obtain ⟨rw,s3,rw0,hrw,rfl⟩:=hz9;refine gz ?_;clear gz Gz;have s4:=s.trans s3;have rw1:=z7y s rw0;have rm:rw≠md:=λ z=>by rw [z,h1] at rw0;cases rw0
  ktn_end (λ σ G=>∃(ns:LI) (y6 y7 y8:Option V),Same G0 G/\(ns.length:Int)=z0e S/\(∀c∈ns,inB c)/\G rw=some (.lst (ns.map V.int))/\σ=[some (.ref a),some (.ref st),some (.ref md),some (.int (n+z0e S)),some (.ref p),some (.ref rw),y6,y7,y8])
  ·wp_walk using z0b,z9t,eqV,t0a,z6k;refine ⟨_,s4 _ _ hp1,_,z0f (j:=1) rfl,b,rfl,S,.inr (s4 _ _ hb),sd,by lia,by lia,?_⟩;refine LoopR.mk (λ k σ G=>∃(ns:LI) (y6 y7 y8:Option V),Same G0 G/\ns.length=k/\(∀c∈ns,inB c)/\G rw=some (.lst (ns.map V.int))/\σ=[some (.ref a),some (.ref st),some (.ref md),some (.int (n+(k:Int))),some (.ref p),some (.ref rw),y6,y7,y8]) ⟨[],_,_,_,s3,rfl,(λ _ h=>nomatch h),hrw,by rw [show ((0:Nat):Int)=0 from rfl,Int.add_zero]⟩ (λ k σ G hk h=>?_) (λ σ G h=>?_);rotate_left
   ·kd_p;obtain ⟨ns,y6,y7,y8,s',nl,nb,hns,rfl⟩:=h;refine gz ?_;clear gz Gz;have e:((z0e S).toNat:Int)=z0e S:=t2m pz;rw [e] at *;exact hR _ _ ⟨ns,_,_,_,s',by lia,nb,hns,rfl⟩
   kd_p;obtain ⟨ns,y6,y7,y8,s',nl,nb,hns,rfl⟩:=h;have hS':=(s.trans s').seq hS;obtain ⟨m,em⟩:∃m,n+(k:Int)=m:=⟨_,rfl⟩;refine gz ?_;clear gz Gz;have em1:n+((k+1:Nat):Int)=m+1:=by lia
   have nk:m≤30000:=by lia
   have nk0:0≤m:=by lia
   simp only [em,em1];cell_end z0b t0a z7e;refine ⟨cs.map V.int,.inl hS',?_⟩;obtain ⟨z,ez⟩:∃z:Int,(if ((cs.map V.int).length:Int) > 1 then ((cs.map V.int).length:Int) else 1)=z:=⟨_,rfl⟩;have z0:0 < z/\z≤63:=by rw [t0c] at ez;split at ez<;>lia
   simp only [ez];have lz:0≤m / z:=t9n nk0 (by lia);have lz1:m / z≤m:=t7j _ nk0;obtain ⟨lp,el⟩:∃lp,m / z=lp:=⟨_,rfl⟩;rw [el] at lz lz1;simp only [el];refine ⟨by lia,by lia,.inl ⟨by lia,by lia⟩,.inl ⟨by lia,by lia⟩,cs.map V.int,.inl hS',?_⟩;have nx:∀v:Int,(∃xs,G rw=some (.lst xs))/\∀H',Same G H'->∃xs,H' rw=some (.lst xs)/\xs.length < sizeLine/\Same G0 (upd H' rw (.lst (xs++[V.int (w4v v)])))/\∃x:LI,x.length=k+1/\(∀c∈x,inB c)/\xs++[V.int (w4v v)]=x.map V.int/\∃y,some (V.int v)=y:=λ v=>⟨⟨_,hns⟩,λ H' u=>⟨_,u _ _ hns,by rw [t0c,nl];exact z0n (by lia),z3z (s'.trans u) rw0,ns++[w4v v],by rw [t0o,nl];rfl,λ c hc=>(t1n.mp hc).elim (nb c) (λ y=>by cases t0v.mp y;exact w9i v),by rw [t0l];rfl,_,rfl⟩⟩;by_cases c0:0 < cs.length
   ·rw [if_pos (by rw [t0c];lia)];have hm:m.fmod ((cs.map V.int).length:Int)=((m % (cs.length:Int)).toNat:Int):=by rw [t0c,t4f _ (by lia),t2m (t6j _ (by lia))]
    have jl:(m % (cs.length:Int)).toNat < cs.length:=by
     have:=t6k m (show (0:Int) < cs.length by lia);have:=t6j m (show (cs.length:Int)≠0 by lia);lia
    exact ⟨cs.map V.int,.inl hS',by rw [t0c];lia,_,hS',_,by rw [hm];exact z0f (v:=V.int cs[(m % (cs.length:Int)).toNat]) (by rw [t0q,t0e jl];rfl),_,rfl,nx _⟩
   ·rw [if_neg (by rw [t0c];lia)];exact nx _
  rintro σ5 G5 hz9;kd_p;obtain ⟨ns,y6,y7,y8,s5,nl,nb,hns,rfl⟩:=hz9;refine gz ?_;clear gz Gz;have t5:=s.trans s5;have hm5:=s5 _ _ h1;ktr_call z0b t0a;refine ⟨⟨_,hm5⟩,_,t5 _ _ hp1,_,z0f (j:=1) rfl,_,.inl ⟨.of hns,λ t ht=>⟨smd,λ pt hpt=>⟨_,z0a hpt _ _ _ (z0a ht _ _ _ hm5),by rw [t0c];exact z0n (by lia),?_⟩⟩⟩⟩;have v:=(z0a ht (.tup (ns.map V.int))).trans (z0a hpt (.tup [V.ref b,V.ref t]));have hmv:=v _ _ hm5;have up:=z7q (ys:=is.map V.ref++[V.ref pt]) hmv;rw [hJ];refine ⟨is++[pt],Is++[(S,ns)],n+z0e S,_,_,_,_,_,z3z (t5.trans v) md0,by rw [z0d,t0l];rfl,(h2.up ((z7g (s5.trans v)).trans up)).snoc ⟨b,t,up.1 _ _ z0d,up.1 _ _ (v _ _ (t5 _ _ hb)),up.1 _ _ (z0a hpt _ _ _ z0d)⟩,by rw [t0l,h3,z4r ed];rfl,λ T hT=>?_,by lia,by lia,idl,rfl⟩
  rcases t1n.mp hT with y | y
  ·exact h4 T y
  ·cases t0v.mp y;exact ⟨fs,nl,nb⟩
 rintro σ3 G3 hz9;kd_p;obtain ⟨is,Is,y3,y4,y5,y6,y7,y8,s3,h1,h2,h3,h4,rfl⟩:=hz9;refine gz ?_;clear gz Gz;ktr_call z0b t0a;exact ⟨_,.inl ⟨.of h1,λ t1 ht1=>q _ t1 is Is (s3.trans (z0a ht1 _)) z0d (h2.sm (.of (z0a ht1 _))) h3 h4⟩⟩
theorem x1n (Y0:Cs Z0 79):ca (Cl Z0) 79:=kz2 Z0 Z0.g79 λ f fd F=>by
 have sc:=scq (z0h y5l) ["found","sides"] ["n"];kt_k
 ·obtain ⟨f,s,S,C,rfl,_⟩:=h;rfl
 obtain ⟨f,s,S,C,rfl,⟨b,c,hf,hb,hc⟩,hs,fs,cl,cb,q⟩:=h;refine ⟨_,(z1q (PW.pt (z5a (z6f (z4l (z7o z5n Z0.zisinstance t4v (z0v (pv 0) (z7k (v:=.ty "tuple") (by rfl) Z0.ztuple t2g rfl))))) (z5a (z1f z8g (z3k Z0.zlen (pv 0)) z0c) (z3m (z6f (z4l (z1d (cc Y0 64) hr z0l (z0v (z0s z0g (pv 0) z0c) (pv 1))))))))) (z1b z8v) (z1q (PW.pt (z5a (z6f (z4l (z7o z5n Z0.zisinstance t4v (z0v (z0s z0g (pv 0) z0c) (z7k (v:=.ty "tuple") (by rfl) Z0.ztuple t2g rfl))))) (z3m (z1f z8g (z3k Z0.zlen (z0s z0g (pv 0) z0c)) (z1d (cc Y0 65) hr z0l (z1o (pv 1))))))) (z1b z8v) (z0o (z3g t1u rfl (z4m (z0s z0g (pv 0) z0c)) (z9p 2 sc.nd) (z0q (z9q (PW.pt (z5a (z6f (z4l (z1d (cc Y0 62) hr z0l (z1o (pv 2))))) (z5a (z1f z6a (pv 2) (x1f y2c (z0m z8f z0c z0c))) (z3m (z1f z8w (pv 2) (z0m z4e (z0m z8f z0c z0c) z0c)))))) (z1b z8v) z5x))) (z1b z8v)))),?_⟩
 (try dsimp only [z0t]);simp only [L2.start,t0h,t0j,List.replicate,t0k,t0m,Nat.reduceSub,Nat.reduceAdd,z2o,z2p]
 have sd:=z2q fs;have s6:=fs.2.1;ktn_end (λ σ G=>G=H/\σ=[some (.ref f),some (.ref s),none])
 ·cell_end z0b t0a z9f;refine ⟨_,hf,_,.inr (.of hf),?_⟩;rw [if_neg (λ z=>z rfl)];exact ⟨_,hf,_,z0f (j:=0) rfl,b,rfl,S,hb,.inr hs,by lia,hR _ _ ⟨rfl,rfl⟩⟩
 rintro σ1 G1 ⟨rfl,rfl⟩;ktn_end (λ σ G=>G=G1/\σ=[some (.ref f),some (.ref s),none])
 ·cell_end z0b t0a z6k;refine ⟨_,hf,_,z0f (j:=1) rfl,c,rfl,_,hc,_,hf,_,z0f (j:=1) rfl,c,rfl,_,.inr (.of hc),S,.inr hs,sd,?_⟩;rw [t0c,cl,if_neg (λ z=>z rfl)];exact hR _ _ ⟨rfl,rfl⟩
 rintro σ2 G2 ⟨rfl,rfl⟩;ktn_end (λ σ G=>G=G2)
 ·ktr_call z0b t0a;refine ⟨_,hf,_,z0f (j:=1) rfl,?_⟩;refine LoopT.mk (xs:=C.map V.int) (.of hc) (λ i σ G=>G=G2/\∃y,σ=[some (.ref f),some (.ref s),y]) ⟨rfl,_,rfl⟩ (λ i σ G _ h=>by rw [h.1];exact .of hc) (λ i x σ G e h=>?_) (λ σ G h=>?_)
  ·kd_p;obtain ⟨rfl,y,rfl⟩:=h;obtain ⟨n,rfl,hn⟩:=z3q e;refine gz ?_;clear gz Gz;have bn:=cb n (t0i hn);have b1:=bn.1;have b2:=bn.2;cell_end z0b t0a z8q;rw [if_neg (by lia),if_neg (by lia)];exact ⟨_,rfl⟩
  ·obtain ⟨rfl,y,rfl⟩:=h;exact hR _ _ rfl
 rintro σ3 G3 rfl;ktr_call z0b t0a;exact q
theorem v2k (Y0:Cs Z0 80) (F:Fun K "law" "law" v2b f fd):FnOk P w K mg base CX0 15 f fd ["script"] (y9c K [TD,TL,TE,TC,TT,TP,TU,TS,TJ]):=by
 have sc:=scq (z0h v2b) ["script"] ["steps","outs","sides","inputs","found","used","tabs","k","due","told"];kt_k
 ·exact el2 vs h λ _ _ _=>rfl
 refine el2 vs h λ a ns h=>an4 h λ hS h63 hTs q=>?_;refine ⟨_,(z0o (w2x (z1d (cc Y0 77) hr z0l (z0v (z1h w3v (pv 0) (z1p z0c) (z1p z0c)) (z0m z2g z0c (z0m z2d (z1d (cc Y0 63) hr z0l (z0v (pv 0) z0c)) z0c)))) (z7i (n:=3) (z9l rfl (z1x (z9p 1 sc.nd) (z1x (z9p 2 sc.nd) (z1x (z9p 3 sc.nd) z6o)))))) (z1u 4 sc.nd (z1d (cc Y0 78) hr z0l (z0v (pv 0) (pv 1))) (z1u 5 sc.nd (z1d (cc Y0 60) hr z0l (z0v (z0r (z0v (pv 1) (pv 2))) (pv 4))) (z1q (PW.pt (z5a (z6f (z4l (z7o z5n Z0.zisinstance t4v (z0v (pv 5) (z7k (v:=.ty "tuple") (by rfl) Z0.ztuple t2g rfl))))) (z3m (z1f z8g (z3k Z0.zlen (pv 5)) (z3k Z0.zlen (pv 1)))))) (z1b z8v) (z1u 6 sc.nd z0c (z1u 7 sc.nd (z3i z1j) (z0o (z3g t1u rfl (z2j (by rfl) Z0.zrange (z1o (z3k Z0.zlen (pv 1)))) (z9p 8 sc.nd) (z1q (z6f (z4l (z1d (cc Y0 79) hr z0l (z0v (z0s z0g (pv 5) (pv 8)) (z0s z0k (pv 3) (pv 8)))))) (z1b z8v) (z1u 9 sc.nd (z0s z0g (pv 5) (pv 8)) (z0o (z9q (z1f z0z (z0s z0g (z0s z0g (pv 1) (pv 8)) z0c) z0p) (z1u 9 sc.nd (z0s z0g (pv 4) (pv 6)) (z0q (y4r 6 sc.nd (z0m z2g (pv 6) z0c)))) (z0q (z9q (z1f z0z (z0m z2d (pv 8) z0c) z0c) (z0q (y4r 9 sc.nd (z1d (cc Y0 58) hr z0l (z0v (z0s z0g (pv 1) (pv 8)) (z7z ((z8k (K:=K) rfl)) Z0.zlist s1g (z1o (pv 7))))))) (z0q (y4r 9 sc.nd (z1d (cc Y0 58) hr z0l (z0v (z0s z0g (pv 1) (pv 8)) (z7z ((z2z (K:=K) rfl)) Z0.ztuple t2g (z1o (pv 7)))))))))) (z1q (PW.pt (z5a (z6f (z4l (z1d (cc Y0 79) hr z0l (z0v (pv 9) (z0s z0k (pv 3) (pv 8)))))) (z3m (z1f (x4w (v2u hr)) (z0s z0g (pv 5) (pv 8)) (pv 9))))) (z1b z8v) (z0q (z1l (z5l (pv 7) (z0s z0g (pv 5) (pv 8)))))))))) (z1u 10 sc.nd (z1d (cc Y0 61) hr z0l (z0v (z0r (z0v (pv 1) (pv 2))) (pv 4))) (z1q (PW.pt (z5a (z6f (z4l (z7o z5n Z0.zisinstance t4v (z0v (pv 10) (z7k (v:=.ty "tuple") (by rfl) Z0.ztuple t2g rfl))))) (z3m (z1f z8g (z3k Z0.zlen (pv 10)) (z3k Z0.zlen (pv 2)))))) (z1b z8v) (z0o (z3g t1u rfl (z2j (by rfl) Z0.zrange (z1o (z3k Z0.zlen (pv 2)))) (z9p 8 sc.nd) (z0q (z9q (PW.pt (z5a (z6f (z4l (z1d (cc Y0 79) hr z0l (z0v (z0s z0g (pv 10) (pv 8)) (z0s z0k (pv 3) (z0s z0g (pv 2) (pv 8))))))) (z3m (z1f (x4w (v2u hr)) (z0s z0g (pv 10) (pv 8)) (z0s z0g (pv 5) (z0s z0g (pv 2) (pv 8))))))) (z1b z8v) z5x))) (z1b z8v))))))))))),?_⟩
 (try dsimp only [z0t]);simp only [L2.start,t0h,t0j,List.replicate,t0k,t0m,Nat.reduceSub,Nat.reduceAdd,z2o,z2p]
 have tt:TabsL (T9 TD TL TE TC TT TP TU TS TJ) H:=λ x hx=>by
  refine ⟨#[],hTs _ ?_,trivial,.inl rfl⟩;have:=List.mem_map_of_mem (f:=λ x=>x.1) hx;exact this
 ktn_end (λ σ G=>∃(st ot sl:Addr) (qs ps:List Addr) (ds:List Stp) (Ss:LL) (os:LI) (mo:Int),Same H G/\y0a mo/\G st=some (.tup (qs.map V.ref))/\StL G qs ds/\G ot=some (.tup (os.map V.int))/\G sl=some (.lst (ps.map V.ref))/\TpsM G ps Ss/\z9s mo ds Ss/\0 < ds.length/\ds.length≤40/\0 < os.length/\os.length≤8/\(∀o∈os,0≤o/\o < (ds.length:Int))/\σ=[some (.ref a),some (.ref st),some (.ref ot),some (.ref sl),none,none,none,none,none,none,none])
 ·wp_walk using y6t,z9t,eqV,z0b,t0a,y2j,y0r,v4q;obtain ⟨ms,e8,m8⟩:=v3m ns;refine ⟨_,hS,λ p hp=>?_⟩;rw [e8];have sp:=z0a hp (.lst (ms.map V.int));have hmo:y0a (2+w5s ns 0 % 23):=⟨by lia,by lia⟩;refine ⟨ns,0,rfl,sp.seq hS,ms,rfl,m8,hmo,λ G r ds Ss os u pr=>?_⟩;kd_p;obtain ⟨st,ot,sl,qs,ps,hr0,h1,h3,hot,h2,h4,h5,d0,d40,o0,o8,ob⟩:=pr;refine gz ?_;clear gz Gz;exact ⟨_,hr0,rfl,_,_,rfl,_,_,rfl,_,_,rfl,rfl,hR _ _ ⟨st,ot,sl,qs,ps,ds,Ss,os,_,sp.trans u,hmo,h1,h3,hot,h2,h4,h5,d0,d40,o0,o8,ob,rfl⟩⟩
 rintro σ1 G1 hz9;kd_p;obtain ⟨st,ot,sl,qs,ps,ds,Ss,os,mo,s1,hmo,h1,h3,hot,h2,h4,h5,d0,d40,o0,o8,ob,rfl⟩:=hz9;refine gz ?_;clear gz Gz;have ft:=x0k h5 hmo;have dS:=h5.1;have T1:=tt.same s1;have gd:x1y mo ds Ss os:=⟨hmo,h5,d0,d40,o0,o8,ob⟩;ktn_end (λ σ G=>∃(it:Addr) (is:List Addr) (Is:List Tb),Same G1 G/\G it=some (.tup (is.map V.ref))/\TbsL G is Is/\Is.map (·.1)=z5o ds/\(∀T∈Is,TbG mo T)/\σ=[some (.ref a),some (.ref st),some (.ref ot),some (.ref sl),some (.ref it),none,none,none,none,none,none])
 ·ktr_call z0b t0a;exact ⟨a,st,ns,qs,ds,Ss,mo,rfl,s1.seq hS,h63,h1,h3,h5,hmo,d40,λ G it is Is u e1 e2 e3 e4=>hR _ _ ⟨it,is,Is,u,e1,e2,e3,e4,rfl⟩⟩
 rintro σ2 G2 hz9;kd_p;obtain ⟨it,is,Is,s2,hit,tbs,eI,gI,rfl⟩:=hz9;refine gz ?_;clear gz Gz;ktn_end (λ σ G=>∃(fo:Addr) (ts:List Addr),SmT G2 G/\TabsL (T9 TD TL TE TC TT TP TU TS TJ) G/\G fo=some (.tup (ts.map V.ref))/\TbsL G ts (z3b ds Ss Is ds.length)/\σ=x1c a st ot sl it fo [none,none,none,none,none])
 ·ktr_call z0b t0a;exact ⟨smd,λ p hp=>⟨p,it,ds,Ss,os,mo,is,Is,rfl,⟨st,ot,qs,z0d,z0a hp _ _ _ (s2 _ _ h1),h3.up (z7g (s2.trans (z0a hp _))),z0a hp _ _ _ (s2 _ _ hot)⟩,gd,z0a hp _ _ _ hit,tbs.sm (.of (z0a hp _)),eI,gI,(T1.same s2).same (z0a hp _),λ G t ts u T e1 e2=>hR _ _ ⟨t,ts,(SmT.of (z0a hp _)).trans u,T,e1,e2,rfl⟩⟩⟩
 rintro σ3 G3 hz9;kd_p;obtain ⟨fo,ts,s3,T3,hfo,tf,rfl⟩:=hz9;refine gz ?_;clear gz Gz;have tl:ts.length=ds.length:=by rw [tf.1,z6y]
 have t3:=(SmT.of s2).trans s3;ktn_end (λ σ G=>G=G3/\σ=x1c a st ot sl it fo [none,none,none,none,none])
 ·ktr_call z0b t0a;refine ⟨_,hfo,_,.inr (.of hfo),_,.inr (.of (t3.tup h1)),?_⟩;rw [t0c,t0c,tl,h3.1,if_neg (λ z=>z rfl)];exact hR _ _ ⟨rfl,rfl⟩
 rintro σ4 G4 ⟨rfl,rfl⟩;ktn_end (λ σ G=>G=G4/\σ=x1c a st ot sl it fo [some (.int 0),none,none,none,none])
 ·ktr_call z0b t0a;exact hR _ _ ⟨rfl,rfl⟩
 rintro σ5 G5 ⟨rfl,rfl⟩;ktn_end (λ σ G=>∃tb,Same G5 G/\G5 tb=none/\G tb=some (.lst [])/\σ=x1c a st ot sl it fo [some (.int 0),some (.ref tb),none,none,none])
 ·ktr_call z0b t0a;exact ⟨t0x _,λ l hl=>hR _ _ ⟨l,z0a hl _,hl,z0d,rfl⟩⟩
 rintro σ6 G6 hz9;kd_p;obtain ⟨tb,s6,tb0,htb,rfl⟩:=hz9;obtain ⟨gN1,gN2⟩:=y3k hmo h5 eI gI ds.length (t0n _);refine gz ?_;clear gz Gz;have gN0:Ss.take ds.length=Ss:=by rw [dS,t1h]
 rw [gN0] at gN1;ktn_end (λ σ G=>∃(y6 y8 y9:Option V),SmT G5 G/\TabsL (T9 TD TL TE TC TT TP TU TS TJ) G/\σ=x1c a st ot sl it fo [y6,some (.ref tb),y8,y9,none])
 ·wp_walk using z0b,eqV,t0a;refine ⟨_,.inr (.of (s6 _ _ (t3.tup h1))),?_⟩;rw [t0c,h3.1];refine ⟨by lia,by lia,?_⟩;rw [t1c];obtain ⟨J,hJ⟩:∃J:Nat->L2.St->Hp->Prop,J=(λ k σ G=>∃(y8 y9:Option V),SmT G5 G/\TabsL (T9 TD TL TE TC TT TP TU TS TJ) G/\G tb=some (.lst ((ts.take k).map V.ref))/\σ=x1c a st ot sl it fo [some (.int ((z5o (ds.take k)).length:Int)),some (.ref tb),y8,y9,none]):=⟨_,rfl⟩;refine LoopR.mk J (by rw [hJ];exact ⟨_,_,.of s6,T3.same s6,htb,rfl⟩) (λ k σ G0 hk h=>?_) (λ σ G h=>?_);rotate_left
  ·rw [hJ] at h;kd_p;obtain ⟨y8,y9,s,T,_,rfl⟩:=h;refine gz ?_;clear gz Gz;exact hR _ _ ⟨_,_,_,s,T,rfl⟩
  clear hR;rw [hJ] at h;kd_p;obtain ⟨y8,y9,s,T0,gtb,rfl⟩:=h;refine gz ?_;clear gz Gz;rw [t5y];have t0:=t3.trans s;have ed:ds[k]?=some ds[k]:=t0e hk;generalize ds[k]=d at ed;have kS:k < Ss.length:=by rw [← dS];exact hk
  have eS:Ss[k]?=some Ss[k]:=t0e kS;generalize Ss[k]=S at eS;have kq:k < qs.length:=by rw [h3.1];exact hk
  obtain ⟨d',ed',hd⟩:=(h3.up (y0x t0)).2 k _ (t0e kq);cases ed'.symm.trans ed;have eq:=v0x (t0e kq);generalize qs[k]=qk at hd eq;obtain ⟨pk,epk,hpk⟩:=x2j (h4.up (y0x t0)) eS;have ep:=v0x epk;have ok:=h5.2.2 k d S ed eS;have fs:=h5.2.1 S (t0i eS);have fS:=ft S (t0i eS);obtain ⟨C,eT⟩:=z2e (Ts:=z3b ds Ss Is ds.length) (a:=k) (A:=S) (by rw [gN1];exact eS);obtain ⟨tk,etk,htk⟩:=y8s (tf.sm s) eT;have et:=v0x etk;have gT:=gN2 _ (t0i eT);have cl:(C.length:Int)=z0e S:=gT.2.1;have cb:∀c∈C,inB c:=gT.2.2;kd_p;obtain ⟨xs,hp',h0,_,_⟩:=z3l hd;refine gz ?_;clear gz Gz;have hfo0:=s.tup hfo;have hsl0:=t0.lst h2;simp only [z6w,t5g,t5f];ktn_end (λ σ G=>G=G0/\σ=x1c a st ot sl it fo [some (.int ((z5o (ds.take k)).length:Int)),some (.ref tb),some (.int (k:Int)),y9,none])
  ·cell_end z0b t0a z9u;exact ⟨_,hfo0,_,et,_,hsl0,_,ep,tk,rfl,pk,rfl,S,C,htk,hpk,fS,cl,cb,hR _ _ ⟨rfl,rfl⟩⟩
  rintro σa Ga ⟨rfl,rfl⟩;ktn_end (λ σ G=>G=Ga/\σ=x1c a st ot sl it fo [some (.int ((z5o (ds.take k)).length:Int)),some (.ref tb),some (.int (k:Int)),some (.ref tk),none])
  ·ktr_call z0b t0a;exact ⟨_,hfo0,_,et,hR _ _ ⟨rfl,rfl⟩⟩
  rintro σb Gb ⟨rfl,rfl⟩;refine z9w (λ σ G=>∃du,SmT Gb G/\TabsL (T9 TD TL TE TC TT TP TU TS TJ) G/\TbAt G du S C/\σ=x1c a st ot sl it fo [some (.int ((z5o (ds.take (k+1))).length:Int)),some (.ref tb),some (.int (k:Int)),some (.ref du),none]) ?_ (λ R hR=>?_);rotate_left
  ·ktr_call z0b t0a;refine ⟨_,t0.tup h1,_,eq,qk,rfl,_,hp',_,z0f (j:=0) h0,rfl,?_⟩;by_cases c:kdN d=0
   ·rw [if_pos (show V.str (z0w (kdN d))=V.str "in" by rw [c];rfl)];obtain ⟨ms,rfl⟩:=y6e c;have aI:=x6q ed;rw [← eI,t0q] at aI;obtain ⟨T,eT',rfl⟩:=t3b.mp aI;have z:=(x1a (Ss:=Ss) ed eT').symm.trans eT;cases t1i z;obtain ⟨u,eu,hu⟩:=y8s (tbs.sm (s3.trans s)) eT';refine ⟨_,(s3.trans s).tup hit,_,v0x eu,hR _ _ ⟨u,SmT.refl _,T0,hu,?_⟩⟩;rw [z4r ed,t0o];rfl
   ·rw [if_neg (show ¬V.str (z0w (kdN d))=V.str "in" from y6d 0 (z2m d) (by decide) c)];have ni:∀ms,d≠.inp ms:=λ ms z=>c (by rw [z];rfl);have z:=(x0z (Is:=Is) ed ni eS).symm.trans eT;have eC:C=y3l (z3b ds Ss Is k) d:=(t3p Prod.snd (t1i z)).symm;have eU:(z5o (ds.take (k+1))).length=(z5o (ds.take k)).length:=by rw [z4r ed,x0h c];simp
    rw [eU] at hR;obtain ⟨g1,g2⟩:=y3k hmo h5 eI gI k (t3h hk)
    have tk0:TbsL Gb (ts.take k) (z3b ds Ss Is k):=by
     have z:=(tf.sm s).take k;obtain ⟨j,ej⟩:∃j,ds.length=k+j:=⟨ds.length - k,by lia⟩
     rwa [ej,y6z] at z
    have go:∀(l:Addr) (o:HO),Gb l=none->(o=.lst ((ts.take k).map V.ref)\/o=.tup ((ts.take k).map V.ref))->w2k TD TL TE TC TT TP TU TS TJ [.ref qk,.ref l] (upd Gb l o) (λ x H1=>R [some (.ref a),some (.ref st),some (.ref ot),some (.ref sl),some (.ref it),some (.ref fo),some (.int ((z5o (ds.take k)).length:Int)),some (.ref tb),some (.int (k:Int)),some x,none] H1) E0:=λ l o hl ho=>by
     have v:=z0a hl o;refine ⟨qk,l,d,S,_,ts.take k,mo,rfl,hd.same v,ni,?_,tk0.sm (.of v),g2,hmo,by rw [g1];exact ok,fs,T0.same v,λ H2 r sm T2 tb=>hR _ _ ⟨r,(SmT.of v).trans sm,T2,by rw [eC];exact tb,rfl⟩⟩
     rcases ho with rfl | rfl
     ·exact .inl z0d
     ·exact .inr z0d
    split
    ·exact ⟨_,t0.tup h1,_,eq,_,.inl (.of gtb),λ l hl=>go l _ hl (.inl rfl)⟩
    ·exact ⟨_,t0.tup h1,_,eq,_,.inl ⟨.of gtb,λ l hl=>go l _ hl (.inr rfl)⟩⟩
  rintro σc Gc hz9;kd_p;obtain ⟨du,sc',Tc,hdu,rfl⟩:=hz9;refine gz ?_;clear gz Gz;refine z9w (λ σ G=>G=Gc/\σ=x1c a st ot sl it fo [some (.int ((z5o (ds.take (k+1))).length:Int)),some (.ref tb),some (.int (k:Int)),some (.ref du),none]) ?_ (λ R hR=>?_);rotate_left
  ·cell_end z0b t0a z9u;refine ⟨_,sc'.lst hsl0,_,ep,pk,rfl,S,C,hdu,sc'.tup hpk,fS,cl,cb,_,sc'.tup hfo0,_,et,⟨_,rfl⟩,w3h (sc'.tb htk) hdu,hR _ _ ⟨rfl,rfl⟩⟩
  rintro σd Gd ⟨rfl,rfl⟩;ktr_call z0b t0a;have gtb':=sc'.lst gtb;refine ⟨⟨_,gtb'⟩,_,sc'.tup hfo0,_,et,_,gtb',by rw [t0c,t0p];exact z0n (by lia),?_⟩;rw [hJ];exact ⟨_,_,y3r (s.trans sc') tb0,Tc.put gtb',by rw [z0d,t1j,etk,t0l];rfl,rfl⟩
 rintro σ7 G7 hz9;kd_p;obtain ⟨y6,y8,y9,s7,T7,rfl⟩:=hz9;refine gz ?_;clear gz Gz;have t7:=t3.trans s7;ktn_end (λ σ G=>∃(to:Addr) (as:List Addr),SmT G7 G/\TabsL (T9 TD TL TE TC TT TP TU TS TJ) G/\G to=some (.tup (as.map V.ref))/\v5g G as (z3b ds Ss Is ds.length) os/\σ=x1c a st ot sl it fo [y6,some (.ref tb),y8,y9,some (.ref to)])
 ·ktr_call z0b t0a;have t7':=s3.trans s7;exact ⟨smd,λ p hp=>⟨p,it,ds,Ss,os,mo,is,Is,rfl,⟨st,ot,qs,z0d,z0a hp _ _ _ (t7.tup h1),h3.up ((y0x t7).trans (z7g (z0a hp _))),z0a hp _ _ _ (t7.tup hot)⟩,gd,z0a hp _ _ _ (t7'.tup hit),(tbs.sm t7').sm (.of (z0a hp _)),eI,gI,T7.same (z0a hp _),λ G t as u T e1 e2=>hR _ _ ⟨t,as,(SmT.of (z0a hp _)).trans u,T,e1,e2,rfl⟩⟩⟩
 rintro σ8 G8 hz9;kd_p;obtain ⟨to,as,s8,T8,hto,ta,rfl⟩:=hz9;refine gz ?_;clear gz Gz;have t8:=t7.trans s8;ktn_end (λ σ G=>G=G8/\σ=x1c a st ot sl it fo [y6,some (.ref tb),y8,y9,some (.ref to)])
 ·ktr_call z0b t0a;refine ⟨_,hto,_,.inr (.of hto),_,.inr (.of (t8.tup hot)),?_⟩;rw [t0c,t0c,ta.1,if_neg (λ z=>z rfl)];exact hR _ _ ⟨rfl,rfl⟩
 rintro σ9 G9 ⟨rfl,rfl⟩;ktn_end (λ σ G=>True)
 ·ktr_call z0b t0a;refine ⟨_,.inr (.of (t8.tup hot)),?_⟩;rw [t0c];refine ⟨by lia,by lia,?_⟩;rw [t1c];have tf8:=tf.sm (s7.trans s8);have h48:=h4.up (y0x t8);refine LoopR.mk (λ i σ G=>∃y8,G=G9/\σ=x1c a st ot sl it fo [y6,some (.ref tb),y8,y9,some (.ref to)]) ⟨_,rfl,rfl⟩ (λ k σ G0 hk h=>?_) (λ σ G h=>hR _ _ trivial);obtain ⟨y8,rfl,rfl⟩:=h;rw [t5y];have eo:os[k]?=some os[k]:=t0e hk;generalize os[k]=o at eo;have oo:=ob o (t0i eo);have ka:k < as.length:=by rw [ta.1];exact hk
  obtain ⟨T,eT,hT⟩:=ta.2 k o _ eo (t0e ka);have ea:=v0x (t0e ka);generalize as[k]=ak at hT ea;obtain ⟨tk,etk,htk⟩:=y8s tf8 eT;have eS:Ss[o.toNat]?=some T.1:=by rw [← gN1,t0q,eT];rfl
  obtain ⟨pk,epk,hpk⟩:=x2j h48 eS;have gT:=gN2 _ (t0i eT);have eo':atI (os.map V.int) (k:Int)=some (.int o):=z0f (by rw [t0q,eo];rfl);cell_end z0b t0a z9u;refine ⟨_,hto,_,ea,_,t8.tup hot,_,eo',o,rfl,_,t8.lst h2,_,v5c oo.1 epk,ak,rfl,pk,rfl,T.1,T.2,hT,hpk,ft _ (t0i eS),gT.2.1,gT.2.2,_,hto,_,ea,_,t8.tup hot,_,eo',o,rfl,_,(s7.trans s8).tup hfo,_,v5c oo.1 etk,⟨_,rfl⟩,w3h hT htk,_,rfl⟩
 rintro σA GA _;ktr_call z0b t0a;exact q _
end
theorem kts {K:FG}{od:OA}{sl:AV}(h:K.lookup a=some ⟨.type "tuple",od,.seq #[.str x t,.int i u] n,sl⟩):KTup K a [.str x,.int i]:=y1h h (small (show (2:Nat)≤1000 by decide)) (.cons ⟨_,rfl⟩ (.cons ⟨_,rfl⟩ .nil))
theorem ktr1 {K:FG}{od:OA}{sl:AV}(h:K.lookup a=some ⟨.type "tuple",od,.seq #[.ref a0] n,sl⟩):KTup K a [.ref a0]:=y1h h (small (show (1:Nat)≤1000 by decide)) (.cons rfl (.nil))
theorem ktr2 {K:FG}{od:OA}{sl:AV}(h:K.lookup a=some ⟨.type "tuple",od,.seq #[.ref a0,.ref a1] n,sl⟩):KTup K a [.ref a0,.ref a1]:=y1h h (small (show (2:Nat)≤1000 by decide)) (.cons rfl (.cons rfl (.nil)))
theorem ktr3 {K:FG}{od:OA}{sl:AV}(h:K.lookup a=some ⟨.type "tuple",od,.seq #[.ref a0,.ref a1,.ref a2] n,sl⟩):KTup K a [.ref a0,.ref a1,.ref a2]:=y1h h (small (show (3:Nat)≤1000 by decide)) (.cons rfl (.cons rfl (.cons rfl (.nil))))
theorem ktr5 {K:FG}{od:OA}{sl:AV}(h:K.lookup a=some ⟨.type "tuple",od,.seq #[.ref a0,.ref a1,.ref a2,.ref a3,.ref a4] n,sl⟩):KTup K a [.ref a0,.ref a1,.ref a2,.ref a3,.ref a4]:=y1h h (small (show (5:Nat)≤1000 by decide)) (.cons rfl (.cons rfl (.cons rfl (.cons rfl (.cons rfl (.nil))))))
theorem pt_mk {w:World}{K:FG}{tP0 tP1 tP2 tP3 tP4 tP5 tP6 tP7 tP8 tP9 tP10 tP11 tP12 tP13 tP14:Tok}
  (gPT:W.nsIn K mainGlobals "PARTS"=some (some (.ref dPT))) (dPT0:(dPT == sysModules)=false)
  (lPT:K.lookup dPT=some { cls:=.type "dict",data:=.dict #[⟨PyData.keyHash w.params "in",.str "in" tP0,.ref aP0⟩,⟨PyData.keyHash w.params "num",.str "num" tP1,.ref aP1⟩,⟨PyData.keyHash w.params "count",.str "count" tP2,.ref aP2⟩,⟨PyData.keyHash w.params "each",.str "each" tP3,.ref aP3⟩,⟨PyData.keyHash w.params "pair",.str "pair" tP4,.ref aP4⟩,⟨PyData.keyHash w.params "pick",.str "pick" tP5,.ref aP5⟩,⟨PyData.keyHash w.params "turn",.str "turn" tP6,.ref aP6⟩,⟨PyData.keyHash w.params "flip",.str "flip" tP7,.ref aP7⟩,⟨PyData.keyHash w.params "cut",.str "cut" tP8,.ref aP8⟩,⟨PyData.keyHash w.params "spread",.str "spread" tP9,.ref aP9⟩,⟨PyData.keyHash w.params "lay",.str "lay" tP10,.ref aP10⟩,⟨PyData.keyHash w.params "join",.str "join" tP11,.ref aP11⟩,⟨PyData.keyHash w.params "fetch",.str "fetch" tP12,.ref aP12⟩,⟨PyData.keyHash w.params "fold",.str "fold" tP13,.ref aP13⟩,⟨PyData.keyHash w.params "run",.str "run" tP14,.ref aP14⟩] nPT })(lP0:KTup K aP0 [.ref aP0_0])
  (lP0_0:KTup K aP0_0 [.str "sides",.int 1])(lP1:KTup K aP1 [.ref aP1_0])
  (lP1_0:KTup K aP1_0 [.str "number",.int 1])(lP2:KTup K aP2 [.ref aP2_0,.ref aP2_1])
  (lP2_0:KTup K aP2_0 [.str "small",.int 2])
  (lP2_1:KTup K aP2_1 [.str "sides",.int 1])(lP3:KTup K aP3 [.ref aP3_0,.ref aP3_1])
  (lP3_0:KTup K aP3_0 [.str "word",.int 1])
  (lP3_1:KTup K aP3_1 [.str "step",.int 2])(lP4:KTup K aP4 [.ref aP4_0,.ref aP4_1,.ref aP4_2])
  (lP4_0:KTup K aP4_0 [.str "word",.int 1])
  (lP4_1:KTup K aP4_1 [.str "step",.int 2])
  (lP4_2:KTup K aP4_2 [.str "step",.int 3])(lP5:KTup K aP5 [.ref aP5_0,.ref aP5_1,.ref aP5_2])
  (lP5_0:KTup K aP5_0 [.str "step",.int 1])
  (lP5_1:KTup K aP5_1 [.str "step",.int 2])
  (lP5_2:KTup K aP5_2 [.str "step",.int 3])(lP6:KTup K aP6 [.ref aP6_0,.ref aP6_1])
  (lP6_0:KTup K aP6_0 [.str "step",.int 1])
  (lP6_1:KTup K aP6_1 [.str "sides",.int 2])(lP7:KTup K aP7 [.ref aP7_0,.ref aP7_1])
  (lP7_0:KTup K aP7_0 [.str "step",.int 1])
  (lP7_1:KTup K aP7_1 [.str "small",.int 2])(lP8:KTup K aP8 [.ref aP8_0,.ref aP8_1,.ref aP8_2,.ref aP8_3,.ref aP8_4])
  (lP8_0:KTup K aP8_0 [.str "step",.int 1])
  (lP8_1:KTup K aP8_1 [.str "small",.int 2])
  (lP8_2:KTup K aP8_2 [.str "small",.int 3])
  (lP8_3:KTup K aP8_3 [.str "small",.int 4])
  (lP8_4:KTup K aP8_4 [.str "small",.int 5])(lP9:KTup K aP9 [.ref aP9_0,.ref aP9_1,.ref aP9_2])
  (lP9_0:KTup K aP9_0 [.str "step",.int 1])
  (lP9_1:KTup K aP9_1 [.str "small",.int 2])
  (lP9_2:KTup K aP9_2 [.str "small",.int 3])(lP10:KTup K aP10 [.ref aP10_0,.ref aP10_1])
  (lP10_0:KTup K aP10_0 [.str "step",.int 1])
  (lP10_1:KTup K aP10_1 [.str "sides",.int 2])(lP11:KTup K aP11 [.ref aP11_0,.ref aP11_1,.ref aP11_2])
  (lP11_0:KTup K aP11_0 [.str "step",.int 1])
  (lP11_1:KTup K aP11_1 [.str "step",.int 2])
  (lP11_2:KTup K aP11_2 [.str "small",.int 3])(lP12:KTup K aP12 [.ref aP12_0,.ref aP12_1])
  (lP12_0:KTup K aP12_0 [.str "step",.int 1])
  (lP12_1:KTup K aP12_1 [.str "step",.int 2])(lP13:KTup K aP13 [.ref aP13_0,.ref aP13_1,.ref aP13_2])
  (lP13_0:KTup K aP13_0 [.str "word",.int 1])
  (lP13_1:KTup K aP13_1 [.str "step",.int 2])
  (lP13_2:KTup K aP13_2 [.str "small",.int 3])(lP14:KTup K aP14 [.ref aP14_0,.ref aP14_1,.ref aP14_2])
  (lP14_0:KTup K aP14_0 [.str "word",.int 1])
  (lP14_1:KTup K aP14_1 [.str "step",.int 2])
  (lP14_2:KTup K aP14_2 [.str "small",.int 3]):∃d,W.nsIn K mainGlobals "PARTS"=some (some (.ref d))/\y8q P w K d:=⟨_,gPT,⟨_,KTab.mk (l:=[("in",tP0,aP0),("num",tP1,aP1),("count",tP2,aP2),("each",tP3,aP3),("pair",tP4,aP4),("pick",tP5,aP5),("turn",tP6,aP6),("flip",tP7,aP7),("cut",tP8,aP8),("spread",tP9,aP9),("lay",tP10,aP10),("join",tP11,aP11),("fetch",tP12,aP12),("fold",tP13,aP13),("run",tP14,aP14)]) dPT0 lPT rfl (show (["in","num","count","each","pair","pick","turn","flip","cut","spread","lay","join","fetch","fold","run"]:List Str).Nodup by decide +kernel),⟨⟨rfl,_,lP0,⟨⟨_,rfl,lP0_0⟩,trivial⟩⟩,⟨⟨rfl,_,lP1,⟨⟨_,rfl,lP1_0⟩,trivial⟩⟩,⟨⟨rfl,_,lP2,⟨⟨_,rfl,lP2_0⟩,⟨⟨_,rfl,lP2_1⟩,trivial⟩⟩⟩,⟨⟨rfl,_,lP3,⟨⟨_,rfl,lP3_0⟩,⟨⟨_,rfl,lP3_1⟩,trivial⟩⟩⟩,⟨⟨rfl,_,lP4,⟨⟨_,rfl,lP4_0⟩,⟨⟨_,rfl,lP4_1⟩,⟨⟨_,rfl,lP4_2⟩,trivial⟩⟩⟩⟩,⟨⟨rfl,_,lP5,⟨⟨_,rfl,lP5_0⟩,⟨⟨_,rfl,lP5_1⟩,⟨⟨_,rfl,lP5_2⟩,trivial⟩⟩⟩⟩,⟨⟨rfl,_,lP6,⟨⟨_,rfl,lP6_0⟩,⟨⟨_,rfl,lP6_1⟩,trivial⟩⟩⟩,⟨⟨rfl,_,lP7,⟨⟨_,rfl,lP7_0⟩,⟨⟨_,rfl,lP7_1⟩,trivial⟩⟩⟩,⟨⟨rfl,_,lP8,⟨⟨_,rfl,lP8_0⟩,⟨⟨_,rfl,lP8_1⟩,⟨⟨_,rfl,lP8_2⟩,⟨⟨_,rfl,lP8_3⟩,⟨⟨_,rfl,lP8_4⟩,trivial⟩⟩⟩⟩⟩⟩,⟨⟨rfl,_,lP9,⟨⟨_,rfl,lP9_0⟩,⟨⟨_,rfl,lP9_1⟩,⟨⟨_,rfl,lP9_2⟩,trivial⟩⟩⟩⟩,⟨⟨rfl,_,lP10,⟨⟨_,rfl,lP10_0⟩,⟨⟨_,rfl,lP10_1⟩,trivial⟩⟩⟩,⟨⟨rfl,_,lP11,⟨⟨_,rfl,lP11_0⟩,⟨⟨_,rfl,lP11_1⟩,⟨⟨_,rfl,lP11_2⟩,trivial⟩⟩⟩⟩,⟨⟨rfl,_,lP12,⟨⟨_,rfl,lP12_0⟩,⟨⟨_,rfl,lP12_1⟩,trivial⟩⟩⟩,⟨⟨rfl,_,lP13,⟨⟨_,rfl,lP13_0⟩,⟨⟨_,rfl,lP13_1⟩,⟨⟨_,rfl,lP13_2⟩,trivial⟩⟩⟩⟩,⟨⟨rfl,_,lP14,⟨⟨_,rfl,lP14_0⟩,⟨⟨_,rfl,lP14_1⟩,⟨⟨_,rfl,lP14_2⟩,trivial⟩⟩⟩⟩,trivial⟩⟩⟩⟩⟩⟩⟩⟩⟩⟩⟩⟩⟩⟩⟩⟩⟩
theorem all_mk {l:W.OpenLaw}{K:FG}{TD TL TE TC TT TP TU TS TJ:Addr}(X:K.In h) (G:h.Ns mainGlobals mg) (hfa:mg "law"=some (.ref fa)) (S:Sv l.prog w K TD TL TE TC TT TP TU TS TJ):∃(fd:FuncData) (tbs:List (Str × Addr × Addr)),(∀p∈tbs,W.tabIn K p.1=some p.2/\p.1∈(["fold","lead","fetch","counted","turn","flip","cut","spread","join"]:List Str))/\(∀(s:Shared) (v:Value),BindsTo s fd ⟨[v],[]⟩ [("script",v)])/\∀base:Heap,K.In base->base.Ns mainGlobals mg->(∀p∈tbs,TabF base mg p.2.1 p.2.2)->FnOk l.prog w K mg base CX0 15 fa fd ["script"] (y9c K (tbs.map λ p=>p.2.2)):=by
 obtain ⟨f,fd,gL⟩:=S.g80;have e:=hfa.symm.trans (W.mg_of X G gL.a);cases e;obtain ⟨_,_,kVL,dcL,pmL,anL,cdL,ctL,_,eL,_,_⟩:=gL.F.ex;obtain ⟨f43,d43,c43,t43⟩:=S.g43;obtain ⟨f45,d45,c45,t45⟩:=S.g45;obtain ⟨f49,d49,c49,t49⟩:=S.g49;obtain ⟨f50,d50,c50,t50⟩:=S.g50;obtain ⟨f51,d51,c51,t51⟩:=S.g51;obtain ⟨f52,d52,c52,t52⟩:=S.g52;obtain ⟨f53,d53,c53,t53⟩:=S.g53;obtain ⟨f54,d54,c54,t54⟩:=S.g54;obtain ⟨f56,d56,c56,t56⟩:=S.g56;refine ⟨fd,[("fold",c43,TD),("lead",c45,TL),("fetch",c49,TE),("counted",c50,TC),("turn",c51,TT),("flip",c52,TP),("cut",c53,TU),("spread",c54,TS),("join",c56,TJ)],(fc ⟨t43.tb,by simp⟩ (fc ⟨t45.tb,by simp⟩ (fc ⟨t49.tb,by simp⟩ (fc ⟨t50.tb,by simp⟩ (fc ⟨t51.tb,by simp⟩ (fc ⟨t52.tb,by simp⟩ (fc ⟨t53.tb,by simp⟩ (fc ⟨t54.tb,by simp⟩ (fc ⟨t56.tb,by simp⟩ fc0))))))))),λ s v=>by rw [eL];exact .of_eq rfl,λ base KB GB tf=>?_⟩;have Z0:Ev l.prog w K mg base TD TL TE TC TT TP TU TS TJ:=⟨S,λ {x v} z=>by cases v with | none=>exact W.mg_none_of X G z | some u=>exact W.mg_of X G z,⟨_,_,_,t43,tf ("fold",c43,TD) (by simp)⟩,⟨_,_,_,t45,tf ("lead",c45,TL) (by simp)⟩,⟨_,_,_,t49,tf ("fetch",c49,TE) (by simp)⟩,⟨_,_,_,t50,tf ("counted",c50,TC) (by simp)⟩,⟨_,_,_,t51,tf ("turn",c51,TT) (by simp)⟩,⟨_,_,_,t52,tf ("flip",c52,TP) (by simp)⟩,⟨_,_,_,t53,tf ("cut",c53,TU) (by simp)⟩,⟨_,_,_,t54,tf ("spread",c54,TS) (by simp)⟩,⟨_,_,_,t56,tf ("join",c56,TJ) (by simp)⟩⟩;have Y0:Cs Z0 0:=λ _ h=>absurd h (Nat.not_lt_zero _);have Y0:Cs Z0 1:=stp Y0 (x4z Z0 Y0);have Y0:Cs Z0 2:=stp Y0 (x9z Z0 Y0);have Y0:Cs Z0 3:=stp Y0 (x1k Z0 Y0);have Y0:Cs Z0 4:=stp Y0 (y7m Z0 Y0);have Y0:Cs Z0 5:=stp Y0 (w9b Z0 Y0);have Y0:Cs Z0 6:=stp Y0 (w4o Z0 Y0);have Y0:Cs Z0 7:=stp Y0 (x5d Z0 Y0);have Y0:Cs Z0 8:=stp Y0 (y7v Z0 Y0);have Y0:Cs Z0 9:=stp Y0 (w0d Z0 Y0);have Y0:Cs Z0 10:=stp Y0 (w0e Z0 Y0);have Y0:Cs Z0 11:=stp Y0 (x5l Z0 Y0);have Y0:Cs Z0 12:=stp Y0 (x5p Z0 Y0);have Y0:Cs Z0 13:=stp Y0 (y7j Z0 Y0);have Y0:Cs Z0 14:=stp Y0 (x5c Z0 Y0);have Y0:Cs Z0 15:=stp Y0 (w9h Z0 Y0);have Y0:Cs Z0 16:=stp Y0 (w4r Z0 Y0);have Y0:Cs Z0 17:=stp Y0 (y7u Z0 Y0);have Y0:Cs Z0 18:=stp Y0 (x5q Z0 Y0);have Y0:Cs Z0 19:=stp Y0 (y7t Z0 Y0);have Y0:Cs Z0 20:=stp Y0 (x5n Z0 Y0);have Y0:Cs Z0 21:=stp Y0 (y3z Z0 Y0);have Y0:Cs Z0 22:=stp Y0 (y1s Z0 Y0);have Y0:Cs Z0 23:=stp Y0 (x1q Z0 Y0);have Y0:Cs Z0 24:=stp Y0 (y4a Z0 Y0);have Y0:Cs Z0 25:=stp Y0 (y7s Z0 Y0);have Y0:Cs Z0 26:=stp Y0 (y4e Z0 Y0);have Y0:Cs Z0 27:=stp Y0 (x1l Z0 Y0);have Y0:Cs Z0 28:=stp Y0 (y4d Z0 Y0);have Y0:Cs Z0 29:=stp Y0 (y4c Z0 Y0);have Y0:Cs Z0 30:=stp Y0 (y1t Z0 Y0);have Y0:Cs Z0 31:=stp Y0 (y4f Z0 Y0);have Y0:Cs Z0 32:=stp Y0 (y1u Z0 Y0);have Y0:Cs Z0 33:=stp Y0 (x5m Z0 Y0);have Y0:Cs Z0 34:=stp Y0 (y5y Z0 Y0);have Y0:Cs Z0 35:=stp Y0 (y5v Z0 Y0);have Y0:Cs Z0 36:=stp Y0 (y7l Z0 Y0);have Y0:Cs Z0 37:=stp Y0 (x1j Z0 Y0);have Y0:Cs Z0 38:=stp Y0 (y4b Z0 Y0);have Y0:Cs Z0 39:=stp Y0 (x5k Z0 Y0);have Y0:Cs Z0 40:=stp Y0 (x5a Z0 Y0);have Y0:Cs Z0 41:=stp Y0 (x5b Z0 Y0);have Y0:Cs Z0 42:=stp Y0 (w4q Z0 Y0);have Y0:Cs Z0 43:=stp Y0 (w0c Z0 Y0);have Y0:Cs Z0 44:=stp Y0 (w9e Z0 Y0)
 have Y0:Cs Z0 45:=stp Y0 (v2i Z0 Y0);have Y0:Cs Z0 46:=stp Y0 (w9c Z0 Y0);have Y0:Cs Z0 47:=stp Y0 (w9g Z0 Y0);have Y0:Cs Z0 48:=stp Y0 (w9a Z0 Y0);have Y0:Cs Z0 49:=stp Y0 (w8z Z0 Y0);have Y0:Cs Z0 50:=stp Y0 (w4p Z0 Y0);have Y0:Cs Z0 51:=stp Y0 (x5j Z0 Y0);have Y0:Cs Z0 52:=stp Y0 (w8y Z0 Y0);have Y0:Cs Z0 53:=stp Y0 (w9f Z0 Y0);have Y0:Cs Z0 54:=stp Y0 (v2l Z0 Y0);have Y0:Cs Z0 55:=stp Y0 (x9y Z0 Y0);have Y0:Cs Z0 56:=stp Y0 (v2j Z0 Y0);have Y0:Cs Z0 57:=stp Y0 (w9d Z0 Y0);have Y0:Cs Z0 58:=stp Y0 (y5u Z0 Y0);have Y0:Cs Z0 59:=stp Y0 (y7k Z0 Y0);have Y0:Cs Z0 60:=stp Y0 (y1g Z0 Y0);have Y0:Cs Z0 61:=stp Y0 (y7w Z0 Y0);have Y0:Cs Z0 62:=stp Y0 (x5o Z0 Y0);have Y0:Cs Z0 63:=stp Y0 (x1m Z0 Y0);have Y0:Cs Z0 64:=stp Y0 (y7r Z0 Y0);have Y0:Cs Z0 65:=stp Y0 (y5x Z0 Y0);have Y0:Cs Z0 66:=stp Y0 (x5g Z0 Y0);have Y0:Cs Z0 67:=stp Y0 (x5e Z0 Y0);have Y0:Cs Z0 68:=stp Y0 (y7o Z0 Y0);have Y0:Cs Z0 69:=stp Y0 (y7n Z0 Y0);have Y0:Cs Z0 70:=stp Y0 (x1p Z0 Y0);have Y0:Cs Z0 71:=stp Y0 (w0b Z0 Y0);have Y0:Cs Z0 72:=stp Y0 (y7p Z0 Y0);have Y0:Cs Z0 73:=stp Y0 (x5h Z0 Y0);have Y0:Cs Z0 74:=stp Y0 (x1o Z0 Y0);have Y0:Cs Z0 75:=stp Y0 (x5i Z0 Y0);have Y0:Cs Z0 76:=stp Y0 (w0a Z0 Y0);have Y0:Cs Z0 77:=stp Y0 (x5f Z0 Y0);have Y0:Cs Z0 78:=stp Y0 (y5w Z0 Y0);have Y0:Cs Z0 79:=stp Y0 (y7q Z0 Y0);have Y0:Cs Z0 80:=stp Y0 (x1n Z0 Y0);exact v2k Z0 Y0 gL.F
open PySem.W in
theorem walk {l:W.OpenLaw}{YP:World->Heap->Prop}{d:DefRec}{K:Params->FG}(hn:l.most=some 63) (hdf:d.params.defaults=[])
  (hY:∀(w:World) (h:Heap),YP w h->(K w.params).In h) (hK0:∀w:World,noTabs (K w.params)=true) (hrec:∀x∈(["fold","lead","fetch","counted","turn","flip","cut","spread","join"]:List Str),((recsOf q).find? λ e=>e.name == x).isSome=true)
  (F:∀(w:World) (mg:SV) (fa:Addr) (h:Heap),(K w.params).In h->h.Ns mainGlobals mg->mg d.name=some (.ref fa) ->
   ∃(fd:FuncData) (tbs:List (Str × Addr × Addr)),(∀p∈tbs,tabIn (K w.params) p.1=some p.2/\p.1∈(["fold","lead","fetch","counted","turn","flip","cut","spread","join"]:List Str))/\(∀(s:Shared) (u:Value),BindsTo s fd ⟨[u],[]⟩ [("script",u)])/\∀base:Heap,(K w.params).In base->base.Ns mainGlobals mg->(∀p∈tbs,TabF base mg p.2.1 p.2.2)->FnOk l.prog w (K w.params) mg base CX0 15 fa fd ["script"] (y9c (K w.params) (tbs.map λ p=>p.2.2))) :
  W.WalkO q loose XP YP l.row.toRowW d [] (λ f vs=>PySem.call f vs) :=
 L2.walk_ofT (n:=63) (k:=15) (x := "script") (CX:=λ _=>CX0) (sp:=λ w ts=>y9c (K w.params) ts) hn (by decide) hdf ⟨rfl,by decide,by decide⟩ hY hK0 (λ w mg fa h a b c=>by
  obtain ⟨fd,tbs,h1,h2⟩:=F w mg fa h a b c
  exact ⟨fd,tbs,λ p hp=>⟨(h1 p hp).1,hrec _ (h1 p hp).2⟩,h2⟩) (λ _ _ a ns ts hl hT hS=>⟨a,ns,rfl,hS,hl,hT,λ _=>rfl⟩) λ _ _ _ _ _ z=>z
end My
end
end
open PySem PySem.W PyProof.Rows
set_option maxRecDepth 100000 in
set_option maxHeartbeats 0 in
theorem PySem.Challenge.cw_sideloom_k35_step_by_step_holds : PySem.Challenge.rw_sideloom_k35_step_by_step.Holds := by
 w_on;o_law;k_head;(case hw=>w_witness2)
 k_fill
 refine My.walk (l:=PySem.Challenge.rw_sideloom_k35_step_by_step) rfl rfl (λ w h Y=>W.km_in_of Y) ?K0 ?rec ?F
 case K0=>intro w;kernel_rfl
 case rec=>exact (My.fc (by kernel_rfl) (My.fc (by kernel_rfl) (My.fc (by kernel_rfl) (My.fc (by kernel_rfl) (My.fc (by kernel_rfl) (My.fc (by kernel_rfl) (My.fc (by kernel_rfl) (My.fc (by kernel_rfl) (My.fc (by kernel_rfl) My.fc0)))))))))
 case F =>
  intro w mg fa h KX G hmg
  refine' My.all_mk KX G hmg ?S
  case S =>
   constructor
   iterate 72 (refine' My.gl_ex ?ya ?yb ?yc ?yd;(case ya=>k_is);(case yb=>k_is);(case yc=>k_is);(case yd=>k_is))
   iterate 9 (refine' My.glt_ex ?ya ?yb ?yc ?yd ?ye ?yf;(case ya=>k_is);(case yb=>k_is);(case yc=>k_is);(case yd=>k_is);(case ye=>k_is);(case yf=>rfl))
   iterate 16 (k_is)
   iterate 6 (refine' My.gx_int ?ya;(case ya=>k_is))
   ·refine' My.pt_mk ?gPT ?dPT0 ?lPT ?lP0 ?lP0_0 ?lP1 ?lP1_0 ?lP2 ?lP2_0 ?lP2_1 ?lP3 ?lP3_0 ?lP3_1 ?lP4 ?lP4_0 ?lP4_1 ?lP4_2 ?lP5 ?lP5_0 ?lP5_1 ?lP5_2 ?lP6 ?lP6_0 ?lP6_1 ?lP7 ?lP7_0 ?lP7_1 ?lP8 ?lP8_0 ?lP8_1 ?lP8_2 ?lP8_3 ?lP8_4 ?lP9 ?lP9_0 ?lP9_1 ?lP9_2 ?lP10 ?lP10_0 ?lP10_1 ?lP11 ?lP11_0 ?lP11_1 ?lP11_2 ?lP12 ?lP12_0 ?lP12_1 ?lP13 ?lP13_0 ?lP13_1 ?lP13_2 ?lP14 ?lP14_0 ?lP14_1 ?lP14_2
    (case gPT=>k_is)
    (case dPT0=>first | decide +kernel | rfl)
    (case lPT=>k_is)
    (case lP0=>refine' My.ktr1 ?ya;(case ya=>k_is))
    (case lP1=>refine' My.ktr1 ?ya;(case ya=>k_is))
    (case lP2=>refine' My.ktr2 ?ya;(case ya=>k_is))
    (case lP3=>refine' My.ktr2 ?ya;(case ya=>k_is))
    (case lP4=>refine' My.ktr3 ?ya;(case ya=>k_is))
    (case lP5=>refine' My.ktr3 ?ya;(case ya=>k_is))
    (case lP6=>refine' My.ktr2 ?ya;(case ya=>k_is))
    (case lP7=>refine' My.ktr2 ?ya;(case ya=>k_is))
    (case lP8=>refine' My.ktr5 ?ya;(case ya=>k_is))
    (case lP9=>refine' My.ktr3 ?ya;(case ya=>k_is))
    (case lP10=>refine' My.ktr2 ?ya;(case ya=>k_is))
    (case lP11=>refine' My.ktr3 ?ya;(case ya=>k_is))
    (case lP12=>refine' My.ktr2 ?ya;(case ya=>k_is))
    (case lP13=>refine' My.ktr3 ?ya;(case ya=>k_is))
    (case lP14=>refine' My.ktr3 ?ya;(case ya=>k_is))
    iterate 37 (refine' My.kts ?ya;(case ya=>k_is))
   ·decide
